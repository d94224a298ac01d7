import PyProof.Rows.All
import Wide.All
import OpenK.AllK
import Wide.FinOn
import Lean
import PyProof.EqAt
import PyProof.EqKinds
import PyProof.TupleCall
import PyProof.EnumMake
import PyProof.ZipIter
import PyProof.NeKinds
import PyProof.Rows.SortWalk
import PyProof.AttrMiss
import PyProof.IsiH_list
import KE.KDictOf
import PyProof.Draws
import PyProof.StrCalls
import PyProof.StrCalls2
import PyProof.FString5
import PyProof.DictWalks
import PyProof.MeetsDict
import PyProof.EqAt
import PyProof.Rows.RuleM_int
import KE.KEqDict
import KE.KDictSum
import PyProof.WalkInts
import PyProof.FactsAll.dict_4
import PyProof.StrBlockI
import PyProof.StrBlock2
import PyProof.StrCalls3
import KE.KIntText
import PyProof.ListStr
import PyProof.Rows.StrNews2
import PyProof.SliceStr2
import PyProof.StrLawsFrom
import PyProof.StrLawsIn
import KE.KSortTup
import PySem.Challenge.RW_bitdraws_k14_whole_shares_of_plans
set_option Elab.async false
set_option linter.all false
set_option maxRecDepth 100000
namespace L2
open PySem PySem.Spec PyProof.Rows
noncomputable abbrev Key := Sum Int Str
noncomputable def keyIs : Key → Value → Bool
  | .inl k, v => Value.isInt k v
  | .inr x, v => Value.isStrOf x v
noncomputable def keyH (w : World) : Key → Int
  | .inl k => hashInt k
  | .inr x => hashStr w x
theorem keyIs_shape : ∀ {k : Key} {v : Value}, keyIs k v = true → (∃ i t, k = Sum.inl i ∧ v = Value.int i t) ∨ (∃ x t, k = Sum.inr x ∧ v = Value.str x t)
  | .inl i, v, h => by
    obtain ⟨t, e⟩ := Value.isInt_shape (k := i) (v := v) h
    exact .inl ⟨i, t, rfl, e⟩
  | .inr x, v, h => by
    obtain ⟨t, e⟩ := Value.isStrOf_shape (x := x) (v := v) h
    exact .inr ⟨x, t, rfl, e⟩
theorem keyIs_int (i : Int) (t : Tok) : keyIs (.inl i) (.int i t) = true := by simp [keyIs, Value.isInt]
theorem keyIs_str (x : Str) (t : Tok) : keyIs (.inr x) (.str x t) = true := by simp [keyIs, Value.isStrOf]
theorem key_ll (a b : Int) : decide ((Sum.inl a : Key) = Sum.inl b) = (a == b) := by
  by_cases e : a = b
  · subst e; simp
  · have h : ¬ (Sum.inl a : Key) = Sum.inl b := fun q => e (Sum.inl.inj q)
    rw [decide_eq_false h]
    exact (beq_eq_false_iff_ne.mpr e).symm
theorem key_rr (a b : Str) : decide ((Sum.inr a : Key) = Sum.inr b) = decide (a = b) := by
  by_cases e : a = b
  · subst e; simp
  · have h : ¬ (Sum.inr a : Key) = Sum.inr b := fun q => e (Sum.inr.inj q)
    rw [decide_eq_false h, decide_eq_false e]
theorem key_lr (a : Int) (b : Str) : decide ((Sum.inl a : Key) = Sum.inr b) = false := decide_eq_false (fun q => nomatch q)
theorem key_rl (a : Str) (b : Int) : decide ((Sum.inr a : Key) = Sum.inl b) = false := decide_eq_false (fun q => nomatch q)
noncomputable def mixKind (prog : Program) (w : World) : PySem.KeyKind prog w Key where
  is := keyIs
  hash := keyH w
  inj := fun v a b ha hb => by
    rcases keyIs_shape ha with ⟨i, t, rfl, rfl⟩ | ⟨x, t, rfl, rfl⟩
    · rcases keyIs_shape hb with ⟨j, u, rfl, e⟩ | ⟨y, u, rfl, e⟩
      · injection e with e1 _; rw [e1]
      · exact nomatch e
    · rcases keyIs_shape hb with ⟨j, u, rfl, e⟩ | ⟨y, u, rfl, e⟩
      · exact nomatch e
      · injection e with e1 _; rw [e1]
  byValue := fun k v h => by
    rcases keyIs_shape h with ⟨i, t, rfl, rfl⟩ | ⟨x, t, rfl, rfl⟩ <;> rfl
  pyHash := fun hv h => by
    rcases keyIs_shape hv with ⟨i, t, rfl, rfl⟩ | ⟨x, t, rfl, rfl⟩
    · exact wpAny_pyHash_int h
    · exact wpAny_pyHash_str h
  eqBool := fun hu hv h => by
    rcases keyIs_shape hu with ⟨i, t, rfl, rfl⟩ | ⟨x, t, rfl, rfl⟩
    · rcases keyIs_shape hv with ⟨j, u, rfl, rfl⟩ | ⟨y, u, rfl, rfl⟩
      · rw [key_ll] at h; exact wpAny_eqBool_int h
      · rw [key_lr] at h; exact SeqAt.EqAt.int_str i t y u _ _ _ _ h
    · rcases keyIs_shape hv with ⟨j, u, rfl, rfl⟩ | ⟨y, u, rfl, rfl⟩
      · rw [key_rl] at h; exact SeqAt.EqAt.str_int x t j u _ _ _ _ h
      · rw [key_rr] at h; exact wpAny_eqBool_str h
  «strs» := fun k x t v h => by
    rcases keyIs_shape h with ⟨i, u, rfl, e⟩ | ⟨y, u, rfl, e⟩
    · exact nomatch e
    · injection e with e1 _
      subst e1
      cases v <;> rfl
theorem mixKind_int (prog : Program) (w : World) (i : Int) (t : Tok) : (mixKind prog w).is (.inl i) (.int i t) = true := keyIs_int i t
theorem mixKind_str (prog : Program) (w : World) (x : Str) (t : Tok) : (mixKind prog w).is (.inr x) (.str x t) = true := keyIs_str x t
end L2
namespace L2
open PySem PySem.Spec PyProof.Rows
inductive V where
  | non | bl (b : Bool) | int (i : Int) | str (x : Str) | byt (b : Array UInt8) | flt (b : UInt64) | ref (a : Addr) | ty (n : String)
  deriving DecidableEq
noncomputable def RelV : V → Value → Prop
  | .non, u => u = Value.none
  | .bl b, u => u = Value.bool b
  | .int i, u => ∃ t, u = Value.int i t
  | .str x, u => ∃ t, u = Value.str x t
  | .byt b, u => ∃ t, u = Value.bytes b t
  | .flt b, u => ∃ t, u = Value.float b t
  | .ref a, u => u = Value.ref a
  | .ty n, u => u = Value.type n
noncomputable abbrev Vals : List V → List Value → Prop := Paired RelV
theorem Vals.length {xs : List V} {us : List Value} (r : Vals xs us) : xs.length = us.length := Paired.length r
theorem Vals.get : ∀ {xs : List V} {us : List Value} {i : Nat} {x : V}, Vals xs us → xs[i]? = some x → ∃ u, us[i]? = some u ∧ RelV x u
  | _, _, _, _, .nil, e => by simp at e
  | _, _, 0, _, .cons r _, e => by simp at e; subst e; exact ⟨_, rfl, r⟩
  | _, _, i + 1, x, .cons _ t, e => by
    obtain ⟨u, h1, h2⟩ := Vals.get (i := i) (x := x) t (by simpa using e)
    exact ⟨u, by simpa using h1, h2⟩
theorem Vals.set {x : V} {u : Value} (r : RelV x u) : ∀ {xs : List V} {us : List Value} (i : Nat), Vals xs us → Vals (xs.set i x) (us.set i u)
  | _, _, _, .nil => .nil
  | _, _, 0, .cons _ t => .cons r t
  | _, _, i + 1, .cons q t => .cons q (Vals.set r i t)
theorem Vals.append : ∀ {xs ys : List V} {us ws : List Value}, Vals xs us → Vals ys ws → Vals (xs ++ ys) (us ++ ws)
  | _, _, _, _, .nil, s => s
  | _, _, _, _, .cons r t, s => .cons r (Vals.append t s)
theorem Vals.take : ∀ {xs : List V} {us : List Value} (n : Nat), Vals xs us → Vals (xs.take n) (us.take n)
  | _, _, 0, _ => .nil
  | _, _, _ + 1, .nil => .nil
  | _, _, n + 1, .cons r t => .cons r (Vals.take n t)
theorem Vals.drop : ∀ {xs : List V} {us : List Value} (n : Nat), Vals xs us → Vals (xs.drop n) (us.drop n)
  | _, _, 0, r => r
  | _, _, _ + 1, .nil => .nil
  | _, _, n + 1, .cons _ t => Vals.drop n t
noncomputable def RelO : Option V → Option Value → Prop
  | some v, some u => RelV v u
  | none, none => True
  | _, _ => False
noncomputable def KV {κ : Type} : List (κ × V) → List (κ × Value) → Prop := Paired fun (p : κ × V) (q : κ × Value) => p.1 = q.1 ∧ RelV p.2 q.2
noncomputable def kV : Key → V
  | .inl i => .int i
  | .inr x => .str x
inductive HO where
  /-- a list -/
  | lst (xs : List V)
  /-- a tuple (never changes) -/
  | tup (xs : List V)
  /-- a dict whose keys are ints and texts; one whose keys are tuples of ints and texts (the empty one is both) -/
  | dK (kvs : List (Key × V)) | dT (kvs : List (List Key × V))
  /-- a set of ints: its members, its size -/
  | set (S : Int → Bool) (n : Nat)
  /-- an instance of the class at C, its dict at dx, its attributes -/
  | ins (C dx : Addr) (fs : List (Str × V))
  /-- the dict of the instance at x -/
  | own (x : Addr)
  /-- the dict of an exception -/
  | xd (fs : List (Str × V))
  /-- a bound method, f of x -/
  | met (f x : Addr)
  /-- a range object lo, lo + 1, .. below hi -/
  | rng (lo hi : Int)
  /-- a thing that is known to the object (the script; a dict while a loop walks it): read, never written while it is so -/
  | frz (o : Obj) (u : HO)
  /-- a code object's table -/
  | tbl (ps : Array Value)
  /-- any other thing, by what is true of its one object (a def of one's own: SetO a S n := HO.ext fun h => ..) -/
  | ext (φ : Heap → Prop)
noncomputable abbrev Hp := Addr → Option HO
noncomputable def upd (H : Hp) (a : Addr) (o : HO) : Hp := fun b => if b = a then some o else H b
theorem upd_same {H : Hp} {a : Addr} {o : HO} : upd H a o a = some o := by unfold upd; rw [if_pos rfl]
theorem upd_ne {H : Hp} {a b : Addr} {o : HO} (h : b ≠ a) : upd H a o b = H b := by unfold upd; rw [if_neg h]
theorem upd_upd {H : Hp} {a : Addr} {o u : HO} : upd (upd H a o) a u = upd H a u := by
  funext b; unfold upd; split <;> rfl
theorem ne_of {H : Hp} {a b : Addr} {o u : HO} (h : H a = some o) (h' : H b = some u) (d : o ≠ u) : a ≠ b := by
  intro e; subst e; rw [h] at h'; exact d (Option.some.inj h')
theorem ne_of_none {H : Hp} {a b : Addr} {o : HO} (h : H a = some o) (h' : H b = none) : a ≠ b := by
  intro e; subst e; rw [h] at h'; cases h'
section
variable (P : Program) (w : World)
noncomputable def ObjOk (H : Hp) (h : Heap) (a : Addr) : HO → Prop
  | .lst xs => xs.length ≤ sizeLine ∧ ∃ (its : List Value) (n : Nat), Vals xs its ∧ h.get? a = some { cls := .type "list", data := .seq its.toArray n }
  | .tup xs => xs.length ≤ sizeLine ∧ ∃ its : List Value, Vals xs its ∧ IsTup h a its.toArray ∧ ∃ ob, h.get? a = some ob ∧ ob.dict = none
  | .dK kvs => kvs.length ≤ sizeLine ∧ (a == sysModules) = false ∧ ∃ vs, KV kvs vs ∧ h.DictOf (mixKind P w) a vs
  | .dT kvs => kvs.length ≤ sizeLine ∧ (a == sysModules) = false ∧ ∃ xs : List (List Key × Addr × Value),
      Paired (fun (p : List Key × V) (q : List Key × Addr × Value) => p.1 = q.1 ∧ H q.2.1 = some (.tup (p.1.map kV)) ∧ RelV p.2 q.2.2) kvs xs ∧
      ∃ o es ep, h.get? a = some o ∧ o.ExactDict ∧ o.data = .dict es ep ∧ es.toList = xs.map (entryOfKey (tupleKind (mixKind P w))) ∧ (xs.map (·.1)).Nodup
  | .set S n => h.SetOf (intKind P w) a S n
  | .ins C dx fs => H dx = some (.own a) ∧ fs.length ≤ 1000 ∧ dx ≠ a ∧ h.get? a = some (PySem.W.instObj C dx) ∧
      ∃ mA, h.Ns1 dx mA ∧ (∀ f, RelO (fs.lookup f) (mA f)) ∧ PySem.Within mA (fs.map (·.1))
  | .own _ => ∃ o, h.get? a = some o
  | .xd fs => ∃ mA, h.Ns1 a mA ∧ ∀ f, RelO (fs.lookup f) (mA f)
  | .rng lo hi => ∃ t u v, h.get? a = some { cls := .type "range", data := .fields #[.int lo t, .int hi u, .int 1 v] }
  | .frz o u => h.get? a = some o ∧ ObjOk H h a u
  | .tbl ps => h.get? a = some { cls := .none, data := .fields ps }
  | .met f x => h.get? a = some (PySem.W.methodObj (.ref f) (.ref x))
  | .ext φ => φ h ∧ (∃ o, h.get? a = some o) ∧ ∀ h1 h2 : Heap, φ h1 → (∀ o, h1.get? a = some o → h2.get? a = some o) → φ h2
noncomputable def HOk (H : Hp) (h : Heap) : Prop := ∀ a o, H a = some o → ObjOk P w H h a o
end
section
variable {P : Program} {w : World} {H H' : Hp} {h h' : Heap} {a : Addr} {o : HO}
theorem ObjOk.lt (x : ObjOk P w H h a o) : a < h.objs.size := by
  cases o with
  | lst xs => obtain ⟨_, _, _, _, e⟩ := x; exact Heap.lt_size e
  | tup xs => obtain ⟨_, _, _, p, _⟩ := x; exact p.lt
  | dK kvs => obtain ⟨_, _, _, _, o, _, _, e, _⟩ := x; exact Heap.lt_size e
  | dT kvs => obtain ⟨_, _, _, _, o, _, _, e, _⟩ := x; exact Heap.lt_size e
  | set S n => obtain ⟨o, _, _, _, e, _⟩ := x; exact Heap.lt_size e
  | ins C dx fs => obtain ⟨_, _, _, e, _⟩ := x; exact Heap.lt_size e
  | own y => obtain ⟨_, e⟩ := x; exact Heap.lt_size e
  | xd fs => obtain ⟨_, ⟨_, _, _, e, _⟩, _⟩ := x; exact Heap.lt_size e
  | rng lo hi => obtain ⟨_, _, _, e⟩ := x; exact Heap.lt_size e
  | frz ob u => obtain ⟨e, _⟩ := x; exact Heap.lt_size e
  | tbl ps => exact Heap.lt_size (show h.get? a = some _ from x)
  | met f y => exact Heap.lt_size (show h.get? a = some _ from x)
  | ext φ => obtain ⟨_, ⟨_, e⟩, _⟩ := x; exact Heap.lt_size e
theorem Paired.mapP {α β : Type} {F G : α → β → Prop} : ∀ {l₁ : List α} {l₂ : List β}, Paired F l₁ l₂ → (∀ a b, F a b → G a b) → Paired G l₁ l₂
  | _, _, .nil, _ => .nil
  | _, _, .cons r t, f => .cons (f _ _ r) (Paired.mapP t f)
theorem ObjOk.stay (x : ObjOk P w H h a o) (k : ∀ b u, (b = a ∨ H b = some (.own a)) → h.get? b = some u → h'.get? b = some u)
    (ho : ∀ b, H b = some (.own a) → H' b = some (.own a)) (ht : ∀ b xs, H b = some (.tup xs) → H' b = some (.tup xs)) : ObjOk P w H' h' a o := by
  induction o with
  | lst xs => obtain ⟨z, its, n, r, e⟩ := x; exact ⟨z, its, n, r, k _ _ (.inl rfl) e⟩
  | tup xs => obtain ⟨z, its, r, ⟨ob, e, c⟩, od, ed, dd⟩ := x; exact ⟨z, its, r, ⟨ob, k _ _ (.inl rfl) e, c⟩, od, k _ _ (.inl rfl) ed, dd⟩
  | dK kvs => obtain ⟨z, y, vs, r, ob, es, ep, e, c⟩ := x; exact ⟨z, y, vs, r, ob, es, ep, k _ _ (.inl rfl) e, c⟩
  | dT kvs =>
    obtain ⟨z, y, xs, r, ob, es, ep, e, c⟩ := x
    exact ⟨z, y, xs, Paired.mapP r fun p q z => ⟨z.1, ht _ _ z.2.1, z.2.2⟩, ob, es, ep, k _ _ (.inl rfl) e, c⟩
  | set S n => obtain ⟨ob, es, ep, t, e, c⟩ := x; exact ⟨ob, es, ep, t, k _ _ (.inl rfl) e, c⟩
  | ins C dx fs =>
    obtain ⟨d, z, ne, e, mA, ⟨od, es, ep, e2, c⟩, r⟩ := x
    exact ⟨ho _ d, z, ne, k _ _ (.inl rfl) e, mA, ⟨od, es, ep, k _ _ (.inr d) e2, c⟩, r⟩
  | own y => obtain ⟨ob, e⟩ := x; exact ⟨ob, k _ _ (.inl rfl) e⟩
  | xd fs => obtain ⟨mA, ⟨od, es, ep, e, c⟩, r⟩ := x; exact ⟨mA, ⟨od, es, ep, k _ _ (.inl rfl) e, c⟩, r⟩
  | rng lo hi => obtain ⟨t, u, v, e⟩ := x; exact ⟨t, u, v, k _ _ (.inl rfl) e⟩
  | frz ob u ih => obtain ⟨e, q⟩ := x; exact ⟨k _ _ (.inl rfl) e, ih q⟩
  | tbl ps =>
    have e : h.get? a = some { cls := .none, data := .fields ps } := x
    show h'.get? a = some { cls := .none, data := .fields ps }
    exact k a _ (.inl rfl) e
  | met f y =>
    have e : h.get? a = some (PySem.W.methodObj (.ref f) (.ref y)) := x
    show h'.get? a = some (PySem.W.methodObj (.ref f) (.ref y))
    exact k a _ (.inl rfl) e
  | ext φ => obtain ⟨p, ⟨o, e⟩, st⟩ := x; exact ⟨st _ _ p fun o q => k _ _ (.inl rfl) q, ⟨o, k _ _ (.inl rfl) e⟩, st⟩
theorem HOk.lt (x : HOk P w H h) (e : H a = some o) : a < h.objs.size := (x a o e).lt
theorem HOk.fresh (x : HOk P w H h) (e : h.objs.size ≤ a) : H a = none := by
  cases q : H a with
  | none => rfl
  | some u => exact absurd (Nat.lt_of_lt_of_le (x.lt q) e) (Nat.lt_irrefl _)
theorem HOk.kept (x : HOk P w H h) (k : ∀ b u, h.get? b = some u → h'.get? b = some u) : HOk P w H h' := fun a o e =>
  (x a o e).stay (fun b u _ q => k b u q) (fun _ q => q) fun _ _ q => q
theorem HOk.laid (x : HOk P w H h) (k : ∀ b u, h.get? b = some u → h'.get? b = some u) (hp : h.objs.size ≤ a) (new : ObjOk P w (upd H a o) h' a o) : HOk P w (upd H a o) h' := fun b u e => by
  have hn := x.fresh hp
  by_cases hb : b = a
  · subst hb; rw [upd_same] at e; cases e; exact new
  · rw [upd_ne hb] at e
    exact (x b u e).stay (fun c v _ q => k c v q) (fun c q => by rw [upd_ne (ne_of_none q hn)]; exact q) fun c xs q => by rw [upd_ne (ne_of_none q hn)]; exact q
end
noncomputable def Rd (H : Hp) (a : Addr) (u : HO) : Prop := H a = some u ∨ ∃ o, H a = some (.frz o u)
theorem Rd.of {H : Hp} {a : Addr} {u : HO} (h : H a = some u) : Rd H a u := .inl h
theorem Rd.ok {P : Program} {w : World} {H : Hp} {h : Heap} {a : Addr} {u : HO} (r : Rd H a u) (x : HOk P w H h) : ObjOk P w H h a u := by
  rcases r with r | ⟨o, r⟩
  · exact x a u r
  · obtain ⟨_, q⟩ := x a _ r
    exact q
noncomputable def Mut : Option HO → Prop
  | some (.lst _) => True
  | some (.dK _) => True
  | some (.dT _) => True
  | some (.set _ _) => True
  | some (.ins _ _ _) => True
  | some (.ext _) => True
  | _ => False
section
variable {P : Program} {w : World} {H : Hp} {h h' : Heap} {x e : Addr} {o' : HO}
theorem HOk.write (ok : HOk P w H h) (mu : Mut (H x)) (he : e = x ∨ H e = some (.own x)) (k : ∀ b u, b ≠ e → h.get? b = some u → h'.get? b = some u) (heo : ∃ u, h'.get? e = some u)
    (new : ObjOk P w (upd H x o') h' x o') : HOk P w (upd H x o') h' := fun b u q => by
  have nown : ∀ c y, H c = some (.own y) → c ≠ x := fun c y r z => by subst z; rw [r] at mu; exact mu
  have ntup : ∀ c xs, H c = some (.tup xs) → c ≠ x := fun c xs r z => by subst z; rw [r] at mu; exact mu
  by_cases hb : b = x
  · subst hb; rw [upd_same] at q; cases q; exact new
  · rw [upd_ne hb] at q
    by_cases hbe : b = e
    · have q' : H b = some (.own x) := by
        rcases he with z | z
        · exact absurd (hbe.trans z) hb
        · rw [hbe]; exact z
      rw [q] at q'; cases q'
      obtain ⟨v, hv⟩ := heo
      exact ⟨v, by rw [hbe]; exact hv⟩
    · refine (ok b u q).stay (fun c v hc r => k c v ?_ r) (fun c r => by rw [upd_ne (nown c b r)]; exact r) fun c xs r => by rw [upd_ne (ntup c xs r)]; exact r
      rcases hc with rfl | hc
      · exact hbe
      · rintro rfl
        rcases he with z | z
        · exact nown c b hc z
        · rw [hc] at z; cases z; exact hb rfl
end
structure Un (fs ex : List Addr) (H H' : Hp) (h h' : Heap) : Prop where
  keep : ∀ b o, h.get? b = some o → H b = none → b ∉ fs → b ∉ ex → h'.get? b = some o
  slot : ∀ b o, h.get? b = some o → H b = none → b ∈ fs → b ∉ ex → ∃ sl, h'.get? b = some { o with slots := sl }
  free : ∀ b o, h.get? b = some o → H b = none → b ∉ ex → H' b = none
  there : ∀ b o, h.get? b = some o → b ∉ ex → ∃ o', h'.get? b = some o'
  tups : ∀ b xs, H b = some (.tup xs) → H' b = some (.tup xs)
  frzs : ∀ b o u, H b = some (.frz o u) → H' b = some (.frz o u)
  tbls : ∀ b ps, H b = some (.tbl ps) → ∃ more, H' b = some (.tbl (ps ++ more))
section
variable {fs fs' ex ex' : List Addr} {H H1 H2 : Hp} {h h1 h2 h' : Heap} {a x e : Addr} {o : HO}
theorem Un.any (u : Un fs ex H H1 h h1) {b : Addr} {ob : Obj} (q : h.get? b = some ob) (n : H b = none) (hx : b ∉ ex) : ∃ sl, h1.get? b = some { ob with slots := sl } := by
  by_cases hb : b ∈ fs
  · exact u.slot b ob q n hb hx
  · exact ⟨ob.slots, u.keep b ob q n hb hx⟩
theorem Un.trans (a : Un fs ex H H1 h h1) (b : Un fs ex H1 H2 h1 h2) : Un fs ex H H2 h h2 where
  keep := fun c ob q n hc hx => b.keep c ob (a.keep c ob q n hc hx) (a.free c ob q n hx) hc hx
  slot := fun c ob q n hc hx => by
    obtain ⟨sl, e1⟩ := a.slot c ob q n hc hx
    obtain ⟨sl', e2⟩ := b.slot c _ e1 (a.free c ob q n hx) hc hx
    exact ⟨sl', e2⟩
  free := fun c ob q n hx => by
    obtain ⟨o', e1⟩ := a.there c ob q hx
    exact b.free c o' e1 (a.free c ob q n hx) hx
  there := fun c ob q hx => by
    obtain ⟨o', e1⟩ := a.there c ob q hx
    exact b.there c o' e1 hx
  tups := fun c xs q => b.tups c xs (a.tups c xs q)
  frzs := fun c ob xs q => b.frzs c ob xs (a.frzs c ob xs q)
  tbls := fun c ps q => by
    obtain ⟨m1, e1⟩ := a.tbls c ps q
    obtain ⟨m2, e2⟩ := b.tbls c _ e1
    exact ⟨m1 ++ m2, by rw [e2, Array.append_assoc]⟩
theorem Un.kept (k : ∀ b u, h.get? b = some u → h'.get? b = some u) : Un fs ex H H h h' :=
  ⟨fun b ob q _ _ _ => k b ob q, fun b ob q _ _ _ => ⟨ob.slots, k b ob q⟩, fun _ _ _ n _ => n, fun b ob q _ => ⟨ob, k b ob q⟩, fun _ _ q => q, fun _ _ _ q => q, fun _ ps q => ⟨#[], by rw [q]; simp⟩⟩
theorem Un.refl : Un fs ex H H h h := Un.kept fun _ _ q => q
theorem Un.laid (k : ∀ b u, h.get? b = some u → h'.get? b = some u) (hp : h.objs.size ≤ a) (hn : H a = none) : Un fs ex H (upd H a o) h h' where
  keep := fun b u q _ _ _ => k b u q
  slot := fun b u q _ _ _ => ⟨u.slots, k b u q⟩
  free := fun b u q n _ => by rw [upd_ne (Nat.ne_of_lt (Nat.lt_of_lt_of_le (Heap.lt_size q) hp))]; exact n
  there := fun b u q _ => ⟨u, k b u q⟩
  tups := fun b xs q => by rw [upd_ne (ne_of_none q hn)]; exact q
  frzs := fun b u xs q => by rw [upd_ne (ne_of_none q hn)]; exact q
  tbls := fun b ps q => ⟨#[], by rw [upd_ne (ne_of_none q hn), q]; simp⟩
theorem Un.write (mu : Mut (H x)) (he : e = x ∨ H e = some (.own x)) (k : ∀ b u, b ≠ e → h.get? b = some u → h'.get? b = some u) (heo : ∃ u, h'.get? e = some u) : Un fs ex H (upd H x o) h h' := by
  have hx : ∀ b, H b = none → b ≠ x := fun b n z => by subst z; rw [n] at mu; exact mu
  have hb : ∀ b, H b = none → b ≠ e := fun b n z => by
    subst z
    rcases he with r | r
    · exact hx b n r
    · rw [n] at r; cases r
  have hm : ∀ b u, H b = some u → ¬ Mut (some u) → b ≠ x := fun b u q nm z => by subst z; rw [q] at mu; exact nm mu
  refine ⟨fun b u q n _ _ => k b u (hb b n) q, fun b u q n _ _ => ⟨u.slots, k b u (hb b n) q⟩, fun b u q n _ => by rw [upd_ne (hx b n)]; exact n, fun b u q _ => ?_,
    fun b xs q => by rw [upd_ne (hm b _ q fun z => z)]; exact q, fun b u xs q => by rw [upd_ne (hm b _ q fun z => z)]; exact q, fun b ps q => ⟨#[], by rw [upd_ne (hm b _ q fun z => z), q]; simp⟩⟩
  by_cases hbe : b = e
  · subst hbe; exact heo
  · exact ⟨u, k b u hbe q⟩
theorem Un.mono (u : Un fs ex H H1 h h1) (hs : ∀ b ∈ fs, b ∈ fs') (hx : ∀ b ∈ ex, b ∈ ex') : Un fs' ex' H H1 h h1 :=
  ⟨fun b ob q n hb he => u.keep b ob q n (fun z => hb (hs b z)) fun z => he (hx b z), fun _ _ q n _ he => u.any q n fun z => he (hx _ z), fun b ob q n he => u.free b ob q n fun z => he (hx b z), fun b ob q he => u.there b ob q fun z => he (hx b z), u.tups, u.frzs, u.tbls⟩
end
noncomputable def trk (h : Heap) (H : Hp) : List Addr := (List.range h.objs.size).filter fun a => (H a).isSome
noncomputable def hidT (h : Heap) (H : Hp) : Heap := PySem.W.hideAll h (trk h H)
theorem hidT_size (h : Heap) (H : Hp) : (hidT h H).objs.size = h.objs.size := PySem.W.hideAll_size _ _
theorem hidT_get {h : Heap} {H : Hp} {b : Addr} {o : Obj} (e : h.get? b = some o) (n : H b = none) : (hidT h H).get? b = some o :=
  PySem.W.hideAll_get _ e fun hm => by
    have q : (H b).isSome = true := (List.mem_filter.mp hm).2
    rw [n] at q; simp at q
theorem of_hidT {h : Heap} {H : Hp} {b : Addr} {o : Obj} (e : (hidT h H).get? b = some o) : h.get? b = some o ∧ H b = none := by
  have e' : h.get? b = some o := PySem.W.of_hideAll (trk h H) e
  refine ⟨e', ?_⟩
  cases q : H b with
  | none => rfl
  | some x =>
    have hm : b ∈ trk h H := List.mem_filter.mpr ⟨List.mem_range.mpr (Heap.lt_size e'), by simp [q]⟩
    have z : (hidT h H).get? b = none := PySem.W.hideAll_none (trk h H) hm
    rw [z] at e; cases e
noncomputable def allNews (g h : Heap) (L : Addr) : List (Addr × Obj) := (List.range h.objs.size).filterMap fun a => if a = L ∨ (g.get? a).isSome = true then none else (h.get? a).map fun o => (a, o)
noncomputable def rest (g h : Heap) (L d : Addr) : List (Addr × Obj) := (allNews g h L).filter fun p => decide (p.1 ≠ d)
end L2
namespace L2
open PySem PySem.Spec PyProof.Rows
structure Mod (K : PySem.W.Frag) (mg : Str → Option Value) (base : Heap) : Prop where
  kin : K.In base
  glob : base.Ns mainGlobals mg
  blt : ∃ mb, base.Ns builtinsNs mb ∧ ∀ x : Str, x ≠ "__name__" → mb x = bootBuiltins x
  nolimit : base.NoLimit
structure Cx where
  prog : Program
  w : World
  K : PySem.W.Frag
  mg : Str → Option Value
  base : Heap
  A : Around
  N : List Str
  s₀ : Shared
  H₀ : Hp
  env : Env
  outer : List Env
  stack : List Env
  ex : List Addr
  fn : Str → Bool
  calm : Bool
  pn : List (Addr × Obj)
  xe : Value → Shared → Prop
noncomputable def frs (l : List Env) : List Addr := l.filterMap (·.frame)
noncomputable abbrev Cx.fs (X : Cx) : List Addr := frs X.outer
noncomputable def Vis (sc : Scope) (x : Str) : Prop := sc.names.lookup x = some .local ∨ sc.names.lookup x = some .cell ∨ sc.names.lookup x = some .free
noncomputable def Loc (sc : Scope) (x : Str) : Prop := sc.names.lookup x = some .local ∨ sc.names.lookup x = some .cell
noncomputable def Look (env : Env) (h : Heap) (m : Str → Option Value) (x : Str) (u : Value) : Prop :=
  (env.kindOf x = some .local ∧ m x = some u) ∨ ((env.kindOf x = some .cell ∨ env.kindOf x = some .free) ∧ ∃ c, env.cells.lookup x = some c ∧ h.IsCell c (some u))
structure Cx.Ok (X : Cx) : Prop where
  mod : Mod X.K X.mg X.base
  kind : X.env.scope.kind = .function
  glob : X.env.globals = mainGlobals
  blt : X.env.builtins = builtinsNs
  above : X.s₀.heap.objs.size ≤ X.env.locals
  inj : ∀ x y c, X.env.cells.lookup x = some c → X.env.cells.lookup y = some c → x = y
  has : ∀ x, (X.env.kindOf x = some .cell ∨ X.env.kindOf x = some .free) → ∃ c, X.env.cells.lookup x = some c
  cab : ∀ x c, X.fn x = true → X.env.cells.lookup x = some c → X.s₀.heap.objs.size ≤ c
  hd : X.calm = true → X.A.handled = none
  frames : X.A.frames = some X.stack
  stk : X.stack = X.outer ∨ (X.stack = X.env :: X.outer ∧ X.env.frame = some X.env.locals)
  exf : ∀ b ∈ X.ex, b ≠ X.env.locals ∧ ∀ x c, X.env.cells.lookup x = some c → c ≠ b
  bs : ∀ b o, X.base.get? b = some o → X.s₀.heap.get? b = some o ∧ X.H₀ b = none
  bsz : X.base.objs.size ≤ X.s₀.heap.objs.size
  noex : ∀ b o, X.base.get? b = some o → b ∉ X.ex
  exfs : ∀ b ∈ X.ex, b ∉ X.fs
  funs : X.s₀.heap.FunFrames X.base X.outer
  frf : ∀ b ∈ X.fs, X.H₀ b = none
structure Inv (X : Cx) (pins : List (Addr × Obj)) (σ : List (Option V)) (H : Hp) (s : Shared) : Prop where
  ok : X.Ok
  os : s.os = X.s₀.os
  bare : AllBare s.gens
  base : Un X.fs X.ex X.H₀ H X.s₀.heap s.heap
  loc : ∃ m, s.heap.Ns X.env.locals m ∧ ∀ (i : Nat) (x : Str) (v : V), X.N[i]? = some x → σ[i]? = some (some v) → Vis X.env.scope x → ∃ u, RelV v u ∧ Look X.env s.heap m x u
  cell : ∀ x c, X.env.cells.lookup x = some c → ∃ v, s.heap.IsCell c v
  free : H X.env.locals = none
  freeC : ∀ x c, X.env.cells.lookup x = some c → H c = none
  pin : ∀ p ∈ X.pn ++ pins, s.heap.get? p.1 = some p.2 ∧ H p.1 = none ∧ p.1 ≠ X.env.locals ∧ p.1 ∉ X.fs ∧ ∀ v, p.2.data ≠ .cell v
  hok : HOk X.prog X.w H s.heap
  len : σ.length = X.N.length
section
variable {X : Cx} {pins : List (Addr × Obj)} {σ : List (Option V)} {H H' : Hp} {s : Shared} {h' : Heap}
theorem Cx.Ok.nofr (ok : X.Ok) {b : Addr} {o : Obj} (e : X.base.get? b = some o) : b ∉ X.fs := fun hb => by
  have := (ok.funs.mem hb).1
  rw [e] at this; cases this
theorem Inv.bs (I : Inv X pins σ H s) : ∀ b o, X.base.get? b = some o → s.heap.get? b = some o ∧ H b = none := fun b o e =>
  ⟨I.base.keep b o (I.ok.bs b o e).1 (I.ok.bs b o e).2 (I.ok.nofr e) (I.ok.noex b o e), I.base.free b o (I.ok.bs b o e).1 (I.ok.bs b o e).2 (I.ok.noex b o e)⟩
theorem Inv.bk (I : Inv X pins σ H s) : ∀ b o, X.base.get? b = some o → s.heap.get? b = some o := fun b o e => (I.bs b o e).1
theorem Inv.mod (I : Inv X pins σ H s) : Mod X.K X.mg X.base := I.ok.mod
theorem Inv.kIn (I : Inv X pins σ H s) : X.K.In s.heap := I.ok.mod.kin.keeps I.bk
theorem Inv.nolimit (I : Inv X pins σ H s) : s.heap.NoLimit := I.ok.mod.nolimit.keeps I.bk
theorem Inv.lt (I : Inv X pins σ H s) : X.env.locals < s.heap.objs.size := let ⟨_, hn, _⟩ := I.loc; hn.lt
theorem Inv.sz (I : Inv X pins σ H s) : X.s₀.heap.objs.size ≤ s.heap.objs.size := Nat.le_trans I.ok.above (Nat.le_of_lt I.lt)
theorem Inv.nofs (I : Inv X pins σ H s) {a : Addr} (h : s.heap.objs.size ≤ a) : a ∉ X.fs := fun hb => by
  obtain ⟨_, o, ho, _⟩ := I.ok.funs.mem hb
  exact absurd (Nat.lt_of_lt_of_le (Heap.lt_size ho) (Nat.le_trans I.sz h)) (Nat.lt_irrefl _)
theorem Inv.cne (I : Inv X pins σ H s) : ∀ x c, X.env.cells.lookup x = some c → c ≠ X.env.locals := fun x c e z => by
  obtain ⟨v, o, ho, hd⟩ := I.cell x c e
  obtain ⟨m, ⟨o', es, ep, ho', hd', _⟩, _⟩ := I.loc
  rw [z, ho'] at ho; cases ho; rw [hd'] at hd; cases hd
theorem Inv.funs (I : Inv X pins σ H s) : s.heap.FunFrames X.base X.outer := by
  have all : ∀ (l : List Env), (∀ b ∈ frs l, b ∈ X.fs) → X.s₀.heap.FunFrames X.base l → s.heap.FunFrames X.base l := by
    intro l
    induction l with
    | nil => intro _ _; trivial
    | cons env r ih =>
      intro hs hl
      obtain ⟨hk, ⟨L, o, hf, hn, ho, hd⟩, hr⟩ := hl
      have hL : L ∈ X.fs := hs L (by unfold frs; rw [List.filterMap_cons, hf]; exact List.mem_cons_self)
      obtain ⟨sl, e⟩ := I.base.slot L o ho (I.ok.frf L hL) hL fun z => I.ok.exfs L z hL
      exact ⟨hk, ⟨L, _, hf, hn, e, hd⟩, ih (fun b hb => hs b (by unfold frs; rw [List.filterMap_cons, hf]; exact List.mem_cons_of_mem _ hb)) hr⟩
  exact all X.outer (fun _ hb => hb) I.ok.funs
theorem Inv.stack (I : Inv X pins σ H s) : s.heap.FunFrames X.base X.stack := by
  rcases I.ok.stk with e | ⟨e, hf⟩
  · rw [e]; exact I.funs
  · rw [e]
    obtain ⟨m, hn, _⟩ := I.loc
    refine .cons (by rw [I.ok.kind]; decide) hf hn ?_ I.funs
    exact Heap.get?_none_of_le (Nat.le_trans I.ok.bsz I.ok.above)
theorem Inv.stkSub (I : Inv X pins σ H s) : ∀ b ∈ frs X.stack, b ∈ X.env.locals :: X.fs := fun b hb => by
  rcases I.ok.stk with e | ⟨e, hf⟩
  · rw [e] at hb; exact List.mem_cons_of_mem _ hb
  · rw [e] at hb
    unfold frs at hb
    rw [List.filterMap_cons, hf] at hb
    exact hb
theorem Inv.stkFree (I : Inv X pins σ H s) : ∀ b ∈ frs X.stack, H b = none := fun b hb => by
  rcases List.mem_cons.mp (I.stkSub b hb) with e | hb
  · rw [e]; exact I.free
  · obtain ⟨_, o, ho, _⟩ := I.ok.funs.mem hb
    exact I.base.free b o ho (I.ok.frf b hb) fun z => I.ok.exfs b z hb
theorem Inv.step {g' : Array GenState} {t' : Nat} {d' : Drawn} {ch : List Addr} (I : Inv X pins σ H s)
    (hch : ∀ b ∈ ch, (b ∈ X.ex ∨ X.s₀.heap.objs.size ≤ b) ∧ b ≠ X.env.locals ∧ (∀ x c, X.env.cells.lookup x = some c → c ≠ b) ∧ ∀ p ∈ X.pn ++ pins, p.1 ≠ b)
    (keep : ∀ b o, b ≠ X.env.locals → b ∉ X.fs → b ∉ ch → s.heap.get? b = some o → H b = none → h'.get? b = some o)
    (slot : ∀ b o, b ≠ X.env.locals → b ∈ X.fs → b ∉ ch → s.heap.get? b = some o → H b = none → ∃ sl, h'.get? b = some { o with slots := sl }) (free : ∀ b o, b ∉ ch → s.heap.get? b = some o → H b = none → H' b = none)
    (there : ∀ b o, b ∉ ch → s.heap.get? b = some o → ∃ o', h'.get? b = some o')
    (tups : ∀ b xs, H b = some (.tup xs) → H' b = some (.tup xs)) (frzs : ∀ b o u, H b = some (.frz o u) → H' b = some (.frz o u)) (tbls : ∀ b ps, H b = some (.tbl ps) → ∃ more, H' b = some (.tbl (ps ++ more)))
    (ns : ∀ m, s.heap.Ns X.env.locals m → h'.Ns X.env.locals m) (hok : HOk X.prog X.w H' h') (hg : AllBare g') :
    Inv X pins σ H' { s with heap := h', gens := g', drawn := d', toks := t' } := by
  have neL : ∀ b o, X.s₀.heap.get? b = some o → b ≠ X.env.locals := fun b o e => Nat.ne_of_lt (Nat.lt_of_lt_of_le (Heap.lt_size e) I.ok.above)
  have neC : ∀ b o, X.s₀.heap.get? b = some o → b ∉ X.ex → b ∉ ch := fun b o e hx hb => by
    rcases (hch b hb).1 with z | z
    · exact hx z
    · exact absurd (Nat.lt_of_lt_of_le (Heap.lt_size e) z) (Nat.lt_irrefl _)
  have cellK : ∀ x c, X.env.cells.lookup x = some c → ∀ v, s.heap.IsCell c v → h'.IsCell c v := fun x c e v ⟨o, ho, hd⟩ => by
    have nch : c ∉ ch := fun z => (hch c z).2.2.1 x c e rfl
    by_cases hc : c ∈ X.fs
    · obtain ⟨sl, q⟩ := slot c o (I.cne x c e) hc nch ho (I.freeC x c e)
      exact ⟨_, q, hd⟩
    · exact ⟨o, keep c o (I.cne x c e) hc nch ho (I.freeC x c e), hd⟩
  refine ⟨I.ok, I.os, hg, ⟨fun b o e n hb hx => ?_, fun b o e n hb hx => ?_, fun b o e n hx => ?_, fun b o e hx => ?_, fun b xs e => tups b xs (I.base.tups b xs e), fun b o xs e => frzs b o xs (I.base.frzs b o xs e), fun b ps e => ?_⟩, ?_, fun x c e => ?_, ?_, fun x c e => ?_, fun p hp => ?_, hok, I.len⟩
  · exact keep b o (neL b o e) hb (neC b o e hx) (I.base.keep b o e n hb hx) (I.base.free b o e n hx)
  · obtain ⟨sl, e1⟩ := I.base.slot b o e n hb hx
    obtain ⟨sl', e2⟩ := slot b _ (neL b o e) hb (neC b o e hx) e1 (I.base.free b o e n hx)
    exact ⟨sl', e2⟩
  · obtain ⟨o', e1⟩ := I.base.there b o e hx
    exact free b o' (neC b o e hx) e1 (I.base.free b o e n hx)
  · obtain ⟨o', e1⟩ := I.base.there b o e hx
    exact there b o' (neC b o e hx) e1
  · obtain ⟨m1, e1⟩ := I.base.tbls b ps e
    obtain ⟨m2, e2⟩ := tbls b _ e1
    exact ⟨m1 ++ m2, by rw [e2, Array.append_assoc]⟩
  · obtain ⟨m, hn, hl⟩ := I.loc
    refine ⟨m, ns m hn, fun i x v e1 e2 e3 => ?_⟩
    obtain ⟨u, r, l⟩ := hl i x v e1 e2 e3
    refine ⟨u, r, ?_⟩
    rcases l with l | ⟨k, c, e, z⟩
    · exact .inl l
    · exact .inr ⟨k, c, e, cellK x c e _ z⟩
  · obtain ⟨v, z⟩ := I.cell x c e
    exact ⟨v, cellK x c e v z⟩
  · obtain ⟨m, ⟨o, _, _, ho, _⟩, _⟩ := I.loc
    exact free _ o (fun z => (hch _ z).2.1 rfl) ho I.free
  · obtain ⟨v, o, ho, hd⟩ := I.cell x c e
    exact free c o (fun z => (hch c z).2.2.1 x c e rfl) ho (I.freeC x c e)
  · obtain ⟨e, n, ne, nf, d⟩ := I.pin p hp
    have nch : p.1 ∉ ch := fun z => (hch p.1 z).2.2.2 p hp rfl
    exact ⟨keep p.1 p.2 ne nf nch e n, free p.1 p.2 nch e n, ne, nf, d⟩
theorem Inv.un {t' : Nat} (I : Inv X pins σ H s) (u : Un X.fs [] H H' s.heap h') (hok : HOk X.prog X.w H' h') : Inv X pins σ H' { s with heap := h', toks := t' } := by
  obtain ⟨m, ⟨o, es, ep, ho, r⟩, _⟩ := id I.loc
  obtain ⟨sl, hL⟩ := u.any ho I.free (by simp)
  exact I.step (g' := s.gens) (d' := s.drawn) (ch := []) (fun _ z => nomatch z) (fun b o _ hb _ e n => u.keep b o e n hb (by simp)) (fun b o _ hb _ e n => u.slot b o e n hb (by simp)) (fun b o _ e n => u.free b o e n (by simp)) (fun b o _ e => u.there b o e (by simp)) u.tups u.frzs u.tbls (fun m' hm => by
    obtain ⟨o', es', ep', ho', r'⟩ := hm
    rw [ho] at ho'; cases ho'
    exact ⟨_, es', ep', hL, r'⟩) hok I.bare
theorem Inv.call {g' : Array GenState} {t' : Nat} {d' : Drawn} {ch : List Addr} (I : Inv X pins σ H s) (u : Un (frs X.stack) ch H H' s.heap h') (hok : HOk X.prog X.w H' h') (hg : AllBare g')
    (hch : ∀ b ∈ ch, (b ∈ X.ex ∨ X.s₀.heap.objs.size ≤ b) ∧ b ≠ X.env.locals ∧ (∀ x c, X.env.cells.lookup x = some c → c ≠ b) ∧ ∀ p ∈ X.pn ++ pins, p.1 ≠ b) :
    Inv X pins σ H' { s with heap := h', gens := g', drawn := d', toks := t' } := by
  obtain ⟨m, ⟨o, es, ep, ho, r⟩, _⟩ := id I.loc
  obtain ⟨sl, hL⟩ := u.any ho I.free fun z => (hch _ z).2.1 rfl
  exact I.step (ch := ch) hch (fun b o hL hb hc e n => u.keep b o e n (fun z => (List.mem_cons.mp (I.stkSub b z)).elim hL hb) hc) (fun b o _ _ hc e n => u.any e n hc) (fun b o hc e n => u.free b o e n hc) (fun b o hc e => u.there b o e hc) u.tups u.frzs u.tbls (fun m' hm => by
    obtain ⟨o', es', ep', ho', r'⟩ := hm
    rw [ho] at ho'; cases ho'
    exact ⟨_, es', ep', hL, r'⟩) hok hg
theorem Inv.turned {t' : Nat} {it : Addr} (I : Inv X pins σ H s) (k : ∀ b o, b ≠ it → s.heap.get? b = some o → h'.get? b = some o) (hn : H it = none) (hL : it ≠ X.env.locals)
    (h1 : it ∈ X.ex ∨ X.s₀.heap.objs.size ≤ it) (h2 : ∀ x c, X.env.cells.lookup x = some c → c ≠ it) (h3 : ∀ p ∈ X.pn ++ pins, p.1 ≠ it) : Inv X pins σ H { s with heap := h', toks := t' } := by
  have nit : ∀ b u, H b = some u → b ≠ it := fun b u e z => by rw [z, hn] at e; cases e
  refine I.step (g' := s.gens) (d' := s.drawn) (ch := [it]) (fun b hb => ?_) (fun b o _ _ hc e _ => k b o (fun z => hc (by simp [z])) e) (fun b o _ _ hc e _ => ⟨o.slots, k b o (fun z => hc (by simp [z])) e⟩) (fun _ _ _ _ n => n)
    (fun b o hc e => ⟨o, k b o (fun z => hc (by simp [z])) e⟩) (fun _ _ e => e) (fun _ _ _ e => e) (fun b ps e => ⟨#[], by rw [e]; simp⟩) (fun m hm => ?_) (fun b u e => ?_) I.bare
  · have e : b = it := by simpa using hb
    subst e
    exact ⟨h1, hL, h2, h3⟩
  · obtain ⟨o, es, ep, ho, r⟩ := hm
    exact ⟨o, es, ep, k _ o (Ne.symm hL) ho, r⟩
  · refine (I.hok b u e).stay (fun c v hc q => k c v ?_ q) (fun _ q => q) fun _ _ q => q
    rcases hc with z | z
    · rw [z]; exact nit b u e
    · exact nit c _ z
theorem Inv.tok (I : Inv X pins σ H s) (t : Nat) : Inv X pins σ H { s with toks := t } := I.un (h' := s.heap) (t' := t) Un.refl I.hok
theorem Inv.kept {t' : Nat} (I : Inv X pins σ H s) (k : ∀ b u, s.heap.get? b = some u → h'.get? b = some u) : Inv X pins σ H { s with heap := h', toks := t' } := I.un (Un.kept k) (I.hok.kept k)
theorem Inv.laid {a : Addr} {o : HO} {t' : Nat} (I : Inv X pins σ H s) (k : ∀ b u, s.heap.get? b = some u → h'.get? b = some u) (hp : s.heap.objs.size ≤ a) (new : ObjOk X.prog X.w (upd H a o) h' a o) :
    Inv X pins σ (upd H a o) { s with heap := h', toks := t' } := I.un (Un.laid k hp (I.hok.fresh hp)) (I.hok.laid k hp new)
theorem Inv.write {x e : Addr} {o : HO} {t' : Nat} (I : Inv X pins σ H s) (mu : Mut (H x)) (he : e = x ∨ H e = some (.own x)) (k : ∀ b u, b ≠ e → s.heap.get? b = some u → h'.get? b = some u) (heo : ∃ u, h'.get? e = some u)
    (new : ObjOk X.prog X.w (upd H x o) h' x o) : Inv X pins σ (upd H x o) { s with heap := h', toks := t' } := I.un (Un.write mu he k heo) (I.hok.write mu he k heo new)
theorem Inv.pins_of {pins' : List (Addr × Obj)} (I : Inv X pins σ H s) (h : ∀ p ∈ pins', s.heap.get? p.1 = some p.2 ∧ H p.1 = none ∧ p.1 ≠ X.env.locals ∧ p.1 ∉ X.fs ∧ ∀ v, p.2.data ≠ .cell v) : Inv X pins' σ H s :=
  ⟨I.ok, I.os, I.bare, I.base, I.loc, I.cell, I.free, I.freeC, fun p hp => (List.mem_append.mp hp).elim (fun z => I.pin p (List.mem_append_left _ z)) (h p), I.hok, I.len⟩
theorem nodup_ix {N : List Str} (hN : N.Nodup) {i j : Nat} {x : Str} (a : N[i]? = some x) (b : N[j]? = some x) : i = j := by
  obtain ⟨h1, e1⟩ := List.getElem?_eq_some_iff.mp a
  obtain ⟨h2, e2⟩ := List.getElem?_eq_some_iff.mp b
  exact (List.getElem_inj hN).mp (e1.trans e2.symm)
theorem store_ok2 {M : Model} {A : Around} {E : Value → Shared → Prop} {i : Nat} {x : Str} {v : V} {u : Value} {Q : Unit → Shared → Prop} (I : Inv X pins σ H s) (hN : X.N.Nodup) (hi : X.N[i]? = some x) (hx : Loc X.env.scope x) (r : RelV v u)
    (h : ∀ s', Inv X pins (σ.set i (some v)) H s' → (∃ a, Heap.SameBut a s.heap s'.heap ∧ (a = X.env.locals ∨ X.env.cells.lookup x = some a)) → Q () s') (hf : X.fn x = true ∨ X.env.scope.names.lookup x = some .local := by first | exact .inl rfl | exact .inr rfl | assumption) : wpAny M A (storeName X.env x u) Q E s := by
  obtain ⟨m, hn, hl⟩ := id I.loc
  have hcls : (X.env.scope.kind == .class || (X.env.scope.kind == .module && X.env.locals != X.env.globals)) = false := by rw [I.ok.kind]; rfl
  have hiσ : i < σ.length := by rw [I.len]; exact (List.getElem?_eq_some_iff.mp hi).1
  have cne := I.cne
  have tracked : ∀ {a : Addr} {h' : Heap}, (∃ o, s.heap.get? a = some o ∧ H a = none) → Heap.SameBut a s.heap h' → HOk X.prog X.w H h' := fun {a h'} ha hs b ob e => by
    obtain ⟨_, _, hfree⟩ := ha
    refine (I.hok b ob e).stay (fun c w' hc q => (hs.2 c ?_).trans q) (fun _ q => q) fun _ _ q => q
    rintro rfl
    rcases hc with rfl | hc
    · rw [hfree] at e; cases e
    · rw [hfree] at hc; cases hc
  rcases hx with hk | hk
  · refine wpAny_storeName_local hk hn (fun h' hn' hs => ?_) hcls
    obtain ⟨oL, _, _, hoL, _⟩ := id hn
    refine h _ ⟨I.ok, I.os, I.bare, ⟨fun b o e n hb hx => ?_, fun b o e n hb hx => ?_, I.base.free, fun b o e hx => ?_, I.base.tups, I.base.frzs, I.base.tbls⟩, ⟨_, hn', fun j y v' e1 e2 e3 => ?_⟩, fun y c e => ?_, I.free, I.freeC, fun p hp => ?_, tracked ⟨oL, hoL, I.free⟩ hs, by simpa using I.len⟩ ⟨_, hs, .inl rfl⟩
    · exact (hs.2 b (Nat.ne_of_lt (Nat.lt_of_lt_of_le (Heap.lt_size e) I.ok.above))).trans (I.base.keep b o e n hb hx)
    · obtain ⟨sl, e1⟩ := I.base.slot b o e n hb hx
      exact ⟨sl, (hs.2 b (Nat.ne_of_lt (Nat.lt_of_lt_of_le (Heap.lt_size e) I.ok.above))).trans e1⟩
    · obtain ⟨o', e1⟩ := I.base.there b o e hx
      exact ⟨o', (hs.2 b (Nat.ne_of_lt (Nat.lt_of_lt_of_le (Heap.lt_size e) I.ok.above))).trans e1⟩
    · by_cases hj : j = i
      · subst hj
        rw [hi] at e1; cases e1
        rw [List.getElem?_set_self hiσ] at e2
        cases e2
        exact ⟨u, r, .inl ⟨hk, by simp⟩⟩
      · rw [List.getElem?_set_ne (Ne.symm hj)] at e2
        obtain ⟨u', r', q⟩ := hl j y v' e1 e2 e3
        refine ⟨u', r', ?_⟩
        rcases q with ⟨k, e⟩ | ⟨k, c, e, z⟩
        · refine .inl ⟨k, ?_⟩
          have : y ≠ x := fun e => hj (nodup_ix hN e1 (e ▸ hi))
          simp [this, e]
        · exact .inr ⟨k, c, e, z.sameBut hs (cne y c e)⟩
    · obtain ⟨w', z⟩ := I.cell y c e
      exact ⟨w', z.sameBut hs (cne y c e)⟩
    · obtain ⟨e, n, ne, nf, d⟩ := I.pin p hp
      exact ⟨(hs.2 p.1 ne).trans e, n, ne, nf, d⟩
  · have hfn : X.fn x = true := by
      rcases hf with z | z
      · exact z
      · rw [z] at hk; cases hk
    obtain ⟨c, hc⟩ := I.ok.has x (.inl hk)
    obtain ⟨w', z⟩ := I.cell x c hc
    refine wpAny_storeName_cell I.ok.kind hk hc z (fun h' hc' hs => ?_)
    obtain ⟨oc, hoc, hocd⟩ := id z
    refine h { s with heap := h' } ⟨I.ok, I.os, I.bare, ⟨fun b o e n hb hx => ?_, fun b o e n hb hx => ?_, I.base.free, fun b o e hx => ?_, I.base.tups, I.base.frzs, I.base.tbls⟩, ⟨m, hn.sameBut hs (Ne.symm (cne x c hc)), fun j y v' e1 e2 e3 => ?_⟩, fun y c' e => ?_, I.free, I.freeC, fun p hp => ?_, tracked ⟨oc, hoc, I.freeC x c hc⟩ hs, by simpa using I.len⟩ ⟨c, hs, .inr hc⟩
    · exact (hs.2 b (Nat.ne_of_lt (Nat.lt_of_lt_of_le (Heap.lt_size e) (I.ok.cab x c hfn hc)))).trans (I.base.keep b o e n hb hx)
    · obtain ⟨sl, e1⟩ := I.base.slot b o e n hb hx
      exact ⟨sl, (hs.2 b (Nat.ne_of_lt (Nat.lt_of_lt_of_le (Heap.lt_size e) (I.ok.cab x c hfn hc)))).trans e1⟩
    · obtain ⟨o', e1⟩ := I.base.there b o e hx
      exact ⟨o', (hs.2 b (Nat.ne_of_lt (Nat.lt_of_lt_of_le (Heap.lt_size e) (I.ok.cab x c hfn hc)))).trans e1⟩
    · by_cases hj : j = i
      · subst hj
        rw [hi] at e1; cases e1
        rw [List.getElem?_set_self hiσ] at e2
        cases e2
        exact ⟨u, r, .inr ⟨.inl hk, c, hc, hc'⟩⟩
      · rw [List.getElem?_set_ne (Ne.symm hj)] at e2
        obtain ⟨u', r', q⟩ := hl j y v' e1 e2 e3
        refine ⟨u', r', ?_⟩
        rcases q with q | ⟨k, c', e, z'⟩
        · exact .inl q
        · refine .inr ⟨k, c', e, z'.sameBut hs ?_⟩
          rintro rfl
          exact hj (nodup_ix hN e1 (I.ok.inj _ _ _ e hc ▸ hi))
    · by_cases hcc : c' = c
      · subst hcc; exact ⟨_, hc'⟩
      · obtain ⟨w2, z2⟩ := I.cell y c' e
        exact ⟨w2, z2.sameBut hs hcc⟩
    · obtain ⟨e, n, ne, nf, d⟩ := I.pin p hp
      refine ⟨(hs.2 p.1 ?_).trans e, n, ne, nf, d⟩
      intro q
      rw [q, hoc] at e
      have q' : oc = p.2 := Option.some.inj e
      exact d w' (by rw [← q']; exact hocd)
theorem store_ok {M : Model} {A : Around} {E : Value → Shared → Prop} {i : Nat} {x : Str} {v : V} {u : Value} {Q : Unit → Shared → Prop} (I : Inv X pins σ H s) (hN : X.N.Nodup) (hi : X.N[i]? = some x) (hx : Loc X.env.scope x) (r : RelV v u)
    (h : ∀ s', Inv X pins (σ.set i (some v)) H s' → Q () s') (hf : X.fn x = true ∨ X.env.scope.names.lookup x = some .local := by first | exact .inl rfl | exact .inr rfl | assumption) : wpAny M A (storeName X.env x u) Q E s :=
  store_ok2 I hN hi hx r (fun s' I' _ => h s' I') hf
theorem Inv.call' {s' : Shared} {ch : List Addr} (I : Inv X pins σ H s) (ho : s'.os = s.os) (u : Un (frs X.stack) ch H H' s.heap s'.heap) (hok : HOk X.prog X.w H' s'.heap) (hg : AllBare s'.gens)
    (hch : ∀ b ∈ ch, (b ∈ X.ex ∨ X.s₀.heap.objs.size ≤ b) ∧ b ≠ X.env.locals ∧ (∀ x c, X.env.cells.lookup x = some c → c ≠ b) ∧ ∀ p ∈ X.pn ++ pins, p.1 ≠ b) : Inv X pins σ H' s' := by
  obtain ⟨h', g', d', t', o'⟩ := s'
  have e : o' = s.os := ho
  subst e
  exact I.call (g' := g') (t' := t') (d' := d') u hok hg hch
end
noncomputable abbrev XK := Value → Option Addr → Hp → Prop
noncomputable abbrev St := List (Option V)
noncomputable abbrev VK := V → Hp → Prop
noncomputable abbrev TE := St → Hp → VK → Prop
noncomputable abbrev TT := St → Hp → (Bool → Hp → Prop) → Prop
noncomputable abbrev TA := St → Hp → (List V → Hp → Prop) → Prop
structure Ends where
  nx : St → Hp → Prop
  rt : VK
  bk : St → Hp → Prop := fun _ _ => False
  ct : St → Hp → Prop := fun _ _ => False
noncomputable abbrev TS := Ends → St → Hp → Prop
noncomputable def EP (X : Cx) (pins : List (Addr × Obj)) (σ : St) (Q : VK) (u : Value) (s' : Shared) : Prop := ∃ v H', Inv X pins σ H' s' ∧ RelV v u ∧ Q v H'
noncomputable def TP (X : Cx) (pins : List (Addr × Obj)) (σ : St) (Q : Bool → Hp → Prop) (b : Bool) (s' : Shared) : Prop := ∃ H', Inv X pins σ H' s' ∧ Q b H'
noncomputable def AP (X : Cx) (pins : List (Addr × Obj)) (σ : St) (Q : List V → Hp → Prop) (us : List Value) (s' : Shared) : Prop := ∃ vs H', Inv X pins σ H' s' ∧ Vals vs us ∧ Q vs H'
noncomputable def SP (X : Cx) (pins : List (Addr × Obj)) (D : Ends) (f : Flow) (s' : Shared) : Prop :=
  match f with
  | .next => ∃ σ' H', Inv X pins σ' H' s' ∧ D.nx σ' H'
  | .brk => ∃ σ' H', Inv X pins σ' H' s' ∧ D.bk σ' H'
  | .cont => ∃ σ' H', Inv X pins σ' H' s' ∧ D.ct σ' H'
  | .ret u => ∃ v σ' H', Inv X pins σ' H' s' ∧ RelV v u ∧ D.rt v H'
noncomputable def PE (X : Cx) (e : Expr) (t : TE) : Prop :=
  ∀ (pins : List (Addr × Obj)) (s : Shared) (σ : St) (H : Hp) (Q : VK), Inv X pins σ H s → t σ H Q → wpAny (model X.prog X.w) X.A (eval e X.env) (EP X pins σ Q) X.xe s
noncomputable def PT (X : Cx) (e : Expr) (t : TT) : Prop :=
  ∀ (pins : List (Addr × Obj)) (s : Shared) (σ : St) (H : Hp) (Q : Bool → Hp → Prop), Inv X pins σ H s → t σ H Q → wpAny (model X.prog X.w) X.A (isTrue e X.env (eval e X.env)) (TP X pins σ Q) X.xe s
noncomputable def PW (X : Cx) (e : Expr) (t : TT) : Prop :=
  ∀ (whole : Sem Value) (pins : List (Addr × Obj)) (s : Shared) (σ : St) (H : Hp) (Q : Bool → Hp → Prop), Inv X pins σ H s → t σ H Q → wpAny (model X.prog X.w) X.A (isTrue e X.env whole) (TP X pins σ Q) X.xe s
theorem PW.pt {X : Cx} {e : Expr} {t : TT} (h : PW X e t) : PT X e t := h _
noncomputable def PA (X : Cx) (es : List Expr) (t : TA) : Prop :=
  ∀ (pos : Pos) (pins : List (Addr × Obj)) (s : Shared) (σ : St) (H : Hp) (Q : List V → Hp → Prop), Inv X pins σ H s → t σ H Q → wpAny (model X.prog X.w) X.A (spliced (backTo pos (starEach es X.env))) (AP X pins σ Q) X.xe s
noncomputable def PS (X : Cx) (st : Stmt) (t : TS) : Prop :=
  ∀ (pins : List (Addr × Obj)) (s : Shared) (σ : St) (H : Hp) (D : Ends), Inv X pins σ H s → t D σ H → wpAny (model X.prog X.w) X.A (exec st X.env) (SP X pins D) X.xe s
noncomputable def PSs (X : Cx) (st : List Stmt) (t : TS) : Prop :=
  ∀ (pins : List (Addr × Obj)) (s : Shared) (σ : St) (H : Hp) (D : Ends), Inv X pins σ H s → t D σ H → wpAny (model X.prog X.w) X.A (execs st X.env) (SP X pins D) X.xe s
theorem thn {α : Type} {t : Sem α} {Q Q' : α → Shared → Prop} {M : Model} {A : Around} {E : Value → Shared → Prop} {s : Shared} (h : wpAny M A t Q E s) (hQ : ∀ a s, Q a s → Q' a s) : wpAny M A t Q' E s := wpAny_mono h hQ fun _ _ x => x
end L2
namespace L2
open PySem PySem.Spec PyProof.Rows
section
variable {X : Cx}
noncomputable def tVar (i : Nat) : TE := fun σ H Q => ∃ v, σ[i]? = some (some v) ∧ Q v H
noncomputable def tC (v : V) : TE := fun _ H Q => Q v H
theorem pe_var {i : Nat} {x : Str} {pos : Pos} (hN : X.N[i]? = some x) (hv : Vis X.env.scope x) (hd : (x == ("__debug__" : Str)) = false := by decide) (hcd : (x == ("__classdict__" : Str)) = false := by decide) : PE X (.Name x pos) (tVar i) := by
  intro pins s σ H Q I h
  obtain ⟨v, e, h⟩ := h
  obtain ⟨m, hn, hl⟩ := I.loc
  obtain ⟨u, r, l⟩ := hl i x v hN e hv
  have fin : EP X pins σ Q u s := ⟨v, H, I, r, h⟩
  rcases l with ⟨hk, hm⟩ | ⟨hk, c, hc, hcell⟩
  · exact wpAny_Name (wpAny_loadName_local I.ok.kind hk hn hm fin) hd
  · rcases hk with hk | hk
    · exact wpAny_Name (wpAny_loadName_cell I.ok.kind hk hc hcell fin) hd
    · exact wpAny_Name (wpAny_loadName_free I.ok.kind hk hc hcell fin hcd) hd
theorem pe_int {i j pos} : PE X (.Constant (.int i) j pos) (tC (.int i)) := fun _ _ _ H _ I h => wpAny_Constant_int ⟨.int i, H, I.tok _, ⟨_, rfl⟩, h⟩
theorem pe_bl {b j pos} : PE X (.Constant (.bool b) j pos) (tC (.bl b)) := fun _ _ _ H _ I h => Constant_bool ⟨.bl b, H, I, rfl, h⟩
theorem pe_non {j pos} : PE X (.Constant .none j pos) (tC .non) := fun _ _ _ H _ I h => Constant_none ⟨.non, H, I, rfl, h⟩
theorem pe_str {x j pos} : PE X (.Constant (.str x) j pos) (tC (.str x)) := fun _ _ _ H _ I h => Calls.Constant_str ⟨.str x, H, I.tok _, ⟨_, rfl⟩, h⟩
noncomputable def Gl (X : Cx) (x : Str) : Prop := X.env.kindOf x = some .globalImplicit
theorem ld_glob {E : Value → Shared → Prop} {pins : List (Addr × Obj)} {s : Shared} {σ : St} {H : Hp} {x : Str} {u : Value} {pos : Pos} {Q : Value → Shared → Prop} (I : Inv X pins σ H s) (hg : Gl X x) (hm : X.mg x = some u) (h : Q u s)
    (hd : (x == ("__debug__" : Str)) = false := by decide) : wpAny (model X.prog X.w) X.A (eval (.Name x pos) X.env) Q E s :=
  Calls.Name_function_global I.ok.kind hg (Calls.loadGlobal_global (by rw [I.ok.glob]; exact I.mod.glob.keeps I.bk) hm h) hd
theorem ld_blt {E : Value → Shared → Prop} {pins : List (Addr × Obj)} {s : Shared} {σ : St} {H : Hp} {x : Str} {u : Value} {pos : Pos} {Q : Value → Shared → Prop} (I : Inv X pins σ H s) (hg : Gl X x) (hm : X.mg x = none) (hv : bootBuiltins x = some u) (h : Q u s)
    (hn : x ≠ "__name__" := by decide) (hd : (x == ("__debug__" : Str)) = false := by decide) : wpAny (model X.prog X.w) X.A (eval (.Name x pos) X.env) Q E s := by
  obtain ⟨mb, h1, h2⟩ := I.mod.blt
  exact Calls.Name_function_global I.ok.kind hg (Calls.loadGlobal_builtin (by rw [I.ok.glob]; exact I.mod.glob.keeps I.bk) hm (by rw [I.ok.blt]; exact h1.keeps I.bk) ((h2 x hn).trans hv) h) hd
theorem pe_glob {x : Str} {v : V} {u : Value} {pos : Pos} (hg : Gl X x) (hm : X.mg x = some u) (r : RelV v u) (hd : (x == ("__debug__" : Str)) = false := by decide) : PE X (.Name x pos) (tC v) :=
  fun _ _ _ H _ I h => ld_glob I hg hm ⟨v, H, I, r, h⟩ hd
theorem pe_bltn {x : Str} {v : V} {u : Value} {pos : Pos} (hg : Gl X x) (hm : X.mg x = none) (hv : bootBuiltins x = some u) (r : RelV v u) (hn : x ≠ "__name__" := by decide) (hd : (x == ("__debug__" : Str)) = false := by decide) : PE X (.Name x pos) (tC v) :=
  fun _ _ _ H _ I h => ld_blt I hg hm hv ⟨v, H, I, r, h⟩ hn hd
variable {a b : Expr} {ta tb : TE} {pos : Pos}
noncomputable def tB (t : TE) : TT := fun σ H Q => t σ H fun x H1 => ∃ c, x = .bl c ∧ Q c H1
variable {tA tB' : TT} {rest : List Expr}
noncomputable def tOr (t u : TT) : TT := fun σ H Q => t σ H fun c H1 => if c = true then Q true H1 else u σ H1 Q
noncomputable def tNot (t : TT) : TT := fun σ H Q => t σ H fun c H1 => Q (!c) H1
theorem pw_or1 (ha : PT X a tA) : PW X (.BoolOp .Or [a] pos) tA := by
  intro wh pins s σ H Q I h
  refine isTrue_or (thn (ha pins s σ H Q I h) fun c s1 e => ?_)
  cases c with
  | false => exact isTrue_or_nil e
  | true => exact e
theorem pw_or (ha : PT X a tA) (hb : PW X (.BoolOp .Or (b :: rest) pos) tB') : PW X (.BoolOp .Or (a :: b :: rest) pos) (tOr tA tB') := by
  intro wh pins s σ H Q I h
  refine isTrue_or (thn (ha pins s σ H _ I h) fun c s1 ⟨H1, I1, q1⟩ => ?_)
  cases c with
  | true => exact ⟨H1, I1, q1⟩
  | false => exact hb wh pins s1 σ H1 Q I1 q1
theorem pt_not (ha : PT X a tA) : PT X (.UnaryOp .Not a pos) (tNot tA) := by
  intro pins s σ H Q I h
  exact isTrue_not (ha pins s σ H (fun c H1 => Q (!c) H1) I h)
noncomputable def tAndV (ta tb : TE) : TE := fun σ H Q => ta σ H fun x H1 => ∃ c, x = .bl c ∧ if c = true then tb σ H1 Q else Q (.bl false) H1
noncomputable def tNotV (ta : TE) : TE := fun σ H Q => ta σ H fun x H1 => ∃ c, x = .bl c ∧ Q (.bl (!c)) H1
theorem pe_one {op} {t : TE} (h : PE X a t) : PE X (.BoolOp op [a] pos) t := fun pins s σ H Q I hw => BoolOp_one (h pins s σ H Q I hw)
theorem pe_and (ha : PE X a ta) (hb : PE X (.BoolOp .And (b :: rest) pos) tb) : PE X (.BoolOp .And (a :: b :: rest) pos) (tAndV ta tb) := by
  intro pins s σ H Q I h
  refine BoolOp_and (thn (ha pins s σ H _ I h) fun v s1 ⟨x, H1, I1, r1, q1⟩ => ?_)
  obtain ⟨c, rfl, q1⟩ := q1
  cases r1
  refine wpAny_truthy_bool ?_
  cases c with
  | true => exact hb pins s1 σ H1 Q I1 q1
  | false => exact ⟨.bl false, H1, I1, rfl, q1⟩
theorem pe_not (ha : PE X a ta) : PE X (.UnaryOp .Not a pos) (tNotV ta) := by
  intro pins s σ H Q I h
  refine UnaryOp_ (thn (ha pins s σ H _ I h) fun v s1 ⟨x, H1, I1, r1, q1⟩ => ?_)
  obtain ⟨c, rfl, q1⟩ := q1
  cases r1
  exact not_of (wpAny_truthy_bool ⟨.bl (!c), H1, I1, rfl, q1⟩)
noncomputable def tIf (t : TT) (ta tb : TE) : TE := fun σ H Q => t σ H fun c H1 => if c = true then ta σ H1 Q else tb σ H1 Q
theorem pe_ifExp {c : Expr} (hc : PT X c tA) (ha : PE X a ta) (hb : PE X b tb) : PE X (.IfExp c a b pos) (tIf tA ta tb) := by
  intro pins s σ H Q I h
  refine wpAny_IfExp (thn (hc pins s σ H _ I h) fun d s1 ⟨H1, I1, q1⟩ => ?_)
  cases d with
  | true => exact ha pins s1 σ H1 Q I1 q1
  | false => exact hb pins s1 σ H1 Q I1 q1
end
end L2
namespace L2
open PySem PySem.Spec PyProof.Rows
noncomputable def SqL (K : PySem.W.Frag) (H : Hp) (a : Addr) (xs : List V) : Prop :=
  Rd H a (.lst xs) ∨
    ∃ (o : Obj) (its : Array Value) (n : Nat), K.lookup a = some o ∧ o.cls = .type "list" ∧ o.dict = none ∧ o.data = .seq its n ∧ its.size ≤ sizeLine ∧ Vals xs its.toList
noncomputable def SqT (K : PySem.W.Frag) (H : Hp) (a : Addr) (xs : List V) : Prop :=
  Rd H a (.tup xs) ∨
    ∃ (o : Obj) (its : Array Value) (n : Nat), K.lookup a = some o ∧ o.cls = .type "tuple" ∧ o.data = .seq its n ∧ its.size ≤ sizeLine ∧ Vals xs its.toList
noncomputable def absV : Value → Option V
  | .none => some .non
  | .bool b => some (.bl b)
  | .int i _ => some (.int i)
  | .str x _ => some (.str x)
  | .bytes b _ => some (.byt b)
  | .float b _ => some (.flt b)
  | .ref a => some (.ref a)
  | .type n => some (.ty n)
  | _ => none
theorem RelV.abs {x : V} {u : Value} (r : RelV x u) : absV u = some x := by
  cases x with
  | non => cases r; rfl
  | bl _ => cases r; rfl
  | int _ => obtain ⟨t, rfl⟩ := r; rfl
  | str _ => obtain ⟨t, rfl⟩ := r; rfl
  | byt _ => obtain ⟨t, rfl⟩ := r; rfl
  | flt _ => obtain ⟨t, rfl⟩ := r; rfl
  | ref _ => cases r; rfl
  | ty _ => cases r; rfl
theorem RelV.inj {x y : V} {u : Value} (r : RelV x u) (q : RelV y u) : x = y := Option.some.inj (r.abs.symm.trans q.abs)
theorem Vals.inj : ∀ {xs ys : List V} {us : List Value}, Vals xs us → Vals ys us → xs = ys
  | _, _, _, .nil, .nil => rfl
  | _, _, _, .cons r t, .cons r' t' => by rw [r.inj r', Vals.inj t t']
section
variable {X : Cx} {pins : List (Addr × Obj)} {σ : St} {H : Hp} {s : Shared} {a : Addr} {xs ys : List V}
theorem SqL.of {K : PySem.W.Frag} (h : H a = some (.lst xs)) : SqL K H a xs := .inl (.inl h)
theorem SqT.of {K : PySem.W.Frag} (h : H a = some (.tup xs)) : SqT K H a xs := .inl (.inl h)
theorem Inv.list (I : Inv X pins σ H s) (h : SqL X.K H a xs) : ∃ its : List Value, Vals xs its ∧ PlainL s.heap a its.toArray ∧ xs.length ≤ sizeLine := by
  rcases h with h | ⟨o, its, n, hk, hc, hd, hs, hz, r⟩
  · obtain ⟨z, its, n, r, e⟩ := h.ok I.hok
    exact ⟨its, r, ⟨_, n, e, rfl, rfl, rfl⟩, z⟩
  · refine ⟨its.toList, r, ⟨o, n, I.kIn a o hk, hc, hd, by simpa using hs⟩, ?_⟩
    have e := r.length
    simp only [Array.length_toList] at e
    omega
theorem Inv.tuple (I : Inv X pins σ H s) (h : SqT X.K H a xs) : ∃ its : List Value, Vals xs its ∧ IsTup s.heap a its.toArray ∧ xs.length ≤ sizeLine := by
  rcases h with h | ⟨o, its, n, hk, hc, hs, hz, r⟩
  · obtain ⟨z, its, r, p, _⟩ := h.ok I.hok
    exact ⟨its, r, p, z⟩
  · refine ⟨its.toList, r, ⟨o, I.kIn a o hk, hc, n, by simpa using hs⟩, ?_⟩
    have e := r.length
    simp only [Array.length_toList] at e
    omega
theorem Inv.list_inj (I : Inv X pins σ H s) (h : SqL X.K H a xs) (h' : SqL X.K H a ys) : xs = ys := by
  obtain ⟨its, r, ⟨o, n, e, _, _, d⟩, _⟩ := I.list h
  obtain ⟨its', r', ⟨o', n', e', _, _, d'⟩, _⟩ := I.list h'
  rw [e] at e'; cases e'
  rw [d] at d'
  injection d' with d1 _
  have : its = its' := by simpa using congrArg Array.toList d1
  subst this
  exact r.inj r'
theorem Inv.tuple_inj (I : Inv X pins σ H s) (h : SqT X.K H a xs) (h' : SqT X.K H a ys) : xs = ys := by
  obtain ⟨its, r, ⟨o, e, _, n, d⟩, _⟩ := I.tuple h
  obtain ⟨its', r', ⟨o', e', _, n', d'⟩, _⟩ := I.tuple h'
  rw [e] at e'; cases e'
  rw [d] at d'
  injection d' with d1 _
  have : its = its' := by simpa using congrArg Array.toList d1
  subst this
  exact r.inj r'
end
noncomputable abbrev Cx.wish (X : Cx) (E : Value → Shared → Prop) : Cx := { X with xe := E }
noncomputable abbrev Cx.nox (X : Cx) : Cx := X.wish fun _ _ => False
theorem Cx.Ok.wish {X : Cx} (ok : X.Ok) (E : Value → Shared → Prop) : (X.wish E).Ok :=
  ⟨ok.mod, ok.kind, ok.glob, ok.blt, ok.above, ok.inj, ok.has, ok.cab, ok.hd, ok.frames, ok.stk, ok.exf, ok.bs, ok.bsz, ok.noex, ok.exfs, ok.funs, ok.frf⟩
theorem Cx.Ok.unwish {X : Cx} {E : Value → Shared → Prop} (ok : (X.wish E).Ok) : X.Ok :=
  ⟨ok.mod, ok.kind, ok.glob, ok.blt, ok.above, ok.inj, ok.has, ok.cab, ok.hd, ok.frames, ok.stk, ok.exf, ok.bs, ok.bsz, ok.noex, ok.exfs, ok.funs, ok.frf⟩
section
variable {X : Cx} {pins : List (Addr × Obj)} {σ : St} {H : Hp} {s : Shared} {E : Value → Shared → Prop}
theorem Inv.wish (I : Inv X pins σ H s) (E : Value → Shared → Prop) : Inv (X.wish E) pins σ H s := ⟨I.ok.wish E, I.os, I.bare, I.base, I.loc, I.cell, I.free, I.freeC, I.pin, I.hok, I.len⟩
theorem Inv.unwish (I : Inv (X.wish E) pins σ H s) : Inv X pins σ H s := ⟨I.ok.unwish, I.os, I.bare, I.base, I.loc, I.cell, I.free, I.freeC, I.pin, I.hok, I.len⟩
theorem SP.unwish {D : Ends} {f : Flow} {s' : Shared} (h : SP (X.wish E) pins D f s') : SP X pins D f s' := by
  cases f with
  | next => obtain ⟨σ', H', I, q⟩ := h; exact ⟨σ', H', I.unwish, q⟩
  | brk => obtain ⟨σ', H', I, q⟩ := h; exact ⟨σ', H', I.unwish, q⟩
  | cont => obtain ⟨σ', H', I, q⟩ := h; exact ⟨σ', H', I.unwish, q⟩
  | ret u => obtain ⟨v, σ', H', I, r, q⟩ := h; exact ⟨v, σ', H', I.unwish, r, q⟩
theorem PE.nox {e : Expr} {t : TE} (h : PE X.nox e t) : PE X e t := fun pins s σ H Q I hw =>
  wpAny_mono (h pins s σ H Q (I.wish _) hw) (fun _ _ ⟨v, H', I', r, q⟩ => ⟨v, H', I'.unwish, r, q⟩) fun _ _ z => False.elim z
theorem PT.nox {e : Expr} {t : TT} (h : PT X.nox e t) : PT X e t := fun pins s σ H Q I hw =>
  wpAny_mono (h pins s σ H Q (I.wish _) hw) (fun _ _ ⟨H', I', q⟩ => ⟨H', I'.unwish, q⟩) fun _ _ z => False.elim z
theorem PSs.nox {st : List Stmt} {t : TS} (h : PSs X.nox st t) : PSs X st t := fun pins s σ H D I hw =>
  wpAny_mono (h pins s σ H D (I.wish _) hw) (fun _ _ q => q.unwish) fun _ _ z => False.elim z
end
section
variable {X : Cx} {st : Stmt} {rest : List Stmt} {t u : TS} {e : Expr} {te : TE} {pos : Pos}
noncomputable def tNext : TS := fun D σ H => D.nx σ H
noncomputable def tSeq (t u : TS) : TS := fun D σ H => t { D with nx := u D } σ H
theorem pss_nil : PSs X [] tNext := fun _ _ σ H _ I h => wpAny_execs_nil ⟨σ, H, I, h⟩
theorem pss_cons (h1 : PS X st t) (h2 : PSs X rest u) : PSs X (st :: rest) (tSeq t u) := by
  intro pins s σ H D I h
  refine wpAny_execs_cons (thn (h1 pins s σ H { D with nx := u D } I h) fun f s1 q => ?_)
  cases f with
  | next =>
    obtain ⟨σ', H', I', q⟩ := q
    exact h2 pins s1 σ' H' D I' q
  | ret v => exact q
  | brk => exact q
  | cont => exact q
theorem pss_one (h1 : PS X st t) : PSs X [st] t := by
  intro pins s σ H D I h
  refine wpAny_execs_cons (thn (h1 pins s σ H D I h) fun f s1 q => ?_)
  cases f with
  | next => exact wpAny_execs_nil q
  | ret v => exact q
  | brk => exact q
  | cont => exact q
theorem Inv.quiet {pins : List (Addr × Obj)} {σ : St} {H : Hp} {s : Shared} (I : Inv X pins σ H s) : interactive X.env = false := by simp [interactive, I.ok.kind]
noncomputable def tDrop (te : TE) : TS := fun D σ H => te σ H fun _ H1 => D.nx σ H1
theorem ps_expr (he : PE X e te) (hs : swapsWith e none pos.line X.env = pure false := by rfl) : PS X (.Expr e pos) (tDrop te) := by
  intro pins s σ H D I h
  exact wpAny_Expr_any (thn (he pins s σ H _ I h) fun v s1 ⟨x, H1, I1, r1, q1⟩ => ⟨σ, H1, I1, q1⟩) I.quiet hs
noncomputable def tRet (te : TE) : TS := fun D σ H => te σ H D.rt
theorem ps_ret (he : PE X e te) : PS X (.Return (some e) pos) (tRet te) := by
  intro pins s σ H D I h
  exact wpAny_Return_some (thn (he pins s σ H _ I h) fun v s1 ⟨x, H1, I1, r1, q1⟩ => ⟨x, σ, H1, I1, r1, q1⟩)
noncomputable def tIfS (c : TT) (t u : TS) : TS := fun D σ H => c σ H fun b H1 => if b = true then t D σ H1 else u D σ H1
theorem ps_if {c : Expr} {a b : List Stmt} {tc : TT} (hc : PT X c tc) (ha : PSs X a t) (hb : PSs X b u) : PS X (.If c a b pos) (tIfS tc t u) := by
  intro pins s σ H D I h
  refine wpAny_If (thn (hc pins s σ H _ I h) fun d s1 ⟨H1, I1, q1⟩ => ?_)
  cases d with
  | true => exact ha pins s1 σ H1 D I1 q1
  | false => exact hb pins s1 σ H1 D I1 q1
noncomputable def tNever : TS := fun _ _ _ => False
theorem ps_never : PS X st tNever := fun _ _ _ _ _ _ h => h.elim
end
noncomputable abbrev TG := V → St → Hp → (St → Hp → Prop) → Prop
noncomputable abbrev TGs := List V → St → Hp → (St → Hp → Prop) → Prop
noncomputable def PG (X : Cx) (target : Expr) (t : TG) : Prop :=
  ∀ (pins : List (Addr × Obj)) (s : Shared) (σ : St) (H : Hp) (v : V) (u : Value) (Q : St → Hp → Prop), Inv X pins σ H s → RelV v u → t v σ H Q →
    wpAny (model X.prog X.w) X.A (assign target X.env u) (fun _ s' => ∃ σ' H', Inv X pins σ' H' s' ∧ Q σ' H') X.xe s
noncomputable def PGs (X : Cx) (ts : List Expr) (t : TGs) : Prop :=
  ∀ (pins : List (Addr × Obj)) (s : Shared) (σ : St) (H : Hp) (vs : List V) (us : List Value) (Q : St → Hp → Prop), Inv X pins σ H s → Vals vs us → t vs σ H Q →
    wpAny (model X.prog X.w) X.A (assignInOrder ((assignEach ts X.env).map (·.2)) us) (fun _ s' => ∃ σ' H', Inv X pins σ' H' s' ∧ Q σ' H') X.xe s
section
variable {X : Cx} {pos : Pos}
noncomputable def gName (i : Nat) : TG := fun v σ H Q => Q (σ.set i (some v)) H
theorem pg_name {i : Nat} {x : Str} (hN : X.N.Nodup) (hi : X.N[i]? = some x) (hx : Loc X.env.scope x) (hf : X.fn x = true ∨ X.env.scope.names.lookup x = some .local := by first | exact .inl rfl | exact .inr rfl | assumption) : PG X (.Name x pos) (gName i) := by
  intro pins s σ H v u Q I r h
  exact wpAny_assign_Name (store_ok I hN hi hx r (fun s' I' => ⟨_, H, I', h⟩) hf)
noncomputable def gNil : TGs := fun vs σ H Q => vs = [] ∧ Q σ H
noncomputable def gCons (t : TG) (u : TGs) : TGs := fun vs σ H Q => ∃ v r, vs = v :: r ∧ t v σ H fun σ' H' => u r σ' H' Q
theorem pgs_nil : PGs X [] gNil := by
  intro pins s σ H vs us Q I r h
  obtain ⟨e, h⟩ := h
  subst e
  cases r
  exact assignInOrder_nil ⟨σ, H, I, h⟩
theorem pgs_cons {e : Expr} {es : List Expr} {t : TG} {u : TGs} (h1 : PG X e t) (h2 : PGs X es u)
    (hs : (assignEach (e :: es) X.env).map (·.2) = assign e X.env :: (assignEach es X.env).map (·.2) := by rfl) : PGs X (e :: es) (gCons t u) := by
  intro pins s σ H vs us Q I r h
  obtain ⟨v, vr, e1, h⟩ := h
  subst e1
  cases r with
  | cons r rr =>
    rw [hs]
    refine assignInOrder_cons (thn (h1 pins s σ H _ _ _ I r h) fun _ s1 ⟨σ1, H1, I1, q1⟩ => ?_)
    exact h2 pins s1 σ1 H1 _ _ Q I1 rr q1
noncomputable def gTup (K : PySem.W.Frag) (n : Nat) (t : TGs) : TG := fun v σ H Q => ∃ a xs, v = .ref a ∧ SqT K H a xs ∧ xs.length = n ∧ t xs σ H Q
theorem pg_tup {es : List Expr} {k : Nat} {t : TGs} {n : Nat} (hc : X.calm = true) (h : PGs X es t)
    (hn : (assignEach es X.env).length = n := by rfl) (hst : (assignEach es X.env).findIdx? (·.1) = none := by rfl) : PG X (.Tuple es k pos) (gTup X.K n t) := by
  intro pins s σ H v u Q I r hw
  obtain ⟨a, xs, e1, hq, hl, hw⟩ := hw
  subst e1
  cases r
  obtain ⟨its, rv, ht, hz⟩ := I.tuple hq
  refine assign_Tuple_tuple (I.ok.hd hc) ht (by simp [hn, ← hl, rv.length]) hst fun h' hx => ?_
  have I1 : Inv X pins σ H { s with heap := h' } := I.kept (t' := s.toks) fun b o e => hx b o (Nat.ne_of_lt (Heap.lt_size e)) e
  exact h pins _ σ H xs _ Q I1 (by simpa using rv) hw
noncomputable def tAsg (te : TE) (g : TG) : TS := fun D σ H => te σ H fun x H1 => g x σ H1 D.nx
theorem ps_asg {tg e : Expr} {te : TE} {g : TG} (he : PE X e te) (hg : PG X tg g) (hs : swapsWithSole [tg] e pos.line X.env = pure false := by rfl) (hw : swappedStores [tg] e X.env = pure none := by rfl)
    (h1 : (assignEach [tg] X.env).map (·.2) = [assign tg X.env] := by rfl) : PS X (.Assign [tg] e pos) (tAsg te g) := by
  intro pins s σ H D I h
  refine wpAny_Assign_stores (thn (he pins s σ H _ I h) fun v s1 ⟨x, H1, I1, r1, q1⟩ => ?_) hs hw
  rw [h1]
  exact thn (hg pins s1 σ H1 x v _ I1 r1 q1) fun _ s2 q => q
theorem ps_set {i : Nat} {x : Str} {e : Expr} {te : TE} {pos' : Pos} (hN : X.N.Nodup) (hi : X.N[i]? = some x) (hx : Loc X.env.scope x) (he : PE X e te) (hs : swapsWith e (some (.Name x pos')) pos.line X.env = pure false := by rfl) (hf : X.fn x = true ∨ X.env.scope.names.lookup x = some .local := by first | exact .inl rfl | exact .inr rfl | assumption) :
    PS X (.Assign [.Name x pos'] e pos) (tAsg te (gName i)) := by
  intro pins s σ H D I h
  refine wpAny_Assign_Name (thn (he pins s σ H _ I h) fun v s1 ⟨y, H1, I1, r1, q1⟩ => ?_) hs
  exact store_ok I1 hN hi hx r1 (fun s2 I2 => ⟨_, H1, I2, q1⟩) hf
noncomputable def tPar (i j : Nat) (ta : TA) : TS := fun D σ H => ta σ H fun vs H1 => ∃ v w, vs = [v, w] ∧ D.nx ((σ.set i (some v)).set j (some w)) H1
theorem ps_par {i j : Nat} {x y : Str} {a b : Expr} {ta : TA} {px py pt : Pos} {kt k2 pt2} (hc : X.calm = true) (hN : X.N.Nodup) (hi : X.N[i]? = some x) (hj : X.N[j]? = some y) (hij : i ≠ j)
    (hx : X.env.scope.names.lookup x = some .local) (hy : X.env.scope.names.lookup y = some .local) (ha : PA X [a, b] ta)
    (hw : swappedStores [.Tuple [.Name x px, .Name y py] kt pt] (.Tuple [a, b] k2 pt2) X.env = pure (some [x, y]))
    (hs : swapsWithSole [.Tuple [.Name x px, .Name y py] kt pt] (.Tuple [a, b] k2 pt2) pos.line X.env = pure false := by rfl) :
    PS X (.Assign [.Tuple [.Name x px, .Name y py] kt pt] (.Tuple [a, b] k2 pt2) pos) (tPar i j ta) := by
  intro pins s σ H D I h
  rw [exec_Assign_arm]
  refine wpAny_bind (wpAny_standAt ?_)
  rw [hs]
  refine wpAny_bind (wpAny_pure ?_)
  rw [if_neg (by decide)]
  refine wpAny_bind (Tuple_ (thn (ha _ pins s σ H _ I h) fun us s1 ⟨vs, H1, I1, r1, q1⟩ => ?_))
  obtain ⟨v, w, e1, q1⟩ := q1
  subst e1
  obtain ⟨u1, u2, rfl, rv, rw'⟩ : ∃ u1 u2, us = [u1, u2] ∧ RelV v u1 ∧ RelV w u2 := by
    cases r1 with
    | cons p q =>
      cases q with
      | cons p' q' =>
        cases q'
        exact ⟨_, _, rfl, p, p'⟩
  refine wpAny_newObj_type ?_ (by show 2 ≤ sizeLine; decide)
  have I2 : Inv X pins σ H1 { s1 with heap := s1.heap.push { cls := .type "tuple", data := .seq [u1, u2].toArray } } := I1.kept (t' := s1.toks) fun b o e => Heap.get?_push_of_some _ e
  rw [hw]
  refine wpAny_bind (wpAny_pure ?_)
  show wpAny (model X.prog X.w) X.A (do rule "assign.swapped-stores"; let items ← unpackItems (.ref s1.heap.objs.size) 2 none; assignInOrder [fun v => bindName X.env y v, fun v => bindName X.env x v] items.reverse; pure Flow.next) _ _ _
  refine wpAny_bind (wpAny_rule (wpAny_bind (unpackItems_tuple (items := #[u1, u2]) (I.ok.hd hc) (IsTup.new s1.heap _) fun h' hx' => ?_)))
  have I3 := I2.kept (h' := h') (t' := s1.toks) fun b o e => hx' b o (Nat.ne_of_lt (Heap.lt_size e)) e
  show wpAny _ _ (assignInOrder [fun v => bindName X.env y v, fun v => bindName X.env x v] [u2, u1] >>= fun _ => pure Flow.next) _ _ _
  refine wpAny_bind (assignInOrder_cons (wpAny_bindName (store_ok I3 hN hj (.inl hy) rw' (fun s2 I4 => ?_) (.inr hy))))
  refine assignInOrder_cons (wpAny_bindName (store_ok I4 hN hi (.inl hx) rv (fun s3 I5 => assignInOrder_nil (wpAny_pure ?_)) (.inr hx)))
  rw [List.set_comm _ _ (Ne.symm hij)] at I5
  exact ⟨_, H1, I5, q1⟩
end
section
variable {X : Cx} {pos : Pos}
noncomputable def tWhile (c : TT) (tb : TS) : TS := fun D σ H => ∃ W : Nat → St → Hp → Prop, (∃ m, W m σ H) ∧ ∀ m σ H, W m σ H →
  c σ H fun b H1 => if b = true then ∃ N : St → Hp → Prop, (∀ σ' H', N σ' H' → ∃ m', m' < m ∧ W m' σ' H') ∧ tb { D with nx := N, ct := N, bk := D.nx } σ H1 else D.nx σ H1
theorem ps_while {c : Expr} {body : List Stmt} {tc : TT} {tb : TS} (hp : PassesOwn (model X.prog X.w) X.A X.env X.xe) (hc : PT X c tc) (hb : PSs X body tb) : PS X (.While c body [] pos) (tWhile tc tb) := by
  intro pins s σ H D I h
  obtain ⟨W, ⟨m0, w0⟩, turn⟩ := h
  refine wpAny_While (codeAny_whileLoop (fun n s' => ∃ σ' H', Inv X pins σ' H' s' ∧ W n σ' H') ?_ m0 ⟨σ, H, I, w0⟩)
  rintro n s1 ⟨σ1, H1, I1, w1⟩
  refine wpAny_passesOwn hp (thn (hc pins s1 σ1 H1 _ I1 (turn n σ1 H1 w1)) fun b s2 ⟨H2, I2, q2⟩ => ?_)
  cases b with
  | true =>
    obtain ⟨N, hN, q2⟩ := q2
    rw [if_pos rfl]
    refine wpAny_passesOwn hp (thn (hb pins s2 σ1 H2 _ I2 q2) fun f s3 q3 => ?_)
    cases f with
    | next =>
      obtain ⟨σ3, H3, I3, n3⟩ := q3
      obtain ⟨m', hm, w3⟩ := hN σ3 H3 n3
      exact ⟨m', hm, σ3, H3, I3, w3⟩
    | cont =>
      obtain ⟨σ3, H3, I3, n3⟩ := q3
      obtain ⟨m', hm, w3⟩ := hN σ3 H3 n3
      exact ⟨m', hm, σ3, H3, I3, w3⟩
    | brk => exact q3
    | ret v => exact q3
  | false =>
    rw [if_neg Bool.false_ne_true]
    exact wpAny_execs_nil ⟨σ1, H2, I2, q2⟩
end
structure It where
  go : Nat → Hp → Prop
  yld : Nat → Hp → V → Hp → Prop
  stop : Nat → Hp → Prop
noncomputable def FpOk (X : Cx) (pins : List (Addr × Obj)) (H : Hp) (b : Addr) : Prop :=
  H b = none ∧ b ≠ X.env.locals ∧ b ∉ X.fs ∧ (b ∈ X.ex ∨ X.s₀.heap.objs.size ≤ b) ∧ (∀ x c, X.env.cells.lookup x = some c → c ≠ b) ∧ ∀ p ∈ X.pn ++ pins, p.1 ≠ b
theorem Inv.fpOk {X : Cx} {pins : List (Addr × Obj)} {σ : St} {H H' : Hp} {s : Shared} {b : Addr} (I : Inv X pins σ H s) (hb : s.heap.objs.size ≤ b) (hn : H' b = none) : FpOk X pins H' b := by
  refine ⟨hn, Nat.ne_of_gt (Nat.lt_of_lt_of_le I.lt hb), I.nofs hb, .inr (Nat.le_trans I.sz hb), fun x c e z => ?_, fun p hp z => ?_⟩
  · obtain ⟨v, q⟩ := I.cell x c e
    exact absurd (Nat.lt_of_lt_of_le q.lt (by rw [z]; exact hb)) (Nat.lt_irrefl _)
  · exact absurd (Nat.lt_of_lt_of_le (Heap.lt_size (I.pin p hp).1) (by rw [z]; exact hb)) (Nat.lt_irrefl _)
structure Turn (P : Program) (w : World) (K : PySem.W.Frag) (tg : Expr) (J : It) (fp : List Addr) (it : Addr) (tn : Nat → Heap → Prop) : Prop where
  mem : it ∈ fp
  obj : ∀ i h, tn i h → ∀ b ∈ fp, ∃ o, h.get? b = some o ∧ ∀ v, o.data ≠ .cell v
  keep : ∀ i h h', tn i h → (∀ b ∈ fp, ∀ o, h.get? b = some o → h'.get? b = some o) → tn i h'
  item : ∀ (X : Cx), X.prog = P → X.w = w → X.K = K → X.calm = true → ∀ (i : Nat) (pins : List (Addr × Obj)) (s : Shared) (σ : St) (H : Hp) (E : Value → Shared → Prop), Inv X pins σ H s → (∀ b ∈ fp, FpOk X pins H b) → tn i s.heap → J.go i H →
    wpAny (model P w) X.A (pyNext (.ref it)) (fun r s1 => ∃ u, r = some u ∧
      wpAny (model P w) X.A (letOwnedTupleGo tg (.ref it) u) (fun _ s2 => ∃ x H', Inv X pins σ H' s2 ∧ RelV x u ∧ J.yld i H x H' ∧ tn (i + 1) s2.heap ∧ ∀ b ∈ fp, H' b = none) E s1) E s
  done : ∀ (X : Cx), X.prog = P → X.w = w → X.K = K → X.calm = true → ∀ (i : Nat) (pins : List (Addr × Obj)) (s : Shared) (σ : St) (H : Hp) (E : Value → Shared → Prop), Inv X pins σ H s → (∀ b ∈ fp, FpOk X pins H b) → tn i s.heap → J.stop i H →
    wpAny (model P w) X.A (pyNext (.ref it)) (fun r s1 => r = none ∧ Inv X pins σ H s1) E s
  self : ∀ (A : Around) (i : Nat) (s : Shared) (Q : Value → Shared → Prop) (E : Value → Shared → Prop), tn i s.heap → Q (.ref it) s → wpAny (model P w) A (pyIter (.ref it)) Q E s
noncomputable abbrev TI := St → Hp → (It → Hp → Prop) → Prop
noncomputable def PIE (X : Cx) (pins : List (Addr × Obj)) (σ : St) (tg : Expr) (R : It → Hp → Prop) (itv : Value) (s2 : Shared) : Prop :=
  ∃ (it : Addr) (fp : List Addr) (tn : Nat → Heap → Prop) (J : It) (H' : Hp), itv = .ref it ∧ Inv X pins σ H' s2 ∧ Turn X.prog X.w X.K tg J fp it tn ∧ tn 0 s2.heap ∧ (∀ b ∈ fp, FpOk X pins H' b) ∧ R J H'
noncomputable def PI (X : Cx) (tg iter : Expr) (wi : TI) : Prop :=
  ∀ (pins : List (Addr × Obj)) (s : Shared) (σ : St) (H : Hp) (R : It → Hp → Prop), Inv X pins σ H s → wi σ H R →
    wpAny (model X.prog X.w) X.A (eval iter X.env) (fun v s1 => wpAny (model X.prog X.w) X.A (pyIter v) (PIE X pins σ tg R) X.xe s1) X.xe s
theorem go_of {M : Model} {A : Around} {E : Value → Shared → Prop} {s : Shared} {tg : Expr} {it : Addr} {u : Value} {o : Obj} {n : String} {vs : Array Value} {Q : Unit → Shared → Prop} (ho : s.heap.get? it = some o) (hc : o.cls = .type n) (hd : o.data = .fields vs)
    (hn : ["enumerate", "zip", "dict_itemiterator", "dict_reverseitemiterator", "odict_iterator", "itertools.zip_longest", "itertools.pairwise"].contains n = false) (hQ : Q () s) : wpAny M A (letOwnedTupleGo tg (.ref it) u) Q E s := by
  unfold letOwnedTupleGo
  cases tg <;> first
    | exact wpAny_pure hQ
    | (cases u <;> first
        | exact wpAny_pure hQ
        | (refine wpAny_bind (wpAny_load ho ?_)
           rw [hc, hd]
           show wpAny M A (if (["enumerate", "zip", "dict_itemiterator", "dict_reverseitemiterator", "odict_iterator", "itertools.zip_longest", "itertools.pairwise"].contains n && vs[0]? == some (rawInt _)) = true then _ else _) Q E s
           rw [if_neg (by intro h; rw [hn, Bool.false_and] at h; cases h)]
           exact wpAny_pure hQ))
noncomputable def Itl (K : PySem.W.Frag) (a : Addr) : It :=
  ⟨fun i H => ∃ xs x, SqL K H a xs ∧ xs[i]? = some x, fun i H x H' => H' = H ∧ ∀ xs, SqL K H a xs → xs[i]? = some x, fun i H => ∃ xs, SqL K H a xs ∧ xs.length ≤ i⟩
noncomputable def Itt (K : PySem.W.Frag) (a : Addr) : It :=
  ⟨fun i H => ∃ xs x, SqT K H a xs ∧ xs[i]? = some x, fun i H x H' => H' = H ∧ ∀ xs, SqT K H a xs → xs[i]? = some x, fun i H => ∃ xs, SqT K H a xs ∧ xs.length ≤ i⟩
noncomputable def Itr (lo : Int) (n : Nat) : It := ⟨fun i _ => i < n, fun i H x H' => H' = H ∧ x = .int (lo + i), fun i _ => n ≤ i⟩
theorem turn_list {P : Program} {w : World} {K : PySem.W.Frag} {tg : Expr} (a it : Addr) : Turn P w K tg (Itl K a) [it] it (fun i h => h.IsListIter it a i) where
  mem := by simp
  obj := fun i h st b hb => by
    have e : b = it := by simpa using hb
    subst e
    obtain ⟨o, e, c, d⟩ := st
    exact ⟨o, e, fun v z => by rw [d] at z; cases z⟩
  keep := fun i h h' st k => st.at fun o e => k it (by simp) o e
  item := by
    intro X hP hw hK hc i pins s σ H E I hf st hg
    subst hP hw hK
    obtain ⟨xs, x, hq, hx⟩ := hg
    obtain ⟨its, rv, p, hz⟩ := I.list hq
    obtain ⟨u, hu, ru⟩ := rv.get hx
    obtain ⟨f0, f1, f2, f3, f4, f5⟩ := hf it (by simp)
    refine wpAny_pyNext_list_item st p.isList (x := u) (by simpa using hu) fun h' st' sb => ?_
    have I1 : Inv X pins σ H { s with heap := h' } := I.turned (t' := s.toks) (fun b o hb e => (sb.2 b hb).trans e) f0 f1 f3 f4 f5
    obtain ⟨o, e, c, d⟩ := id st'
    exact ⟨u, rfl, go_of (s := { s with heap := h' }) e c d (by decide) ⟨x, H, I1, ru, ⟨rfl, fun ys hy => by rw [I.list_inj hy hq]; exact hx⟩, st', fun b hb => (hf b hb).1⟩⟩
  done := by
    intro X hP hw hK hc i pins s σ H E I hf st hg
    subst hP hw hK
    obtain ⟨xs, hq, hx⟩ := hg
    obtain ⟨its, rv, p, hz⟩ := I.list hq
    obtain ⟨f0, f1, f2, f3, f4, f5⟩ := hf it (by simp)
    have hl := rv.length
    exact wpAny_pyNext_list_end (I.ok.hd hc) st p.isList (by simp; omega) fun h' eb => ⟨rfl, I.turned (t' := s.toks) (fun b o hb e => eb b o hb e) f0 f1 f3 f4 f5⟩
  self := fun _ _ _ _ _ st h => wpAny_pyIter_listiter st h
theorem turn_tuple {P : Program} {w : World} {K : PySem.W.Frag} {tg : Expr} (a it : Addr) : Turn P w K tg (Itt K a) [it] it (fun i h => h.IsTupleIter it a i) where
  mem := by simp
  obj := fun i h st b hb => by
    have e : b = it := by simpa using hb
    subst e
    obtain ⟨o, e, c, d⟩ := st
    exact ⟨o, e, fun v z => by rw [d] at z; cases z⟩
  keep := fun i h h' st k => st.at fun o e => k it (by simp) o e
  item := by
    intro X hP hw hK hc i pins s σ H E I hf st hg
    subst hP hw hK
    obtain ⟨xs, x, hq, hx⟩ := hg
    obtain ⟨its, rv, p, hz⟩ := I.tuple hq
    obtain ⟨u, hu, ru⟩ := rv.get hx
    obtain ⟨f0, f1, f2, f3, f4, f5⟩ := hf it (by simp)
    refine wpAny_pyNext_tuple_item st (show s.heap.IsTuple a its.toArray from p) (x := u) (by simpa using hu) fun h' st' sb => ?_
    have I1 : Inv X pins σ H { s with heap := h' } := I.turned (t' := s.toks) (fun b o hb e => (sb.2 b hb).trans e) f0 f1 f3 f4 f5
    obtain ⟨o, e, c, d⟩ := id st'
    exact ⟨u, rfl, go_of (s := { s with heap := h' }) e c d (by decide) ⟨x, H, I1, ru, ⟨rfl, fun ys hy => by rw [I.tuple_inj hy hq]; exact hx⟩, st', fun b hb => (hf b hb).1⟩⟩
  done := by
    intro X hP hw hK hc i pins s σ H E I hf st hg
    subst hP hw hK
    obtain ⟨xs, hq, hx⟩ := hg
    obtain ⟨its, rv, p, hz⟩ := I.tuple hq
    obtain ⟨f0, f1, f2, f3, f4, f5⟩ := hf it (by simp)
    have hl := rv.length
    exact wpAny_pyNext_tuple_end (I.ok.hd hc) st (show s.heap.IsTuple a its.toArray from p) (by simp; omega) fun h' eb => ⟨rfl, I.turned (t' := s.toks) (fun b o hb e => eb b o hb e) f0 f1 f3 f4 f5⟩
  self := fun _ _ _ _ _ st h => wpAny_pyIter_tupleiter st h
theorem turn_range {P : Program} {w : World} {K : PySem.W.Frag} {tg : Expr} (it : Addr) (lo : Int) (n : Nat) : Turn P w K tg (Itr lo n) [it] it (fun i h => IsRangeIter h it (lo + (i : Nat) * 1) ((n : Int) - (i : Nat)) 1) where
  mem := by simp
  obj := fun i h st b hb => by
    have e : b = it := by simpa using hb
    subst e
    exact ⟨_, st, fun v z => by
      have z' : Data.fields _ = Data.cell v := z
      cases z'⟩
  keep := fun i h h' st k => k it (by simp) _ st
  item := by
    intro X hP hw hK hc i pins s σ H E I hf st hg
    subst hP hw hK
    obtain ⟨f0, f1, f2, f3, f4, f5⟩ := hf it (by simp)
    have W := Walks.range (prog := X.prog) (w := X.w) (I.ok.hd hc) it lo 1 n
    refine W.item i s _ _ hg st fun v h' tk hv st' kk => ?_
    obtain ⟨t, rfl⟩ := hv
    have I1 : Inv X pins σ H { s with heap := h', toks := tk } := I.turned (fun b o hb e => kk b o (by simpa using hb) e) f0 f1 f3 f4 f5
    refine ⟨_, rfl, go_of (s := { s with heap := h', toks := tk }) (n := "range_iterator") st' rfl rfl (by decide) ⟨.int (lo + i), H, I1, ⟨t, ?_⟩, ⟨rfl, rfl⟩, st', fun b hb => (hf b hb).1⟩⟩
    rw [Int.mul_one]
  done := by
    intro X hP hw hK hc i pins s σ H E I hf st hg
    subst hP hw hK
    obtain ⟨f0, f1, f2, f3, f4, f5⟩ := hf it (by simp)
    exact wpAny_pyNext_range_end (I.ok.hd hc) st (by have : n ≤ i := hg; omega) fun h' eb => ⟨rfl, I.turned (t' := s.toks) (fun b o hb e => eb b o hb e) f0 f1 f3 f4 f5⟩
  self := fun _ _ _ _ _ st h => wpAny_pyIter_rangeiter st h
end L2
namespace L2
open PySem PySem.Spec PyProof.Rows
section
variable {X : Cx} {tg : Expr}
noncomputable def iList (K : PySem.W.Frag) (tl : TE) : TI := fun σ H R => tl σ H fun x H1 => ∃ a, x = .ref a ∧ (∃ xs, SqL K H1 a xs) ∧ R (Itl K a) H1
noncomputable def iTup (K : PySem.W.Frag) (tl : TE) : TI := fun σ H R => tl σ H fun x H1 => ∃ a, x = .ref a ∧ (∃ xs, SqT K H1 a xs) ∧ R (Itt K a) H1
theorem pi_list {l : Expr} {tl : TE} (hl : PE X l tl) : PI X tg l (iList X.K tl) := by
  intro pins s σ H R I h
  refine thn (hl pins s σ H _ I h) fun v s1 ⟨x, H1, I1, r1, q1⟩ => ?_
  obtain ⟨a, e, ⟨xs, hq⟩, q⟩ := q1
  subst e
  cases r1
  obtain ⟨its, rv, p, hz⟩ := I1.list hq
  refine wpAny_pyIter_list p.isList ?_
  refine ⟨s1.heap.objs.size, [s1.heap.objs.size], _, _, H1, rfl, I1.kept (t' := s1.toks) fun b o e => Heap.get?_push_of_some _ e, turn_list a _, ⟨_, Heap.get?_push_size _ rfl, rfl, rfl⟩, fun b hb => ?_, q⟩
  have e : b = s1.heap.objs.size := by simpa using hb
  subst e
  exact I1.fpOk (Nat.le_refl _) (I1.hok.fresh (Nat.le_refl _))
theorem pi_tup {l : Expr} {tl : TE} (hl : PE X l tl) : PI X tg l (iTup X.K tl) := by
  intro pins s σ H R I h
  refine thn (hl pins s σ H _ I h) fun v s1 ⟨x, H1, I1, r1, q1⟩ => ?_
  obtain ⟨a, e, ⟨xs, hq⟩, q⟩ := q1
  subst e
  cases r1
  obtain ⟨its, rv, p, hz⟩ := I1.tuple hq
  refine wpAny_pyIter_tuple (show s1.heap.IsTuple a its.toArray from p) ?_
  refine ⟨s1.heap.objs.size, [s1.heap.objs.size], _, _, H1, rfl, I1.kept (t' := s1.toks) fun b o e => Heap.get?_push_of_some _ e, turn_tuple a _, ⟨_, Heap.get?_push_size _ rfl, rfl, rfl⟩, fun b hb => ?_, q⟩
  have e : b = s1.heap.objs.size := by simpa using hb
  subst e
  exact I1.fpOk (Nat.le_refl _) (I1.hok.fresh (Nat.le_refl _))
theorem range_it {pins : List (Addr × Obj)} {σ : St} {H : Hp} {s : Shared} {R : It → Hp → Prop} {E : Value → Shared → Prop} {lo hi : Int} {t u v : Tok} {tk : Nat} (I : Inv X pins σ H s) (h1 : -(2 ^ 62) ≤ lo) (h2 : lo < 2 ^ 62) (h3 : -(2 ^ 62) ≤ hi) (h4 : hi < 2 ^ 62)
    (q : R (Itr lo (hi - lo).toNat) H) : wpAny (model X.prog X.w) X.A (pyIter (.ref s.heap.objs.size)) (PIE X pins σ tg R) E { s with heap := s.heap.push { cls := .type "range", data := .fields #[.int lo t, .int hi u, .int 1 v] }, toks := tk } := by
  refine wpAny_pyIter_range (IsRange.new ..) (small_one h1 h2 h3 h4) ?_
  have I1 : Inv X pins σ H { s with heap := s.heap.push { cls := .type "range", data := .fields #[.int lo t, .int hi u, .int 1 v] }, toks := tk } := I.kept fun b o e => Heap.get?_push_of_some _ e
  refine ⟨(s.heap.push { cls := .type "range", data := .fields #[.int lo t, .int hi u, .int 1 v] }).objs.size, [(s.heap.push { cls := .type "range", data := .fields #[.int lo t, .int hi u, .int 1 v] }).objs.size], _, _, H, rfl,
    I1.kept (t' := tk) fun b o e => Heap.get?_push_of_some _ e, turn_range _ lo (hi - lo).toNat, ?_, fun b hb => ?_, q⟩
  · have e1 : lo + ((0 : Nat) : Int) * 1 = lo := by simp
    have e2 : (((hi - lo).toNat : Nat) : Int) - ((0 : Nat) : Int) = Builtin.Range.rangeSize lo hi 1 := by rw [rangeSize_one]; split <;> omega
    show IsRangeIter _ _ (lo + ((0 : Nat) : Int) * 1) ((((hi - lo).toNat : Nat) : Int) - ((0 : Nat) : Int)) 1
    rw [e1, e2]
    exact Heap.get?_push_size _ rfl
  · have e : b = (s.heap.push { cls := .type "range", data := .fields #[.int lo t, .int hi u, .int 1 v] }).objs.size := by simpa using hb
    subst e
    exact I1.fpOk (Nat.le_refl _) (I1.hok.fresh (Nat.le_refl _))
noncomputable def iRng1 (ta : TA) : TI := fun σ H R => ta σ H fun vs H1 => ∃ j : Int, vs = [.int j] ∧ -(2 ^ 62) ≤ j ∧ j < 2 ^ 62 ∧ R (Itr 0 j.toNat) H1
theorem pi_range1 {a : Expr} {ta : TA} {p pos : Pos} (hg : Gl X "range") (hm : X.mg "range" = none) (ha : PA X [a] ta) (hs : starEach [a] X.env = [(false, eval a X.env)] := by rfl) : PI X tg (.Call (.Name "range" p) [a] [] pos) (iRng1 ta) := by
  intro pins s σ H R I h
  refine Call_ (ld_blt I hg hm boot_range (PyProof.Rows.callWith_type1 (thn (ha pos pins s σ H _ I h) fun us s1 ⟨vs, H1, I1, r1, q1⟩ => ?_) hs rfl))
  obtain ⟨j, e, q1, q2, q⟩ := q1
  subst e
  cases r1 with
  | cons r rr =>
    cases rr
    obtain ⟨t, rfl⟩ := r
    exact call_range_1 (range_it I1 (by omega) (by omega) q1 q2 (by simpa using q))
noncomputable def tFor (wi : TI) (g : TG) (tb : TS) : TS := fun D σ H => wi σ H fun J H1 => ∃ W : Nat → Nat → St → Hp → Prop, (∃ m, W 0 m σ H1) ∧ ∀ i m σ H, W i m σ H →
  (J.stop i H ∧ D.nx σ H) ∨ (J.go i H ∧ ∃ N : St → Hp → Prop, (∀ σ' H', N σ' H' → ∃ m', m' < m ∧ W (i + 1) m' σ' H') ∧ ∀ x H', J.yld i H x H' → g x σ H' fun σ2 H2 => tb { D with nx := N, ct := N, bk := D.nx } σ2 H2)
noncomputable def pinsAt (fp : List Addr) (h : Heap) : List (Addr × Obj) := fp.filterMap fun b => (h.get? b).map fun o => (b, o)
theorem mem_pinsAt {fp : List Addr} {h : Heap} {b : Addr} {o : Obj} (hb : b ∈ fp) (e : h.get? b = some o) : (b, o) ∈ pinsAt fp h := List.mem_filterMap.mpr ⟨b, hb, by rw [e]; rfl⟩
theorem of_pinsAt {fp : List Addr} {h : Heap} {p : Addr × Obj} (hp : p ∈ pinsAt fp h) : p.1 ∈ fp ∧ h.get? p.1 = some p.2 := by
  obtain ⟨b, hb, e⟩ := List.mem_filterMap.mp hp
  cases q : h.get? b with
  | none => rw [q] at e; cases e
  | some o =>
    rw [q] at e
    have e' : (b, o) = p := Option.some.inj e
    subst e'
    exact ⟨hb, q⟩
theorem Inv.pinned {pins : List (Addr × Obj)} {σ : St} {H : Hp} {s : Shared} {fp : List Addr} (I : Inv X pins σ H s) (hf : ∀ b ∈ fp, FpOk X pins H b) (ho : ∀ b ∈ fp, ∃ o, s.heap.get? b = some o ∧ ∀ v, o.data ≠ .cell v) : Inv X (pins ++ pinsAt fp s.heap) σ H s :=
  I.pins_of fun p hp => (List.mem_append.mp hp).elim (fun z => I.pin p (List.mem_append_right _ z)) fun z => by
    obtain ⟨hb, e⟩ := of_pinsAt z
    obtain ⟨f0, f1, f2, _⟩ := hf p.1 hb
    obtain ⟨o, e', d⟩ := ho p.1 hb
    rw [e] at e'; cases e'
    exact ⟨e, f0, f1, f2, d⟩
theorem Inv.unpinned {pins pl : List (Addr × Obj)} {σ : St} {H : Hp} {s : Shared} (I : Inv X (pins ++ pl) σ H s) : Inv X pins σ H s := I.pins_of fun p hp => I.pin p (List.mem_append_right _ (List.mem_append_left _ hp))
theorem ps_for {iter : Expr} {body : List Stmt} {wi : TI} {g : TG} {tb : TS} {pos : Pos} (hp : PassesOwn (model X.prog X.w) X.A X.env X.xe) (hc : X.calm = true) (hi : PI X tg iter wi) (hg : PG X tg g) (hb : PSs X body tb)
    (hs : ∀ x, foldedSetIterable iter X.env x = pure x := by intro _; rfl) : PS X (.For tg iter body [] pos) (tFor wi g tb) := by
  intro pins s σ H D I h
  refine wpAny_For (thn (hi pins s σ H _ I h) fun v s1 h1 => thn h1 fun itv s2 h2 => ?_) hs
  obtain ⟨it, fp, tn, J, H2, e, I2, T, st2, f2, W, ⟨m0, w0⟩, turn⟩ := h2
  subst e
  -- what stays true of the iterator's objects through the loop
  have stat : ∀ {H' : Hp}, (∀ b ∈ fp, H' b = none) → ∀ b ∈ fp, FpOk X pins H' b := fun hn b hb => ⟨hn b hb, (f2 b hb).2⟩
  refine codeAny_forLoop_any (fun n s' => ∃ i σ' H', Inv X pins σ' H' s' ∧ tn i s'.heap ∧ (∀ b ∈ fp, H' b = none) ∧ W i n σ' H') ?_ m0 ⟨0, σ, H2, I2, st2, fun b hb => (f2 b hb).1, w0⟩
  rintro n s3 ⟨i, σ3, H3, I3, st3, fr3, w3⟩
  rcases turn i n σ3 H3 w3 with ⟨stop, qn⟩ | ⟨go, N, hN, step⟩
  · refine wpAny_passesOwn hp (thn (T.done X rfl rfl rfl hc i pins s3 σ3 H3 X.xe I3 (stat fr3) st3 stop) fun r s4 ⟨hr, I4⟩ => ?_)
    subst hr
    exact wpAny_execs_nil ⟨σ3, H3, I4, qn⟩
  · refine wpAny_passesOwn hp (thn (T.item X rfl rfl rfl hc i pins s3 σ3 H3 X.xe I3 (stat fr3) st3 go) fun r s4 ⟨u, hr, h4⟩ => ?_)
    subst hr
    refine wpAny_passesOwn hp (thn h4 fun _ s5 ⟨x, H5, I5, r5, y5, st5, fr5⟩ => ?_)
    have I5' := I5.pinned (stat fr5) (T.obj _ _ st5)
    refine wpAny_passesOwn hp (thn (hg _ s5 σ3 H5 x u _ I5' r5 (step x H5 y5)) fun _ s6 ⟨σ6, H6, I6, q6⟩ => ?_)
    refine wpAny_passesOwn hp (thn (hb _ s6 σ6 H6 _ I6 q6) fun f s7 q7 => ?_)
    have again : ∀ {σ7 : St} {H7 : Hp}, Inv X (pins ++ pinsAt fp s5.heap) σ7 H7 s7 → N σ7 H7 → ∃ m, m < n ∧ ∃ i σ' H', Inv X pins σ' H' s7 ∧ tn i s7.heap ∧ (∀ b ∈ fp, H' b = none) ∧ W i m σ' H' := fun {σ7 H7} I7 n7 => by
      obtain ⟨m', hm, w7⟩ := hN σ7 H7 n7
      refine ⟨m', hm, i + 1, σ7, H7, I7.unpinned, T.keep _ _ _ st5 fun b hb o e => (I7.pin (b, o) (List.mem_append_right _ (List.mem_append_right _ (mem_pinsAt hb e)))).1, fun b hb => ?_, w7⟩
      obtain ⟨o, e, d⟩ := T.obj _ _ st5 b hb
      exact (I7.pin (b, o) (List.mem_append_right _ (List.mem_append_right _ (mem_pinsAt hb e)))).2.1
    cases f with
    | next => obtain ⟨σ7, H7, I7, n7⟩ := q7; exact again I7 n7
    | cont => obtain ⟨σ7, H7, I7, n7⟩ := q7; exact again I7 n7
    | brk => obtain ⟨σ7, H7, I7, q7⟩ := q7; exact ⟨σ7, H7, I7.unpinned, q7⟩
    | ret v => obtain ⟨x7, σ7, H7, I7, r7, q7⟩ := q7; exact ⟨x7, σ7, H7, I7.unpinned, r7, q7⟩
end
theorem for_list {K : PySem.W.Frag} {a : Addr} {xs : List V} {g : TG} {tb : TS} {D : Ends} {σ : St} {H : Hp} (Pv : Nat → St → Hp → Prop) (h0 : Pv 0 σ H) (hl : ∀ i σ H, i ≤ xs.length → Pv i σ H → SqL K H a xs)
    (hs : ∀ i x σ H, xs[i]? = some x → Pv i σ H → g x σ H fun σ2 H2 => tb { D with nx := Pv (i + 1), ct := Pv (i + 1), bk := D.nx } σ2 H2) (hd : ∀ σ H, Pv xs.length σ H → D.nx σ H) :
    ∃ W : Nat → Nat → St → Hp → Prop, (∃ m, W 0 m σ H) ∧ ∀ i m σ H, W i m σ H →
      ((Itl K a).stop i H ∧ D.nx σ H) ∨ ((Itl K a).go i H ∧ ∃ N : St → Hp → Prop, (∀ σ' H', N σ' H' → ∃ m', m' < m ∧ W (i + 1) m' σ' H') ∧ ∀ x H', (Itl K a).yld i H x H' → g x σ H' fun σ2 H2 => tb { D with nx := N, ct := N, bk := D.nx } σ2 H2) := by
  refine ⟨fun i m σ H => m = xs.length - i ∧ i ≤ xs.length ∧ Pv i σ H, ⟨xs.length, by simp, Nat.zero_le _, h0⟩, ?_⟩
  rintro i m σ H ⟨rfl, hi, p⟩
  have q := hl i σ H hi p
  by_cases hlt : i < xs.length
  · refine .inr ⟨⟨xs, xs[i], q, by simp [hlt]⟩, Pv (i + 1), fun σ' H' p' => ⟨xs.length - (i + 1), by omega, rfl, hlt, p'⟩, fun x H' y => ?_⟩
    obtain ⟨e, y⟩ := y
    subst e
    exact hs i x σ _ (y xs q) p
  · have e : i = xs.length := by omega
    subst e
    exact .inl ⟨⟨xs, q, Nat.le_refl _⟩, hd σ H p⟩
theorem for_tup {K : PySem.W.Frag} {a : Addr} {xs : List V} {g : TG} {tb : TS} {D : Ends} {σ : St} {H : Hp} (Pv : Nat → St → Hp → Prop) (h0 : Pv 0 σ H) (hl : ∀ i σ H, i ≤ xs.length → Pv i σ H → SqT K H a xs)
    (hs : ∀ i x σ H, xs[i]? = some x → Pv i σ H → g x σ H fun σ2 H2 => tb { D with nx := Pv (i + 1), ct := Pv (i + 1), bk := D.nx } σ2 H2) (hd : ∀ σ H, Pv xs.length σ H → D.nx σ H) :
    ∃ W : Nat → Nat → St → Hp → Prop, (∃ m, W 0 m σ H) ∧ ∀ i m σ H, W i m σ H →
      ((Itt K a).stop i H ∧ D.nx σ H) ∨ ((Itt K a).go i H ∧ ∃ N : St → Hp → Prop, (∀ σ' H', N σ' H' → ∃ m', m' < m ∧ W (i + 1) m' σ' H') ∧ ∀ x H', (Itt K a).yld i H x H' → g x σ H' fun σ2 H2 => tb { D with nx := N, ct := N, bk := D.nx } σ2 H2) := by
  refine ⟨fun i m σ H => m = xs.length - i ∧ i ≤ xs.length ∧ Pv i σ H, ⟨xs.length, by simp, Nat.zero_le _, h0⟩, ?_⟩
  rintro i m σ H ⟨rfl, hi, p⟩
  have q := hl i σ H hi p
  by_cases hlt : i < xs.length
  · refine .inr ⟨⟨xs, xs[i], q, by simp [hlt]⟩, Pv (i + 1), fun σ' H' p' => ⟨xs.length - (i + 1), by omega, rfl, hlt, p'⟩, fun x H' y => ?_⟩
    obtain ⟨e, y⟩ := y
    subst e
    exact hs i x σ _ (y xs q) p
  · have e : i = xs.length := by omega
    subst e
    exact .inl ⟨⟨xs, q, Nat.le_refl _⟩, hd σ H p⟩
theorem for_range {lo : Int} {n : Nat} {g : TG} {tb : TS} {D : Ends} {σ : St} {H : Hp} (Pv : Nat → St → Hp → Prop) (h0 : Pv 0 σ H)
    (hs : ∀ i σ H, i < n → Pv i σ H → g (.int (lo + i)) σ H fun σ2 H2 => tb { D with nx := Pv (i + 1), ct := Pv (i + 1), bk := D.nx } σ2 H2) (hd : ∀ σ H, Pv n σ H → D.nx σ H) :
    ∃ W : Nat → Nat → St → Hp → Prop, (∃ m, W 0 m σ H) ∧ ∀ i m σ H, W i m σ H →
      ((Itr lo n).stop i H ∧ D.nx σ H) ∨ ((Itr lo n).go i H ∧ ∃ N : St → Hp → Prop, (∀ σ' H', N σ' H' → ∃ m', m' < m ∧ W (i + 1) m' σ' H') ∧ ∀ x H', (Itr lo n).yld i H x H' → g x σ H' fun σ2 H2 => tb { D with nx := N, ct := N, bk := D.nx } σ2 H2) := by
  refine ⟨fun i m σ H => m = n - i ∧ i ≤ n ∧ Pv i σ H, ⟨n, by simp, Nat.zero_le _, h0⟩, ?_⟩
  rintro i m σ H ⟨rfl, hi, p⟩
  by_cases hlt : i < n
  · refine .inr ⟨hlt, Pv (i + 1), fun σ' H' p' => ⟨n - (i + 1), by omega, rfl, hlt, p'⟩, fun x H' y => ?_⟩
    obtain ⟨e, y⟩ := y
    subst e y
    exact hs i σ _ hlt p
  · have e : i = n := by omega
    subst e
    exact .inl ⟨Nat.le_refl _, hd σ H p⟩
end L2
namespace L2
open PySem PySem.Spec PyProof.Rows
noncomputable abbrev R2 := V → V → Hp → VK → Prop
noncomputable def OpR (X : Cx) (f : Value → Value → Sem Value) (r : R2) : Prop :=
  ∀ (pins : List (Addr × Obj)) (s : Shared) (σ : St) (H : Hp) (x y : V) (v u : Value) (Q : VK), Inv X pins σ H s → RelV x v → RelV y u → r x y H Q →
    wpAny (model X.prog X.w) X.A (f v u) (EP X pins σ Q) X.xe s
noncomputable def UnR (X : Cx) (f : Value → Sem Value) (r : V → Hp → VK → Prop) : Prop :=
  ∀ (pins : List (Addr × Obj)) (s : Shared) (σ : St) (H : Hp) (x : V) (v : Value) (Q : VK), Inv X pins σ H s → RelV x v → r x H Q →
    wpAny (model X.prog X.w) X.A (f v) (EP X pins σ Q) X.xe s
noncomputable def CallR (X : Cx) (f : Value) (r : List V → Hp → VK → Prop) : Prop :=
  ∀ (pins : List (Addr × Obj)) (s : Shared) (σ : St) (H : Hp) (xs : List V) (us : List Value) (Q : VK), Inv X pins σ H s → Vals xs us → r xs H Q →
    wpAny (model X.prog X.w) X.A (call f us) (EP X pins σ Q) X.xe s
noncomputable def TruR (X : Cx) (r : V → Hp → (Bool → Hp → Prop) → Prop) : Prop :=
  ∀ (pins : List (Addr × Obj)) (s : Shared) (σ : St) (H : Hp) (x : V) (v : Value) (Q : Bool → Hp → Prop), Inv X pins σ H s → RelV x v → r x H Q →
    wpAny (model X.prog X.w) X.A (truthy v) (TP X pins σ Q) X.xe s
noncomputable def tOp (r : R2) (ta tb : TE) : TE := fun σ H Q => ta σ H fun x H1 => tb σ H1 fun y H2 => r x y H2 Q
noncomputable def tUn (r : V → Hp → VK → Prop) (ta : TE) : TE := fun σ H Q => ta σ H fun x H1 => r x H1 Q
noncomputable def rI (C : Int → Int → Prop) (g : Int → Int → V) : R2 := fun x y H Q => ∃ i j, x = .int i ∧ y = .int j ∧ C i j ∧ Q (g i j) H
noncomputable def rI0 (g : Int → Int → V) : R2 := fun x y H Q => ∃ i j, x = .int i ∧ y = .int j ∧ Q (g i j) H
noncomputable def rU (g : Int → V) : V → Hp → VK → Prop := fun x H Q => ∃ i, x = .int i ∧ Q (g i) H
section
variable {X : Cx} {a b c : Expr} {ta tb tc : TE} {pos : Pos}
theorem binT (ha : PE X a ta) (hb : PE X b tb) {pins : List (Addr × Obj)} {s : Shared} {σ : St} {H : Hp} {R : V → V → Hp → Prop} (I : Inv X pins σ H s)
    (h : ta σ H fun x H1 => tb σ H1 fun y H2 => R x y H2) {Q : Value → Shared → Prop} {f : Value → Value → Sem Value}
    (hf : ∀ v u s2 x y H2, Inv X pins σ H2 s2 → RelV x v → RelV y u → R x y H2 → wpAny (model X.prog X.w) X.A (f v u) Q X.xe s2) :
    wpAny (model X.prog X.w) X.A (eval a X.env) (fun v s₁ => wpAny (model X.prog X.w) X.A (eval b X.env) (fun u s₂ => wpAny (model X.prog X.w) X.A (f v u) Q X.xe s₂) X.xe s₁) X.xe s := by
  refine thn (ha pins s σ H _ I h) fun v s1 ⟨x, H1, I1, r1, q1⟩ => ?_
  refine thn (hb pins s1 σ H1 _ I1 q1) fun u s2 ⟨y, H2, I2, r2, q2⟩ => ?_
  exact hf v u s2 x y H2 I2 r1 r2 q2
theorem pe_op {op : Operator} {r : R2} (ho : OpR X (binaryOp op) r) (ha : PE X a ta) (hb : PE X b tb) : PE X (.BinOp a op b pos) (tOp r ta tb) := by
  intro pins s σ H Q I h
  exact wpAny_BinOp (binT ha hb I h fun v u s2 x y H2 I2 rx ry q => ho pins s2 σ H2 x y v u Q I2 rx ry q)
theorem pe_un {op : UnaryOp} {r : V → Hp → VK → Prop} (ho : UnR X (unaryOp op) r) (ha : PE X a ta) : PE X (.UnaryOp op a pos) (tUn r ta) := by
  intro pins s σ H Q I h
  exact UnaryOp_ (thn (ha pins s σ H _ I h) fun v s1 ⟨x, H1, I1, r1, q1⟩ => ho pins s1 σ H1 x v Q I1 r1 q1)
theorem opI {f : Value → Value → Sem Value} {C : Int → Int → Prop} {g : Int → Int → Int}
    (rule : ∀ (i j : Int) (t u : Tok) (s : Shared) (Q : Value → Shared → Prop) (E : Value → Shared → Prop), C i j → Q (.int (g i j) s.toks) { s with toks := s.toks + 1 } → wpAny (model X.prog X.w) X.A (f (.int i t) (.int j u)) Q E s) :
    OpR X f (rI C fun i j => .int (g i j)) := by
  intro pins s σ H x y v u Q I rx ry h
  obtain ⟨i, j, rfl, rfl, hc, q⟩ := h
  obtain ⟨t, rfl⟩ := rx
  obtain ⟨t', rfl⟩ := ry
  exact rule i j t t' s _ _ hc ⟨.int (g i j), H, I.tok _, ⟨_, rfl⟩, q⟩
theorem opI0 {f : Value → Value → Sem Value} {g : Int → Int → Int}
    (rule : ∀ (i j : Int) (t u : Tok) (s : Shared) (Q : Value → Shared → Prop) (E : Value → Shared → Prop), Q (.int (g i j) s.toks) { s with toks := s.toks + 1 } → wpAny (model X.prog X.w) X.A (f (.int i t) (.int j u)) Q E s) :
    OpR X f (rI0 fun i j => .int (g i j)) := by
  intro pins s σ H x y v u Q I rx ry h
  obtain ⟨i, j, rfl, rfl, q⟩ := h
  obtain ⟨t, rfl⟩ := rx
  obtain ⟨t', rfl⟩ := ry
  exact rule i j t t' s _ _ ⟨.int (g i j), H, I.tok _, ⟨_, rfl⟩, q⟩
theorem opB0 {f : Value → Value → Sem Value} {g : Int → Int → Bool}
    (rule : ∀ (i j : Int) (t u : Tok) (s : Shared) (Q : Value → Shared → Prop) (E : Value → Shared → Prop), Q (.bool (g i j)) s → wpAny (model X.prog X.w) X.A (f (.int i t) (.int j u)) Q E s) :
    OpR X f (rI0 fun i j => .bl (g i j)) := by
  intro pins s σ H x y v u Q I rx ry h
  obtain ⟨i, j, rfl, rfl, q⟩ := h
  obtain ⟨t, rfl⟩ := rx
  obtain ⟨t', rfl⟩ := ry
  exact rule i j t t' s _ _ ⟨.bl (g i j), H, I, rfl, q⟩
noncomputable def CDiv (i j : Int) : Prop := 0 < j ∧ j < 1073741824
noncomputable def CPow (i j : Int) : Prop := 0 ≤ j ∧ j ≤ 1000000 ∧ i.natAbs < 2 ^ 64
noncomputable def CMul (i j : Int) : Prop := (-(2 ^ 64) < i ∧ i < 2 ^ 64) ∨ (-(2 ^ 64) < j ∧ j < 2 ^ 64)
theorem CMul.ok {i j : Int} (h : CMul i j) : IntMulOk i j := by
  rcases h with ⟨h1, h2⟩ | ⟨h1, h2⟩
  · exact .of_left (intBits_le_64 h1 h2)
  · exact .of_right (intBits_le_64 h1 h2)
theorem op_add : OpR X (binaryOp .Add) (rI0 fun i j => .int (i + j)) := opI0 fun _ _ _ _ _ _ _ q => add_int q
theorem op_sub : OpR X (binaryOp .Sub) (rI0 fun i j => .int (i - j)) := opI0 fun _ _ _ _ _ _ _ q => sub_int q
theorem op_mul : OpR X (binaryOp .Mult) (rI CMul fun i j => .int (i * j)) := opI fun _ _ _ _ _ _ _ hc q => mul_int q hc.ok
theorem op_fdiv : OpR X (binaryOp .FloorDiv) (rI CDiv fun i j => .int (i / j)) := opI fun i j _ _ _ _ _ hc q => by
  have h1 : (0 : Int) < j := hc.1
  have h2 : j < 1073741824 := hc.2
  exact floordiv_int (by omega) (by rw [Int.fdiv_eq_ediv_of_nonneg i (by omega)]; exact q) (.inl (PyProof.noPylong_small (by omega)))
theorem op_mod : OpR X (binaryOp .Mod) (rI (fun _ j => 0 < j) fun i j => .int (i % j)) := opI fun i j _ _ _ _ _ hc q => by
  have h1 : (0 : Int) < j := hc
  exact mod_int' (by omega) (by rw [Int.fmod_eq_emod_of_nonneg i (by omega)]; exact q)
theorem op_shl : OpR X (binaryOp .LShift) (rI CPow fun i j => .int (i * 2 ^ j.toNat)) := opI fun _ _ _ _ _ _ _ hc q => lshift_int_small hc.1 hc.2.1 hc.2.2 q
theorem unI {f : Value → Sem Value} {g : Int → Int}
    (rule : ∀ (i : Int) (t : Tok) (s : Shared) (Q : Value → Shared → Prop) (E : Value → Shared → Prop), Q (.int (g i) s.toks) { s with toks := s.toks + 1 } → wpAny (model X.prog X.w) X.A (f (.int i t)) Q E s) :
    UnR X f (rU fun i => .int (g i)) := by
  intro pins s σ H x v Q I rx h
  obtain ⟨i, rfl, q⟩ := h
  obtain ⟨t, rfl⟩ := rx
  exact rule i t s _ _ ⟨.int (g i), H, I.tok _, ⟨_, rfl⟩, q⟩
theorem un_neg : UnR X (unaryOp .USub) (rU fun i => .int (-i)) := unI fun _ _ _ _ _ q => neg_int q
end
noncomputable def scal : V → V → Bool
  | .non, .non => true | .non, .int _ => true | .int _, .non => true | .non, .bl _ => true | .bl _, .non => true | .non, .str _ => true | .str _, .non => true
  | .int _, .int _ => true | .bl _, .bl _ => true | .str _, .str _ => true | .byt _, .byt _ => true
  | .int _, .str _ => true | .str _, .int _ => true | .bl _, .str _ => true | .str _, .bl _ => true
  | _, _ => false
noncomputable def rEq : R2 := fun x y H Q => scal x y = true ∧ Q (.bl (decide (x = y))) H
noncomputable def rNe : R2 := fun x y H Q => scal x y = true ∧ Q (.bl (!decide (x = y))) H
theorem dec_int {i j : Int} : decide (V.int i = V.int j) = (i == j) := by
  rw [Bool.eq_iff_iff]
  simp
theorem dec_bl {i j : Bool} : decide (V.bl i = V.bl j) = (i == j) := by
  rw [Bool.eq_iff_iff]
  simp
theorem dec_str {i j : Str} : decide (V.str i = V.str j) = (i == j) := by
  rw [Bool.eq_iff_iff]
  simp
theorem dec_byt {i j : Array UInt8} : decide (V.byt i = V.byt j) = (i.toList == j.toList) := by
  rw [Bool.eq_iff_iff]
  cases i
  cases j
  simp
section
variable {X : Cx} {a b c : Expr} {ta tb tc : TE} {pos : Pos}
theorem fin_bl {pins : List (Addr × Obj)} {σ : St} {H : Hp} {s : Shared} {Q : VK} {k k' : Bool} (I : Inv X pins σ H s) (q : Q (.bl k) H) (e : k = k') : EP X pins σ Q (.bool k') s := by
  subst e
  exact ⟨.bl k, H, I, rfl, q⟩
theorem op_eq : OpR X (compareOp .Eq) rEq := by
  intro pins s σ H x y v u Q I rx ry h
  obtain ⟨hs, q⟩ := h
  cases x with
  | non =>
    cases rx
    cases y with
    | non => cases ry; exact PySem.EqNone.eq_none_none (fin_bl I q (by simp))
    | bl j => cases ry; exact PySem.EqNone.eq_none_bool (fin_bl I q (by simp))
    | int j => obtain ⟨t', rfl⟩ := ry; exact PySem.EqNone.eq_none_int (fin_bl I q (by simp))
    | str j => obtain ⟨t', rfl⟩ := ry; exact PySem.EqNone.eq_none_str (fin_bl I q (by simp))
    | _ => exact absurd (show false = true from hs) Bool.false_ne_true
  | bl i =>
    cases rx
    cases y with
    | non => cases ry; exact PySem.EqNone.eq_bool_none (fin_bl I q (by simp))
    | bl j => cases ry; exact eq_bool (fin_bl I q dec_bl)
    | str j => obtain ⟨t', rfl⟩ := ry; exact PySem.EqMixed.eq_bool_str (fin_bl I q (by simp))
    | _ => exact absurd (show false = true from hs) Bool.false_ne_true
  | int i =>
    obtain ⟨t, rfl⟩ := rx
    cases y with
    | non => cases ry; exact PySem.EqNone.eq_int_none (fin_bl I q (by simp))
    | int j => obtain ⟨t', rfl⟩ := ry; exact eq_int (fin_bl I q dec_int)
    | str j => obtain ⟨t', rfl⟩ := ry; exact PySem.EqMixed.eq_int_str (fin_bl I q (by simp))
    | _ => exact absurd (show false = true from hs) Bool.false_ne_true
  | str i =>
    obtain ⟨t, rfl⟩ := rx
    cases y with
    | non => cases ry; exact PySem.EqNone.eq_str_none (fin_bl I q (by simp))
    | bl j => cases ry; exact PySem.EqMixed.eq_str_bool (fin_bl I q (by simp))
    | int j => obtain ⟨t', rfl⟩ := ry; exact PySem.EqMixed.eq_str_int (fin_bl I q (by simp))
    | str j => obtain ⟨t', rfl⟩ := ry; exact eq_str (fin_bl I q dec_str)
    | _ => exact absurd (show false = true from hs) Bool.false_ne_true
  | byt i =>
    obtain ⟨t, rfl⟩ := rx
    cases y with
    | byt j => obtain ⟨t', rfl⟩ := ry; exact PySem.W.eq_bytes (fin_bl I q dec_byt)
    | _ => exact absurd (show false = true from hs) Bool.false_ne_true
  | _ => cases y <;> exact absurd (show false = true from hs) Bool.false_ne_true
theorem op_ne : OpR X (compareOp .NotEq) rNe := by
  intro pins s σ H x y v u Q I rx ry h
  obtain ⟨hs, q⟩ := h
  cases x with
  | non =>
    cases rx
    cases y with
    | non => cases ry; exact PySem.EqNone.ne_none_none (fin_bl I q (by simp))
    | bl j => cases ry; exact PySem.EqNone.ne_none_bool (fin_bl I q (by simp))
    | int j => obtain ⟨t', rfl⟩ := ry; exact PySem.EqNone.ne_none_int (fin_bl I q (by simp))
    | str j => obtain ⟨t', rfl⟩ := ry; exact PySem.EqNone.ne_none_str (fin_bl I q (by simp))
    | _ => exact absurd (show false = true from hs) Bool.false_ne_true
  | bl i =>
    cases rx
    cases y with
    | non => cases ry; exact PySem.EqNone.ne_bool_none (fin_bl I q (by simp))
    | bl j => cases ry; exact ne_bool (fin_bl I q (congrArg not dec_bl))
    | str j => obtain ⟨t', rfl⟩ := ry; exact PySem.EqMixed.ne_bool_str (fin_bl I q (by simp))
    | _ => exact absurd (show false = true from hs) Bool.false_ne_true
  | int i =>
    obtain ⟨t, rfl⟩ := rx
    cases y with
    | non => cases ry; exact PySem.EqNone.ne_int_none (fin_bl I q (by simp))
    | int j => obtain ⟨t', rfl⟩ := ry; exact ne_int (fin_bl I q (congrArg not dec_int))
    | str j => obtain ⟨t', rfl⟩ := ry; exact PySem.EqMixed.ne_int_str (fin_bl I q (by simp))
    | _ => exact absurd (show false = true from hs) Bool.false_ne_true
  | str i =>
    obtain ⟨t, rfl⟩ := rx
    cases y with
    | non => cases ry; exact PySem.EqNone.ne_str_none (fin_bl I q (by simp))
    | bl j => cases ry; exact PySem.EqMixed.ne_str_bool (fin_bl I q (by simp))
    | int j => obtain ⟨t', rfl⟩ := ry; exact PySem.EqMixed.ne_str_int (fin_bl I q (by simp))
    | str j => obtain ⟨t', rfl⟩ := ry; exact ne_str (fin_bl I q (congrArg not dec_str))
    | _ => exact absurd (show false = true from hs) Bool.false_ne_true
  | byt i =>
    obtain ⟨t, rfl⟩ := rx
    cases y with
    | byt j => obtain ⟨t', rfl⟩ := ry; exact PySem.W.ne_bytes (fin_bl I q (congrArg not dec_byt))
    | _ => exact absurd (show false = true from hs) Bool.false_ne_true
  | _ => cases y <;> exact absurd (show false = true from hs) Bool.false_ne_true
theorem op_lt : OpR X (compareOp .Lt) (rI0 fun i j => .bl (decide (i < j))) := opB0 fun _ _ _ _ _ _ _ q => lt_int q
theorem op_gt : OpR X (compareOp .Gt) (rI0 fun i j => .bl (decide (j < i))) := opB0 fun _ _ _ _ _ _ _ q => gt_int q
theorem op_isN : OpR X (compareOp .Is) (fun x y H Q => y = .non ∧ Q (.bl (decide (x = .non))) H) := by
  intro pins s σ H x y v u Q I rx ry h
  obtain ⟨rfl, q⟩ := h
  cases ry
  refine is_none_gen (fin_bl I q ?_)
  cases x <;> first
    | (cases rx; rfl)
    | (obtain ⟨t, rfl⟩ := rx; rfl)
theorem op_notN : OpR X (compareOp .IsNot) (fun x y H Q => y = .non ∧ Q (.bl (!decide (x = .non))) H) := by
  intro pins s σ H x y v u Q I rx ry h
  obtain ⟨rfl, q⟩ := h
  cases ry
  refine isnot_none_gen (fin_bl I q ?_)
  cases x <;> first
    | (cases rx; rfl)
    | (obtain ⟨t, rfl⟩ := rx; rfl)
theorem nomark (b : Expr) {op : CmpOp} (h : op ≠ .In := by decide) (h2 : op ≠ .NotIn := by decide) : behindInMarks op b = false := by
  have e1 : (op == CmpOp.In) = false := by cases op <;> first | rfl | exact absurd rfl h
  have e2 : (op == CmpOp.NotIn) = false := by cases op <;> first | rfl | exact absurd rfl h2
  cases b <;> simp [behindInMarks, e1, e2]
theorem pe_cmpR {op : CmpOp} {r : R2} (ho : OpR X (compareOp op) r) (ha : PE X a ta) (hb : PE X b tb) (hm : behindInMarks op b = false) : PE X (.Compare a [op] [b] pos) (tOp r ta tb) := by
  intro pins s σ H Q I h
  exact wpAny_Compare1 (binT ha hb I h fun v u s2 x y H2 I2 rx ry q => ho pins s2 σ H2 x y v u Q I2 rx ry q) hm
noncomputable def tTest (t : TE) : TT := fun σ H Q => t σ H fun x H' => ∃ k, x = .bl k ∧ Q k H'
theorem pt_cmpR {op : CmpOp} {r : R2} (ho : OpR X (compareOp op) r) (ha : PE X a ta) (hb : PE X b tb) (hm : behindInMarks op b = false) : PT X (.Compare a [op] [b] pos) (tTest (tOp r ta tb)) := by
  intro pins s σ H Q I h
  refine wpAny_isTrue_Compare1 (thn (ha pins s σ H _ I h) fun v s1 ⟨x, H1, I1, r1, q1⟩ => thn (hb pins s1 σ H1 _ I1 q1) fun u s2 ⟨y, H2, I2, r2, q2⟩ =>
    thn (ho pins s2 σ H2 x y v u _ I2 r1 r2 q2) fun c s3 ⟨z, H3, I3, r3, k, e, q3⟩ => ?_) hm
  subst e
  cases r3
  exact wpAny_truthy_bool ⟨H3, I3, q3⟩
noncomputable def TruV (K : PySem.W.Frag) (x : V) (H : Hp) (k : Bool) : Prop :=
  match x with
  | .non => k = false
  | .bl b => k = b
  | .int i => k = (i != 0)
  | .str y => y.length ≤ sizeLine ∧ k = ((y.length : Int) != 0)
  | .byt y => y.size ≤ sizeLine ∧ k = ((y.size : Int) != 0)
  | .ref p => (∃ xs, SqL K H p xs ∧ k = !xs.isEmpty) ∨ (∃ xs, SqT K H p xs ∧ k = !xs.isEmpty) ∨ ∃ kvs, H p = some (.dK kvs) ∧ k = !kvs.isEmpty
  | _ => False
theorem isEmpty_kv {κ : Type} {kvs : List (κ × V)} {vs : List (κ × Value)} (r : KV kvs vs) : (!vs.isEmpty) = !kvs.isEmpty := by
  cases r <;> rfl
theorem isEmpty_of {xs : List V} {its : List Value} (r : Vals xs its) : (!its.toArray.isEmpty) = !xs.isEmpty := by
  cases r <;> simp
theorem line63 : (sizeLine : Nat) < 2 ^ 63 := by rw [sizeLine_eq]; decide
theorem tru_ok : TruR X (fun x H Q => ∃ k, TruV X.K x H k ∧ Q k H) := by
  intro pins s σ H x v Q I rx h
  obtain ⟨k, e, q⟩ := h
  have hl := line63
  have hs : sizeLine = 16777216 := sizeLine_eq
  cases x with
  | non =>
    cases rx
    have e' : k = false := e
    subst e'
    exact truthy_none ⟨H, I, q⟩
  | bl b =>
    cases rx
    have e' : k = b := e
    subst e'
    exact wpAny_truthy_bool ⟨H, I, q⟩
  | int i =>
    obtain ⟨t, rfl⟩ := rx
    have e' : k = (i != 0) := e
    subst e'
    exact PySem.P.truthy_int ⟨H, I, q⟩
  | str y =>
    obtain ⟨t, rfl⟩ := rx
    obtain ⟨hy, e'⟩ : y.length ≤ sizeLine ∧ k = ((y.length : Int) != 0) := e
    subst e'
    exact PySem.P.truthy_str (by omega) ⟨H, I.tok _, q⟩
  | byt y =>
    obtain ⟨t, rfl⟩ := rx
    obtain ⟨hy, e'⟩ : y.size ≤ sizeLine ∧ k = ((y.size : Int) != 0) := e
    subst e'
    exact PySem.W.truthy_bytes (by omega) ⟨H, I.tok _, q⟩
  | ref p =>
    cases rx
    have e' : (∃ xs, SqL X.K H p xs ∧ k = !xs.isEmpty) ∨ (∃ xs, SqT X.K H p xs ∧ k = !xs.isEmpty) ∨ ∃ kvs, H p = some (.dK kvs) ∧ k = !kvs.isEmpty := e
    rcases e' with ⟨xs, hx, e'⟩ | ⟨xs, hx, e'⟩ | ⟨kvs, hx, e'⟩
    · subst e'
      obtain ⟨its, r, pl, hz⟩ := I.list hx
      have hlen := r.length
      exact wpAny_truthy_list pl.isList (by simp only [List.size_toArray]; omega) ⟨H, I.tok _, by rw [isEmpty_of r]; exact q⟩
    · subst e'
      obtain ⟨its, r, pl, hz⟩ := I.tuple hx
      have hlen := r.length
      exact truthy_tuple pl (by simp only [List.size_toArray]; omega) ⟨H, I.tok _, by rw [isEmpty_of r]; exact q⟩
    · subst e'
      obtain ⟨hz, hS, vs, r, m⟩ : kvs.length ≤ sizeLine ∧ (p == sysModules) = false ∧ ∃ vs, KV kvs vs ∧ s.heap.DictOf (mixKind X.prog X.w) p vs := I.hok p _ hx
      have hlen : kvs.length = vs.length := Paired.length r
      exact wpAny_truthy_dict hS m (by omega) ⟨H, I.tok _, by rw [isEmpty_kv r]; exact q⟩
  | _ => exact (show False from e).elim
theorem pt_truth (ha : PE X a ta) (he : ∀ whole, isTrue a X.env whole = (do let v ← whole; standAt a.pos; holding [v] (truthy v))) :
    PT X a (fun σ H Q => ta σ H fun x H' => ∃ k, TruV X.K x H' k ∧ Q k H') := by
  intro pins s σ H Q I h
  exact isTrue_plain (thn (ha pins s σ H _ I h) fun v s1 ⟨x, H1, I1, r1, q1⟩ => tru_ok pins s1 σ H1 x v Q I1 r1 q1) (he _)
theorem vals1 {x : V} {us : List Value} (r : Vals [x] us) : ∃ u, us = [u] ∧ RelV x u := by
  cases r with
  | cons r1 r2 => cases r2; exact ⟨_, rfl, r1⟩
theorem vals2 {x y : V} {us : List Value} (r : Vals [x, y] us) : ∃ u w', us = [u, w'] ∧ RelV x u ∧ RelV y w' := by
  cases r with
  | cons r1 r2 =>
    cases r2 with
    | cons r3 r4 => cases r4; exact ⟨_, _, rfl, r1, r3⟩
theorem call_abs : CallR X (.builtin "abs") (fun xs H Q => ∃ i, xs = [.int i] ∧ Q (.int (if i < 0 then -i else i)) H) := by
  intro pins s σ H xs us Q I r h
  obtain ⟨i, rfl, q⟩ := h
  obtain ⟨u, rfl, t, rfl⟩ := vals1 r
  exact call_abs_int fun u tk => ⟨.int (if i < 0 then -i else i), H, I.tok _, ⟨_, rfl⟩, q⟩
end
end L2
namespace L2
open PySem PySem.Spec PyProof.Rows
structure ObjM (h : Heap) (x dx C : Addr) (mA : Str → Option Value) : Prop where
  obj : h.get? x = some (PySem.W.instObj C dx)
  ns : h.Ns1 dx mA
  ne : dx ≠ x
theorem lookIn_ns {h : Heap} {dx : Addr} {mA : Str → Option Value} (n : h.Ns1 dx mA) : ∃ od, h.get? dx = some od ∧ ∀ name, PySem.W.lookIn name od = some (mA name) := by
  obtain ⟨o, es, ep, ho, hd, hk, _, hm⟩ := n
  refine ⟨o, ho, fun name => ?_⟩
  have e := hm name
  unfold nsFind findBy at e
  rw [← Array.find?_toList] at e
  unfold PySem.W.lookIn
  rw [hd]
  dsimp only
  split
  · rename_i y q
    rw [q] at e
    exact congrArg some e
  · rename_i q
    rw [q] at e
    have a : es.toList.any (·.refKey) = false := by
      rw [List.any_eq_false]
      intro y hy
      obtain ⟨z, t, hkey⟩ := hk y (Array.mem_toList_iff.mp hy)
      simp [DictEntry.refKey, hkey]
    have a' : ¬ es.toList.any (·.refKey) = true := by rw [a]; exact Bool.false_ne_true
    rw [if_neg a']
    exact congrArg some e
theorem ObjM.look {h : Heap} {x dx C : Addr} {mA : Str → Option Value} (I : ObjM h x dx C mA) : ∃ od, PySem.W.InstAt h x (PySem.W.instObj C dx) C (some od) ∧ ∀ name, PySem.W.lookIn name od = some (mA name) :=
  let ⟨od, ho, hl⟩ := lookIn_ns I.ns
  ⟨od, ⟨I.obj, rfl, rfl, ho⟩, hl⟩
section
variable {prog : Program} {w : World} {A : Around} {E : Value → Shared → Prop} {s : Shared} {K : PySem.W.Frag} {x dx C f : Addr} {mA : Str → Option Value} {name : Str} {v : Value}
end
theorem RelO.some_of {v : V} {o : Option Value} (r : RelO (some v) o) : ∃ u, o = some u ∧ RelV v u := by
  cases o with
  | none => exact (show False from r).elim
  | some u => exact ⟨u, rfl, r⟩
section
variable {P : Program} {w : World} {H H' : Hp} {h h' : Heap} {a C dx : Addr} {fs fs' : List (Str × V)}
theorem ins_get (hok : HOk P w H h) (e : H a = some (.ins C dx fs)) : ∃ mA, ObjM h a dx C mA ∧ (∀ f, RelO (fs.lookup f) (mA f)) ∧ PySem.Within mA (fs.map (·.1)) ∧ fs.length ≤ 1000 ∧ H dx = some (.own a) := by
  obtain ⟨d, z, ne, ob, mA, n, r, q⟩ := (show ObjOk P w H h a (.ins C dx fs) from hok a _ e)
  exact ⟨mA, ⟨ob, n, ne⟩, r, q, z, d⟩
end
structure Cls (K : PySem.W.Frag) (C : Addr) : Prop where
  pg : PySem.W.plainGet K C Str.empty = true
  hd : PySem.W.hasDictIn K C = true
  po : PySem.W.plainOver K C = true
  sa : PySem.W.findIn K (.ref C) "__setattr__" = some (some (.builtin "object.__setattr__"))
theorem Cls.get {K : PySem.W.Frag} {C : Addr} (c : Cls K C) (f : Str) : PySem.W.plainGet K C f = true := c.pg
structure Con (K : PySem.W.Frag) (C : Addr) (f : Str) (v : V) (u : Value) : Prop where
  at_ : PySem.W.findIn K (.ref C) f = some (some u)
  rel : RelV v u
  get : PySem.W.specialIn K u "__get__" = some none
  cp : PySem.W.copiedNames.contains f = false
structure Meth (K : PySem.W.Frag) (C : Addr) (m : Str) (f : Addr) : Prop where
  at_ : PySem.W.findIn K (.ref C) m = some (some (.ref f))
  fn : PySem.W.isFn K (.ref f) = true
  kp : PySem.W.keepIn K (.ref f) = true
section
variable {X : Cx} {pins : List (Addr × Obj)} {σ : St} {H : Hp} {s : Shared} {a C dx : Addr} {fs : List (Str × V)} {f : Str} {v : V} {A : Around} {E : Value → Shared → Prop}
theorem Inv.made (I : Inv X pins σ H s) : Inv X pins σ (upd (upd H s.heap.objs.size (.own (s.heap.objs.size + 1))) (s.heap.objs.size + 1) (.ins C s.heap.objs.size []))
    { s with heap := (s.heap.push PySem.W.emptyDict).push (PySem.W.instObj C s.heap.objs.size) } := by
  have e1 : (s.heap.push PySem.W.emptyDict).get? s.heap.objs.size = some PySem.W.emptyDict := Heap.get?_push_size s.heap rfl
  have e2 : ((s.heap.push PySem.W.emptyDict).push (PySem.W.instObj C s.heap.objs.size)).get? (s.heap.objs.size + 1) = some (PySem.W.instObj C s.heap.objs.size) := by
    have := Heap.get?_push_size (s.heap.push PySem.W.emptyDict) (o := PySem.W.instObj C s.heap.objs.size) rfl
    rwa [Heap.size_push] at this
  have e3 : (s.heap.push PySem.W.emptyDict).Ns s.heap.objs.size (fun _ => none) := ⟨PySem.W.emptyDict, #[], _, e1, rfl, (fun e he => absurd he (by simp)), fun _ => rfl⟩
  have I1 := I.laid (a := s.heap.objs.size) (o := .own (s.heap.objs.size + 1)) (h' := s.heap.push PySem.W.emptyDict) (t' := s.toks) (fun b u q => Heap.get?_push_of_some _ q) (Nat.le_refl _) ⟨_, e1⟩
  refine I1.laid (a := s.heap.objs.size + 1) (o := .ins C s.heap.objs.size []) (t' := s.toks) (fun b u q => Heap.get?_push_of_some _ q) (Nat.le_of_eq (Heap.size_push _ _)) ?_
  have ne : s.heap.objs.size ≠ s.heap.objs.size + 1 := Nat.ne_of_lt (Nat.lt_succ_self _)
  refine ⟨by rw [upd_ne ne, upd_same], Nat.zero_le _, ne, e2, fun _ => none, (Heap.Ns1.of_empty e3).at fun o q => Heap.get?_push_of_some _ q, fun _ => True.intro, fun y hy => absurd rfl hy⟩
end
section
variable {X : Cx} {o e value : Expr} {f : Str} {pos pos' tpos : Pos} {ta tv : TE}
end
section
variable {X : Cx} {pins : List (Addr × Obj)} {σ : St} {H : Hp} {s : Shared} {A : Around} {E : Value → Shared → Prop} {Q : Value → Shared → Prop} {c : Value} {b : Bool}
inductive TyOf (K : PySem.W.Frag) (H : Hp) : V → Value → Prop where
  | non : TyOf K H .non (.type "NoneType")
  | bl (x : Bool) : TyOf K H (.bl x) (.type "bool")
  | int (i : Int) : TyOf K H (.int i) (.type "int")
  | str (x : Str) : TyOf K H (.str x) (.type "str")
  | flt (x : UInt64) : TyOf K H (.flt x) (.type "float")
  | lst {a : Addr} {xs : List V} (e : H a = some (.lst xs)) : TyOf K H (.ref a) (.type "list")
  | frz {a : Addr} {o : Obj} {xs : List V} (e : H a = some (.frz o (.lst xs))) : TyOf K H (.ref a) (.type "list")
  | tup {a : Addr} {xs : List V} (e : H a = some (.tup xs)) : TyOf K H (.ref a) (.type "tuple")
  | dK {a : Addr} {kvs : List (Key × V)} (e : H a = some (.dK kvs)) : TyOf K H (.ref a) (.type "dict")
  | dT {a : Addr} {kvs : List (List Key × V)} (e : H a = some (.dT kvs)) : TyOf K H (.ref a) (.type "dict")
  | ins {a C dx : Addr} {fs : List (Str × V)} (e : H a = some (.ins C dx fs)) (cl : Cls K C) (ha : PySem.W.findIn K (.ref C) "__class__" = some (some (.builtin "object.__class__")))
      (hn : PySem.W.specialIn K (.builtin "object.__class__") "__get__" = some (some (.builtin "getset_descriptor.__get__"))) (htk : PySem.W.takesIn K (.builtin "object.__class__") = some true)
      (hm : PySem.W.mroIn K C (.type "object") = some true) : TyOf K H (.ref a) (.ref C)
theorem isinst_ok {x : V} {u t : Value} (I : Inv X pins σ H s) (rx : RelV x u) (ty : TyOf X.K H x t) (e : PySem.W.kitOne X.K t c = some b) (h : ∀ tk, Q (.bool b) { s with toks := tk }) :
    wpAny (model X.prog X.w) A (call (.builtin "isinstance") [u, c]) Q E s := by
  cases ty with
  | non => cases (show u = Value.none from rx); exact PySem.W.kia_one PySem.W.kitx_none I.kIn True.intro e (fun z => nomatch z) h
  | bl y => cases (show u = Value.bool y from rx); exact PySem.W.kia_one PySem.W.kitx_bool I.kIn True.intro e (fun z => nomatch z) h
  | int i => obtain ⟨t, q⟩ := (show ∃ t, u = Value.int i t from rx); cases q; exact PySem.W.kia_one PySem.W.kitx_int I.kIn True.intro e (fun z => nomatch z) h
  | str y => obtain ⟨t, q⟩ := (show ∃ t, u = Value.str y t from rx); cases q; exact PySem.W.kia_one PySem.W.kitx_str I.kIn True.intro e (fun z => nomatch z) h
  | flt y => obtain ⟨t, q⟩ := (show ∃ t, u = Value.float y t from rx); cases q; exact PySem.W.kia_one PySem.W.kitx_float I.kIn True.intro e (fun z => nomatch z) h
  | @lst a xs ea =>
    cases (show u = Value.ref a from rx)
    obtain ⟨_, _, n, _, h1⟩ := (show ObjOk X.prog X.w H s.heap a (.lst xs) from I.hok a _ ea)
    exact PySem.W.kia_one PySem.W.kitx_list I.kIn ⟨_, h1, rfl⟩ e (fun z => nomatch z) h
  | @frz a ob xs ea =>
    cases (show u = Value.ref a from rx)
    obtain ⟨_, _, _, n, _, h1⟩ := (show ObjOk X.prog X.w H s.heap a (.frz ob (.lst xs)) from I.hok a _ ea)
    exact PySem.W.kia_one PySem.W.kitx_list I.kIn ⟨_, h1, rfl⟩ e (fun z => nomatch z) h
  | @tup a xs ea =>
    cases (show u = Value.ref a from rx)
    obtain ⟨_, _, _, p, _⟩ := (show ObjOk X.prog X.w H s.heap a (.tup xs) from I.hok a _ ea)
    obtain ⟨o, h1, h2, _⟩ := p
    exact PySem.W.kia_one PySem.W.kitx_tuple I.kIn ⟨o, h1, h2⟩ e (fun z => nomatch z) h
  | @dK a kvs ea =>
    cases (show u = Value.ref a from rx)
    obtain ⟨_, _, vs, _, p⟩ := (show ObjOk X.prog X.w H s.heap a (.dK kvs) from I.hok a _ ea)
    obtain ⟨o, es, ep, h1, h2, _⟩ := p
    exact PySem.W.kia_one PySem.W.kitx_dict I.kIn ⟨o, h1, h2.1⟩ e (fun z => nomatch z) h
  | @dT a kvs ea =>
    cases (show u = Value.ref a from rx)
    obtain ⟨_, _, xs, _, o, es, ep, h1, h2, _⟩ := (show ObjOk X.prog X.w H s.heap a (.dT kvs) from I.hok a _ ea)
    exact PySem.W.kia_one PySem.W.kitx_dict I.kIn ⟨o, h1, h2.1⟩ e (fun z => nomatch z) h
  | @ins a C dx fs ea cl ha hn htk hm =>
    cases (show u = Value.ref a from rx)
    obtain ⟨mA, O, _⟩ := ins_get I.hok ea
    obtain ⟨od, J, _⟩ := O.look
    exact PySem.W.kia_one (PySem.W.kitx_own (cl.get _) cl.hd ha hn htk hm) I.kIn J e (fun z => nomatch z) h
end
end L2
namespace L2
open PySem PySem.Spec PyProof.Rows
structure Room (k : Nat) (A : Around) : Prop where
  hd : A.handled = none
  dp : A.depth + 3 * k + 5 < recursionLimit
  un : A.units + 16 * k + 200 < cLine
theorem Room.mono {j k : Nat} {A : Around} (r : Room k A) (h : j ≤ k) : Room j A := ⟨r.hd, by have := r.dp; omega, by have := r.un; omega⟩
theorem Room.deeper {k : Nat} {A : Around} (r : Room (k + 1) A) (env : Env) : Room k (A.deeper env) :=
  ⟨r.hd, by have := r.dp; show A.depth + 1 + 3 * k + 5 < _; omega, by have := r.un; show A.units + 3 + 16 * k + 200 < _; omega⟩
theorem Room.in1 {k : Nat} {A : Around} (r : Room (k + 1) A) : Room k A.in1 :=
  ⟨r.hd, by have := r.dp; show A.depth + 3 * k + 5 < _; omega, by have := r.un; show A.units + 1 + 16 * k + 200 < _; omega⟩
theorem Room.depth {k : Nat} {A : Around} (r : Room k A) : A.depth < recursionLimit := by have := r.dp; omega
theorem Room.units {k : Nat} {A : Around} (r : Room k A) : A.units + 64 < cLine := by have := r.un; omega
theorem Room.units0 {k : Nat} {A : Around} (r : Room k A) : A.units < cLine := by have := r.un; omega
noncomputable def tNil : TA := fun _ H Q => Q [] H
noncomputable def tCons (ta : TE) (tr : TA) : TA := fun σ H Q => ta σ H fun x H1 => tr σ H1 fun xs H2 => Q (x :: xs) H2
section
variable {X : Cx} {e : Expr} {es : List Expr} {te : TE} {t : TA} {pos : Pos}
theorem pa_nil : PA X [] tNil := fun _ _ _ _ H Q I h => Calls.spliced_nil ⟨[], H, I, .nil, h⟩
theorem pa_cons (ha : PE X e te) (hr : PA X es t) (hs : starEach (e :: es) X.env = (false, eval e X.env) :: starEach es X.env := by rfl) : PA X (e :: es) (tCons te t) := by
  intro pos pins s σ H Q I h
  rw [hs]
  show wpAny _ _ (spliced ((false, eval e X.env) :: backTo pos (starEach es X.env))) _ _ s
  refine Calls.spliced_cons (thn (ha pins s σ H _ I h) fun u s1 ⟨x, H1, I1, r1, q1⟩ => ?_)
  exact thn (hr pos pins s1 σ H1 _ I1 q1) fun us s2 ⟨xs, H2, I2, r2, q2⟩ => ⟨x :: xs, H2, I2, .cons r1 r2, q2⟩
noncomputable def tTup (t : TA) : TE := fun σ H Q => t σ H fun xs H1 => xs.length ≤ sizeLine ∧ ∀ p, H1 p = none → Q (.ref p) (upd H1 p (.tup xs))
noncomputable def tLst (t : TA) : TE := fun σ H Q => t σ H fun xs H1 => xs.length ≤ sizeLine ∧ ∀ p, H1 p = none → Q (.ref p) (upd H1 p (.lst xs))
theorem pe_tup {x1} (h : PA X es t) : PE X (.Tuple es x1 pos) (tTup t) := by
  intro pins s σ H Q I hq
  refine wpAny_Tuple_spliced (thn (h pos pins s σ H _ I hq) fun us s1 ⟨xs, H1, I1, r, z, q⟩ => ⟨by rw [← r.length]; exact z, ?_⟩)
  have hf : H1 s1.heap.objs.size = none := I1.hok.fresh (Nat.le_refl _)
  refine ⟨.ref s1.heap.objs.size, upd H1 s1.heap.objs.size (.tup xs), I1.laid (t' := s1.toks) (fun b u e => Heap.get?_push_of_some _ e) (Nat.le_refl _) ?_, rfl, q _ hf⟩
  exact ⟨z, us, r, ⟨_, Heap.get?_push_size _ rfl, rfl, _, rfl⟩, _, Heap.get?_push_size _ rfl, rfl⟩
theorem pe_lst (h : PA X es t) : PE X (.List es pos) (tLst t) := by
  intro pins s σ H Q I hq
  refine wpAny_List_spliced (thn (h pos pins s σ H _ I hq) fun us s1 ⟨xs, H1, I1, r, z, q⟩ => ⟨by rw [← r.length]; exact z, ?_⟩)
  have hf : H1 s1.heap.objs.size = none := I1.hok.fresh (Nat.le_refl _)
  refine ⟨.ref s1.heap.objs.size, upd H1 s1.heap.objs.size (.lst xs), I1.laid (t' := s1.toks) (fun b u e => Heap.get?_push_of_some _ e) (Nat.le_refl _) ?_, rfl, q _ hf⟩
  exact ⟨z, us, 0, r, Heap.get?_push_size _ rfl⟩
end
noncomputable abbrev Sp := List V → Hp → VK → XK → Prop
noncomputable abbrev CXT := List Env → Hp → Shared → XK → Value → Shared → Prop
structure Env0 (P : Program) (w : World) (K : PySem.W.Frag) (mg : Str → Option Value) (base : Heap) (A : Around) (outer : List Env) (s : Shared) (H : Hp) : Prop where
  frames : A.frames = some outer
  mod : Mod K mg base
  bs : ∀ b o, base.get? b = some o → s.heap.get? b = some o ∧ H b = none
  bsz : base.objs.size ≤ s.heap.objs.size
  funs : s.heap.FunFrames base outer
  frf : ∀ b ∈ frs outer, H b = none
  hok : HOk P w H s.heap
  bare : AllBare s.gens
noncomputable def CE (outer : List Env) (P : Program) (w : World) (H : Hp) (s : Shared) (Q : VK) (u : Value) (s' : Shared) : Prop :=
  ∃ v H', s'.os = s.os ∧ AllBare s'.gens ∧ Un (frs outer) [] H H' s.heap s'.heap ∧ HOk P w H' s'.heap ∧ RelV v u ∧ Q v H'
noncomputable def CR (CX : CXT) (outer : List Env) (P : Program) (w : World) (H : Hp) (s : Shared) (Q : VK) (E : XK) (r : Result) (s' : Shared) : Prop :=
  match r with
  | .ok (.ret u) => CE outer P w H s Q u s'
  | .ok _ => False
  | .error e => CX outer H s E e s'
structure FnOk (P : Program) (w : World) (K : PySem.W.Frag) (mg : Str → Option Value) (base : Heap) (CX : CXT) (k : Nat) (f : Addr) (fd : FuncData) (ps : List Str) (sp : Sp) : Prop where
  len : ∀ vs H Q E, sp vs H Q E → vs.length = ps.length
  run : ∀ (A : Around) (outer : List Env) (s : Shared) (H : Hp) (args : Args) (us : List Value) (vs : List V) (Q : VK) (E : XK), Room k A → Env0 P w K mg base A outer s H → BindsTo s fd args (ps.zip us) → Vals vs us → sp vs H Q E →
    codeAny (model P w) A (.call (.ref f) args) (CR CX outer P w H s Q E) s
theorem FnOk.mono {P : Program} {w : World} {K : PySem.W.Frag} {mg : Str → Option Value} {base : Heap} {CX : CXT} {j k : Nat} {f : Addr} {fd : FuncData} {ps : List Str} {sp : Sp} (F : FnOk P w K mg base CX j f fd ps sp) (h : j ≤ k) :
    FnOk P w K mg base CX k f fd ps sp := ⟨F.len, fun A outer s H args us vs Q E hr => F.run A outer s H args us vs Q E (hr.mono h)⟩
theorem FnOk.imp {P : Program} {w : World} {K : PySem.W.Frag} {mg : Str → Option Value} {base : Heap} {CX : CXT} {k : Nat} {f : Addr} {fd : FuncData} {ps : List Str} {sp sp' : Sp} (F : FnOk P w K mg base CX k f fd ps sp)
    (h : ∀ vs H Q E, sp' vs H Q E → sp vs H Q E) : FnOk P w K mg base CX k f fd ps sp' :=
  ⟨fun vs H Q E q => F.len vs H Q E (h _ _ _ _ q), fun A outer s H args us vs Q E hr he hb hv hs => F.run A outer s H args us vs Q E hr he hb hv (h _ _ _ _ hs)⟩
theorem Env0.in1 {P : Program} {w : World} {K : PySem.W.Frag} {mg : Str → Option Value} {base : Heap} {A : Around} {outer : List Env} {s : Shared} {H : Hp} (e : Env0 P w K mg base A outer s H) :
    Env0 P w K mg base A.in1 outer s H := ⟨e.frames, e.mod, e.bs, e.bsz, e.funs, e.frf, e.hok, e.bare⟩
section
variable {X : Cx} {pins : List (Addr × Obj)} {σ : St} {H : Hp} {s s' : Shared}
theorem Inv.env0 (I : Inv X pins σ H s) : Env0 X.prog X.w X.K X.mg X.base X.A X.stack s H :=
  ⟨I.ok.frames, I.ok.mod, I.bs, Nat.le_trans I.ok.bsz I.sz, I.stack, I.stkFree, I.hok, I.bare⟩
theorem Inv.after {Q : VK} {u : Value} (I : Inv X pins σ H s) (h : CE X.stack X.prog X.w H s Q u s') : EP X pins σ Q u s' := by
  obtain ⟨v, H', os, bare, un, hok, r, q⟩ := h
  obtain ⟨hh, g, d, t, os'⟩ := s'
  obtain rfl : os' = s.os := os
  exact ⟨v, H', I.call (h' := hh) (g' := g) (d' := d) (t' := t) (ch := []) un hok bare (fun b z => absurd z (by simp)), r, q⟩
end
noncomputable def tCall (sp : Sp) (dvs : List V) (E : XK) (t : TA) : TE := fun σ H Q => t σ H fun vs H1 => sp (vs ++ dvs) H1 Q E
noncomputable def Binds (K : PySem.W.Frag) (fd : FuncData) (ps : List Str) (ds : List Value) : Prop :=
  ∀ (s : Shared) (us : List Value), K.In s.heap → (us ++ ds).length = ps.length → BindsTo s fd ⟨us, []⟩ (ps.zip (us ++ ds))
theorem Binds.all {K : PySem.W.Frag} {fd : FuncData} {ps : List Str} (h : ∀ us : List Value, us.length = ps.length → bindArgs fd ⟨us, []⟩ = pure (ps.zip us)) : Binds K fd ps [] := fun s us _ hl => by
  rw [List.append_nil] at hl ⊢
  exact .of_eq (h us hl)
noncomputable def Passes (CX : CXT) (X : Cx) (E : XK) : Prop := ∀ (pins : List (Addr × Obj)) (σ : St) (H : Hp) (s : Shared) (e : Value) (s' : Shared), Inv X pins σ H s → CX X.stack H s E e s' → X.xe e s'
section
variable {X : Cx} {CX : CXT} {k : Nat} {f C : Addr} {fd : FuncData} {ps : List Str} {sp : Sp} {dvs : List V} {ds : List Value} {E : XK} {x m : Str} {p pos apos : Pos} {e o : Expr} {es : List Expr} {ta : TE} {t : TA}
theorem run_fn {pins : List (Addr × Obj)} {σ : St} {H : Hp} {s : Shared} {Q : VK} {us : List Value} {vs : List V} (F : FnOk X.prog X.w X.K X.mg X.base CX k f fd ps sp) (hr : Room k X.A) (hb : Binds X.K fd ps ds) (hd : Vals dvs ds) (hx : Passes CX X E)
    (I : Inv X pins σ H s) (r : Vals vs us) (h : sp (vs ++ dvs) H Q E) : wpAny (model X.prog X.w) X.A (call (.ref f) us) (EP X pins σ Q) X.xe s := by
  have r2 : Vals (vs ++ dvs) (us ++ ds) := r.append hd
  have hl : (us ++ ds).length = ps.length := by rw [← r2.length]; exact F.len _ _ _ _ h
  refine wpAny_call (codeAny_mono (F.run X.A X.stack s H ⟨us, []⟩ (us ++ ds) (vs ++ dvs) Q E hr I.env0 (hb s us I.kIn hl) r2 h) fun r s' hq => ?_)
  cases r with
  | error e => exact hx pins σ H s e s' I hq
  | ok fl =>
    cases fl with
    | ret u => exact I.after hq
    | next => exact False.elim hq
    | brk => exact False.elim hq
    | cont => exact False.elim hq
theorem pe_call (F : FnOk X.prog X.w X.K X.mg X.base CX k f fd ps sp) (hr : Room k X.A) (hg : Gl X x) (hm : X.mg x = some (.ref f)) (hk : PySem.W.keepIn X.K (.ref f) = true) (hb : Binds X.K fd ps ds) (hd : Vals dvs ds) (hx : Passes CX X E)
    (ha : PA X (e :: es) t) (hdb : (x == ("__debug__" : Str)) = false := by decide) (he : starEach (e :: es) X.env = (false, eval e X.env) :: starEach es X.env := by rfl) (hpl : (backTo pos (starEach es X.env)).any (·.1) = false := by rfl) :
    PE X (.Call (.Name x p) (e :: es) [] pos) (tCall sp dvs E t) := by
  intro pins s σ H Q I h
  refine wpAny_Call_Name_kw (ld_glob I hg hm ?_ hdb)
  refine PySem.W.callWith_K (h₀ := X.base) I.ok.mod.kin hk (thn (ha pos pins s σ H _ I h) fun us s1 ⟨vs, H1, I1, r, q⟩ => ⟨I1.kIn, ?_⟩) he hpl
  exact run_fn F hr hb hd hx I1 r q
structure Mk (K : PySem.W.Frag) (C f : Addr) : Prop where
  makes : PySem.W.makesIn K C = true
  init : PySem.W.findIn K (.ref C) "__init__" = some (some (.ref f))
  fn : PySem.W.isFn K (.ref f) = true
  kp : PySem.W.keepIn K (.ref C) = true
end
section
variable {X : Cx} {CX : CXT} {k : Nat} {f C : Addr} {fd : FuncData} {ps ks : List Str} {sp : Sp} {E : XK} {x m : Str} {p pos apos kpos : Pos} {e o : Expr} {es : List Expr} {kws : List Keyword} {te ta : TE} {t tk : TA} {nm : Option Str}
structure KBinds (K : PySem.W.Frag) (fd : FuncData) (ps ks : List Str) (g : List Value → List Value → List Value) (gV : List V → List V → List V) : Prop where
  to : ∀ (s : Shared) (us ws : List Value), K.In s.heap → (g us ws).length = ps.length → BindsTo s fd ⟨us, ks.zip ws⟩ (ps.zip (g us ws))
  rel : ∀ {vs : List V} {us : List Value} {zs : List V} {ws : List Value}, Vals vs us → Vals zs ws → Vals (gV vs zs) (g us ws)
variable {g : List Value → List Value → List Value} {gV : List V → List V → List V}
end
structure FnScope (N P : List Str) (sc : Scope) : Prop where
  kind : sc.kind = .function
  co : sc.isCoroutine = false
  gen : sc.isGenerator = false
  nd : N.Nodup
  pre : N.take P.length = P
  par : ∀ x ∈ P, sc.names.lookup x = some .local ∨ sc.names.lookup x = some .cell
  nofree : ∀ y ∈ sc.names, y.2 ≠ .free
theorem bindL_out {kindOf : Str → Option NameKind} {x : Str} : ∀ {binds : List (Str × Value)} {m : Str → Option Value}, (∀ v, (x, v) ∉ binds) → bindL kindOf binds m x = m x
  | [], _, _ => rfl
  | (n, v) :: r, m, h => by
    unfold bindL
    rw [bindL_out fun w hw => h w (List.mem_cons_of_mem _ hw)]
    split
    · have : x ≠ n := by rintro rfl; exact h v List.mem_cons_self
      simp [this]
    · rfl
theorem bindC_out {kindOf : Str → Option NameKind} {x : Str} : ∀ {binds : List (Str × Value)} {m : Str → Option Value}, (∀ v, (x, v) ∉ binds) → bindC kindOf binds m x = m x
  | [], _, _ => rfl
  | (n, v) :: r, m, h => by
    unfold bindC
    rw [bindC_out fun w hw => h w (List.mem_cons_of_mem _ hw)]
    split
    · rfl
    · have : x ≠ n := by rintro rfl; exact h v List.mem_cons_self
      simp [this]
theorem bindL_get {kindOf : Str → Option NameKind} {x : Str} {v : Value} : ∀ {P : List Str} {vs : List Value} {i : Nat} {m : Str → Option Value}, P.Nodup → P[i]? = some x → vs[i]? = some v → kindOf x = some .local →
    bindL kindOf (P.zip vs) m x = some v
  | [], _, _, _, _, h, _, _ => by simp at h
  | _ :: _, [], _, _, _, _, h, _ => by simp at h
  | p :: P, w :: vs, 0, m, nd, h1, h2, hk => by
    simp at h1 h2; subst h1; subst h2
    show bindL kindOf ((p, w) :: P.zip vs) m p = _
    unfold bindL
    rw [bindL_out fun v hv => (List.nodup_cons.mp nd).1 (List.of_mem_zip hv).1, if_pos hk]
    simp
  | p :: P, w :: vs, i + 1, m, nd, h1, h2, hk => by
    show bindL kindOf ((p, w) :: P.zip vs) m x = _
    unfold bindL
    exact bindL_get (i := i) (List.nodup_cons.mp nd).2 (by simpa using h1) (by simpa using h2) hk
theorem bindC_get {kindOf : Str → Option NameKind} {x : Str} {v : Value} : ∀ {P : List Str} {vs : List Value} {i : Nat} {m : Str → Option Value}, P.Nodup → P[i]? = some x → vs[i]? = some v → kindOf x ≠ some .local →
    bindC kindOf (P.zip vs) m x = some v
  | [], _, _, _, _, h, _, _ => by simp at h
  | _ :: _, [], _, _, _, _, h, _ => by simp at h
  | p :: P, w :: vs, 0, m, nd, h1, h2, hk => by
    simp at h1 h2; subst h1; subst h2
    show bindC kindOf ((p, w) :: P.zip vs) m p = _
    unfold bindC
    rw [bindC_out fun v hv => (List.nodup_cons.mp nd).1 (List.of_mem_zip hv).1, if_neg hk]
    simp
  | p :: P, w :: vs, i + 1, m, nd, h1, h2, hk => by
    show bindC kindOf ((p, w) :: P.zip vs) m x = _
    unfold bindC
    exact bindC_get (i := i) (List.nodup_cons.mp nd).2 (by simpa using h1) (by simpa using h2) hk
noncomputable def start (N : List Str) (vs : List V) : St := vs.map some ++ List.replicate (N.length - vs.length) none
noncomputable def cxOf (CX : CXT) (P : Program) (w : World) (K : PySem.W.Frag) (mg : Str → Option Value) (base : Heap) (N : List Str) (qual : Str) (scope : Scope) (f : Addr) (cd : Value) (A : Around) (outer : List Env) (s : Shared) (H : Hp) (E : XK) : Cx where
  prog := P
  w := w
  K := K
  mg := mg
  base := base
  A := A.deeper (envOfC qual scope s.heap.objs.size f cd)
  N := N
  s₀ := s
  H₀ := H
  env := envOfC qual scope s.heap.objs.size f cd
  outer := outer
  stack := envOfC qual scope s.heap.objs.size f cd :: outer
  ex := []
  calm := true
  fn := fun _ => true
  pn := []
  xe := fun e s' => wpAny (model P w) (A.deeper (envOfC qual scope s.heap.objs.size f cd)) (leaving (envOfC qual scope s.heap.objs.size f cd) e) (fun _ s'' => CX outer H s E e s'') (fun e' s'' => CX outer H s E e' s'') s'
theorem cell_has {sc : Scope} {n : Nat} {x : Str} (h : sc.names.lookup x = some .cell) : ∃ c, (cellsFrom n sc.names []).lookup x = some c := by
  have q := PySem.W.cellsFrom_some sc.names n [] (.inl h)
  exact Option.isSome_iff_exists.mp q
theorem inv_start {CX : CXT} {P : Program} {w : World} {K : PySem.W.Frag} {mg : Str → Option Value} {base : Heap} {N ps : List Str} {qual : Str} {scope : Scope} {f : Addr} {cd : Value} {A : Around} {outer : List Env} {s s1 : Shared} {H : Hp} {E : XK} {us : List Value} {vs : List V}
    (S : FnScope N ps scope) (hd : A.handled = none) (e0 : Env0 P w K mg base A outer s H) (hl : vs.length = ps.length) (r : Vals vs us)
    (x : InCallC s s.heap.objs.size (bindL (envOfC qual scope s.heap.objs.size f cd).kindOf (ps.zip us) fun _ => none) (cellsFrom (s.heap.objs.size + 1) scope.names []) (bindC (envOfC qual scope s.heap.objs.size f cd).kindOf (ps.zip us) fun _ => none) s1) :
    Inv (cxOf CX P w K mg base N qual scope f cd A outer s H E) [] (start N vs) H s1 := by
  have hpl : ps.length ≤ N.length := by have := congrArg List.length S.pre; rw [List.length_take] at this; omega
  obtain ⟨h1, tk, rfl, hk⟩ := x.done
  have noA : ∀ b : Addr, b ∉ (cxOf CX P w K mg base N qual scope f cd A outer s H E).ex := fun b z => absurd (show b ∈ ([] : List Addr) from z) (by simp)
  refine ⟨⟨e0.mod, S.kind, rfl, rfl, Nat.le_refl _, fun y z c h1 h2 => ?_, fun y hy => ?_, fun y c _ h => ?_, fun _ => hd, Around.frames_deeper e0.frames, .inr ⟨rfl, rfl⟩, fun b z => absurd z (noA b), e0.bs, e0.bsz, fun b _ _ => noA b, fun b z => absurd z (noA b), e0.funs, e0.frf⟩,
    rfl, e0.bare, Un.kept hk, ⟨_, x.toInCall.ns, fun i y v h1 h2 h3 => ?_⟩, fun y c h => ⟨_, x.cell y c h⟩, e0.hok.fresh (Nat.le_refl _), fun y c h => ?_, fun p hp => absurd (show p ∈ ([] : List (Addr × Obj)) from hp) (by simp), e0.hok.kept hk, ?_⟩
  · exact name_of_addr x.apart (PySem.mem_of_lookup h1) (PySem.mem_of_lookup h2)
  · have hy : scope.names.lookup y = some .cell ∨ scope.names.lookup y = some .free := hy
    rcases hy with hy | hy
    · exact cell_has hy
    · exact absurd rfl (S.nofree _ (PySem.mem_of_lookup hy))
  · exact Nat.le_of_lt (x.above y c (PySem.mem_of_lookup h))
  · have hi : i < vs.length := by
      unfold start at h2
      by_cases hi : i < vs.length
      · exact hi
      · rw [List.getElem?_append_right (by simpa using hi)] at h2
        rw [List.getElem?_replicate] at h2
        split at h2 <;> cases h2
    have ha : vs[i]? = some v := by
      unfold start at h2
      rw [List.getElem?_append_left (by simpa using hi), List.getElem?_map] at h2
      cases e : vs[i]? with
      | none => rw [e] at h2; cases h2
      | some a => rw [e] at h2; cases h2; rfl
    obtain ⟨u, hu, rv⟩ := r.get ha
    have hp : ps[i]? = some y := by
      rw [← S.pre, List.getElem?_take_of_lt (by omega)]; exact h1
    have ndP : ps.Nodup := by rw [← S.pre]; exact S.nd.sublist (List.take_sublist _ _)
    refine ⟨u, rv, ?_⟩
    rcases S.par y (List.mem_of_getElem? hp) with k | k
    · exact .inl ⟨k, bindL_get ndP hp hu k⟩
    · obtain ⟨c, e⟩ := cell_has (n := s.heap.objs.size + 1) k
      refine .inr ⟨.inl k, c, e, ?_⟩
      have q := x.cell y c e
      rw [bindC_get ndP hp hu (by show scope.names.lookup y ≠ _; rw [k]; decide)] at q
      exact q
  · exact e0.hok.fresh (Nat.le_of_lt (x.above y c (PySem.mem_of_lookup h)))
  · unfold start
    show _ = N.length
    rw [List.length_append, List.length_map, List.length_replicate]
    omega
theorem fn_of {CX : CXT} {P : Program} {w : World} {K : PySem.W.Frag} {mg : Str → Option Value} {base : Heap} {k : Nat} {f : Addr} {name qual : Str} {params : Arguments} {body : List Stmt} {scope : Scope} {dV kV doc pm cdv ct oc : Value} {an od : Option Addr}
    {osl : Array (Option Value)} {N ps : List Str} {sp : Sp} (lk : K.lookup f = some ⟨oc, od, .func (PySem.W.fnOf name qual params body scope dV kV doc pm an cdv ct), osl⟩) (hcd : PySem.W.codeIn K cdv qual = true) (S : FnScope N ps scope)
    (len : ∀ vs H Q E, sp vs H Q E → vs.length = ps.length)
    (hbody : ∀ (A : Around) (outer : List Env) (s : Shared) (H : Hp) (vs : List V) (Q : VK) (E : XK), Room k (A.deeper (envOfC qual scope s.heap.objs.size f cdv)) → sp vs H Q E →
      ∃ t, PSs (cxOf CX P w K mg base N qual scope f cdv A outer s H E) body t ∧ t { nx := fun _ H' => Q .non H', rt := Q } (start N vs) H) :
    FnOk P w K mg base CX (k + 1) f (PySem.W.fnOf name qual params body scope dV kV doc pm an cdv ct) ps sp := by
  refine ⟨len, fun A outer s H args us vs Q E hr e0 hb r hsp => ?_⟩
  have hl := len _ _ _ _ hsp
  have KX : K.In s.heap := e0.mod.kin.keeps fun b o e => (e0.bs b o e).1
  have lim : s.heap.NoLimit := e0.mod.nolimit.keeps fun b o e => (e0.bs b o e).1
  have hkind : ∀ y ∈ ps.zip us, scope.names.lookup y.1 = some .local ∨ (scope.names.lookup y.1 = some .cell ∧ ((cellsFrom (s.heap.objs.size + 1) scope.names []).lookup y.1).isSome = true) := fun ⟨n, v⟩ hy => by
    rcases S.par n (List.of_mem_zip hy).1 with q | q
    · exact .inl q
    · exact .inr ⟨q, PySem.W.cellsFrom_some _ _ _ (.inl q)⟩
  refine codeAny_call_function hr.depth (KX _ _ lk) rfl S.co S.gen rfl (PySem.W.codeRec_of KX hcd) (hb _ _ _ _ ?_)
  refine wpAny_newFunctionEnv_cells S.kind hkind fun env he s1 x => ?_
  subst he
  refine ⟨lim.keeps x.toInCall.keep, codeAny_func ?_⟩
  obtain ⟨t, ht, hq⟩ := hbody A outer s H vs Q E (hr.deeper _) hsp
  have I : Inv (cxOf CX P w K mg base N qual scope f cdv A outer s H E) [] (start N vs) H s1 := inv_start S hr.hd e0 hl r x
  refine wpAny_mono (ht [] s1 (start N vs) H _ I hq) (fun fl s' hs => ?_) fun e s' hs => hs
  have fin : ∀ {σ' : St} {H' : Hp} {v : V} {u : Value}, Inv (cxOf CX P w K mg base N qual scope f cdv A outer s H E) [] σ' H' s' → RelV v u → Q v H' → CE outer P w H s Q u s' :=
    fun {σ' H' v u} J rv q => ⟨v, H', J.os, J.bare, J.base, J.hok, rv, q⟩
  cases fl with
  | ret u =>
    obtain ⟨v, σ', H', J, rv, q⟩ := hs
    exact fin J rv q
  | next =>
    obtain ⟨σ', H', J, q⟩ := hs
    exact fin (v := V.non) (u := Value.none) J rfl q
  | brk =>
    obtain ⟨_, _, _, q⟩ := hs
    exact False.elim q
  | cont =>
    obtain ⟨_, _, _, q⟩ := hs
    exact False.elim q
end L2
namespace L2
open PySem PySem.Spec PyProof.Rows
section
variable {X : Cx} {x : Str} {p pos : Pos} {e : Expr} {es : List Expr} {t : TA} {id T : String} {r : List V → Hp → VK → Prop}
noncomputable def tCB (r : List V → Hp → VK → Prop) (t : TA) : TE := fun σ H Q => t σ H fun vs H1 => r vs H1 Q
theorem pe_callB (hc : CallR X (.builtin id) r) (hg : Gl X x) (hm : X.mg x = none) (hv : bootBuiltins x = some (.builtin id)) (ha : PA X (e :: es) t) (hn : x ≠ "__name__" := by decide) (hdb : (x == ("__debug__" : Str)) = false := by decide)
    (he : starEach (e :: es) X.env = (false, eval e X.env) :: starEach es X.env := by rfl) (hpl : (backTo pos (starEach es X.env)).any (·.1) = false := by rfl) : PE X (.Call (.Name x p) (e :: es) [] pos) (tCB r t) := by
  intro pins s σ H Q I h
  refine wpAny_Call_Name_kw (ld_blt I hg hm hv ?_ hn hdb)
  exact PyProof.Rows.callWith_builtin1 (thn (ha pos pins s σ H _ I h) fun us s1 ⟨vs, H1, I1, r1, q1⟩ => hc pins s1 σ H1 vs us Q I1 r1 q1) he hpl
theorem pe_callTy (hc : CallR X (.type T) r) (hg : Gl X x) (hm : X.mg x = none) (hv : bootBuiltins x = some (.type T)) (ha : PA X (e :: es) t) (hn : x ≠ "__name__" := by decide) (hdb : (x == ("__debug__" : Str)) = false := by decide)
    (he : starEach (e :: es) X.env = (false, eval e X.env) :: starEach es X.env := by rfl) (hpl : (backTo pos (starEach es X.env)).any (·.1) = false := by rfl) : PE X (.Call (.Name x p) (e :: es) [] pos) (tCB r t) := by
  intro pins s σ H Q I h
  refine wpAny_Call_Name_kw (ld_blt I hg hm hv ?_ hn hdb)
  exact PyProof.Rows.callWith_type1 (thn (ha pos pins s σ H _ I h) fun us s1 ⟨vs, H1, I1, r1, q1⟩ => hc pins s1 σ H1 vs us Q I1 r1 q1) he hpl
end
end L2
namespace HT
open PySem PyProof.Rows
section
open PySem.SeqAt
open PySem.AutoSeq1 (wpAny_loadPart')
open PySem.MeetsSeq PySem.MeetsSeq2 PySem.MeetsSeq3
end
section
variable {prog : Program} {w : World} {A : Around} {E : Value → Shared → Prop} {s : Shared}
theorem cat_tup {t b : Addr} {vs ws : List Value} {Q : Value → Shared → Prop} (ht : IsTup s.heap t vs.toArray) (hb : IsTup s.heap b ws.toArray) (hv : vs ≠ [])
    (h1 : ws = [] → Q (.ref t) s) (h2 : ws ≠ [] → Q (.ref s.heap.objs.size) { s with heap := s.heap.push { cls := .type "tuple", data := .seq (vs ++ ws).toArray } })
    (hsz : vs.length + ws.length ≤ sizeLine) : wpAny (model prog w) A (binaryOp .Add (.ref t) (.ref b)) Q E s := by
  obtain ⟨⟨cls, dd, data, sl⟩, ho, hc, n, hd⟩ := id ht
  obtain ⟨⟨cls2, dd2, data2, sl2⟩, ho2, hc2, n2, hd2⟩ := id hb
  simp only at hc hd hc2 hd2
  subst hc hd hc2 hd2
  have e : vs.toArray ++ ws.toArray = (vs ++ ws).toArray := by simp
  by_cases hw : ws = []
  · exact concat_meets ⟨_, ho, rfl⟩ ⟨_, ho2, rfl⟩ noFill_tuple_add seq_tuple_add PySem.F.slot_tuple_add PySem.F.entry_tuple_add (PySem.F.args_tuple_add_2 _ _)
      (tuple_addW1 t b vs.toArray ws.toArray n n2 dd dd2 sl sl2 (by simpa using hv) (by simp [hw])) ⟨ho, ho2, h1 hw⟩
  · refine concat_meets ⟨_, ho, rfl⟩ ⟨_, ho2, rfl⟩ noFill_tuple_add seq_tuple_add PySem.F.slot_tuple_add PySem.F.entry_tuple_add (PySem.F.args_tuple_add_2 _ _)
      (tuple_addW2 t b vs.toArray ws.toArray n n2 dd dd2 sl sl2 (by simpa using hv) (by simpa using hw) (by rw [List.size_toArray, List.size_toArray]; exact hsz)) ⟨ho, ho2, ?_⟩
    rw [e]
    exact h2 hw
end
end HT
namespace L2
open PySem PySem.Spec PyProof.Rows
noncomputable abbrev TO := St → Hp → (Option Int → Hp → Prop) → Prop
theorem intsAre_of {ns : List Int} : ∀ {us : List Value}, Vals (ns.map V.int) us → IntsAre us ns := by
  induction ns with
  | nil => intro us r; rw [List.map_nil] at r; cases r; exact .nil
  | cons n ns ih =>
    intro us r
    rw [List.map_cons] at r
    cases r with
    | cons r1 r2 =>
      obtain ⟨t, e⟩ := r1
      subst e
      exact .cons n t (ih r2)
section
variable {X : Cx} {e : Expr} {te : TE} {lo hi : Option Expr} {tl th : TO} {pos p2 : Pos}
noncomputable def rCatT (K : PySem.W.Frag) : R2 := fun x y H Q => ∃ a b xs ys, x = .ref a ∧ y = .ref b ∧ SqT K H a xs ∧ SqT K H b ys ∧ xs ≠ [] ∧ xs.length + ys.length ≤ sizeLine ∧
  (ys = [] → Q (.ref a) H) ∧ (ys ≠ [] → ∀ p, H p = none → Q (.ref p) (upd H p (.tup (xs ++ ys))))
theorem Vals.nil_iff {xs : List V} {us : List Value} (r : Vals xs us) : us = [] ↔ xs = [] := by
  cases r with
  | nil => simp
  | cons _ _ => simp
theorem op_catT : OpR X (binaryOp .Add) (rCatT X.K) := by
  intro pins s σ H x y v u Q I rx ry h
  obtain ⟨a, b, xs, ys, rfl, rfl, ha, hb, hx, hz, q1, q2⟩ := h
  cases rx
  cases ry
  obtain ⟨its, r1, p1, _⟩ := I.tuple ha
  obtain ⟨its2, r2, p2, _⟩ := I.tuple hb
  refine HT.cat_tup p1 p2 (fun z => hx (r1.nil_iff.mp z)) (fun z => ⟨.ref a, H, I, rfl, q1 (r2.nil_iff.mp z)⟩) (fun z => ?_) (by rw [← r1.length, ← r2.length]; exact hz)
  refine ⟨.ref s.heap.objs.size, _, I.laid (t' := s.toks) (o := .tup (xs ++ ys)) (fun b ob q => Heap.get?_push_of_some _ q) (Nat.le_refl _) ?_, rfl, q2 (fun w => z (r2.nil_iff.mpr w)) _ (I.hok.fresh (Nat.le_refl _))⟩
  exact ⟨by rw [List.length_append]; exact hz, _, r1.append r2, IsTup.new _ _, _, Heap.get?_push_size _ rfl, rfl⟩
end
end L2
namespace L2
open PySem PySem.Spec PyProof.Rows
noncomputable def ixN (n : Nat) (i : Int) : Option Nat := if 0 ≤ i then (if i < n then some i.toNat else none) else if -(n : Int) ≤ i then some (i + n).toNat else none
noncomputable def atI {α : Type} (xs : List α) (i : Int) : Option α := (ixN xs.length i).bind fun j => xs[j]?
theorem ixN_seq {n : Nat} {i : Int} {j : Nat} (h : ixN n i = some j) : seqIndex? i n = some j ∧ j < n ∧ -(n : Int) ≤ i ∧ i < n := by
  unfold ixN at h
  by_cases h0 : 0 ≤ i
  · rw [if_pos h0] at h
    by_cases h1 : i < n
    · rw [if_pos h1] at h
      have e : i.toNat = j := Option.some.inj h
      exact ⟨by rw [seqIndex_of h0 h1, e], by omega, by omega, h1⟩
    · rw [if_neg h1] at h; cases h
  · rw [if_neg h0] at h
    by_cases h1 : -(n : Int) ≤ i
    · rw [if_pos h1] at h
      have e : (i + n).toNat = j := Option.some.inj h
      exact ⟨by rw [seqIndex_neg (by omega) h1, e], by omega, h1, by omega⟩
    · rw [if_neg h1] at h; cases h
theorem atI_get {α : Type} {xs : List α} {i : Int} {v : α} (h : atI xs i = some v) : ∃ j, seqIndex? i xs.length = some j ∧ xs[j]? = some v ∧ j < xs.length ∧ -(xs.length : Int) ≤ i ∧ i < xs.length := by
  unfold atI at h
  cases e : ixN xs.length i with
  | none => rw [e] at h; cases h
  | some j =>
    rw [e] at h
    obtain ⟨h1, h2, h3, h4⟩ := ixN_seq e
    exact ⟨j, h1, h, h2, h3, h4⟩
theorem atI_nat {α : Type} {xs : List α} {j : Nat} {v : α} (h : xs[j]? = some v) : atI xs (j : Int) = some v := by
  have hj : j < xs.length := (List.getElem?_eq_some_iff.mp h).1
  have e : ixN xs.length (j : Int) = some j := by
    unfold ixN
    rw [if_pos (by omega), if_pos (by omega)]; simp
  unfold atI; rw [e]; exact h
noncomputable def PlainIx (b : Expr) : Prop := ∀ o i, subscripted b false o i = operate [o, i] (getItem o i)
noncomputable def IxR (X : Cx) (r : R2) : Prop :=
  ∀ (value slice : Expr) (pins : List (Addr × Obj)) (s : Shared) (σ : St) (H : Hp) (x y : V) (v u : Value) (Q : VK), Inv X pins σ H s → RelV x v → RelV y u → r x y H Q →
    subscripted slice false v u = operate [v, u] (getItem v u) → wpAny (model X.prog X.w) X.A (subscriptTail value slice v u) (EP X pins σ Q) X.xe s
noncomputable def MtR (X : Cx) (id : String) (r : V → List V → Hp → VK → Prop) : Prop :=
  ∀ (pins : List (Addr × Obj)) (s : Shared) (σ : St) (H : Hp) (x : V) (xs : List V) (v : Value) (us : List Value) (Q : VK), Inv X pins σ H s → RelV x v → Vals xs us → r x xs H Q →
    wpAny (model X.prog X.w) X.A (call (.builtin id) (v :: us)) (EP X pins σ Q) X.xe s
section
variable {X : Cx} {a b : Expr} {ta tb : TE} {pos : Pos}
theorem pe_ix {r : R2} (hr : IxR X r) (ha : PE X a ta) (hb : PE X b tb) (hs : PlainIx b) : PE X (.Subscript a b pos) (tOp r ta tb) := by
  intro pins s σ H Q I h
  exact Subscript_ (binT ha hb I h fun v u s2 x y H2 I2 rx ry q => hr a b pins s2 σ H2 x y v u Q I2 rx ry q (hs _ _))
noncomputable def rIxL (K : PySem.W.Frag) : R2 := fun x y H Q => ∃ p xs i v, x = .ref p ∧ y = .int i ∧ SqL K H p xs ∧ atI xs i = some v ∧ Q v H
noncomputable def rIxT (K : PySem.W.Frag) : R2 := fun x y H Q => ∃ p xs i v, x = .ref p ∧ y = .int i ∧ SqT K H p xs ∧ atI xs i = some v ∧ Q v H
theorem ix_list : IxR X (rIxL X.K) := by
  intro value slice pins s σ H x y v u Q I rx ry h hs
  obtain ⟨p, xs, i, z, rfl, rfl, hq, he, q⟩ := h
  cases rx
  obtain ⟨t, rfl⟩ := ry
  obtain ⟨its, r, pl, hz⟩ := I.list hq
  obtain ⟨j, h1, h2, h3, h4, h5⟩ := atI_get he
  obtain ⟨w, ew, rw'⟩ := r.get h2
  have hl := r.length
  have hn := line63
  have fin : EP X pins σ Q w s := ⟨z, H, I, rw', q⟩
  by_cases h0 : 0 ≤ i
  · have hj : i.toNat = j := by
      rw [seqIndex_of h0 h5] at h1
      exact Option.some.inj h1
    exact item_listR pl.isList h0 (by omega) (by rw [hj]; simpa using ew) fin hs
  · have hj : (i + (its.toArray.size : Int)).toNat = j := by
      rw [seqIndex_neg (by omega) h4] at h1
      rw [List.size_toArray, ← hl]
      exact Option.some.inj h1
    exact subscriptTail_builtinR (x := w) pl.isList.typeIs slot_list_getitem.lookup
      (wpAny_getItem_list_neg (Q := fun r s' => r = w ∧ EP X pins σ Q r s') pl.isList (by omega) (by rw [List.size_toArray] <;> omega) (by omega) (by rw [hj]; simpa using ew) ⟨rfl, fin⟩) hs
theorem ix_tup : IxR X (rIxT X.K) := by
  intro value slice pins s σ H x y v u Q I rx ry h hs
  obtain ⟨p, xs, i, z, rfl, rfl, hq, he, q⟩ := h
  cases rx
  obtain ⟨t, rfl⟩ := ry
  obtain ⟨its, r, pl, hz⟩ := I.tuple hq
  obtain ⟨j, h1, h2, h3, h4, h5⟩ := atI_get he
  obtain ⟨w, ew, rw'⟩ := r.get h2
  have hl := r.length
  have hn := line63
  have fin : EP X pins σ Q w s := ⟨z, H, I, rw', q⟩
  exact subscriptTail_builtinR (x := w) pl.typeIs slot_tuple_getitem.lookup
    (getItem_tuple (j := j) (Q := fun r s' => r = w ∧ EP X pins σ Q r s') pl (by omega) (by omega) (by rw [List.size_toArray, ← hl]; exact h1) (by simpa using ew) ⟨rfl, fin⟩) hs
theorem Inv.lst {pins : List (Addr × Obj)} {σ : St} {H : Hp} {s : Shared} {p : Addr} {xs : List V} (I : Inv X pins σ H s) (h : H p = some (.lst xs)) :
    ∃ (its : List Value) (n : Nat), Vals xs its ∧ s.heap.get? p = some { cls := .type "list", data := .seq its.toArray n } ∧ xs.length ≤ sizeLine := by
  obtain ⟨z, its, n, r, e⟩ := I.hok p _ h
  exact ⟨its, n, r, e, z⟩
noncomputable def flatV : V → Bool
  | .non => true
  | .bl _ => true
  | .int _ => true
  | .str _ => true
  | _ => false
noncomputable def eqV : V → V → Bool
  | .non, .non => true
  | .bl a, .bl b => a == b
  | .bl a, .int b => (if a then 1 else 0) == b
  | .int a, .bl b => a == (if b then 1 else 0)
  | .int a, .int b => a == b
  | .str a, .str b => a == b
  | _, _ => false
theorem eqAt_V {A : Around} {s : Shared} {y x : V} {u v : Value} (ry : RelV y u) (rx : RelV x v) (fy : flatV y = true) (fx : flatV x = true) : SeqAt.EqAt A s u v (eqV y x) := by
  cases y with
  | non =>
    cases ry
    cases x with
    | non => cases rx; exact SeqAt.EqAt.same _
    | bl b => cases rx; exact SeqAt.EqAt.none_bool b
    | int b => obtain ⟨t, rfl⟩ := rx; exact SeqAt.EqAt.none_int b t
    | str b => obtain ⟨t, rfl⟩ := rx; exact SeqAt.EqAt.none_str b t
    | _ => exact absurd (show false = true from fx) Bool.false_ne_true
  | bl a =>
    cases ry
    cases x with
    | non => cases rx; exact SeqAt.EqAt.bool_none a
    | bl b => cases rx; exact SeqAt.EqAt.bool_bool a b
    | int b => obtain ⟨t, rfl⟩ := rx; exact SeqAt.EqAt.bool_int a b t
    | str b => obtain ⟨t, rfl⟩ := rx; exact SeqAt.EqAt.bool_str a b t
    | _ => exact absurd (show false = true from fx) Bool.false_ne_true
  | int a =>
    obtain ⟨t', rfl⟩ := ry
    cases x with
    | non => cases rx; exact SeqAt.EqAt.int_none a t'
    | bl b => cases rx; exact SeqAt.EqAt.int_bool a t' b
    | int b => obtain ⟨t, rfl⟩ := rx; exact SeqAt.EqAt.int_int a t' b t
    | str b => obtain ⟨t, rfl⟩ := rx; exact SeqAt.EqAt.int_str a t' b t
    | _ => exact absurd (show false = true from fx) Bool.false_ne_true
  | str a =>
    obtain ⟨t', rfl⟩ := ry
    cases x with
    | non => cases rx; exact SeqAt.EqAt.str_none a t'
    | bl b => cases rx; exact SeqAt.EqAt.str_bool a t' b
    | int b => obtain ⟨t, rfl⟩ := rx; exact SeqAt.EqAt.str_int a t' b t
    | str b => obtain ⟨t, rfl⟩ := rx; exact SeqAt.EqAt.str_str a t' b t
    | _ => exact absurd (show false = true from fx) Bool.false_ne_true
  | _ => exact absurd (show false = true from fy) Bool.false_ne_true
theorem call_len_seq : CallR X (.builtin "len") (fun xs H Q => ∃ p ys, xs = [.ref p] ∧ (SqL X.K H p ys ∨ SqT X.K H p ys) ∧ Q (.int ys.length) H) := by
  intro pins s σ H xs us Q I r h
  obtain ⟨p, ys, rfl, hq, q⟩ := h
  obtain ⟨u, rfl, rx⟩ := vals1 r
  cases rx
  have hn := line63
  rcases hq with hq | hq
  · obtain ⟨its, r', pl, hz⟩ := I.list hq
    have hlen := r'.length
    exact Calls.call_len_list pl.isList (by simp only [List.size_toArray] <;> omega) ⟨.int ys.length, H, I.tok _, ⟨s.toks + 1, by rw [List.size_toArray, hlen]⟩, q⟩
  · obtain ⟨its, r', pl, hz⟩ := I.tuple hq
    have hlen := r'.length
    exact len_tuple pl (by simp only [List.size_toArray] <;> omega) ⟨.int ys.length, H, I.tok _, ⟨s.toks + 1, by rw [List.size_toArray, hlen]⟩, q⟩
theorem call_tuple_of : CallR X (.type "tuple") (fun xs H Q => ∃ p ys, xs = [.ref p] ∧ ((SqL X.K H p ys ∧ ∀ l, H l = none → Q (.ref l) (upd H l (.tup ys))) ∨ (SqT X.K H p ys ∧ Q (.ref p) H))) := by
  intro pins s σ H xs us Q I r h
  obtain ⟨p, ys, rfl, h⟩ := h
  obtain ⟨u, rfl, rx⟩ := vals1 r
  cases rx
  rcases h with ⟨hq, q⟩ | ⟨hq, q⟩
  · obtain ⟨its, r', pl, hz⟩ := I.list hq
    have hlen := r'.length
    refine call_tuple_list pl.isList (fun h' kp => ?_) (by simp only [List.size_toArray] <;> omega)
    have I1 : Inv X pins σ H { s with heap := h' } := I.kept (t' := s.toks) kp
    have I2 : Inv X pins σ (upd H h'.objs.size (.tup ys)) { s with heap := h'.push { cls := .type "tuple", data := .seq its.toArray } } :=
      I1.laid (t' := s.toks) (fun b o e => Heap.get?_push_of_some _ e) (Nat.le_refl _) (show ObjOk X.prog X.w _ _ _ (.tup ys) from ⟨hz, its, r', IsTup.new _ _, _, Heap.get?_push_size _ rfl, rfl⟩)
    exact ⟨.ref h'.objs.size, _, I2, rfl, q _ (I1.hok.fresh (Nat.le_refl _))⟩
  · obtain ⟨its, r', pl, hz⟩ := I.tuple hq
    exact call_tuple_same pl ⟨.ref p, H, I, rfl, q⟩
noncomputable def tyV (K : PySem.W.Frag) (T : String) (x : V) (H : Hp) : Prop := match x with
  | .str _ => T = "str"
  | .int _ => T = "int"
  | .ref p => (T = "list" ∧ ∃ xs, SqL K H p xs) ∨ (T = "tuple" ∧ ∃ o, K.lookup p = some o ∧ o.cls = .type "tuple" ∧ o.dict = none) ∨
      (T = "dict" ∧ ((∃ kvs, H p = some (.dK kvs)) ∨ ∃ kvs, H p = some (.dT kvs))) ∨ (T = "set" ∧ ∃ S n, H p = some (.set S n))
  | _ => False
theorem tyV_is {pins : List (Addr × Obj)} {σ : St} {H : Hp} {s : Shared} {T : String} {x : V} {v : Value} (I : Inv X pins σ H s) (r : RelV x v) (ty : tyV X.K T x H) :
    s.TypeIs v T ∧ ∀ a, v = .ref a → ∃ ob, s.heap.get? a = some ob ∧ ob.dict = none := by
  cases x with
  | str z =>
    obtain ⟨t, rfl⟩ := r
    cases (show T = "str" from ty)
    exact ⟨typeIs_str s z t, fun _ e => nomatch e⟩
  | int i =>
    obtain ⟨t, rfl⟩ := r
    cases (show T = "int" from ty)
    exact ⟨typeIs_int s i t, fun _ e => nomatch e⟩
  | ref p =>
    cases r
    rcases ty with ⟨rfl, xs, hq⟩ | ⟨rfl, o, hk, hc, hd⟩ | ⟨rfl, hk⟩ | ⟨rfl, S, n, hk⟩
    · obtain ⟨its, _, pl, _⟩ := I.list hq
      refine ⟨pl.isList.typeIs, fun a e => ?_⟩
      cases e
      obtain ⟨o, n, e, c, hd, _⟩ := pl
      exact ⟨o, e, hd⟩
    · refine ⟨⟨o, I.kIn p o hk, hc⟩, fun a e => ?_⟩
      cases e
      exact ⟨o, I.kIn _ o hk, hd⟩
    · have z : ∃ o, s.heap.get? p = some o ∧ o.ExactDict := by
        rcases hk with ⟨kvs, hk⟩ | ⟨kvs, hk⟩
        · obtain ⟨_, _, _, _, o, _, _, e, ex, _⟩ := I.hok p _ hk
          exact ⟨o, e, ex⟩
        · obtain ⟨_, _, _, _, o, _, _, e, ex, _⟩ := I.hok p _ hk
          exact ⟨o, e, ex⟩
      obtain ⟨o, e, ex⟩ := z
      refine ⟨⟨o, e, ex.1⟩, fun a e2 => ?_⟩
      cases e2
      exact ⟨o, e, ex.2.1⟩
    · obtain ⟨o, _, _, _, e, ex, _⟩ := I.hok p _ hk
      refine ⟨⟨o, e, ex.1⟩, fun a e2 => ?_⟩
      cases e2
      exact ⟨o, e, ex.2.1⟩
  | _ => exact False.elim ty
noncomputable def tBM (K : PySem.W.Frag) (T : String) (r : V → List V → Hp → VK → Prop) (to : TE) (t : TA) : TE := fun σ H Q => to σ H fun x H1 => tyV K T x H1 ∧ t σ H1 fun xs H2 => r x xs H2 Q
variable {o e : Expr} {es : List Expr} {to : TE} {t : TA} {name : Str} {apos cpos : Pos} {T id : String} {r : V → List V → Hp → VK → Prop}
theorem pe_bm (pa : PlainAttrs T) (slot : Slot T name id) (hty : typeOf (.builtin id) = pure (.type "method_descriptor")) (hm : MtR X id r) (ho : PE X o to) (ha : PA X (e :: es) t)
    (hbase : attributeBase o name X.env (eval o X.env) = eval o X.env := by rfl)
    (hfew : ((backTo cpos (starEach (e :: es) X.env)).all (fun x => !x.1) && (backToKw cpos (keywordEach [] X.env)).all (fun x => x.1.isSome)
      && decide ((e :: es).length + ([] : List Keyword).length + (if ([] : List Keyword).isEmpty then 0 else 1) < 30)) = true := by rfl)
    (hline : (apos.endLine == cpos.line) = true := by rfl) (hs : starEach (e :: es) X.env = (false, eval e X.env) :: starEach es X.env := by rfl) (hplain : (backTo cpos (starEach es X.env)).any (·.1) = false := by rfl) :
    PE X (.Call (.Attribute o name apos) (e :: es) [] cpos) (tBM X.K T r to t) := by
  intro pins s σ H Q I h
  refine wpAny_Call_method_late hbase hfew hline rfl (thn (ho pins s σ H _ I h) fun v s1 ⟨x, H1, I1, r1, ty, q1⟩ => ?_)
  obtain ⟨h1, h2⟩ := tyV_is I1 r1 ty
  refine ⟨T, id, pa, slot, hty, h1, h2, ?_⟩
  have hA := ha cpos pins s1 σ H1 _ I1 q1
  rw [hs] at hA ⊢
  refine Calls.callWith_builtin (by show (false || (backTo cpos (starEach es X.env)).any (·.1)) = false; rw [hplain] <;> rfl) (Calls.evalArgs_plain ?_)
  exact thn hA fun us s2 ⟨vs, H2, I2, r2, q2⟩ => hm pins s2 σ H2 x vs v us Q I2 r1 r2 q2
end
end L2
namespace L2
open PySem PySem.Spec PyProof.Rows
noncomputable def MtM (X : Cx) (id : String) (r : V → List V → Hp → VK → Prop) : Prop :=
  ∀ (pins : List (Addr × Obj)) (s : Shared) (σ : St) (H : Hp) (x : V) (xs : List V) (v : Value) (us : List Value) (Q : VK), Inv X pins σ H s → RelV x v → Vals xs us → r x xs H Q →
    wpAny (model X.prog X.w) X.A (call (.builtin id) (v :: us)) (EP X pins σ Q) X.xe s
theorem Vals.one : ∀ {x : V} {us : List Value}, Vals [x] us → ∃ u, us = [u] ∧ RelV x u
  | _, _, .cons r .nil => ⟨_, rfl, r⟩
theorem Vals.two : ∀ {x y : V} {us : List Value}, Vals [x, y] us → ∃ u v, us = [u, v] ∧ RelV x u ∧ RelV y v
  | _, _, _, .cons r (.cons q .nil) => ⟨_, _, rfl, r, q⟩
theorem Vals.zero : ∀ {us : List Value}, Vals [] us → us = []
  | _, .nil => rfl
theorem Vals.reverse {xs : List V} {us : List Value} (h : Vals xs us) : Vals xs.reverse us.reverse := by
  induction h with
  | nil => exact .nil
  | cons r t ih => rw [List.reverse_cons, List.reverse_cons]; exact Vals.append ih (.cons r .nil)
section
variable {X : Cx} {pins : List (Addr × Obj)} {σ : St} {H : Hp} {s : Shared} {l b : Addr} {xs ys zs : List V}
theorem Inv.lset {its its' : List Value} {n : Nat} {f : Array Value → Array Value} {t' : Nat} (I : Inv X pins σ H s) (hH : H l = some (.lst xs))
    (e : s.heap.get? l = some { cls := .type "list", data := .seq its.toArray n }) (hf : f its.toArray = its'.toArray) (hv : Vals ys its') (hz : ys.length ≤ sizeLine) :
    Inv X pins σ (upd H l (.lst ys)) { s with heap := s.heap.update l (Obj.mapSeq f), toks := t' } := by
  have q := PySem.IsL.update e f
  rw [hf] at q
  refine I.write (x := l) (e := l) (by rw [hH]; exact trivial) (.inl rfl) (fun b' u hb hu => (Heap.get?_update_other s.heap (Obj.mapSeq f) (Ne.symm hb)).trans hu) ⟨_, q⟩ ?_
  exact ⟨hz, its', _, hv, q⟩
theorem Inv.lnew {its : List Value} {t' : Nat} (I : Inv X pins σ H s) (hv : Vals ys its) (hz : ys.length ≤ sizeLine) :
    Inv X pins σ (upd H s.heap.objs.size (.lst ys)) { s with heap := s.heap.push { cls := .type "list", data := .seq its.toArray }, toks := t' } :=
  I.laid (fun _ _ q => Heap.get?_push_of_some _ q) (Nat.le_refl _) ⟨hz, its, 0, hv, Heap.get?_push_size _ rfl⟩
theorem Inv.fresh (I : Inv X pins σ H s) : H s.heap.objs.size = none := I.hok.fresh (Nat.le_refl _)
theorem Inv.lstM (I : Inv X pins σ H s) (hH : H l = some (.lst xs)) : xs.length ≤ sizeLine ∧ ∃ (its : List Value) (n : Nat), Vals xs its ∧ xs.length = its.length ∧ s.heap.get? l = some { cls := .type "list", data := .seq its.toArray n } := by
  obtain ⟨z, its, n, r, e⟩ := I.hok l _ hH
  exact ⟨z, its, n, r, r.length, e⟩
end
section
variable {X : Cx}
noncomputable def rAppend : V → List V → Hp → VK → Prop := fun x vs H Q => ∃ l xs y, x = .ref l ∧ vs = [y] ∧ H l = some (.lst xs) ∧ xs.length < sizeLine ∧ Q .non (upd H l (.lst (xs ++ [y])))
theorem mt_append : MtM X "list.append" rAppend := by
  intro pins s σ H x vs v us Q I rx rv h
  obtain ⟨l, xs, y, rfl, rfl, hH, hz, q⟩ := h
  cases rx
  obtain ⟨u, rfl, ru⟩ := rv.one
  obtain ⟨z, its, n, r, hl, e⟩ := I.lstM hH
  refine call_meets F.slot_list_append ⟨_, e, rfl⟩ F.entry_list_append (F.args_list_append_2 _ _) (PySem.list_append l its.toArray n u (by rw [List.size_toArray]; omega)) ⟨e, ?_⟩
  refine ⟨.non, _, I.lset (its' := its ++ [u]) hH e (by simp) (r.append (.cons ru .nil)) ?_, rfl, q⟩
  rw [List.length_append, List.length_singleton]
  omega
noncomputable def rCat : R2 := fun x y H Q => ∃ l b xs zs, x = .ref l ∧ y = .ref b ∧ H l = some (.lst xs) ∧ H b = some (.lst zs) ∧ xs.length + zs.length ≤ sizeLine ∧ ∀ p, H p = none → Q (.ref p) (upd H p (.lst (xs ++ zs)))
theorem op_cat : OpR X (binaryOp .Add) rCat := by
  intro pins s σ H x y v u Q I rx ry h
  obtain ⟨l, b, xs, zs, rfl, rfl, hH, hB, hz, q⟩ := h
  cases rx
  cases ry
  obtain ⟨z, its, n, r, hl, e⟩ := I.lstM hH
  obtain ⟨z2, its2, n2, r2, hl2, e2⟩ := I.lstM hB
  refine PySem.P.add_list e e2 ?_ (by rw [List.size_toArray, List.size_toArray]; omega)
  have ea : its.toArray ++ its2.toArray = (its ++ its2).toArray := by simp
  rw [ea]
  exact ⟨.ref _, _, I.lnew (t' := s.toks) (r.append r2) (by rw [List.length_append]; omega), rfl, q _ I.fresh⟩
end
section
variable {prog : Program} {w : World} {A : Around} {E : Value → Shared → Prop} {s : Shared}
end
section
variable {X : Cx}
end
end L2
namespace Att
open PySem PySem.W PySem.Calls PyProof.Rows
theorem ints_of_wellAll {P : Params} {h : Heap} : ∀ (ns : List Int) (vs : List Value), WellAll P h vs (ns.map WData.int) → IntsAre vs ns := by
  intro ns
  induction ns with
  | nil =>
    intro vs w
    rw [List.map_nil] at w
    cases w
    exact .nil
  | cons n ns ih =>
    intro vs w
    rw [List.map_cons] at w
    cases w with
    | cons a b =>
      cases a
      exact .cons _ _ (ih _ b)
theorem script_of {l : OpenLaw} {n : Nat} (hn : l.most = some n) {P : Params} {h : Heap} {args : List WData} {vals : List Value}
    (hpre : l.row.toRowW.claim.pre args = true) (hwl : WellAll P h vals args) :
    ∃ a vs ns, vals = [Value.ref a] ∧ args = [WData.list (ns.map WData.int)] ∧ h.get? a = some { cls := .type "list", data := .seq vs.toArray } ∧ IntsAre vs ns ∧ ns.length ≤ n := by
  have hsh : WShape.hasAll [] args [.list .int] = true := (pre_splitW hpre).1
  have hc : l.pre.holds [] { args := args } = true := (pre_splitW hpre).2
  obtain ⟨d, r, rfl, h1, h2⟩ := hasAllW_cons hsh
  obtain rfl := hasAllW_nil h2
  obtain ⟨xs, rfl, h3⟩ := hasW_list h1
  obtain ⟨ns, rfl⟩ := items_int h3
  have hlen : ns.length ≤ n := by
    unfold OpenLaw.pre at hc
    have h4 : (WTm.not (.lt (.lit (.int (n : Int))) (.len (.arg 0)))).holds [] { args := [.list (ns.map .int)] } = true := by
      have h4 := (holds_andW hc).1
      rw [hn] at h4
      exact h4
    have h5 := condW_of h4 (w_not (w_lt w_lit (w_len_list (w_arg rfl))))
    rw [List.length_map] at h5
    refine Nat.le_of_not_lt fun q => ?_
    have q' : (n : Int) < ((ns.length : Nat) : Int) := by omega
    first
      | (rw [decide_eq_true q'] at h5; exact absurd h5 (by decide))
      | (simp at h5; omega)
  cases hwl with
  | cons w1 w2 =>
    cases w2
    cases w1 with
    | list ho hall => exact ⟨_, _, ns, rfl, rfl, ho, ints_of_wellAll ns _ hall, hlen⟩
theorem post_true (l : OpenLaw) (args : List WData) : l.row.toRowW.claim.post args (.bool true) args = true :=
  postW_of (r := l.row.toRowW) (X := (true == true))
    (show WShape.has [] (.bool true) .bool = true by first | rfl | decide | simp [WShape.has, WShape.arms, WShape.armsAll])
    (show (WTm.eq .res (.lit (.bool true))).value [] { args := args, res := some (.bool true), after := args } = some (.bool (true == true)) from w_eq_bool (w_res rfl) w_lit) rfl
theorem attach_call {l : OpenLaw} {n : Nat} {q : Program} {loose : List Str} {XP : (Str → Option Value) → Heap → Prop} {YP : World → Heap → Prop} {d : DefRec}
    (hn : l.most = some n) (hdf : d.params.defaults = [])
    (call : ∀ (w : World) (s₀ s₁ : Shared) (mg mb : Str → Option Value) (fa : Addr) (o : Obj) (pm cd doc : Value) (a : Addr) (vs : List Value) (ns : List Int),
      Ground q loose [] XP w s₀ mg mb s₁.heap → YP w s₁.heap →
      s₁.heap.get? fa = some o → o.data = .func (docDef d.name d.params d.body d.scope pm cd doc) → s₁.heap.CodeRec cd d.name → mg d.name = some (.ref fa) →
      s₁.heap.get? a = some { cls := .type "list", data := .seq vs.toArray } → IntsAre vs ns → ns.length ≤ n → s₁.gens = #[] →
      codeAny (model l.prog w) callerA (.call (.ref fa) ⟨[.ref a], []⟩) (fun r s' => r = .ok (.ret (.bool true)) ∧ OldK s₁.heap s'.heap ∧ s'.os = s₁.os ∧ AllBare s'.gens) s₁) :
    WalkO q loose XP YP l.row.toRowW d [] (fun f vs => PySem.call f vs) := by
  intro w s₀ s₁ mg mb G Y fa o pm cd doc dV kV ho hd hcd hD hmg hg args vals as hpre hlay hrd hwl hlo
  obtain rfl : dV = .none := Dflts.none hD hdf
  obtain rfl : kV = .none := Dflts.noKw hD
  obtain ⟨a, vs, ns, rfl, rfl, hobj, hints, hlen⟩ := script_of hn hpre hwl
  refine enter_call (codeAny_mono (call w s₀ s₁ mg mb fa o pm cd doc a vs ns G Y ho (fd_plain hd) hcd hmg hobj hints hlen hg) fun r s' hq => ?_)
  obtain ⟨rfl, h2, h3, h4⟩ := hq
  exact ⟨.inl ⟨.bool true, .bool true, [], rfl, fun _ => rfl, .bool true, post_true l _, fun _ => ⟨List.Pairwise.nil, fun _ hm => (nomatch hm)⟩⟩, h2, h3, h4⟩
section
variable {prog : Program} {w : World} {A : Around} {E : Value → Shared → Prop} {s : Shared} {K : Frag}
end
end Att
namespace L2
open PySem PySem.Spec PyProof.Rows
theorem vals_ints : ∀ {vs : List Value} {ns : List Int}, IntsAre vs ns → Vals (ns.map V.int) vs
  | _, _, .nil => .nil
  | _, _, .cons n t h => .cons ⟨t, rfl⟩ (vals_ints h)
noncomputable def Only (H : Hp) : Prop := ∀ b, H b = none ∨ ∃ o xs, H b = some (.frz o (.lst xs))
theorem law_call {P : Program} {w : World} {K : PySem.W.Frag} {mg mb : Str → Option Value} {CX : CXT} {k : Nat} {fa a : Addr} {fd : FuncData} {x : Str} {sp : Sp} {s₁ : Shared} {vs : List Value} {ns : List Int}
    (KX : K.In s₁.heap) (hns : s₁.heap.Ns mainGlobals mg) (hb : s₁.heap.Ns builtinsNs mb) (hbb : ∀ x : Str, x ≠ "__name__" → mb x = bootBuiltins x) (hlim : s₁.heap.NoLimit) (hg : s₁.gens = #[])
    (ha : s₁.heap.get? a = some { cls := .type "list", data := .seq vs.toArray }) (hi : IntsAre vs ns) (hl : ns.length ≤ sizeLine) (hr : Room k callerA)
    (F : ∀ base : Heap, K.In base → base.Ns mainGlobals mg → FnOk P w K mg base CX k fa fd [x] sp) (hbind : ∀ (s : Shared) (u : Value), BindsTo s fd ⟨[u], []⟩ [(x, u)])
    (hsp : ∀ H : Hp, Only H → SqL K H a (ns.map V.int) → sp [.ref a] H (fun v _ => v = .bl true) fun _ _ _ => False)
    (hCX : ∀ H e s', CX [] H s₁ (fun _ _ _ => False) e s' → False) :
    codeAny (model P w) callerA (.call (.ref fa) ⟨[.ref a], []⟩) (fun r s' => r = .ok (.ret (.bool true)) ∧ OldK s₁.heap s'.heap ∧ s'.os = s₁.os ∧ AllBare s'.gens) s₁ := by
  have rv := vals_ints hi
  have lenV := hi.length
  -- from an abstract heap in which nothing but the script may be tracked
  have core : ∀ H : Hp, Only H → SqL K H a (ns.map V.int) → HOk P w H s₁.heap → (∀ b, H b ≠ none → b = a) → (H a ≠ none → K.lookup a = none) →
      codeAny (model P w) callerA (.call (.ref fa) ⟨[.ref a], []⟩) (fun r s' => r = .ok (.ret (.bool true)) ∧ OldK s₁.heap s'.heap ∧ s'.os = s₁.os ∧ AllBare s'.gens) s₁ := by
    intro H hO hS hok hA hK
    have base_of : ∀ {b : Addr} {o : Obj}, s₁.heap.get? b = some o → H b = none → (hidT s₁.heap H).get? b = some o := fun e n => hidT_get e n
    have noA : ∀ {b : Addr} {o : Obj} {es : Array DictEntry} {ep : Nat}, s₁.heap.get? b = some o → o.data = .dict es ep → H b = none := fun {b o es ep} e d => by
      cases q : H b with
      | none => rfl
      | some u =>
        have e' : b = a := hA b (by rw [q]; simp)
        subst e'
        rw [ha] at e; cases e
        have d' : Data.seq vs.toArray _ = Data.dict es ep := d
        cases d'
    have nsK : ∀ {b : Addr} {m : Str → Option Value}, s₁.heap.Ns b m → (hidT s₁.heap H).Ns b m := fun {b m} ⟨o, es, ep, e, d, r⟩ => ⟨o, es, ep, base_of e (noA e d), d, r⟩
    have hKb : K.In (hidT s₁.heap H) := fun b o e => base_of (KX b o e) (by
      cases q : H b with
      | none => rfl
      | some u =>
        have e' : b = a := hA b (by rw [q]; simp)
        subst e'
        rw [hK (by rw [q]; simp)] at e; cases e)
    have hM : Mod K mg (hidT s₁.heap H) := ⟨hKb, nsK hns, ⟨mb, nsK hb, hbb⟩, let ⟨mc, h1, h2⟩ := hlim; ⟨mc, nsK h1, h2⟩⟩
    have e0 : Env0 P w K mg (hidT s₁.heap H) callerA [] s₁ H := ⟨rfl, hM, fun b o e => of_hidT e, Nat.le_of_eq (hidT_size _ _), trivial, fun b hb => absurd (show b ∈ ([] : List Addr) from hb) (by simp), hok, .of_eq hg⟩
    refine codeAny_mono ((F _ hKb (nsK hns)).run callerA [] s₁ H ⟨[.ref a], []⟩ [.ref a] [.ref a] _ _ hr e0 (hbind s₁ (.ref a)) (.cons rfl .nil) (hsp H hO hS)) fun r s' h => ?_
    cases r with
    | error e => exact (hCX H e s' h).elim
    | ok fl =>
      cases fl with
      | next => exact False.elim h
      | brk => exact False.elim h
      | cont => exact False.elim h
      | ret u =>
        obtain ⟨v, H', os, bare, un, hok', r', q⟩ := h
        have q' : v = .bl true := q
        subst q'
        obtain rfl : u = Value.bool true := r'
        refine ⟨rfl, OldK.of_keep fun b o e => ?_, os, bare⟩
        cases q : H b with
        | none => exact un.keep b o e q (by intro z; exact absurd (show b ∈ ([] : List Addr) from z) (by simp)) (by simp)
        | some u =>
          rcases hO b with z | ⟨ob, xs, z⟩
          · rw [q] at z; cases z
          · have z2 := un.frzs b ob _ z
            obtain ⟨e1, _⟩ := hok b _ z
            obtain ⟨e2, _⟩ := hok' b _ z2
            rw [e] at e1; cases e1
            exact e2
  cases hk : K.lookup a with
  | some o =>
    -- the script is one of the module's own objects
    have e := KX a o hk
    rw [ha] at e
    cases e
    refine core (fun _ => none) (fun _ => .inl rfl) (.inr ⟨_, vs.toArray, _, hk, rfl, rfl, rfl, by rw [List.size_toArray, lenV]; exact hl, by simpa using rv⟩) (fun b u z => by have z' : (none : Option HO) = some u := z; cases z') (fun b z => absurd rfl z) fun z => absurd rfl z
  | none =>
    refine core (fun b => if b = a then some (.frz { cls := .type "list", data := .seq vs.toArray } (.lst (ns.map V.int))) else none) (fun b => ?_) (.inl (.inr ⟨{ cls := .type "list", data := .seq vs.toArray }, if_pos rfl⟩)) (fun b u z => ?_) (fun b z => ?_) fun _ => hk
    · by_cases hb : b = a
      · exact .inr ⟨_, _, if_pos hb⟩
      · exact .inl (if_neg hb)
    · by_cases hb : b = a
      · have z' := (if_pos hb).symm.trans z
        cases z'
        subst hb
        exact ⟨ha, by rw [List.length_map]; exact hl, vs, _, rv, ha⟩
      · have z' := (if_neg hb).symm.trans z
        cases z'
    · by_cases hb : b = a
      · exact hb
      · exact absurd (if_neg hb) z
end L2
namespace L2
open PySem PySem.Spec PyProof.Rows
theorem walk_of {l : PySem.W.OpenLaw} {n k : Nat} {q : Program} {loose : List Str} {XP : (Str → Option Value) → Heap → Prop} {YP : World → Heap → Prop} {d : DefRec} {K : Params → PySem.W.Frag} {CX : World → CXT} {sp : World → Sp} {x : Str}
    (hn : l.most = some n) (hn2 : n ≤ sizeLine) (hdf : d.params.defaults = []) (hr : Room k callerA)
    (hY : ∀ (w : World) (h : Heap), YP w h → (K w.params).In h)
    (F : ∀ (w : World) (mg : Str → Option Value) (fa : Addr) (h : Heap), (K w.params).In h → h.Ns mainGlobals mg → mg d.name = some (.ref fa) →
      ∃ fd : FuncData, (∀ (s : Shared) (u : Value), BindsTo s fd ⟨[u], []⟩ [(x, u)]) ∧
        ∀ base : Heap, (K w.params).In base → base.Ns mainGlobals mg → FnOk l.prog w (K w.params) mg base (CX w) k fa fd [x] (sp w))
    (hsp : ∀ (w : World) (H : Hp) (a : Addr) (ns : List Int), ns.length ≤ n → Only H → SqL (K w.params) H a (ns.map V.int) → sp w [.ref a] H (fun v _ => v = .bl true) fun _ _ _ => False)
    (hCX : ∀ (w : World) (H : Hp) (s : Shared) (e : Value) (s' : Shared), CX w [] H s (fun _ _ _ => False) e s' → False) :
    PySem.W.WalkO q loose XP YP l.row.toRowW d [] (fun f vs => PySem.call f vs) := by
  refine Att.attach_call hn hdf fun w s₀ s₁ mg mb fa o pm cd doc a vs ns G Y ho hd hcd hmg hobj hints hlen hg => ?_
  have KX := hY w _ Y
  obtain ⟨fd, hb, hF⟩ := F w mg fa _ KX G.T.g hmg
  exact law_call KX G.T.g G.T.b G.T.builtins G.T.nolimit hg hobj hints (Nat.le_trans hlen hn2) hr hF hb (fun H hO hS => hsp w H a ns hlen hO hS) fun H e s' => hCX w H s₁ e s'
end L2
namespace L2
open PySem PySem.Spec PyProof.Rows
noncomputable def defArgs (s : Stmt) : Arguments := match s with
  | .FunctionDef _ a _ _ _ _ _ _ _ _ => a
  | _ => { posonlyargs := [], args := [], vararg := none, kwonlyargs := [], kw_defaults := [], kwarg := none, defaults := [] }
noncomputable def defBody (s : Stmt) : List Stmt := match s with
  | .FunctionDef _ _ b _ _ _ _ _ _ _ => b
  | _ => []
noncomputable def defScope (s : Stmt) : Scope := match s with
  | .FunctionDef _ _ _ _ _ _ sc _ _ _ => sc
  | _ => { kind := .function, names := [], isGenerator := false, isCoroutine := false }
noncomputable abbrev CX0 : CXT := fun _ _ _ _ _ _ => False
noncomputable abbrev E0 : XK := fun _ _ _ => False
theorem pass0 {X : Cx} : Passes CX0 X E0 := fun _ _ _ _ _ _ _ h => h.elim
structure Fun (K : PySem.W.Frag) (x qual : Str) (st : Stmt) (f : Addr) (fd : FuncData) : Prop where
  ex : ∃ (oc : Value) (od : Option Addr) (kV doc pm : Value) (an : Option Addr) (cdv ct : Value) (osl : Array (Option Value)),
    fd = PySem.W.fnOf x qual (defArgs st) (defBody st) (defScope st) .none kV doc pm an cdv ct ∧ K.lookup f = some ⟨oc, od, .func fd, osl⟩ ∧ PySem.W.codeIn K cdv qual = true
  kp : PySem.W.keepIn K (.ref f) = true
section
variable {P : Program} {w : World} {K : PySem.W.Frag} {mg : Str → Option Value} {base : Heap}
theorem Fun.ok {x qual : Str} {st : Stmt} {f : Addr} {fd : FuncData} {N ps : List Str} {k : Nat} {sp : Sp} (F : Fun K x qual st f fd) (S : FnScope N ps (defScope st)) (len : ∀ vs H Q E, sp vs H Q E → vs.length = ps.length)
    (hbody : ∀ (cdv : Value) (A : Around) (outer : List Env) (s : Shared) (H : Hp) (vs : List V) (Q : VK) (E : XK), Room k (A.deeper (envOfC qual (defScope st) s.heap.objs.size f cdv)) → sp vs H Q E →
      ∃ t, PSs (cxOf CX0 P w K mg base N qual (defScope st) f cdv A outer s H E).nox (defBody st) t ∧ t { nx := fun _ H' => Q .non H', rt := Q } (start N vs) H) : FnOk P w K mg base CX0 (k + 1) f fd ps sp := by
  obtain ⟨oc, od, kV, doc, pm, an, cdv, ct, osl, rfl, lk, hcd⟩ := F.ex
  refine fn_of lk hcd S len fun A outer s H vs Q E hr hsp => ?_
  obtain ⟨t, h, q⟩ := hbody cdv A outer s H vs Q E hr hsp
  exact ⟨t, h.nox, q⟩
theorem Fun.binds {x qual : Str} {st : Stmt} {f : Addr} {fd : FuncData} {ps : List Str} (F : Fun K x qual st f fd)
    (h : ∀ (kV doc pm : Value) (an : Option Addr) (cdv ct : Value) (us : List Value), us.length = ps.length → bindArgs (PySem.W.fnOf x qual (defArgs st) (defBody st) (defScope st) .none kV doc pm an cdv ct) ⟨us, []⟩ = pure (ps.zip us)) : Binds K fd ps [] := by
  obtain ⟨oc, od, kV, doc, pm, an, cdv, ct, osl, rfl, lk, hcd⟩ := F.ex
  exact .all (h kV doc pm an cdv ct)
theorem fun_mk {x qual : Str} {st : Stmt} {f : Addr} {oc : Value} {od an : Option Addr} {osl : Array (Option Value)} {kV doc pm cdv ct : Value} (l : K.lookup f = some ⟨oc, od, .func (PySem.W.fnOf x qual (defArgs st) (defBody st) (defScope st) .none kV doc pm an cdv ct), osl⟩)
    (c : PySem.W.codeIn K cdv qual = true) (k : PySem.W.keepIn K (.ref f) = true) : Fun K x qual st f (PySem.W.fnOf x qual (defArgs st) (defBody st) (defScope st) .none kV doc pm an cdv ct) := ⟨⟨oc, od, kV, doc, pm, an, cdv, ct, osl, rfl, l, c⟩, k⟩
end
section
variable {X : Cx}
theorem pv (i : Nat) {x : Str} {pos : Pos} (hN : X.N[i]? = some x := by rfl) (hv : Vis X.env.scope x := by first | exact Or.inl rfl | exact Or.inr (Or.inl rfl) | exact Or.inr (Or.inr rfl)) (hd : (x == ("__debug__" : Str)) = false := by decide)
    (hcd : (x == ("__classdict__" : Str)) = false := by decide) : PE X (.Name x pos) (tVar i) := pe_var hN hv hd hcd
end
theorem iteF {A B : Prop} (h : B) : if false = true then A else B := by
  rw [if_neg Bool.false_ne_true]
  exact h
theorem iteT {A B : Prop} (h : A) : if true = true then A else B := by
  rw [if_pos rfl]
  exact h
theorem ite2 {c A B : Prop} [Decidable c] (h1 : c → A) (h2 : ¬ c → B) : if c then A else B := by
  by_cases h : c
  · rw [if_pos h]
    exact h1 h
  · rw [if_neg h]
    exact h2 h
theorem iteNS {c A B : Prop} [Decidable c] (hc : c) (h : B) : if (!decide c) = true then A else B := by
  rw [decide_eq_true hc]
  exact iteF h
noncomputable def Same (H H' : Hp) : Prop := ∀ b o, H b = some o → H' b = some o
theorem Same.refl (H : Hp) : Same H H := fun _ _ h => h
theorem Same.trans {H H1 H2 : Hp} (a : Same H H1) (b : Same H1 H2) : Same H H2 := fun c o h => b c o (a c o h)
theorem Same.free {H H' : Hp} (e : Same H H') {l : Addr} (h : H' l = Option.none) : H l = Option.none := by
  cases q : H l with
  | none => rfl
  | some o =>
    rw [e l o q] at h
    cases h
theorem Same.seq {K : PySem.W.Frag} {H H' : Hp} {a : Addr} {xs : List V} (e : Same H H') (h : SqL K H a xs) : SqL K H' a xs := by
  rcases h with (h | ⟨o, h⟩) | h
  · exact .inl (.inl (e _ _ h))
  · exact .inl (.inr ⟨o, e _ _ h⟩)
  · exact .inr h
end L2
set_option maxRecDepth 100000
namespace L3
open PySem
noncomputable def closL (cells : List (Str × Addr)) : List (Str × NameKind) → List (Str × Addr) → List (Str × Addr)
  | [], cs => cs
  | (n, k) :: r, cs => closL cells r (if k == .free then (match cells.lookup n with | some c => (n, c) :: cs | none => cs) else cs)
theorem closureFor_eq {scope : Scope} {env : Env} (h : ∀ x ∈ scope.names, x.2 = .free → (env.cells.lookup x.1).isSome = true) : closureFor scope env = pure (closL env.cells scope.names []) := by
  unfold closureFor
  dsimp only
  generalize scope.names = names at h ⊢
  generalize ([] : List (Str × Addr)) = cs
  induction names generalizing cs with
  | nil => rfl
  | cons x r ih =>
    obtain ⟨n, k⟩ := x
    have ih' := fun cs => ih (fun y hy => h y (List.mem_cons_of_mem _ hy)) cs
    rw [List.forIn_cons]
    by_cases hk : (k == NameKind.free) = true
    · have hs := h (n, k) List.mem_cons_self (by simpa using hk)
      obtain ⟨c, hc⟩ := Option.isSome_iff_exists.mp hs
      have hc' : env.cells.lookup n = some c := hc
      have e1 : cellOf env n = pure c := by unfold cellOf; rw [hc']
      simp only [hk, if_true, e1, closL, hc']
      exact ih' _
    · have hk' : (k == NameKind.free) = false := by simpa using hk
      simp only [hk', Bool.false_eq_true, if_false, closL]
      exact ih' _
theorem closL_lookup {cells : List (Str × Addr)} {x : Str} {c : Addr} : ∀ {names : List (Str × NameKind)} {cs : List (Str × Addr)}, (∀ c, cs.lookup x = some c → cells.lookup x = some c) → (closL cells names cs).lookup x = some c → cells.lookup x = some c
  | [], _, h, e => h c e
  | (n, k) :: r, cs, h, e => by
    unfold closL at e
    refine closL_lookup (names := r) (fun c' e' => ?_) e
    by_cases hk : (k == NameKind.free) = true
    · rw [if_pos hk] at e'
      cases hc : cells.lookup n with
      | none => rw [hc] at e'; exact h c' e'
      | some d =>
        rw [hc] at e'
        by_cases hx : (x == n) = true
        · have : x = n := by simpa using hx
          subst this
          simp only [List.lookup_cons, beq_self_eq_true] at e'
          cases e'
          exact hc
        · have hx' : (x == n) = false := by simpa using hx
          simp only [List.lookup_cons, hx'] at e'
          exact h c' e'
    · rw [if_neg hk] at e'
      exact h c' e'
theorem closL_keep {cells : List (Str × Addr)} {x : Str} : ∀ {names : List (Str × NameKind)} {cs : List (Str × Addr)}, (∃ c, cs.lookup x = some c) → ∃ c, (closL cells names cs).lookup x = some c
  | [], _, h => h
  | (n, k) :: r, cs, h => by
    unfold closL
    refine closL_keep (names := r) ?_
    by_cases hk : (k == NameKind.free) = true
    · rw [if_pos hk]
      cases hc : cells.lookup n with
      | none => exact h
      | some d =>
        by_cases hx : (x == n) = true
        · exact ⟨d, by simp only [List.lookup_cons, hx]⟩
        · have hx' : (x == n) = false := by simpa using hx
          simp only [List.lookup_cons, hx']
          exact h
    · rw [if_neg hk]; exact h
theorem closL_has {cells : List (Str × Addr)} {x : Str} {d : Addr} (hd : cells.lookup x = some d) : ∀ {names : List (Str × NameKind)} {cs : List (Str × Addr)}, (x, NameKind.free) ∈ names → ∃ c, (closL cells names cs).lookup x = some c
  | [], _, h => nomatch h
  | (n, k) :: r, cs, h => by
    unfold closL
    rcases List.mem_cons.mp h with e | e
    · cases e
      refine closL_keep (names := r) ⟨d, ?_⟩
      rw [if_pos (by rfl), hd]
      simp only [List.lookup_cons, beq_self_eq_true]
    · exact closL_has hd e
end L3
namespace L3
open PySem
open Sem (wp)
section
variable {prog : Program} {w : World} {A : Around} {R : Result → Shared → Prop} {s : Shared}
noncomputable abbrev testsOf (ifs : List Expr) (env : Env) : Sem Bool := forIn ifs true fun c r => if r = true then do let ok ← isTrue c env (eval c env); pure (ForInStep.yield ok) else pure (ForInStep.yield r)
theorem comp_loop {elt tg iter : Expr} {ifs : List Expr} {scope : Scope} {pos : Pos} {it acc : Value} {env : Env} (I : Nat → Shared → Prop)
    (turn : ∀ n s, I n s → wpAny (model prog w) A (pyNext it) (fun r s1 => match r with
      | none => R (.ok .next) s1
      | some v => wpAny (model prog w) A (letOwnedTupleGo tg it v) (fun _ s2 => wpAny (model prog w) A (assign tg env v) (fun _ s3 => wpAny (model prog w) A (testsOf ifs env) (fun ok s4 =>
          if ok = true then wpAny (model prog w) A (eval elt env) (fun x s5 => wpAny (model prog w) A (call (.builtin "list.append") [acc, x]) (fun _ s6 => ∃ m, m < n ∧ I m s6) (fun _ _ => False) s5) (fun _ _ => False) s4
          else ∃ m, m < n ∧ I m s4) (fun _ _ => False) s3) (fun _ _ => False) s2) (fun _ _ => False) s1) (fun _ _ => False) s)
    (n : Nat) (h : I n s) : codeAny (model prog w) A (.compLoop (.ListComp elt [⟨tg, iter, ifs, 0⟩] scope pos) 0 it acc env) R s := by
  refine codeAny_loop rfl I (fun n s hI => ?_) n h
  show wpAny _ A ((compTurn (.ListComp elt [⟨tg, iter, ifs, 0⟩] scope pos) 0 it acc env).onRaise (fun x => do noteFrame x env; theTreesLotGoes x)) _ _ s
  refine wpAny_noted ?_
  rw [compTurn_list]
  refine wpAny_bind (wpAny_standAt (wpAny_bind (wpAny_mono (turn n s hI) (fun r s1 h1 => ?_) fun _ _ z => z.elim)))
  cases r with
  | none => exact wpAny_pure h1
  | some v =>
    refine wpAny_bind (wpAny_mono h1 (fun _ s2 h2 => ?_) fun _ _ z => z.elim)
    refine wpAny_bind (wpAny_mono h2 (fun _ s3 h3 => wpAny_bind (wpAny_mono h3 (fun ok s4 h4 => ?_) fun _ _ z => z.elim)) fun _ _ z => z.elim)
    cases ok with
    | false => exact wpAny_pure ⟨rfl, h4⟩
    | true =>
      refine wpAny_bind (wpAny_bind (wpAny_mono h4 (fun x s5 h5 => wpAny_bind (wpAny_mono h5 (fun _ s6 h6 => wpAny_pure (wpAny_pure ⟨rfl, h6⟩)) fun _ _ z => z.elim)) fun _ _ z => z.elim))
end
end L3
namespace L3
open PySem
noncomputable def compOk (sc0 scope : Scope) (N N' : List Str) (sh : List Nat) : Bool :=
  (scope.kind == .function) && (scope.names.all fun y => y.2 != .cell && ((y.2 != .local || scope.names.lookup y.1 == some .local) && (y.2 != .free || sc0.names.lookup y.1 == some .cell))) &&
    ((N'.take N.length == N) && N.zipIdx.all fun p => scope.names.lookup p.1 != some .local || sh.contains p.2)
structure CompParts (sc0 scope : Scope) (N N' : List Str) (sh : List Nat) : Prop where
  kind : scope.kind = .function
  cell : ∀ y ∈ scope.names, y.2 ≠ .cell
  loc : ∀ y ∈ scope.names, y.2 = .local → scope.names.lookup y.1 = some .local
  free : ∀ y ∈ scope.names, y.2 = .free → sc0.names.lookup y.1 = some .cell
  pre : N'.take N.length = N
  shad : ∀ (i : Nat) (x : Str), N[i]? = some x → scope.names.lookup x = some .local → i ∈ sh
theorem compOk_parts {sc0 scope : Scope} {N N' : List Str} {sh : List Nat} (h : compOk sc0 scope N N' sh = true) : CompParts sc0 scope N N' sh := by
  unfold compOk at h
  rw [Bool.and_eq_true, Bool.and_eq_true, Bool.and_eq_true] at h
  obtain ⟨⟨h1, h2⟩, h3, h4⟩ := h
  rw [List.all_eq_true] at h2 h4
  have q : ∀ y ∈ scope.names, y.2 ≠ .cell ∧ (y.2 = .local → scope.names.lookup y.1 = some .local) ∧ (y.2 = .free → sc0.names.lookup y.1 = some .cell) := fun y hy => by
    have := h2 y hy
    rw [Bool.and_eq_true, Bool.and_eq_true] at this
    obtain ⟨a, b, c⟩ := this
    refine ⟨by simpa using a, fun e => ?_, fun e => ?_⟩
    · rw [e] at b; simpa using b
    · rw [e] at c; simpa using c
  refine ⟨by simpa using h1, fun y hy => (q y hy).1, fun y hy => (q y hy).2.1, fun y hy => (q y hy).2.2, by simpa using h3, fun i x e l => ?_⟩
  have := h4 (x, i) (by rw [List.mem_zipIdx_iff_getElem?]; simpa using e)
  simp only [l] at this
  simpa using this
theorem relab_inv {env : Env} {x : Str} {k : NameKind} : ∀ {names : List (Str × NameKind)}, (names.map fun (n, k) => if (k == NameKind.free && env.scope.kind == .function && env.kindOf n == some .cell) then (n, NameKind.cell) else (n, k)).lookup x = some k →
    ∃ k0, names.lookup x = some k0 ∧ (k = k0 ∨ (k0 = .free ∧ k = .cell))
  | [], h => by simp at h
  | (n, k1) :: r, h => by
    have ih := @relab_inv env x k r
    rw [List.map_cons] at h
    dsimp only at h
    by_cases hx : (x == n) = true
    · refine ⟨k1, by simp only [List.lookup_cons, hx], ?_⟩
      by_cases hc : (k1 == NameKind.free && env.scope.kind == .function && env.kindOf n == some .cell) = true
      · rw [if_pos hc] at h
        simp only [List.lookup_cons, hx] at h
        have : k1 = .free := by
          rw [Bool.and_eq_true, Bool.and_eq_true] at hc
          simpa using hc.1.1
        exact .inr ⟨this, (Option.some.inj h).symm⟩
      · rw [if_neg hc] at h
        simp only [List.lookup_cons, hx] at h
        exact .inl (Option.some.inj h).symm
    · have hx' : (x == n) = false := by simpa using hx
      by_cases hc : (k1 == NameKind.free && env.scope.kind == .function && env.kindOf n == some .cell) = true
      · rw [if_pos hc] at h
        simp only [List.lookup_cons, hx'] at h ⊢
        exact ih h
      · rw [if_neg hc] at h
        simp only [List.lookup_cons, hx'] at h ⊢
        exact ih h
theorem mem_of_look {x : Str} {k : NameKind} : ∀ {names : List (Str × NameKind)}, names.lookup x = some k → (x, k) ∈ names
  | [], h => by simp at h
  | (n, k1) :: r, h => by
    by_cases hx : (x == n) = true
    · have e : x = n := by simpa using hx
      subst e
      simp only [List.lookup_cons, beq_self_eq_true] at h
      cases h
      exact List.mem_cons_self
    · have hx' : (x == n) = false := by simpa using hx
      simp only [List.lookup_cons, hx'] at h
      exact List.mem_cons_of_mem _ (mem_of_look h)
noncomputable def blank {α : Type} (sh : List Nat) (σ : List (Option α)) : List (Option α) := sh.foldl (fun σ i => σ.set i none) σ
theorem blank_length {α : Type} : ∀ (sh : List Nat) (σ : List (Option α)), (blank sh σ).length = σ.length
  | [], _ => rfl
  | j :: sh, σ => by
    show (blank sh (σ.set j none)).length = _
    rw [blank_length sh, List.length_set]
theorem blank_get {α : Type} {i : Nat} {v : α} : ∀ {sh : List Nat} {σ : List (Option α)}, (blank sh σ)[i]? = some (some v) → i ∉ sh ∧ σ[i]? = some (some v)
  | [], σ, h => ⟨by simp, h⟩
  | j :: sh, σ, h => by
    have h' : (blank sh (σ.set j none))[i]? = some (some v) := h
    obtain ⟨h1, h2⟩ := blank_get h'
    by_cases e : j = i
    · subst e
      rw [List.getElem?_set] at h2
      simp at h2
    · rw [List.getElem?_set_ne e] at h2
      exact ⟨fun z => (List.mem_cons.mp z).elim (fun q => e q.symm) h1, h2⟩
end L3
namespace L3
open PySem
open Sem (wp)
section
variable {prog : Program} {w : World} {A : Around} {E : Value → Shared → Prop} {s : Shared}
structure AtT (it t : Addr) (xs : Array Value) (i : Nat) (h : Heap) : Prop where
  iter : h.IsTupleIter it t i
  tup : h.IsTuple t xs
theorem AtT.move {it t b : Addr} {xs : Array Value} {i : Nat} {h h' : Heap} (a : AtT it t xs i h) (k : Heap.ExtBut b h h') (h1 : it ≠ b) (h2 : t ≠ b) : AtT it t xs i h' := ⟨a.iter.extBut k h1, a.tup.extBut k h2⟩
theorem AtT.keeps {it t : Addr} {xs : Array Value} {i : Nat} {h h' : Heap} (a : AtT it t xs i h) (k1 : ∀ o, h.get? it = some o → h'.get? it = some o) (k2 : ∀ o, h.get? t = some o → h'.get? t = some o) : AtT it t xs i h' :=
  ⟨a.iter.at k1, let ⟨o, ho, r⟩ := a.tup; ⟨o, k2 o ho, r⟩⟩
theorem tnext_item {it t : Addr} {i : Nat} {xs : Array Value} {x : Value} {Q : Value → Shared → Prop} (a : AtT it t xs i s.heap) (hne : t ≠ it) (hx : xs[i]? = some x)
    (hQ : ∀ h', AtT it t xs (i + 1) h' → Heap.SameBut it s.heap h' → Q x { s with heap := h' }) : wpAny (model prog w) A (Builtin.SmallTypes.nextOf (.ref it)) Q E s := by
  obtain ⟨hit, ht⟩ := a
  have ht0 := ht
  obtain ⟨o, ho, hc, hd⟩ := id hit
  obtain ⟨ol, hol, _, nl, hdl⟩ := ht
  unfold Builtin.SmallTypes.nextOf
  refine wpAny_bind (wpAny_callSpecial?_slot (name := Str.ofString "__next__") hit.typeIs F.slot_tuple_iterator_next (wpAny_call_entry F.slot_tuple_iterator_next hit.typeIs F.entry_tuple_iterator_next ?_ (F.args_tuple_iterator_next_1 _)))
  show wpAny _ _ (field (.ref it) 0 >>= _) _ _ s
  refine wpAny_bind (wpAny_field ho hd (x := .ref t) rfl ?_)
  show wpAny _ _ (if (Value.ref t == Value.none) = true then _ else _) _ _ s
  rw [if_neg (show ¬ ((Value.ref t == Value.none) = true) from Bool.false_ne_true)]
  show wpAny _ _ (field (.ref it) 1 >>= _) _ _ s
  refine wpAny_bind (wpAny_field ho hd (x := .int i 0) rfl ?_)
  show wpAny _ _ (seqItems? (.ref t) >>= _) _ _ s
  refine wpAny_bind (wpAny_seqItems hol hdl ?_)
  simp only [Int.toNat_natCast, hx]
  refine wpAny_bind (wpAny_setField ho hd (by simp) (wpAny_pure ⟨x, rfl, wpAny_pure (hQ _ ⟨?_, ht0.extBut (Heap.SameBut.update ..).extBut hne⟩ (Heap.SameBut.update ..))⟩))
  refine ⟨_, Heap.get?_update_self _ ho (Obj.isFreed_of_fields (Obj.data_mapFields hd _)), (Obj.cls_mapFields ..).trans hc, ?_⟩
  rw [Obj.data_mapFields hd]; simp [rawInt]
theorem tnext_end {it t : Addr} {i : Nat} {xs : Array Value} {Q : Value → Shared → Prop} (hh : A.handled = none) (a : AtT it t xs i s.heap) (hx : xs[i]? = none)
    (hE : ∀ h' e, Heap.ExtBut it s.heap h' → (∃ o, h'.get? e = some o ∧ o.cls = .type "StopIteration") → E (.ref e) { s with heap := h' }) : wpAny (model prog w) A (Builtin.SmallTypes.nextOf (.ref it)) Q E s := by
  obtain ⟨hit, ht⟩ := a
  obtain ⟨o, ho, hc, hd⟩ := id hit
  obtain ⟨ol, hol, _, nl, hdl⟩ := ht
  unfold Builtin.SmallTypes.nextOf
  refine wpAny_bind (wpAny_callSpecial?_slot (name := Str.ofString "__next__") hit.typeIs F.slot_tuple_iterator_next (wpAny_call_entry F.slot_tuple_iterator_next hit.typeIs F.entry_tuple_iterator_next ?_ (F.args_tuple_iterator_next_1 _)))
  show wpAny _ _ (field (.ref it) 0 >>= _) _ _ s
  refine wpAny_bind (wpAny_field ho hd (x := .ref t) rfl ?_)
  show wpAny _ _ (if (Value.ref t == Value.none) = true then _ else _) _ _ s
  rw [if_neg (show ¬ ((Value.ref t == Value.none) = true) from Bool.false_ne_true)]
  show wpAny _ _ (field (.ref it) 1 >>= _) _ _ s
  refine wpAny_bind (wpAny_field ho hd (x := .int i 0) rfl ?_)
  show wpAny _ _ (seqItems? (.ref t) >>= _) _ _ s
  refine wpAny_bind (wpAny_seqItems hol hdl ?_)
  simp only [Int.toNat_natCast, hx]
  refine wpAny_bind (wpAny_rule (wpAny_bind (wpAny_setField ho hd (by simp) ?_)))
  show wpAny _ _ (newExc (.type "StopIteration") [] >>= _) _ _ _
  refine wpAny_bind ?_
  simp only [newExc, newTuple]
  refine wpAny_bind (wpAny_newObj_type ?_ (by size_fits))
  refine wpAny_bind (m := firstArgMember _ _) (wpAny_of_eq (a := Value.none) (by first | rfl | (simp only [firstArgMember]; rfl)) ?_)
  refine wpAny_newObj_type ?_ (by size_fits)
  simp only [raiseNew]
  refine wpAny_bind (wpAny_handled ?_)
  first | rw [show A.in1.handled = none from hh] | rw [hh]
  refine wpAny_bind (wpAny_pure (wpAny_throw ?_))
  exact hE _ _ (((Heap.SameBut.update ..).extBut.push _).push _) ⟨_, Heap.get?_push_size _ rfl, rfl⟩
end
end L3
namespace L3
open PySem
open Sem (wp)
open AutoSeq1 (wpAny_loadPart')
set_option maxRecDepth 100000
noncomputable abbrev tupIt (t : Addr) : Obj := { cls := .type "tuple_iterator", data := .fields #[.ref t, .int 0 0] }
section
variable {prog : Program} {w : World} {A : Around} {E : Value → Shared → Prop} {s : Shared}
structure ZipAt (z TI TO i1 i2 t1 t2 : Addr) (xs ys : Array Value) (i : Nat) (f0 : Value) (h : Heap) : Prop where
  z : IsZip h z TI TO f0
  TI : IsPair h TI (.ref i1) (.ref i2)
  TO : ∃ a b, IsPair h TO a b
  one : AtT i1 t1 xs i h
  two : AtT i2 t2 ys i h
theorem ZipAt.keeps {z TI TO i1 i2 t1 t2 : Addr} {xs ys : Array Value} {i : Nat} {f0 : Value} {h h' : Heap} (Z : ZipAt z TI TO i1 i2 t1 t2 xs ys i f0 h) (k : ∀ b ∈ [z, TI, TO, i1, i2], ∀ o, h.get? b = some o → h'.get? b = some o)
    (k1 : ∀ o, h.get? t1 = some o → h'.get? t1 = some o) (k2 : ∀ o, h.get? t2 = some o → h'.get? t2 = some o) : ZipAt z TI TO i1 i2 t1 t2 xs ys i f0 h' :=
  ⟨k z (by simp) _ Z.z, k TI (by simp) _ Z.TI, let ⟨a, b, q⟩ := Z.TO; ⟨a, b, k TO (by simp) _ q⟩, Z.one.keeps (k i1 (by simp)) k1, Z.two.keeps (k i2 (by simp)) k2⟩
theorem zipT_next {z TI TO i1 i2 t1 t2 : Addr} {xs ys : Array Value} {i : Nat} {x y : Value} {Q : Value → Shared → Prop} (D : ZipApart z TI TO i1 i2 t1 t2) (Z : ZipAt z TI TO i1 i2 t1 t2 xs ys i .none s.heap) (hx : xs[i]? = some x) (hy : ys[i]? = some y)
    (hQ : ∀ h', ZipAt z TI TO i1 i2 t1 t2 xs ys (i + 1) (rawInt s.heap.objs.size) h' → IsPair h' s.heap.objs.size x y → h'.objs.size = s.heap.objs.size + 1 →
      (∀ c o, c ≠ z → c ≠ TO → c ≠ i1 → c ≠ i2 → s.heap.get? c = some o → h'.get? c = some o) → Q (.ref s.heap.objs.size) { s with heap := h' }) :
    wpAny (model prog w) A (Builtin.«zip.__next__» ⟨[.ref z], []⟩) (fun fin s' => ∃ v, fin = .done (.ret v) ∧ Q v s') E s := by
  obtain ⟨hz, hTI, ⟨a, b, hTO⟩, h1, h2⟩ := Z
  show wpAny _ _ (field (.ref z) 2 >>= _) _ _ _
  refine wpAny_bind (wpAny_field hz rfl (x := .bool false) rfl ?_)
  show wpAny _ _ (field (.ref z) 3 >>= _) _ _ _
  refine wpAny_bind (wpAny_field hz rfl (x := .ref TI) rfl ?_)
  refine wpAny_bind (wpAny_seqItems hTI rfl ?_)
  show wpAny _ _ (Builtin.SmallTypes.ownedTupleIsFree (.ref z) >>= _) _ _ _
  refine wpAny_bind ?_
  unfold Builtin.SmallTypes.ownedTupleIsFree
  refine wpAny_bind (wpAny_field hz rfl (x := .none) rfl (wpAny_pure ?_))
  simp only [if_true]
  refine wpAny_bind (wpAny_rule (wpAny_bind (wpAny_field hz rfl (x := .ref TO) rfl (wpAny_bind (wpAny_setField_rec hz (by simp) fun g1 z1 k1 => ?_)))))
  replace z1 : IsZip g1 z TI TO .ellipsis := z1
  refine wpAny_bind ?_
  simp only [List.forIn_cons, List.forIn_nil, List.zipIdx_cons, List.zipIdx_nil]
  refine wpAny_bind (wpAny_bind (wpAny_onRaise ?_))
  show wpAny _ _ (Builtin.SmallTypes.nextOf (.ref i1) >>= _) _ _ _
  refine wpAny_bind (tnext_item (h1.move k1.extBut D.i1z D.l1z) D.l1i1 hx fun g2 p2 k2 => wpAny_pure ?_)
  have O2 : IsPair g2 TO a b := k2.extBut _ _ D.TOi1 (k1.extBut _ _ D.TOz hTO)
  refine wpAny_bind (wpAny_seqItems O2 rfl (wpAny_bind (wpAny_updateSeq_pair O2 fun g3 O3 k3 => ?_)))
  replace O3 : IsPair g3 TO x b := O3
  refine wpAny_bind (wpAny_letGo (wpAny_pure (wpAny_bind (wpAny_bind (wpAny_onRaise ?_)))))
  show wpAny _ _ (Builtin.SmallTypes.nextOf (.ref i2) >>= _) _ _ _
  refine wpAny_bind (tnext_item (((h2.move k1.extBut D.i2z D.l2z).move k2.extBut D.i12.symm D.l2i1).move k3.extBut D.TOi2.symm D.l2TO) D.l2i2 hy fun g4 p4 k4 => wpAny_pure ?_)
  have O4 : IsPair g4 TO x b := k4.extBut _ _ D.TOi2 O3
  refine wpAny_bind (wpAny_seqItems O4 rfl (wpAny_bind (wpAny_updateSeq_pair O4 fun g5 O5 k5 => ?_)))
  replace O5 : IsPair g5 TO x y := O5
  refine wpAny_bind (wpAny_letGo (wpAny_pure (wpAny_pure (wpAny_bind (wpAny_seqItems O5 rfl (wpAny_bind (wpAny_newTuple ?_)))))))
  have sz : g5.objs.size = s.heap.objs.size := by rw [k5.1, k4.1, k3.1, k2.1, k1.1]
  have z5 : IsZip g5 z TI TO .ellipsis := k5.extBut _ _ D.TOz.symm (k4.extBut _ _ D.i2z.symm (k3.extBut _ _ D.TOz.symm (k2.extBut _ _ D.i1z.symm z1)))
  have kp5 : ∀ c o, c ≠ z → c ≠ TO → c ≠ i1 → c ≠ i2 → s.heap.get? c = some o → g5.get? c = some o := fun c o c1 c2 c3 c4 e => k5.extBut _ _ c2 (k4.extBut _ _ c4 (k3.extBut _ _ c2 (k2.extBut _ _ c3 (k1.extBut _ _ c1 e))))
  have a5 : AtT i1 t1 xs (i + 1) g5 := ((p2.move k3.extBut D.TOi1.symm D.l1TO).move k4.extBut D.i12 D.l1i2).move k5.extBut D.TOi1.symm D.l1TO
  have b5 : AtT i2 t2 ys (i + 1) g5 := p4.move k5.extBut D.TOi2.symm D.l2TO
  have zlt : z < g5.objs.size := Heap.lt_size z5
  show wpAny _ _ (Builtin.SmallTypes.ownedTupleHandOut (.ref z) (.ref g5.objs.size) >>= _) _ _ _
  refine wpAny_bind ?_
  unfold Builtin.SmallTypes.ownedTupleHandOut
  have z6 : IsZip (g5.push { cls := .type "tuple", data := .seq #[x, y] }) z TI TO .ellipsis := Heap.get?_push_of_some _ z5
  refine wpAny_bind (wpAny_setField_rec z6 (by simp) fun g7 z7 k7 => ?_)
  replace z7 : IsZip g7 z TI TO (rawInt g5.objs.size) := z7
  refine wpAny_setField_rec z7 (by simp) fun g8 z8 k8 => ?_
  replace z8 : IsZip g8 z TI TO (rawInt g5.objs.size) := z8
  have up : ∀ c o, c ≠ z → g5.get? c = some o → g8.get? c = some o := fun c o c1 e => k8.extBut _ _ c1 (k7.extBut _ _ c1 (Heap.get?_push_of_some _ e))
  have T8 : IsPair g8 g5.objs.size x y := k8.extBut _ _ (Nat.ne_of_gt zlt) (k7.extBut _ _ (Nat.ne_of_gt zlt) (Heap.get?_push_size _ rfl))
  have s8 : g8.objs.size = g5.objs.size + 1 := by rw [k8.1, k7.1, Heap.size_push]
  rw [sz] at z8 T8 s8
  refine wpAny_pure ⟨_, rfl, ?_⟩
  show Q (.ref g5.objs.size) _
  rw [sz]
  exact hQ g8 ⟨z8, up _ _ D.TIz (kp5 _ _ D.TIz D.TITO D.TIi1 D.TIi2 hTI), ⟨x, y, up _ _ D.TOz O5⟩, a5.keeps (fun o q => up _ o D.i1z q) (fun o q => up _ o D.l1z q), b5.keeps (fun o q => up _ o D.i2z q) fun o q => up _ o D.l2z q⟩ T8 s8
    fun c o c1 c2 c3 c4 e => up c o c1 (kp5 c o c1 c2 c3 c4 e)
theorem zipT_stop {z TI TO i1 i2 t1 t2 : Addr} {xs ys : Array Value} {i : Nat} {Q : Fin → Shared → Prop} (hh : A.handled = none) (D : ZipApart z TI TO i1 i2 t1 t2) (Z : ZipAt z TI TO i1 i2 t1 t2 xs ys i .none s.heap) (hend : xs[i]? = none ∨ ys[i]? = none)
    (hE : ∀ h' e, (∀ c o, c ≠ z → c ≠ TO → c ≠ i1 → c ≠ i2 → s.heap.get? c = some o → h'.get? c = some o) → (∃ o, h'.get? e = some o ∧ o.cls = .type "StopIteration") → E (.ref e) { s with heap := h' }) :
    wpAny (model prog w) A (Builtin.«zip.__next__» ⟨[.ref z], []⟩) Q E s := by
  obtain ⟨hz, hTI, ⟨a, b, hTO⟩, h1, h2⟩ := Z
  show wpAny _ _ (field (.ref z) 2 >>= _) _ _ _
  refine wpAny_bind (wpAny_field hz rfl (x := .bool false) rfl ?_)
  show wpAny _ _ (field (.ref z) 3 >>= _) _ _ _
  refine wpAny_bind (wpAny_field hz rfl (x := .ref TI) rfl ?_)
  refine wpAny_bind (wpAny_seqItems hTI rfl ?_)
  show wpAny _ _ (Builtin.SmallTypes.ownedTupleIsFree (.ref z) >>= _) _ _ _
  refine wpAny_bind ?_
  unfold Builtin.SmallTypes.ownedTupleIsFree
  refine wpAny_bind (wpAny_field hz rfl (x := .none) rfl (wpAny_pure ?_))
  simp only [if_true]
  refine wpAny_bind (wpAny_rule (wpAny_bind (wpAny_field hz rfl (x := .ref TO) rfl (wpAny_bind (wpAny_setField_rec hz (by simp) fun g1 z1 k1 => ?_)))))
  replace z1 : IsZip g1 z TI TO .ellipsis := z1
  refine wpAny_bind ?_
  simp only [List.forIn_cons, List.forIn_nil, List.zipIdx_cons, List.zipIdx_nil]
  refine wpAny_bind (wpAny_bind (wpAny_onRaise ?_))
  show wpAny _ _ (Builtin.SmallTypes.nextOf (.ref i1) >>= _) _ _ _
  cases hx : xs[i]? with
  | none =>
    refine wpAny_bind (tnext_end hh (h1.move k1.extBut D.i1z D.l1z) hx fun g2 e k2 he => ?_)
    obtain ⟨oe, hoe, hce⟩ := he
    have z2 : IsZip g2 z TI TO .ellipsis := k2 _ _ D.i1z.symm z1
    have hez : e ≠ z := fun q => by subst q; rw [z2] at hoe; cases hoe; simp at hce
    exact wpAny_setField_rec z2 (by simp) fun g3 _ k3 => hE g3 e (fun c o c1 _ c3 _ q => k3.extBut _ _ c1 (k2 _ _ c3 (k1.extBut _ _ c1 q))) ⟨oe, k3.extBut _ _ hez hoe, hce⟩
  | some x =>
    have hy : ys[i]? = none := by rcases hend with q | q; rw [hx] at q; cases q; exact q
    refine wpAny_bind (tnext_item (h1.move k1.extBut D.i1z D.l1z) D.l1i1 hx fun g2 p2 k2 => wpAny_pure ?_)
    have O2 : IsPair g2 TO a b := k2.extBut _ _ D.TOi1 (k1.extBut _ _ D.TOz hTO)
    refine wpAny_bind (wpAny_seqItems O2 rfl (wpAny_bind (wpAny_updateSeq_pair O2 fun g3 O3 k3 => ?_)))
    refine wpAny_bind (wpAny_letGo (wpAny_pure (wpAny_bind (wpAny_bind (wpAny_onRaise ?_)))))
    show wpAny _ _ (Builtin.SmallTypes.nextOf (.ref i2) >>= _) _ _ _
    refine wpAny_bind (tnext_end hh (((h2.move k1.extBut D.i2z D.l2z).move k2.extBut D.i12.symm D.l2i1).move k3.extBut D.TOi2.symm D.l2TO) hy fun g4 e k4 he => ?_)
    obtain ⟨oe, hoe, hce⟩ := he
    have z4 : IsZip g4 z TI TO .ellipsis := k4 _ _ D.i2z.symm (k3.extBut _ _ D.TOz.symm (k2.extBut _ _ D.i1z.symm z1))
    have hez : e ≠ z := fun q => by subst q; rw [z4] at hoe; cases hoe; simp at hce
    exact wpAny_setField_rec z4 (by simp) fun g5 _ k5 => hE g5 e (fun c o c1 c2 c3 c4 q => k5.extBut _ _ c1 (k4 _ _ c4 (k3.extBut _ _ c2 (k2.extBut _ _ c3 (k1.extBut _ _ c1 q))))) ⟨oe, k5.extBut _ _ hez hoe, hce⟩
theorem zipT_pyNext {z TI TO i1 i2 t1 t2 : Addr} {xs ys : Array Value} {i : Nat} {x y : Value} {Q : Option Value → Shared → Prop} (D : ZipApart z TI TO i1 i2 t1 t2) (Z : ZipAt z TI TO i1 i2 t1 t2 xs ys i .none s.heap) (hx : xs[i]? = some x) (hy : ys[i]? = some y)
    (hQ : ∀ h', ZipAt z TI TO i1 i2 t1 t2 xs ys (i + 1) (rawInt s.heap.objs.size) h' → IsPair h' s.heap.objs.size x y → h'.objs.size = s.heap.objs.size + 1 →
      (∀ c o, c ≠ z → c ≠ TO → c ≠ i1 → c ≠ i2 → s.heap.get? c = some o → h'.get? c = some o) → Q (some (.ref s.heap.objs.size)) { s with heap := h' }) : wpAny (model prog w) A (pyNext (.ref z)) Q E s := by
  have hT : s.TypeIs (.ref z) "zip" := ⟨_, Z.z, rfl⟩
  unfold pyNext
  exact wpAny_bind (wpAny_attempt (wpAny_callSpecial?_slot (name := Str.ofString "__next__") hT F.slot_zip_next (wpAny_call_entry F.slot_zip_next hT F.entry_zip_next
    (zipT_next D Z hx hy fun h' p1 p2 p3 p4 => wpAny_pure (hQ h' p1 p2 p3 p4)) (F.args_zip_next_1 _))))
theorem zipT_pyEnd {z TI TO i1 i2 t1 t2 : Addr} {xs ys : Array Value} {i : Nat} {Q : Option Value → Shared → Prop} (hh : A.handled = none) (D : ZipApart z TI TO i1 i2 t1 t2) (Z : ZipAt z TI TO i1 i2 t1 t2 xs ys i .none s.heap) (hend : xs[i]? = none ∨ ys[i]? = none)
    (hQ : ∀ h', (∀ c o, c ≠ z → c ≠ TO → c ≠ i1 → c ≠ i2 → s.heap.get? c = some o → h'.get? c = some o) → Q none { s with heap := h' }) : wpAny (model prog w) A (pyNext (.ref z)) Q E s := by
  have hT : s.TypeIs (.ref z) "zip" := ⟨_, Z.z, rfl⟩
  unfold pyNext
  refine wpAny_bind (wpAny_attempt (wpAny_callSpecial?_slot (name := Str.ofString "__next__") hT F.slot_zip_next (wpAny_call_entry F.slot_zip_next hT F.entry_zip_next
    (zipT_stop hh D Z hend fun h' e hk he => ?_) (F.args_zip_next_1 _))))
  obtain ⟨o, ho, hc⟩ := he
  exact wpAny_bind (wpAny_isInstance (T := "StopIteration") (b := true) ⟨o, ho, hc⟩ isSubtype_stop (wpAny_pure (hQ _ hk)))
noncomputable abbrev zh1 (h : Heap) (t1 : Addr) : Heap := h.push (tupIt t1)
noncomputable abbrev zh2 (h : Heap) (t1 t2 : Addr) : Heap := (zh1 h t1).push (tupIt t2)
noncomputable abbrev zh3 (h : Heap) (t1 t2 : Addr) : Heap := (zh2 h t1 t2).push { cls := .type "tuple", data := .seq #[.ref h.objs.size, .ref (zh1 h t1).objs.size] }
noncomputable abbrev zh4 (h : Heap) (t1 t2 : Addr) : Heap := (zh3 h t1 t2).push { cls := .type "tuple", data := .seq #[.none, .none] }
noncomputable abbrev zh5 (h : Heap) (t1 t2 : Addr) : Heap := (zh4 h t1 t2).push { cls := .type "zip", data := .fields #[.none, .bool false, .bool false, .ref (zh2 h t1 t2).objs.size, .ref (zh3 h t1 t2).objs.size] }
theorem zipT_new (t1 t2 : Addr) (xs ys : Array Value) :
    Meets (Builtin.«zip.__new__» ⟨[.type "zip", .ref t1, .ref t2], []⟩) (fun _ R s => s.heap.IsTuple t1 xs ∧ s.heap.IsTuple t2 ys ∧ R (.ok (.ret (.ref (zh4 s.heap t1 t2).objs.size))) { s with heap := zh5 s.heap t1 t2 }) :=
  .of_wp fun prog w A R s h => by
    obtain ⟨hp, g, d, tk, os⟩ := s; obtain ⟨ht1, ht2, h⟩ := h
    have hsub := sub_zip
    have T1 : Heap.IsTuple (Shared.heap ⟨hp, g, d, tk, os⟩) t1 xs := ht1
    have T2 : Heap.IsTuple (Shared.heap ⟨hp.push { cls := .type "tuple_iterator", data := .fields #[.ref t1, .int 0 0] }, g, d, tk, os⟩) t2 ys := Heap.IsTuple.push ht2 _
    wp_walk using wpAny_pyIter_tuple T1, wpAny_pyIter_tuple T2
    exact ⟨_, rfl, h⟩
theorem call_zipT {t1 t2 : Addr} {xs ys : Array Value} {Q : Value → Shared → Prop} (ht1 : s.heap.IsTuple t1 xs) (ht2 : s.heap.IsTuple t2 ys)
    (h : ∀ h', ZipAt (s.heap.objs.size + 4) (s.heap.objs.size + 2) (s.heap.objs.size + 3) s.heap.objs.size (s.heap.objs.size + 1) t1 t2 xs ys 0 .none h' → h'.objs.size = s.heap.objs.size + 5 →
      (∀ c o, s.heap.get? c = some o → h'.get? c = some o) → Q (.ref (s.heap.objs.size + 4)) { s with heap := h' }) : wpAny (model prog w) A (call (.type "zip") [.ref t1, .ref t2]) Q E s := by
  refine callType_new F.called_zip (by decide) (F.typeCall_zip_2 _ _) (F.newCall_zip_2 _ _) (fun obj => F.args_object_init_3 obj _ _) F.entry_zip_new (zipT_new t1 t2 xs ys) ⟨ht1, ht2, ?_⟩
  have z1 : (zh1 s.heap t1).objs.size = s.heap.objs.size + 1 := Heap.size_push ..
  have z2 : (zh2 s.heap t1 t2).objs.size = s.heap.objs.size + 2 := by rw [Heap.size_push, z1]
  have z3 : (zh3 s.heap t1 t2).objs.size = s.heap.objs.size + 3 := by rw [Heap.size_push, z2]
  have z4 : (zh4 s.heap t1 t2).objs.size = s.heap.objs.size + 4 := by rw [Heap.size_push, z3]
  have z5 : (zh5 s.heap t1 t2).objs.size = s.heap.objs.size + 5 := by rw [Heap.size_push, z4]
  have up : ∀ c o, s.heap.get? c = some o → (zh5 s.heap t1 t2).get? c = some o := fun c o q => Heap.get?_push_of_some _ (Heap.get?_push_of_some _ (Heap.get?_push_of_some _ (Heap.get?_push_of_some _ (Heap.get?_push_of_some _ q))))
  have g5 : (zh5 s.heap t1 t2).get? (zh4 s.heap t1 t2).objs.size = some _ := Heap.get?_push_size _ rfl
  have g4 : (zh5 s.heap t1 t2).get? (zh3 s.heap t1 t2).objs.size = some _ := Heap.get?_push_of_some _ (Heap.get?_push_size _ rfl)
  have g3 : (zh5 s.heap t1 t2).get? (zh2 s.heap t1 t2).objs.size = some _ := Heap.get?_push_of_some _ (Heap.get?_push_of_some _ (Heap.get?_push_size _ rfl))
  have g2 : (zh5 s.heap t1 t2).get? (zh1 s.heap t1).objs.size = some _ := Heap.get?_push_of_some _ (Heap.get?_push_of_some _ (Heap.get?_push_of_some _ (Heap.get?_push_size _ rfl)))
  have g1 : (zh5 s.heap t1 t2).get? s.heap.objs.size = some _ := Heap.get?_push_of_some _ (Heap.get?_push_of_some _ (Heap.get?_push_of_some _ (Heap.get?_push_of_some _ (Heap.get?_push_size _ rfl))))
  show _ ∧ _
  rw [z2, z3, z4] at g5
  rw [z1, z2] at g3
  rw [z3] at g4
  rw [z1] at g2
  rw [z4]
  have T1 : (zh5 s.heap t1 t2).IsTuple t1 xs := let ⟨o, ho, r⟩ := ht1; ⟨o, up _ _ ho, r⟩
  have T2 : (zh5 s.heap t1 t2).IsTuple t2 ys := let ⟨o, ho, r⟩ := ht2; ⟨o, up _ _ ho, r⟩
  exact ⟨⟨_, g5, rfl⟩, h _ ⟨g5, g3, ⟨_, _, g4⟩, ⟨⟨_, g1, rfl, rfl⟩, T1⟩, ⟨⟨_, g2, rfl, rfl⟩, T2⟩⟩ z5 up⟩
end
end L3
namespace L3
open PySem PyProof.Rows
section
variable {prog : Program} {w : World} {A : Around} {E : Value → Shared → Prop} {s : Shared}
end
end L3
namespace L3
open PySem
theorem bt_len : bootBuiltins "len" = some (.builtin "len") := by decide +kernel
theorem bt_tuple : bootBuiltins "tuple" = some (.type "tuple") := by decide +kernel
theorem bt_all : bootBuiltins "all" = some (.builtin "all") := by decide +kernel
theorem bt_isinstance : bootBuiltins "isinstance" = some (.builtin "isinstance") := by decide +kernel
theorem bt_max : bootBuiltins "max" = some (.builtin "max") := by decide +kernel
theorem bt_bool : bootBuiltins "bool" = some (.type "bool") := by decide +kernel
theorem bt_str : bootBuiltins "str" = some (.type "str") := by decide +kernel
theorem bt_int : bootBuiltins "int" = some (.type "int") := by decide +kernel
theorem bt_abs : bootBuiltins "abs" = some (.builtin "abs") := by decide +kernel
theorem bt_sum : bootBuiltins "sum" = some (.builtin "sum") := by decide +kernel
theorem bt_sorted : bootBuiltins "sorted" = some (.builtin "sorted") := by decide +kernel
theorem bt_dict : bootBuiltins "dict" = some (.type "dict") := by decide +kernel
end L3
set_option maxRecDepth 100000
namespace L2
open PySem PySem.Spec PyProof.Rows
section
variable {X : Cx} {pins : List (Addr × Obj)} {σ : St} {H : Hp} {s : Shared} {h' : Heap}
theorem Inv.turnLay {a : Addr} {o : HO} {t' : Nat} {ch : List Addr} (I : Inv X pins σ H s) (hf : ∀ b ∈ ch, FpOk X pins H b) (k : ∀ b u, b ∉ ch → s.heap.get? b = some u → h'.get? b = some u) (hp : s.heap.objs.size ≤ a)
    (new : ObjOk X.prog X.w (upd H a o) h' a o) : Inv X pins σ (upd H a o) { s with heap := h', toks := t' } := by
  have fa : H a = none := I.hok.fresh hp
  have nch : ∀ b u, H b = some u → b ∉ ch := fun b u e z => by rw [(hf b z).1] at e; cases e
  refine I.step (g' := s.gens) (d' := s.drawn) (ch := ch) (fun b hb => ?_) (fun b u _ _ hc e _ => k b u hc e) (fun b u _ _ hc e _ => ⟨u.slots, k b u hc e⟩) (fun b u hc e n => ?_) (fun b u hc e => ⟨u, k b u hc e⟩)
    (fun b xs e => ?_) (fun b ob u e => ?_) (fun b ps e => ?_) (fun m hm => ?_) (fun b u e => ?_) I.bare
  · obtain ⟨_, f1, _, f3, f4, f5⟩ := hf b hb
    exact ⟨f3, f1, f4, f5⟩
  · rw [upd_ne (Nat.ne_of_lt (Nat.lt_of_lt_of_le (Heap.lt_size e) hp))]; exact n
  · rw [upd_ne (ne_of_none e fa)]; exact e
  · rw [upd_ne (ne_of_none e fa)]; exact e
  · exact ⟨#[], by rw [upd_ne (ne_of_none e fa), e]; simp⟩
  · obtain ⟨ob, es, ep, ho, r⟩ := hm
    exact ⟨ob, es, ep, k _ ob (fun z => (hf _ z).2.1 rfl) ho, r⟩
  · by_cases hb : b = a
    · subst hb; rw [upd_same] at e; cases e; exact new
    · rw [upd_ne hb] at e
      refine (I.hok b u e).stay (fun c v hc q => k c v ?_ q) (fun c q => by rw [upd_ne (ne_of_none q fa)]; exact q) fun c xs q => by rw [upd_ne (ne_of_none q fa)]; exact q
      rcases hc with z | z
      · rw [z]; exact nch b u e
      · exact nch c _ z
theorem Inv.turnMany {t' : Nat} {ch : List Addr} (I : Inv X pins σ H s) (hf : ∀ b ∈ ch, FpOk X pins H b) (k : ∀ b u, b ∉ ch → s.heap.get? b = some u → h'.get? b = some u) : Inv X pins σ H { s with heap := h', toks := t' } := by
  have nch : ∀ b u, H b = some u → b ∉ ch := fun b u e z => by rw [(hf b z).1] at e; cases e
  refine I.step (g' := s.gens) (d' := s.drawn) (ch := ch) (fun b hb => ?_) (fun b u _ _ hc e _ => k b u hc e) (fun b u _ _ hc e _ => ⟨u.slots, k b u hc e⟩) (fun b u hc e n => n) (fun b u hc e => ⟨u, k b u hc e⟩)
    (fun b xs e => e) (fun b ob u e => e) (fun b ps e => ⟨#[], by rw [e]; simp⟩) (fun m hm => ?_) (fun b u e => ?_) I.bare
  · obtain ⟨_, f1, _, f3, f4, f5⟩ := hf b hb
    exact ⟨f3, f1, f4, f5⟩
  · obtain ⟨ob, es, ep, ho, r⟩ := hm
    exact ⟨ob, es, ep, k _ ob (fun z => (hf _ z).2.1 rfl) ho, r⟩
  · refine (I.hok b u e).stay (fun c v hc q => k c v ?_ q) (fun _ q => q) fun _ _ q => q
    rcases hc with z | z
    · rw [z]; exact nch b u e
    · exact nch c _ z
end
noncomputable def Itz (K : PySem.W.Frag) (a b : Addr) : It :=
  ⟨fun i H => ∃ xs ys x y, SqT K H a xs ∧ SqT K H b ys ∧ xs[i]? = some x ∧ ys[i]? = some y,
   fun i H v H' => ∃ p x y, H p = none ∧ v = .ref p ∧ H' = upd H p (.tup [x, y]) ∧ (∀ xs, SqT K H a xs → xs[i]? = some x) ∧ ∀ ys, SqT K H b ys → ys[i]? = some y,
   fun i H => ∃ xs ys, SqT K H a xs ∧ SqT K H b ys ∧ (xs.length ≤ i ∨ ys.length ≤ i)⟩
theorem turn_zipT {P : Program} {w : World} {K : PySem.W.Frag} {elts : List Expr} {x1} {tp : Pos} {z TI TO i1 i2 a b : Addr} (D : ZipApart z TI TO i1 i2 a b) :
    Turn P w K (.Tuple elts x1 tp) (Itz K a b) [z, TI, TO, i1, i2] z (fun i h => IsZip h z TI TO .none ∧ IsPair h TI (.ref i1) (.ref i2) ∧ (∃ u v, IsPair h TO u v) ∧ h.IsTupleIter i1 a i ∧ h.IsTupleIter i2 b i) where
  mem := by simp
  obj := fun i h st c hc => by
    obtain ⟨q1, q2, ⟨u, v, q3⟩, ⟨o4, e4, c4, d4⟩, ⟨o5, e5, c5, d5⟩⟩ := st
    simp only [List.mem_cons, List.not_mem_nil, or_false] at hc
    rcases hc with rfl | rfl | rfl | rfl | rfl
    · exact ⟨_, q1, fun v z => by have z' : Data.fields _ = Data.cell v := z; cases z'⟩
    · exact ⟨_, q2, fun v z => by have z' : Data.seq _ _ = Data.cell v := z; cases z'⟩
    · exact ⟨_, q3, fun v z => by have z' : Data.seq _ _ = Data.cell v := z; cases z'⟩
    · exact ⟨o4, e4, fun v z => by rw [d4] at z; cases z⟩
    · exact ⟨o5, e5, fun v z => by rw [d5] at z; cases z⟩
  keep := fun i h h' ⟨q1, q2, ⟨u, v, q3⟩, r4, r5⟩ k => ⟨k _ (by simp) _ q1, k _ (by simp) _ q2, ⟨u, v, k _ (by simp) _ q3⟩, r4.at fun o q => k _ (by simp) o q, r5.at fun o q => k _ (by simp) o q⟩
  item := by
    intro X hP hw hK hc i pins s σ H E I hf st hg
    subst hP hw hK
    have st0 := st
    obtain ⟨q1, q2, q3, r4, r5⟩ := st
    obtain ⟨xs, ys, x, y, hq, hq', hx, hy⟩ := hg
    obtain ⟨its, rv, p, _⟩ := I.tuple hq
    obtain ⟨its', rv', p', _⟩ := I.tuple hq'
    obtain ⟨u, hu, ru⟩ := rv.get hx
    obtain ⟨v, hv, rw'⟩ := rv'.get hy
    refine L3.zipT_pyNext D ⟨q1, q2, q3, ⟨r4, p⟩, ⟨r5, p'⟩⟩ (x := u) (y := v) (by simpa using hu) (by simpa using hv) fun h' Z tp1 sz k1 => ⟨_, rfl, ?_⟩
    refine wpAny_letOwnedTupleGo_zip Z.z fun h2 z2 k2 => ?_
    have lt : ∀ c ∈ [z, TI, TO, i1, i2], c < s.heap.objs.size := fun c hc => by
      obtain ⟨w1, w2, ⟨_, _, w3⟩, ⟨_, w4, _⟩, ⟨_, w5, _⟩⟩ := st0
      simp only [List.mem_cons, List.not_mem_nil, or_false] at hc
      rcases hc with rfl | rfl | rfl | rfl | rfl
      · exact Heap.lt_size w1
      · exact Heap.lt_size w2
      · exact Heap.lt_size w3
      · exact Heap.lt_size w4
      · exact Heap.lt_size w5
    have hT : s.heap.objs.size ≠ z := Nat.ne_of_gt (lt z (by simp))
    have kk : ∀ c w', c ∉ [z, TI, TO, i1, i2] → s.heap.get? c = some w' → h2.get? c = some w' := fun c w' hc q => by
      have n1 : c ≠ z := fun e => hc (by simp [e])
      exact (k2.2 c n1).trans (k1 c w' n1 (fun e => hc (by simp [e])) (fun e => hc (by simp [e])) (fun e => hc (by simp [e])) q)
    have new : ObjOk X.prog X.w (upd H s.heap.objs.size (.tup [x, y])) h2 s.heap.objs.size (.tup [x, y]) :=
      ⟨by show 2 ≤ sizeLine; decide, [u, v], .cons ru (.cons rw' .nil), ⟨_, (k2.2 _ hT).trans tp1, rfl, _, rfl⟩, _, (k2.2 _ hT).trans tp1, rfl⟩
    have IL : Inv X pins σ (upd H s.heap.objs.size (.tup [x, y])) { s with heap := h2, toks := s.toks } := I.turnLay (t' := s.toks) (ch := [z, TI, TO, i1, i2]) hf kk (Nat.le_refl _) new
    refine ⟨.ref s.heap.objs.size, _, IL, rfl,
      ⟨_, x, y, I.hok.fresh (Nat.le_refl _), rfl, rfl, fun ys hy' => by rw [I.tuple_inj hy' hq]; exact hx, fun ys hy' => by rw [I.tuple_inj hy' hq']; exact hy⟩,
      ⟨z2, (k2.2 _ D.TIz).trans Z.TI, ?_, Z.one.iter.at fun o q => (k2.2 _ D.i1z).trans q, Z.two.iter.at fun o q => (k2.2 _ D.i2z).trans q⟩, fun c hc => ?_⟩
    · obtain ⟨a', b', q⟩ := Z.TO
      exact ⟨a', b', (k2.2 _ D.TOz).trans q⟩
    · rw [upd_ne (Nat.ne_of_lt (lt c hc))]; exact (hf c hc).1
  done := by
    intro X hP hw hK hc i pins s σ H E I hf st hg
    subst hP hw hK
    obtain ⟨q1, q2, q3, r4, r5⟩ := st
    obtain ⟨xs, ys, hq, hq', hx⟩ := hg
    obtain ⟨its, rv, p, _⟩ := I.tuple hq
    obtain ⟨its', rv', p', _⟩ := I.tuple hq'
    have hl := rv.length
    have hl' := rv'.length
    refine L3.zipT_pyEnd (I.ok.hd hc) D ⟨q1, q2, q3, ⟨r4, p⟩, ⟨r5, p'⟩⟩ ?_ fun h' k => ⟨rfl, I.turnMany (t' := s.toks) (ch := [z, TI, TO, i1, i2]) hf fun c v hc q =>
      k c v (fun e => hc (by simp [e])) (fun e => hc (by simp [e])) (fun e => hc (by simp [e])) (fun e => hc (by simp [e])) q⟩
    rcases hx with hx | hx
    · exact .inl (by simp; omega)
    · exact .inr (by simp; omega)
  self := fun _ _ _ _ _ ⟨q, _⟩ h => wpAny_pyIter_zip q h
section
variable {X : Cx}
noncomputable def iZipT (K : PySem.W.Frag) (ta : TA) : TI := fun σ H R => ta σ H fun vs H1 => ∃ a b, vs = [.ref a, .ref b] ∧ (∃ xs, SqT K H1 a xs) ∧ (∃ ys, SqT K H1 b ys) ∧ R (Itz K a b) H1
theorem pi_zipT {a b : Expr} {ta : TA} {p pos tp : Pos} {elts : List Expr} {x1} (hg : Gl X "zip") (hm : X.mg "zip" = none) (ha : PA X [a, b] ta)
    (hs : starEach [a, b] X.env = [(false, eval a X.env), (false, eval b X.env)] := by rfl) (hs2 : starEach [b] X.env = [(false, eval b X.env)] := by rfl) : PI X (.Tuple elts x1 tp) (.Call (.Name "zip" p) [a, b] [] pos) (iZipT X.K ta) := by
  intro pins s σ H R I h
  refine Call_ (ld_blt I hg hm boot_zip (PyProof.Rows.callWith_type1 (thn (ha pos pins s σ H _ I h) fun us s1 ⟨vs, H1, I1, r1, q1⟩ => ?_) (by rw [hs, hs2]) (by rw [hs2]; rfl)))
  obtain ⟨t, t2, e, ⟨xs, hq⟩, ⟨ys, hq'⟩, q⟩ := q1
  subst e
  cases r1 with
  | cons r rr =>
    cases rr with
    | cons r' rr =>
      cases rr
      cases r
      cases r'
      obtain ⟨its, rv, pt, hz⟩ := I1.tuple hq
      obtain ⟨its', rv', pt', hz'⟩ := I1.tuple hq'
      have T1 : s1.heap.IsTuple t its.toArray := pt
      have T2 : s1.heap.IsTuple t2 its'.toArray := pt'
      have l1 : t < s1.heap.objs.size := by obtain ⟨o, ho, _⟩ := T1; exact Heap.lt_size ho
      have l2 : t2 < s1.heap.objs.size := by obtain ⟨o, ho, _⟩ := T2; exact Heap.lt_size ho
      refine L3.call_zipT T1 T2 fun h' Z sz k => ?_
      have I2 : Inv X pins σ H1 { s1 with heap := h' } := I1.kept (t' := s1.toks) k
      have D : ZipApart (s1.heap.objs.size + 4) (s1.heap.objs.size + 2) (s1.heap.objs.size + 3) s1.heap.objs.size (s1.heap.objs.size + 1) t t2 := PyProof.Rows.zipApart_new l1 l2
      refine wpAny_pyIter_zip Z.z ⟨_, [s1.heap.objs.size + 4, s1.heap.objs.size + 2, s1.heap.objs.size + 3, s1.heap.objs.size, s1.heap.objs.size + 1], _, _, H1, rfl, I2, turn_zipT D, ⟨Z.z, Z.TI, Z.TO, Z.one.iter, Z.two.iter⟩, fun c hc => ?_, q⟩
      have hc' : s1.heap.objs.size ≤ c := by
        simp only [List.mem_cons, List.not_mem_nil, or_false] at hc
        rcases hc with rfl | rfl | rfl | rfl | rfl <;> first | exact Nat.le_refl _ | exact Nat.le_add_right _ _
      exact I1.fpOk hc' (I1.hok.fresh hc')
end
section
variable {X : Cx}
noncomputable def Cx.comp (X : Cx) (scope : Scope) (N' : List Str) (C : Addr) (fp : List Addr) (pins : List (Addr × Obj)) (s₂ : Shared) (H₂ : Hp) : Cx :=
  { X with N := N', s₀ := s₂, H₀ := H₂, env := compEnvC scope (L3.closL X.env.cells scope.names []) C X.env, outer := X.stack, ex := fp, fn := fun _ => false, pn := X.pn ++ pins, xe := fun _ _ => False }
theorem comp_look {scope : Scope} {x : Str} {c : Addr} (h : (L3.closL X.env.cells scope.names []).lookup x = some c) : X.env.cells.lookup x = some c :=
  L3.closL_lookup (cs := []) (fun _ e => by simp at e) h
variable {scope : Scope} {N' : List Str} {sh : List Nat} {pins : List (Addr × Obj)} {σ : St} {H : Hp} {s : Shared} {C : Addr} {fp : List Addr}
theorem comp_free (cp : L3.CompParts X.env.scope scope X.N N' sh) {x : Str} (h : (relabel scope X.env).names.lookup x = some .cell ∨ (relabel scope X.env).names.lookup x = some .free) : (x, NameKind.free) ∈ scope.names ∧ X.env.kindOf x = some .cell := by
  have q : (x, NameKind.free) ∈ scope.names := by
    rcases h with h | h
    · obtain ⟨k0, h0, h1⟩ := L3.relab_inv h
      rcases h1 with h1 | ⟨h1, _⟩
      · subst h1; exact absurd rfl (cp.cell _ (L3.mem_of_look h0))
      · subst h1; exact L3.mem_of_look h0
    · obtain ⟨k0, h0, h1⟩ := L3.relab_inv h
      rcases h1 with h1 | ⟨_, h1⟩
      · subst h1; exact L3.mem_of_look h0
      · cases h1
  exact ⟨q, cp.free _ q rfl⟩
theorem comp_ok (I : Inv X pins σ H s) (cp : L3.CompParts X.env.scope scope X.N N' sh) (hC : s.heap.objs.size ≤ C) (hf : ∀ b ∈ fp, FpOk X pins H b) (hlt : ∀ b ∈ fp, b < s.heap.objs.size) : (X.comp scope N' C fp pins s H).Ok := by
  refine ⟨I.ok.mod, cp.kind, I.ok.glob, I.ok.blt, hC, fun x y c h1 h2 => I.ok.inj x y c (comp_look h1) (comp_look h2), fun x hx => ?_, fun x c z _ => ?_, I.ok.hd, I.ok.frames, .inl rfl, fun b hb => ⟨?_, fun x c e => ?_⟩, I.bs, Nat.le_trans I.ok.bsz I.sz, fun b o e hb => ?_, fun b hb z => ?_, I.stack, I.stkFree⟩
  · obtain ⟨q, kq⟩ := comp_free cp hx
    obtain ⟨d, hd⟩ := I.ok.has x (.inl kq)
    exact L3.closL_has hd q
  · exact absurd (show false = true from z) Bool.false_ne_true
  · exact Nat.ne_of_lt (Nat.lt_of_lt_of_le (hlt b hb) hC)
  · exact (hf b hb).2.2.2.2.1 x c (comp_look e)
  · rcases (hf b hb).2.2.2.1 with z | z
    · exact I.ok.noex b o e z
    · exact absurd (Nat.lt_of_lt_of_le (Heap.lt_size e) (Nat.le_trans I.ok.bsz z)) (Nat.lt_irrefl _)
  · rcases List.mem_cons.mp (I.stkSub b z) with e | e
    · exact (hf b hb).2.1 e
    · exact (hf b hb).2.2.1 e
theorem comp_in (I : Inv X pins σ H s) (cp : L3.CompParts X.env.scope scope X.N N' sh) {more : Nat} (hm : N'.length = X.N.length + more) (hC : s.heap.objs.size ≤ C) (hf : ∀ b ∈ fp, FpOk X pins H b) (hlt : ∀ b ∈ fp, b < s.heap.objs.size)
    {h1 : Heap} {t : Nat} {m : Str → Option Value} (k : ∀ b o, s.heap.get? b = some o → h1.get? b = some o) (hn : h1.Ns C m) : Inv (X.comp scope N' C fp pins s H) [] (L3.blank sh σ ++ List.replicate more none) H { s with heap := h1, toks := t } := by
  have neC : ∀ b o, s.heap.get? b = some o → b ≠ C := fun b o e => Nat.ne_of_lt (Nat.lt_of_lt_of_le (Heap.lt_size e) hC)
  have lenσ : σ.length = X.N.length := I.len
  refine ⟨comp_ok I cp hC hf hlt, rfl, I.bare, Un.kept k, ⟨m, hn, fun i x v e1 e2 e3 => ?_⟩, fun x c e => ?_, I.hok.fresh hC, fun x c e => I.freeC x c (comp_look e), fun p hp => ?_, I.hok.kept k, ?_⟩
  · have hi : i < (L3.blank sh σ).length := by
      by_cases hi : i < (L3.blank sh σ).length
      · exact hi
      · rw [List.getElem?_append_right (Nat.le_of_not_lt hi), List.getElem?_replicate] at e2
        split at e2 <;> cases e2
    rw [List.getElem?_append_left hi] at e2
    obtain ⟨h1', h2'⟩ := L3.blank_get e2
    rw [L3.blank_length, lenσ] at hi
    have eN : X.N[i]? = some x := by
      have q : (N'.take X.N.length)[i]? = some x := by rw [List.getElem?_take_of_lt hi]; exact e1
      rw [cp.pre] at q; exact q
    have e3' : (relabel scope X.env).names.lookup x = some .local ∨ (relabel scope X.env).names.lookup x = some .cell ∨ (relabel scope X.env).names.lookup x = some .free := e3
    rcases e3' with z | z
    · obtain ⟨k0, h0, hk⟩ := L3.relab_inv z
      have : k0 = .local := by
        rcases hk with q | ⟨_, q⟩
        · exact q.symm
        · cases q
      subst this
      exact absurd (cp.shad i x eN h0) h1'
    · obtain ⟨q, kq⟩ := comp_free cp z
      obtain ⟨m0, _, hl⟩ := I.loc
      obtain ⟨u, ru, lu⟩ := hl i x v eN h2' (.inr (.inl kq))
      rcases lu with ⟨kl, _⟩ | ⟨_, c, hc, ic⟩
      · rw [kq] at kl; cases kl
      · obtain ⟨c', hc'⟩ := L3.closL_has (cs := []) hc q
        have := comp_look (X := X) hc'
        rw [hc] at this; cases this
        exact ⟨u, ru, .inr ⟨z, c, hc', ic.keeps k⟩⟩
  · obtain ⟨v, z⟩ := I.cell x c (comp_look e)
    exact ⟨v, z.keeps k⟩
  · have hp' : p ∈ X.pn ++ pins := by simpa [Cx.comp] using hp
    obtain ⟨e, n, ne, nf, d⟩ := I.pin p hp'
    refine ⟨k _ _ e, n, neC _ _ e, fun z => ?_, d⟩
    rcases List.mem_cons.mp (I.stkSub p.1 z) with q | q
    · exact ne q
    · exact nf q
  · show (L3.blank sh σ ++ List.replicate more none).length = N'.length
    rw [List.length_append, L3.blank_length, List.length_replicate, lenσ, hm]
theorem comp_out {D : Addr} {n : Nat} {acc : List V} {ys : Array Value} {pl : List (Addr × Obj)} {σ4 : St} {H4 : Hp} {s4 : Shared} {h' : Heap} (I : Inv X pins σ H s) (hC : s.heap.objs.size ≤ C) (hf : ∀ b ∈ fp, FpOk X pins H b)
    (I4 : Inv (X.comp scope N' C fp pins s H) pl σ4 H4 s4) (hD : s.heap.objs.size ≤ D) (hDC : D ≠ C) (gD : s4.heap.get? D = some { cls := .type "list", data := .seq ys n }) (va : Vals acc ys.toList) (fD : H4 D = none) (hl : acc.length ≤ sizeLine)
    (sb : Heap.SameBut C s4.heap h') : Inv X pins σ (upd H4 D (.lst acc)) { s4 with heap := h' } := by
  have B : Un (frs X.stack) fp H H4 s.heap s4.heap := I4.base
  have fC : H4 C = none := I4.free
  have lo : ∀ b o, s.heap.get? b = some o → b ≠ C ∧ b ≠ D := fun b o e => ⟨Nat.ne_of_lt (Nat.lt_of_lt_of_le (Heap.lt_size e) hC), Nat.ne_of_lt (Nat.lt_of_lt_of_le (Heap.lt_size e) hD)⟩
  have u : Un (frs X.stack) fp H (upd H4 D (.lst acc)) s.heap h' := by
    refine ⟨fun b o e n hb hx => (sb.2 b (lo b o e).1).trans (B.keep b o e n hb hx), fun b o e n hb hx => ?_, fun b o e n hx => by rw [upd_ne (lo b o e).2]; exact B.free b o e n hx, fun b o e hx => ?_,
      fun b xs e => ?_, fun b o v e => ?_, fun b ps e => ?_⟩
    · obtain ⟨sl, q⟩ := B.slot b o e n hb hx
      exact ⟨sl, (sb.2 b (lo b o e).1).trans q⟩
    · obtain ⟨o', q⟩ := B.there b o e hx
      exact ⟨o', (sb.2 b (lo b o e).1).trans q⟩
    · have q := B.tups b xs e
      rw [upd_ne (ne_of_none q fD)]; exact q
    · have q := B.frzs b o v e
      rw [upd_ne (ne_of_none q fD)]; exact q
    · obtain ⟨more, q⟩ := B.tbls b ps e
      exact ⟨more, by rw [upd_ne (ne_of_none q fD)]; exact q⟩
  have hok : HOk X.prog X.w (upd H4 D (.lst acc)) h' := fun b v e => by
    by_cases hb : b = D
    · subst hb
      rw [upd_same] at e; cases e
      exact ⟨hl, ys.toList, n, va, by rw [sb.2 _ hDC, gD]⟩
    · rw [upd_ne hb] at e
      refine (show ObjOk X.prog X.w H4 s4.heap b v from I4.hok b v e).stay (fun c w' hc q => (sb.2 c ?_).trans q) (fun c q => by rw [upd_ne (ne_of_none q fD)]; exact q) fun c xs q => by rw [upd_ne (ne_of_none q fD)]; exact q
      rcases hc with z | z
      · rw [z]; exact ne_of_none e fC
      · exact ne_of_none z fC
  exact I.call' (s' := { s4 with heap := h' }) (ch := fp) (show s4.os = s.os from I4.os) u hok I4.bare fun b hb => ⟨(hf b hb).2.2.2.1, (hf b hb).2.1, (hf b hb).2.2.2.2.1, (hf b hb).2.2.2.2.2⟩
end
noncomputable def PIf (X : Cx) (ifs : List Expr) (tt : TT) : Prop :=
  ∀ (pins : List (Addr × Obj)) (s : Shared) (σ : St) (H : Hp) (Q : Bool → Hp → Prop), Inv X pins σ H s → tt σ H Q → wpAny (model X.prog X.w) X.A (L3.testsOf ifs X.env) (TP X pins σ Q) X.xe s
theorem pif_nil {X : Cx} : PIf X [] (fun _ H Q => Q true H) := fun _ _ _ H _ I h => wpAny_tests_nil ⟨H, I, h⟩
theorem pif_one {X : Cx} {c : Expr} {t : TT} (h : PT X c t) : PIf X [c] t := fun pins s σ H Q I q => wpAny_tests_one (h pins s σ H Q I q)
noncomputable def compW (J : It) (g : TG) (tt : TT) (te : TE) (σ : St) (H : Hp) (Q : VK) : Prop := ∃ W : Nat → Nat → List V → St → Hp → Prop, (∃ m, W 0 m [] σ H) ∧ ∀ i m acc σ' H', W i m acc σ' H' →
  (J.stop i H' ∧ acc.length ≤ sizeLine ∧ ∀ D, H' D = none → Q (.ref D) (upd H' D (.lst acc))) ∨
  (J.go i H' ∧ acc.length < sizeLine ∧ ∃ N : List V → St → Hp → Prop, (∀ acc' σ2 H2, N acc' σ2 H2 → ∃ m', m' < m ∧ W (i + 1) m' acc' σ2 H2) ∧
    ∀ x H2, J.yld i H' x H2 → g x σ' H2 fun σ2 H3 => tt σ2 H3 fun b H4 => if b = true then te σ2 H4 fun y H5 => N (acc ++ [y]) σ2 H5 else N acc σ2 H4)
noncomputable def tComp (wi : TI) (g : TG) (tt : TT) (te : TE) (sh : List Nat) (more : Nat) : TE := fun σ H Q => wi σ H fun J H1 => compW J g tt te (L3.blank sh σ ++ List.replicate more none) H1 Q
theorem comp_any {X : Cx} {elt tg iter : Expr} {ifs : List Expr} {scope : Scope} {pos pos' : Pos} {wi : TI} {g : TG} {tt : TT} {te : TE} {sh : List Nat} {N' : List Str} {more : Nat} (hcalm : X.calm = true) (hi : PI X tg iter wi)
    (hg : ∀ C fp pins s H, PG (X.comp scope N' C fp pins s H) tg g) (ht : ∀ C fp pins s H, PIf (X.comp scope N' C fp pins s H) ifs tt) (he : ∀ C fp pins s H, PE (X.comp scope N' C fp pins s H) elt te)
    (hc : L3.compOk X.env.scope scope X.N N' sh = true) (hm : N'.length = X.N.length + more) (hs : ∀ x, foldedSetIterable iter X.env x = pure x) {use : Option (Value → Sem Unit)} {Qv : Value → Shared → Prop}
    {pins : List (Addr × Obj)} {s : Shared} {σ : St} {H : Hp} {Q : VK} (I : Inv X pins σ H s) (h : tComp wi g tt te sh more σ H Q)
    (fin : ∀ (D C : Addr) (s2 : Shared) (H2 : Hp) (fp : List Addr) (pl : List (Addr × Obj)) (σ4 : St) (H4 : Hp) (s4 : Shared) (n : Nat) (ys : Array Value) (acc : List V), Inv X pins σ H2 s2 → (∀ b ∈ fp, FpOk X pins H2 b) → s2.heap.objs.size ≤ C → s2.heap.objs.size ≤ D → D ≠ C →
      Inv (X.comp scope N' C fp pins s2 H2) pl σ4 H4 s4 → s4.heap.get? D = some { cls := .type "list", data := .seq ys n } → Vals acc ys.toList → H4 D = none → acc.length ≤ sizeLine → Q (.ref D) (upd H4 D (.lst acc)) → compPost (model X.prog X.w) X.A X.xe use Qv (.ref D) C (.ok .next) s4) :
    wpAny (model X.prog X.w) X.A (comprehension (.ListComp elt [⟨tg, iter, ifs, 0⟩] scope pos) scope X.env pos' (newList []) false (eval iter X.env) use) Qv X.xe s := by
  have cp := L3.compOk_parts hc
  refine wpAny_comprehension_free (cl := L3.closL X.env.cells scope.names []) rfl hs (L3.closureFor_eq fun x hx hk => ?_) cp.kind cp.loc ?_
  · obtain ⟨c, q⟩ := I.ok.has x.1 (.inl (cp.free x hx hk))
    rw [q]; rfl
  show wpAny _ X.A (eval iter X.env) _ _ s
  refine thn (hi pins s σ H _ I h) fun v s1 h1 => thn h1 fun itv s2 h2 => ?_
  obtain ⟨it, fp, tn, J, H2, e, I2, T, st2, f2, W, ⟨m0, w0⟩, turn⟩ := h2
  subst e
  have hlt : ∀ b ∈ fp, b < s2.heap.objs.size := fun b hb => by
    obtain ⟨o, q, _⟩ := T.obj 0 _ st2 b hb
    exact Heap.lt_size q
  refine wpAny_newObj_type (wpAny_newFunctionEnv cp.cell (by intro y hy; simp at hy) (fun h₁ hns hsb => ?_) cp.kind)
  dsimp only at hns hsb ⊢
  generalize hG : s2.heap.push { cls := .type "list", dict := none, data := .seq ([] : List Value).toArray } = G at hns hsb ⊢
  have hz : G.objs.size = s2.heap.objs.size + 1 := by rw [← hG, Heap.size_push]
  have hC : s2.heap.objs.size ≤ G.objs.size := by omega
  have hDC : s2.heap.objs.size ≠ G.objs.size := by omega
  have old : ∀ b o, s2.heap.get? b = some o → h₁.get? b = some o := fun b o q => by
    have hb := Heap.lt_size q
    exact hsb.extBut b o (Nat.ne_of_lt (Nat.lt_of_lt_of_le hb hC)) (Heap.get?_push_of_some _ (hG ▸ Heap.get?_push_of_some _ q))
  have acc0 : h₁.PlainList s2.heap.objs.size #[] := ⟨_, hsb.extBut _ _ hDC (Heap.get?_push_of_some _ (hG ▸ Heap.get?_push_size _ rfl))⟩
  have nfD : s2.heap.objs.size ∉ frs X.stack := fun z => by
    obtain ⟨_, o, ho, _⟩ := I2.stack.mem z
    exact absurd (Heap.lt_size ho) (Nat.lt_irrefl _)
  have fpD : ∀ b ∈ fp, s2.heap.objs.size ≠ b := fun b hb => Nat.ne_of_gt (hlt b hb)
  have cD : ∀ x c, (L3.closL X.env.cells scope.names []).lookup x = some c → c ≠ s2.heap.objs.size := fun x c q z => by
    obtain ⟨w', z'⟩ := I2.cell x c (comp_look q)
    rw [z] at z'
    exact absurd z'.lt (Nat.lt_irrefl _)
  have pnD : ∀ p ∈ X.pn ++ pins, p.1 ≠ s2.heap.objs.size := fun p hp z => by
    have q := (I2.pin p hp).1
    rw [z] at q
    exact absurd (Heap.lt_size q) (Nat.lt_irrefl _)
  have okX : (X.comp scope N' G.objs.size fp pins s2 H2).Ok := comp_ok I2 cp hC f2 hlt
  -- the iterator's records, seen from the block
  have stat : ∀ {o : Obj} {H' : Hp}, (∀ b ∈ fp, H' b = none) → ∀ b ∈ fp, FpOk (X.comp scope N' G.objs.size fp pins s2 H2) [(s2.heap.objs.size, o)] H' b := fun {o H'} hn b hb => by
    refine ⟨hn b hb, (okX.exf b hb).1, okX.exfs b hb, .inl hb, (okX.exf b hb).2, fun p hp => ?_⟩
    rcases List.mem_append.mp hp with z | z
    · exact (f2 b hb).2.2.2.2.2 p z
    · have : p = (s2.heap.objs.size, o) := by simpa using z
      rw [this]; exact fpD b hb
  -- the list so far, held as it is
  have hold : ∀ {σ' : St} {H' : Hp} {s' : Shared} {o : Obj}, Inv (X.comp scope N' G.objs.size fp pins s2 H2) [] σ' H' s' → s'.heap.get? s2.heap.objs.size = some o → H' s2.heap.objs.size = none → (∀ v, o.data ≠ .cell v) →
      Inv (X.comp scope N' G.objs.size fp pins s2 H2) [(s2.heap.objs.size, o)] σ' H' s' := fun {σ' H' s' o} I' q n d => I'.pins_of fun p hp => by
    have : p = (s2.heap.objs.size, o) := by simpa using hp
    subst this
    exact ⟨q, n, hDC, nfD, d⟩
  have loop : ∀ s₃ : Shared, s₃ = { s2 with heap := h₁, toks := s2.toks + ([] : List (Str × Value)).length } →
      codeAny (model X.prog X.w) X.A (.compLoop (.ListComp elt [⟨tg, iter, ifs, 0⟩] scope pos) 0 (.ref it) (.ref s2.heap.objs.size) (compEnvC scope (L3.closL X.env.cells scope.names []) G.objs.size X.env))
        (compPost (model X.prog X.w) X.A X.xe use Qv (.ref s2.heap.objs.size) G.objs.size) s₃ := by
    rintro s₃ rfl
    refine L3.comp_loop (fun n s' => ∃ i acc ys σ' H', Inv (X.comp scope N' G.objs.size fp pins s2 H2) [] σ' H' s' ∧ tn i s'.heap ∧ (∀ b ∈ fp, H' b = none) ∧ s'.heap.PlainList s2.heap.objs.size ys ∧ Vals acc ys.toList ∧ H' s2.heap.objs.size = none ∧ W i n acc σ' H') ?_ m0
      ⟨0, [], #[], _, H2, comp_in I2 cp hm hC f2 hlt old hns, T.keep _ _ _ st2 (fun b _ o q => old b o q), fun b hb => (f2 b hb).1, acc0, .nil, I2.hok.fresh (Nat.le_refl _), w0⟩
    rintro n s3 ⟨i, acc, ys, σ3, H3, I3, st3, fr3, ⟨nn, gD⟩, va, fD, w3⟩
    have dD : ∀ v, ({ cls := .type "list", data := .seq ys nn } : Obj).data ≠ .cell v := fun v z => by
      have z' : Data.seq ys nn = Data.cell v := z
      cases z'
    have I3' := hold I3 gD fD dD
    rcases turn i n acc σ3 H3 w3 with ⟨stop, hl, q⟩ | ⟨go, hl, N, hN, step⟩
    · refine thn (T.done (X.comp scope N' G.objs.size fp pins s2 H2) rfl rfl rfl hcalm i _ s3 σ3 H3 (fun _ _ => False) I3' (stat fr3) st3 stop) fun r s4 ⟨hr, I4⟩ => ?_
      subst hr
      have g4 := (I4.pin (s2.heap.objs.size, _) (List.mem_append_right _ List.mem_cons_self)).1
      exact fin _ _ s2 H2 fp _ _ _ s4 _ _ acc I2 f2 hC (Nat.le_refl _) hDC I4 g4 va fD hl (q _ fD)
    · refine thn (T.item (X.comp scope N' G.objs.size fp pins s2 H2) rfl rfl rfl hcalm i _ s3 σ3 H3 (fun _ _ => False) I3' (stat fr3) st3 go) fun r s4 ⟨u, hr, h4⟩ => ?_
      subst hr
      refine thn h4 fun _ s5 ⟨x, H5, I5, r5, y5, st5, fr5⟩ => ?_
      have I5' := I5.pinned (stat fr5) (T.obj _ _ st5)
      refine thn (hg _ _ _ _ _ _ s5 σ3 H5 x u _ I5' r5 (step x H5 y5)) fun _ s6 ⟨σ6, H6, I6, q6⟩ => ?_
      refine thn (ht _ _ _ _ _ _ s6 σ6 H6 _ I6 q6) fun b s7 ⟨H7, I7, q7⟩ => ?_
      have inD : ∀ {o : Obj}, (s2.heap.objs.size, o) ∈ [(s2.heap.objs.size, o)] ++ pinsAt fp s5.heap := List.mem_append_left _ List.mem_cons_self
      have turned : ∀ {σ' : St} {H' : Hp} {s' : Shared}, Inv (X.comp scope N' G.objs.size fp pins s2 H2) ([(s2.heap.objs.size, ({ cls := .type "list", data := .seq ys nn } : Obj))] ++ pinsAt fp s5.heap) σ' H' s' →
          (∀ b ∈ fp, ∀ o, s5.heap.get? b = some o → s'.heap.get? b = some o) ∧ ∀ b ∈ fp, H' b = none := fun I' => by
        refine ⟨fun b hb o q => (I'.pin (b, o) (List.mem_append_right _ (List.mem_append_right _ (mem_pinsAt hb q)))).1, fun b hb => ?_⟩
        obtain ⟨o, q, _⟩ := T.obj _ _ st5 b hb
        exact (I'.pin (b, o) (List.mem_append_right _ (List.mem_append_right _ (mem_pinsAt hb q)))).2.1
      cases b with
      | false =>
        rw [if_neg Bool.false_ne_true] at q7 ⊢
        obtain ⟨m', hm', w7⟩ := hN _ _ _ q7
        have p7 := I7.pin (s2.heap.objs.size, _) (List.mem_append_right _ inD)
        exact ⟨m', hm', i + 1, acc, ys, σ6, H7, I7.pins_of (fun p hp => absurd hp (by simp)), T.keep _ _ _ st5 (turned I7).1, (turned I7).2, ⟨nn, p7.1⟩, va, p7.2.1, w7⟩
      | true =>
        rw [if_pos rfl] at q7 ⊢
        refine thn (he _ _ _ _ _ _ s7 σ6 H7 _ I7 q7) fun yv s8 ⟨y, H8, I8, r8, q8⟩ => ?_
        obtain ⟨m', hm', w8⟩ := hN _ _ _ q8
        have p8 := I8.pin (s2.heap.objs.size, _) (List.mem_append_right _ inD)
        have lenv := va.length
        refine wpAny_list_append_plain (hsz := by rw [← Array.length_toList, ← lenv]; exact Nat.le_of_lt hl) ⟨nn, p8.1⟩ fun h9 pl9 sb9 => ?_
        have J8 : Inv (X.comp scope N' G.objs.size fp pins s2 H2) [] σ6 H8 s8 := I8.pins_of fun p hp => absurd hp (by simp)
        refine ⟨m', hm', i + 1, acc ++ [y], ys.push yv, σ6, H8, J8.turned (t' := s8.toks) (fun b o hb q => (sb9.2 b hb).trans q) p8.2.1 hDC (.inr (Nat.le_refl _)) cD (fun p hp => pnD p (by simpa [Cx.comp] using hp)), ?_, (turned I8).2, pl9, ?_, p8.2.1, w8⟩
        · exact T.keep _ _ _ st5 fun b hb o q => (sb9.2 b (fpD b hb).symm).trans ((turned I8).1 b hb o q)
        · rw [Array.toList_push]
          exact va.append (.cons r8 .nil)
  exact codeAny_compStart_list (loop _ rfl) (T.self _ 0 _ _ _ (T.keep _ _ _ st2 fun b _ o q => old b o q) (loop _ rfl))
theorem pe_comp {X : Cx} {elt tg iter : Expr} {ifs : List Expr} {scope : Scope} {pos : Pos} {wi : TI} {g : TG} {tt : TT} {te : TE} (sh : List Nat) (N' : List Str) (more : Nat) (hcalm : X.calm = true) (hi : PI X tg iter wi)
    (hg : ∀ C fp pins s H, PG (X.comp scope N' C fp pins s H) tg g) (ht : ∀ C fp pins s H, PIf (X.comp scope N' C fp pins s H) ifs tt) (he : ∀ C fp pins s H, PE (X.comp scope N' C fp pins s H) elt te)
    (hc : L3.compOk X.env.scope scope X.N N' sh = true := by rfl) (hm : N'.length = X.N.length + more := by rfl) (hs : ∀ x, foldedSetIterable iter X.env x = pure x := by intro _; rfl) :
    PE X (.ListComp elt [⟨tg, iter, ifs, 0⟩] scope pos) (tComp wi g tt te sh more) := by
  intro pins s σ H Q I h
  rw [eval_ListComp]
  refine comp_any hcalm hi hg ht he hc hm hs (use := none) I h fun D C s2 H2 fp pl σ4 H4 s4 n ys acc I2 f2 hC hD hDC I4 g4 va fD hl q => ?_
  obtain ⟨m4, hn4, _⟩ := I4.loc
  exact ⟨m4, hn4, fun h' sb => ⟨.ref D, _, comp_out I2 hC f2 I4 hD hDC g4 va fD hl sb, rfl, q⟩⟩
theorem ps_comp {X : Cx} {elt tg iter : Expr} {ifs : List Expr} {scope : Scope} {pos py spos : Pos} {y : Str} {wi : TI} {g : TG} {tt : TT} {te : TE} (i : Nat) (sh : List Nat) (N' : List Str) (more : Nat) (hcalm : X.calm = true) (hN : X.N.Nodup) (hiy : X.N[i]? = some y) (hy : X.env.scope.names.lookup y = some .local) (hi : PI X tg iter wi)
    (hg : ∀ C fp pins s H, PG (X.comp scope N' C fp pins s H) tg g) (ht : ∀ C fp pins s H, PIf (X.comp scope N' C fp pins s H) ifs tt) (he : ∀ C fp pins s H, PE (X.comp scope N' C fp pins s H) elt te)
    (hc : L3.compOk X.env.scope scope X.N N' sh = true := by rfl) (hm : N'.length = X.N.length + more := by rfl) (hs : ∀ x, foldedSetIterable iter X.env x = pure x := by intro _; rfl)
    (hsw : swapsWith (.ListComp elt [⟨tg, iter, ifs, 0⟩] scope pos) (some (.Name y py)) spos.line X.env = pure true := by rfl) :
    PS X (.Assign [.Name y py] (.ListComp elt [⟨tg, iter, ifs, 0⟩] scope pos) spos) (tAsg (tComp wi g tt te sh more) (gName i)) := by
  intro pins s σ H D' I h
  rw [exec_Assign_Name_used _ _ _ _ hsw]
  refine wpAny_bind (wpAny_standAt (wpAny_bind ?_))
  show wpAny _ X.A (do let _ ← comprehension (.ListComp elt [⟨tg, iter, ifs, 0⟩] scope pos) scope X.env _ (newList []) false (eval iter X.env) (some (assign (.Name y py) X.env))) _ _ s
  refine wpAny_bind (wpAny_mono (comp_any hcalm hi hg ht he hc hm hs (use := some (assign (.Name y py) X.env)) (Qv := fun _ s' => SP X pins D' .next s') I h fun D C s2 H2 fp pl σ4 H4 s4 n ys acc I2 f2 hC hD hDC I4 g4 va fD hl q => ?_) (fun _ s' hq => wpAny_pure (wpAny_pure hq)) fun _ _ e => e)
  obtain ⟨m4, hn4, _⟩ := I4.loc
  have Io : Inv X pins σ (upd H4 D (.lst acc)) s4 := comp_out I2 hC f2 I4 hD hDC g4 va fD hl (Heap.SameBut.refl ..)
  have lL : X.env.locals < C := Nat.lt_of_lt_of_le I2.lt hC
  show wpAny _ X.A (assign (.Name y py) X.env (.ref D)) _ _ s4
  refine wpAny_assign_Name (store_ok2 Io hN hiy (.inl hy) (v := .ref D) rfl (fun s5 I5 ⟨a, sb5, ha⟩ => ?_) (.inr hy))
  have cC : ∀ x c, X.env.cells.lookup x = some c → c ≠ C := fun x c z zz => by
    obtain ⟨v, z'⟩ := I2.cell x c z
    rw [zz] at z'
    exact absurd (Nat.lt_of_lt_of_le z'.lt hC) (Nat.lt_irrefl _)
  have aC : C ≠ a := fun z => by
    rcases ha with y' | y'
    · rw [← z] at y'; rw [y'] at lL; exact absurd lL (Nat.lt_irrefl _)
    · exact cC _ _ y' z.symm
  refine ⟨m4, Heap.Ns.sameBut hn4 sb5 aC, fun h' sb => ⟨_, _, I5.turned (t' := s5.toks) (it := C) (fun b o hb z => (sb.2 b hb).trans z) ?_ (Nat.ne_of_gt lL) (.inr (Nat.le_trans I2.sz hC)) cC (fun p hp z => ?_), q⟩⟩
  · rw [upd_ne hDC.symm]
    exact I4.free
  · have q' := (I2.pin p hp).1
    rw [z] at q'
    exact absurd (Nat.lt_of_lt_of_le (Heap.lt_size q') hC) (Nat.lt_irrefl _)
theorem range_all : ∀ (bs : List Bool), ((List.range bs.length).all fun i => bs.getD i true) = bs.all id := by
  intro bs
  rw [Bool.eq_iff_iff, List.all_eq_true, List.all_eq_true]
  constructor
  · intro h b hb
    obtain ⟨i, hi, e⟩ := List.mem_iff_getElem.mp hb
    have q := h i (List.mem_range.mpr hi)
    rw [List.getD_eq_getElem?_getD, List.getElem?_eq_getElem hi] at q
    rw [← e]; exact q
  · intro h i hi
    have hi := List.mem_range.mp hi
    rw [List.getD_eq_getElem?_getD, List.getElem?_eq_getElem hi]
    exact h _ (List.getElem_mem hi)
section
variable {X : Cx}
theorem call_allL (hc : X.calm = true) : CallR X (.builtin "all") (fun xs H Q => ∃ (p : Addr) (bs : List Bool), xs = [.ref p] ∧ SqL X.K H p (bs.map V.bl) ∧ Q (.bl (bs.all id)) H) := by
  intro pins s σ H xs us Q I r h
  obtain ⟨p, bs, rfl, hq, q⟩ := h
  obtain ⟨u, rfl, rx⟩ := vals1 r
  cases rx
  obtain ⟨its, rv, pl, hz⟩ := I.list hq
  have hlen : its.length = bs.length := by rw [← rv.length, List.length_map]
  have plt : p < s.heap.objs.size := by
    obtain ⟨o, ho, _⟩ := pl.isList
    exact Heap.lt_size ho
  have hh : X.A.in1.handled = none := I.ok.hd hc
  refine call_all_walk (wpAny_pyIter_list pl.isList ⟨s.heap.objs.size, _, _, _, _, _, fun i => bs.getD i true, rfl, Walks.list hh s.heap.objs.size p (Nat.ne_of_lt plt) its.toArray, ⟨⟨_, Heap.get?_push_size _ rfl, rfl, rfl⟩, pl.isList.push _⟩, fun i v s' Q' E' hv hQ => ?_, fun h' tk k => ?_⟩)
  · have hv' : its[i]? = some v := by simpa using hv
    have hi : i < bs.length := by
      rw [← hlen]; exact (List.getElem?_eq_some_iff.mp hv').1
    obtain ⟨u, hu, ru⟩ := rv.get (i := i) (x := .bl bs[i]) (by rw [List.getElem?_map, List.getElem?_eq_getElem hi]; rfl)
    rw [hv'] at hu; cases hu
    cases ru
    have e : bs.getD i true = bs[i] := by rw [List.getD_eq_getElem?_getD, List.getElem?_eq_getElem hi]; rfl
    have hQ' : Q' (bs.getD i true) s' := hQ
    rw [e] at hQ'
    exact wpAny_truthy_bool hQ'
  · have e : its.toArray.size = bs.length := by rw [List.size_toArray, hlen]
    rw [e, range_all]
    refine ⟨.bl (bs.all id), H, ?_, rfl, q⟩
    have I1 : Inv X pins σ H { s with heap := s.heap.push { cls := .type "list_iterator", data := .fields #[.ref p, .int 0 0] } } := I.kept (t' := s.toks) fun b o z => Heap.get?_push_of_some _ z
    refine I1.turnMany (t' := tk) (ch := [s.heap.objs.size]) (fun b hb => ?_) fun b o hb z => k b o (by simpa using hb) z
    have : b = s.heap.objs.size := by simpa using hb
    subst this
    exact I.fpOk (Nat.le_refl _) (I.hok.fresh (Nat.le_refl _))
theorem call_isi : CallR X (.builtin "isinstance") (fun xs H Q => ∃ x c t b, xs = [x, .ty c] ∧ TyOf X.K H x t ∧ PySem.W.kitOne X.K t (.type c) = some b ∧ Q (.bl b) H) := by
  intro pins s σ H xs us Q I r h
  obtain ⟨x, c, t, b, rfl, ty, e, q⟩ := h
  obtain ⟨u, v, rfl, rx, rc⟩ := vals2 r
  cases (show v = Value.type c from rc)
  exact isinst_ok I rx ty e fun tk => ⟨.bl b, H, I.tok _, rfl, q⟩
noncomputable def rCat0 (K : PySem.W.Frag) : R2 := fun x y H Q => ∃ a b xs ys, x = .ref a ∧ y = .ref b ∧ SqT K H a xs ∧ SqT K H b ys ∧ xs.length + ys.length ≤ sizeLine ∧
  (xs = [] → Q (.ref b) H) ∧ (xs ≠ [] → ys = [] → Q (.ref a) H) ∧ (xs ≠ [] → ys ≠ [] → ∀ p, H p = none → Q (.ref p) (upd H p (.tup (xs ++ ys))))
theorem op_cat0 : OpR X (binaryOp .Add) (rCat0 X.K) := by
  intro pins s σ H x y v u Q I rx ry h
  obtain ⟨a, b, xs, ys, rfl, rfl, ha, hb, hz, q0, q1, q2⟩ := h
  by_cases hx : xs = []
  · cases rx
    cases ry
    obtain ⟨its, r1, p1, _⟩ := I.tuple ha
    obtain ⟨its2, r2, p2, _⟩ := I.tuple hb
    have e1 : its = [] := r1.nil_iff.mpr hx
    obtain ⟨⟨cls, dd, data, sl⟩, ho, hc, n, hd⟩ := id p1
    obtain ⟨⟨cls2, dd2, data2, sl2⟩, ho2, hc2, n2, hd2⟩ := id p2
    simp only at hc hd hc2 hd2
    subst hc hd hc2 hd2
    exact concat_meets ⟨_, ho, rfl⟩ ⟨_, ho2, rfl⟩ noFill_tuple_add seq_tuple_add PySem.F.slot_tuple_add PySem.F.entry_tuple_add (PySem.F.args_tuple_add_2 _ _)
      (tuple_addW0 a b its.toArray its2.toArray n n2 dd dd2 sl sl2 (by simp [e1])) ⟨ho, ho2, ⟨.ref b, H, I, rfl, q0 hx⟩⟩
  · exact op_catT pins s σ H _ _ v u Q I rx ry ⟨a, b, xs, ys, rfl, rfl, ha, hb, hx, hz, fun z => q1 hx z, fun z => q2 hx z⟩
end
end L2
namespace L2
open PySem PySem.Spec PyProof.Rows
structure Fn (P : Program) (w : World) (K : PySem.W.Frag) (mg : Str → Option Value) (base : Heap) (x : Str) (ps : List Str) (k : Nat) (sp : Sp) : Prop where
  ex : ∃ f fd, FnOk P w K mg base CX0 k f fd ps sp ∧ mg x = some (.ref f) ∧ PySem.W.keepIn K (.ref f) = true ∧ Binds K fd ps []
theorem Fn.of {P : Program} {w : World} {K : PySem.W.Frag} {mg : Str → Option Value} {base : Heap} {x : Str} {ps : List Str} {k : Nat} {sp : Sp} {f : Addr} {fd : FuncData} (O : FnOk P w K mg base CX0 k f fd ps sp) (m : mg x = some (.ref f)) (kp : PySem.W.keepIn K (.ref f) = true) (b : Binds K fd ps []) :
    Fn P w K mg base x ps k sp := ⟨f, fd, O, m, kp, b⟩
section
variable {X : Cx} {x : Str} {ps : List Str} {k k' : Nat} {sp : Sp} {e : Expr} {es : List Expr} {t : TA} {p pos : Pos}
theorem pe_fn (F : Fn X.prog X.w X.K X.mg X.base x ps k sp) (hr : Room k' X.A) (ha : PA X (e :: es) t) (hk : k ≤ k' := by first | decide | exact Nat.le_refl _) (hg : Gl X x := by rfl) (hdb : (x == ("__debug__" : Str)) = false := by decide)
    (he : starEach (e :: es) X.env = (false, eval e X.env) :: starEach es X.env := by rfl) (hpl : (backTo pos (starEach es X.env)).any (·.1) = false := by rfl) : PE X (.Call (.Name x p) (e :: es) [] pos) (tCall sp [] E0 t) := by
  obtain ⟨f, fd, O, m, kp, b⟩ := F.ex
  exact pe_call O (hr.mono hk) hg m kp b .nil pass0 ha hdb he hpl
theorem ps_join {st : Stmt} {t : TS} (h : PS X st t) : PS X st (fun D σ H => ∃ J : St → Hp → Prop, (∀ σ' H', J σ' H' → D.nx σ' H') ∧ t { D with nx := J } σ H) := by
  intro pins s σ H D I q
  obtain ⟨J, hJ, q⟩ := q
  refine thn (h pins s σ H _ I q) fun f s1 r => ?_
  cases f with
  | next =>
    obtain ⟨σ', H', I', r⟩ := r
    exact ⟨σ', H', I', hJ _ _ r⟩
  | ret v => exact r
  | brk => exact r
  | cont => exact r
end
section
variable {X : Cx}
theorem pg_tupK (K : PySem.W.Frag) (n : Nat) {es : List Expr} {k : Nat} {t : TGs} {pos : Pos} (hc : X.calm = true) (h : PGs X es t) (hK : X.K = K) (hn : (assignEach es X.env).length = n) (hst : (assignEach es X.env).findIdx? (·.1) = none) : PG X (.Tuple es k pos) (gTup K n t) := by
  subst hK
  exact pg_tup hc h hn hst
theorem ix_tupK (K : PySem.W.Frag) (hK : X.K = K) : IxR X (rIxT K) := by
  subst hK
  exact ix_tup
end
theorem same_new {H : Hp} {p : Addr} (h : H p = none) (o : HO) : Same H (upd H p o) := fun b u q => by rw [upd_ne (ne_of_none q h)]; exact q
theorem small {n : Nat} (h : n ≤ 1000000) : n ≤ sizeLine := Nat.le_trans h (by rw [sizeLine_eq]; decide)
theorem smallL {n : Nat} (h : n ≤ 1000000) : n < sizeLine := Nat.lt_of_le_of_lt h (by rw [sizeLine_eq]; decide)
noncomputable def Scr (K : PySem.W.Frag) (H : Hp) (a : Addr) (ns : List Int) : Prop := (∃ o, H a = some (.frz o (.lst (ns.map V.int)))) ∨
  ∃ (o : Obj) (its : Array Value) (n : Nat), K.lookup a = some o ∧ o.cls = .type "list" ∧ o.dict = none ∧ o.data = .seq its n ∧ its.size ≤ sizeLine ∧ Vals (ns.map V.int) its.toList
theorem Scr.seq {K : PySem.W.Frag} {H : Hp} {a : Addr} {ns : List Int} (h : Scr K H a ns) : SqL K H a (ns.map V.int) := by
  rcases h with ⟨o, h⟩ | h
  · exact .inl (.inr ⟨o, h⟩)
  · exact .inr h
theorem Scr.of {K : PySem.W.Frag} {H : Hp} {a : Addr} {ns : List Int} (h : SqL K H a (ns.map V.int)) (o : Only H) : Scr K H a ns := by
  rcases h with (h | ⟨ob, h⟩) | h
  · rcases o a with z | ⟨ob, xs, z⟩
    · rw [z] at h; cases h
    · rw [z] at h; cases h
  · exact .inl ⟨ob, h⟩
  · exact .inr h
noncomputable abbrev zeros (k : Nat) : List V := List.replicate k (V.int 0)
noncomputable def Twn (H : Hp) (t : Addr) (k : Nat) : Prop := H t = some (.lst (zeros k))
noncomputable def Grow (t : Addr) (H H' : Hp) : Prop := ∀ b o, b ≠ t → H b = some o → H' b = some o
theorem Grow.refl (t : Addr) (H : Hp) : Grow t H H := fun _ _ _ h => h
theorem Grow.trans {t : Addr} {H H1 H2 : Hp} (a : Grow t H H1) (b : Grow t H1 H2) : Grow t H H2 := fun c o n h => b c o n (a c o n h)
theorem Grow.same {t : Addr} {H H1 : Hp} (a : Same H H1) : Grow t H H1 := fun c o _ h => a c o h
theorem Grow.upd {t : Addr} {H : Hp} (o : HO) : Grow t H (upd H t o) := fun c u n h => by rw [upd_ne n]; exact h
theorem Grow.scr {K : PySem.W.Frag} {t a : Addr} {H H' : Hp} {ns : List Int} {k : Nat} (g : Grow t H H') (tw : Twn H t k) (s : Scr K H a ns) : Scr K H' a ns := by
  rcases s with ⟨o, h⟩ | h
  · exact .inl ⟨o, g _ _ (fun z => by subst z; unfold Twn at tw; rw [tw] at h; cases h) h⟩
  · exact .inr h
theorem Grow.tup {t a : Addr} {H H' : Hp} {xs : List V} {k : Nat} (g : Grow t H H') (tw : Twn H t k) (h : H a = some (.tup xs)) : H' a = some (.tup xs) :=
  g _ _ (fun z => by subst z; unfold Twn at tw; rw [tw] at h; cases h) h
theorem Same.scr {K : PySem.W.Frag} {a : Addr} {H H' : Hp} {ns : List Int} (g : Same H H') (s : Scr K H a ns) : Scr K H' a ns := by
  rcases s with ⟨o, h⟩ | h
  · exact .inl ⟨o, g _ _ h⟩
  · exact .inr h
theorem Same.twn {t : Addr} {H H' : Hp} {k : Nat} (g : Same H H') (s : Twn H t k) : Twn H' t k := g _ _ s
noncomputable def scl : V → Bool
  | .non => true | .bl _ => true | .int _ => true | .str _ => true | _ => false
noncomputable def Eqv (H : Hp) : Nat → V → V → Prop
  | 0, _, _ => False
  | n + 1, x, y => (x = y ∧ scl x = true) ∨ ∃ a b xs ys, x = .ref a ∧ y = .ref b ∧ H a = some (.tup xs) ∧ H b = some (.tup ys) ∧ xs.length ≤ 1000000 ∧ Paired (Eqv H n) xs ys
theorem Eqv.same {H H' : Hp} (g : Same H H') : ∀ {n : Nat} {x y : V}, Eqv H n x y → Eqv H' n x y
  | 0, _, _, h => h
  | n + 1, x, y, h => by
    rcases h with h | ⟨a, b, xs, ys, e1, e2, h1, h2, hz, p⟩
    · exact .inl h
    · exact .inr ⟨a, b, xs, ys, e1, e2, g _ _ h1, g _ _ h2, hz, Paired.mapP p fun _ _ q => Eqv.same g q⟩
theorem Eqv.int {H : Hp} {n : Nat} (i : Int) : Eqv H (n + 1) (.int i) (.int i) := .inl ⟨rfl, rfl⟩
theorem eqv_ints {H : Hp} {n : Nat} : ∀ (l : List Int), Paired (Eqv H (n + 1)) (l.map V.int) (l.map V.int)
  | [] => .nil
  | i :: l => .cons (Eqv.int i) (eqv_ints l)
theorem Eqv.ints {H : Hp} {n : Nat} {a b : Addr} {l : List Int} (h1 : H a = some (.tup (l.map V.int))) (h2 : H b = some (.tup (l.map V.int))) (hz : l.length ≤ 1000000) : Eqv H (n + 2) (.ref a) (.ref b) :=
  .inr ⟨a, b, _, _, rfl, rfl, h1, h2, by rw [List.length_map]; exact hz, eqv_ints l⟩
noncomputable def spSame (n : Nat) : Sp := fun vs H Q _ => ∃ x y, vs = [x, y] ∧ Eqv H n x y ∧ ∀ H', Same H H' → Q (.bl true) H'
noncomputable def lcell (ns : List Int) (k : Nat) : Int := if ns = [] then 0 else ns.getD (k % ns.length) 0
noncomputable def drw1 (ns : List Int) (k : Nat) : Int := (lcell ns k + 104729 * (k : Int)) % 4294967291
noncomputable def drw2 (ns : List Int) (k : Nat) : Int := drw1 ns k * drw1 ns k % 4294967279 * 48271 % 4294967291
noncomputable def drw3 (ns : List Int) (k : Nat) : Int := drw2 ns k * drw2 ns k % 4294967279 * 69621 % 4294967291
noncomputable def drw (ns : List Int) (k : Nat) (m : Int) : Int := (drw2 ns k / 64 * 67108864 + drw3 ns k / 64) % m
theorem drw_nn (ns : List Int) (k : Nat) {m : Int} (h : 0 < m) : 0 ≤ drw ns k m := Int.emod_nonneg _ (by omega)
theorem drw_lt (ns : List Int) (k : Nat) {m : Int} (h : 0 < m) : drw ns k m < m := Int.emod_lt_of_pos _ h
noncomputable def spDraw (K : PySem.W.Frag) : Sp := fun vs H Q _ => ∃ (a t : Addr) (ns : List Int) (k : Nat) (m : Int), vs = [.ref a, .ref t, .int m] ∧ Scr K H a ns ∧ ns.length ≤ 63 ∧ Twn H t k ∧ k ≤ 900000 ∧ 0 < m ∧
  ∀ H', Grow t H H' → Twn H' t (k + 1) → Q (.int (drw ns (k + 1) m)) H'
noncomputable def spLaw (K : PySem.W.Frag) : Sp := fun vs H Q _ => ∃ (a : Addr) (ns : List Int), vs = [.ref a] ∧ Scr K H a ns ∧ ns.length ≤ 63 ∧ ∀ H', Q (.bl true) H'
end L2
set_option maxRecDepth 100000
namespace L2
open PySem
noncomputable def Tr (B h : Heap) (e : Addr) (cls c fl : Value) : Prop :=
  ∃ oe vs T oT ts, h.get? e = some oe ∧ oe.cls = cls ∧ oe.data = .fields vs ∧ vs[2]? = some c ∧ vs[1]? = some (.ref T) ∧ B.get? T = none ∧ T ≠ e ∧ h.get? T = some oT ∧ oT.data = .fields ts ∧ ts[3]? = some fl
noncomputable def Fl (B : Heap) (l : List Env) (e : Addr) (cls c fl : Value) (h : Heap) : Prop :=
  B.StaysIn h ∧ B.get? e = none ∧ h.FunFrames B l ∧ Tr B h e cls c fl
theorem Fl.rest {B h : Heap} {env : Env} {outer : List Env} {e : Addr} {cls c fl : Value} (x : Fl B (env :: outer) e cls c fl h) : Fl B outer e cls c fl h := by
  obtain ⟨x1, x2, ⟨_, _, x3⟩, x4⟩ := x
  exact ⟨x1, x2, x3, x4⟩
section
variable {M : Model} {A : Around} {E : Value → Shared → Prop} {s : Shared} {B : Heap} {env : Env} {outer : List Env} {L e : Addr} {oe : Obj} {vs : Array Value} {cls c : Value} {Q : Unit → Shared → Prop}
theorem fl_entry {head : Value} {nx : Bool} (fA : A.frames = some (env :: outer)) (fF : s.heap.FunFrames B (env :: outer)) (fL : env.frame = some L) (e1 : s.heap.get? e = some oe) (sB : B.StaysIn s.heap) (eB : B.get? e = none) (ed : oe.data = .fields vs) (ec : vs[2]? = some c)
    (q : ∀ g, Fl B (env :: outer) e oe.cls c (rawInt L) g → s.heap.UpToSlots g → Q () { s with heap := g }) :
    wpAny M A (do let a ← frameOf env; let pl ← entryPlaceOf L nx; let b ← EntryCells.newEntry head a .none (rawInt L) .none pl; setField (.ref e) 1 b) Q E s := by
  have ez : 2 < vs.size := (Array.getElem?_eq_some_iff.mp ec).1
  have notF : ∀ b o ws, s.heap.get? b = some o → o.data = .fields ws → b ∉ (env :: outer).filterMap (·.frame) := fun b o ws e2 e3 y => by
    obtain ⟨_, o', e4, n4⟩ := fF.mem y
    rw [e2] at e4; cases e4; exact n4 ws e3
  refine wpAny_bind (wpAny_frameOf_fun fA fF fL fun g1 sl => wpAny_bind (wpAny_entryPlaceOf fun pl hpl => ?_))
  unfold EntryCells.newEntry newFields
  refine wpAny_bind (wpAny_newObj_type ?_ (hpl.sizeOk5 _ _ _ _ _))
  have tb : ∃ ts, (.fields ([head, .ref L, .none, rawInt L, .none] ++ (if pl.isEmpty then List.replicate 6 Value.none else pl)).toArray : Data) = .fields ts ∧ ts[3]? = some (rawInt L) := ⟨_, rfl, by simp⟩
  generalize (Data.fields ([head, .ref L, .none, rawInt L, .none] ++ (if pl.isEmpty then List.replicate 6 Value.none else pl)).toArray) = da at tb ⊢
  obtain ⟨ts, rfl, t3⟩ := tb
  have g1e : g1.get? e = some oe := (sl.2.1 e (notF e oe vs e1 ed)).trans e1
  have ob := Heap.get?_push_of_some (h := g1) { cls := .type "traceback", dict := none, data := .fields ts } g1e
  have ob2 := Heap.get?_push_size g1 (o := { cls := .type "traceback", dict := none, data := .fields ts }) rfl
  refine wpAny_setField ob ed (by omega) (q _ ?_ ?_)
  all_goals
    have far : g1.objs.size ≠ e := Nat.ne_of_gt (Heap.lt_size g1e)
    have kp : ∀ b o, b ≠ e → g1.get? b = some o → ((g1.push { cls := .type "traceback", dict := none, data := .fields ts }).update e (Obj.mapFields (·.setIfInBounds 1 (Value.ref g1.objs.size)))).get? b = some o := fun b o n y =>
      (Heap.get?_update_other _ _ (Ne.symm n)).trans (Heap.get?_push_of_some _ y)
    have rec0 : ∀ b o, s.heap.get? b = some o → (∀ ws, o.data ≠ .fields ws) → b ≠ e := fun b o y n z => by
      subst z; rw [e1] at y; cases y; exact n vs ed
  · have inB : ∀ b o, B.get? b = some o → g1.get? b = some o := fun b o y => (sl.2.1 b fun z => by rw [(fF.mem z).1] at y; cases y).trans (sB b o y)
    have ed2 := Obj.data_mapFields ed (·.setIfInBounds 1 (Value.ref g1.objs.size))
    refine ⟨fun b o y => kp b o (fun z => by subst z; rw [eB] at y; cases y) (inB b o y), eB, fF.of_keeps fun b o y n => ?_, _, _, g1.objs.size, _, ts, Heap.get?_update_self _ ob (Obj.isFreed_of_fields ed2), Obj.cls_mapFields _ _, ed2, ?_, ?_, ?_, far, (Heap.get?_update_other _ _ (Ne.symm far)).trans ob2, rfl, t3⟩
    · obtain ⟨sl2, y2⟩ := sl.2.2 b o y
      exact ⟨_, kp b _ (rec0 b o y n) y2, rfl⟩
    · rw [Array.getElem?_setIfInBounds_ne (by decide)]; exact ec
    · simp [show 1 < vs.size by omega]
    · cases y : B.get? g1.objs.size with
      | none => rfl
      | some o => exact absurd (Heap.lt_size (inB _ _ y)) (Nat.lt_irrefl _)
  · intro b o y n
    obtain ⟨sl2, y2⟩ := sl.2.2 b o y
    exact ⟨sl2, kp b _ (rec0 b o y n) y2⟩
theorem fl_new (fA : A.frames = some (env :: outer)) (fF : s.heap.FunFrames B (env :: outer)) (fL : env.frame = some L) (e1 : s.heap.get? e = some oe) (sB : B.StaysIn s.heap) (eB : B.get? e = none) (ed : oe.data = .fields vs) (ec : vs[2]? = some c) (et : vs[1]? = some .none)
    (q : ∀ g, Fl B (env :: outer) e oe.cls c (rawInt L) g → s.heap.UpToSlots g → Q () { s with heap := g }) : wpAny M A (noteFrame (.ref e) env) Q E s := by
  unfold noteFrame
  simp only [fL]
  refine wpAny_bind (wpAny_field e1 ed et ?_)
  rw [if_neg (by decide)]
  exact fl_entry fA fF fL e1 sB eB ed ec q
theorem fl_note (fA : A.frames = some (env :: outer)) (fL : env.frame = some L) (x : Fl B (env :: outer) e cls c .none s.heap)
    (q : ∀ g, Fl B (env :: outer) e cls c (rawInt L) g → s.heap.UpToSlots g → Q () { s with heap := g }) : wpAny M A (noteFrame (.ref e) env) Q E s := by
  obtain ⟨sB, eB, fF, oe, vs, T, oT, ts, e1, rfl, ed, ec, et, tB, tn, t1, td, t3⟩ := x
  unfold noteFrame
  simp only [fL]
  refine wpAny_bind (wpAny_field e1 ed et ?_)
  rw [if_pos (show (Value.ref T != Value.none) = true by simp)]
  refine wpAny_bind (wpAny_field t1 td t3 ?_)
  rw [if_neg (show ¬ ((Value.none == rawInt L) = true) by simp [rawInt])]
  refine wpAny_bind (wpAny_setField t1 td (Array.getElem?_eq_some_iff.mp t3).1 ?_)
  have oth : ∀ b, b ≠ T → (s.heap.update T (Obj.mapFields (·.setIfInBounds 3 Value.none))).get? b = s.heap.get? b := fun b n => Heap.get?_update_other _ _ (Ne.symm n)
  have rec0 : ∀ b o, s.heap.get? b = some o → (∀ ws, o.data ≠ .fields ws) → b ≠ T := fun b o y n z => by
    subst z; rw [t1] at y; cases y; exact n ts td
  refine fl_entry (s := { s with heap := s.heap.update T (Obj.mapFields (·.setIfInBounds 3 Value.none)) }) fA (fF.of_keeps fun b o y n => ⟨o, (oth b (rec0 b o y n)).trans y, rfl⟩) fL ((oth e (Ne.symm tn)).trans e1) (fun b o y => (oth b fun z => by subst z; rw [tB] at y; cases y).trans (sB b o y)) eB ed ec
    fun g y1 y2 => q g y1 fun b o z n => y2 b o ((oth b (rec0 b o z n)).trans z) n
theorem fl_land {l : List Env} {fl : Value} (x : Fl B l e cls c fl s.heap) (q : ∀ g, Fl B l e cls c .none g → s.heap.UpToSlots g → Q () { s with heap := g }) : wpAny M A (setFlight (.ref e) none) Q E s := by
  obtain ⟨sB, eB, fF, oe, vs, T, oT, ts, e1, ek, ed, ec, et, tB, tn, t1, td, t3⟩ := x
  have z3 : 3 < ts.size := (Array.getElem?_eq_some_iff.mp t3).1
  have oth : ∀ b, b ≠ T → (s.heap.update T (Obj.mapFields (·.setIfInBounds 3 ((none : Option Addr).elim Value.none fun f => rawInt f)))).get? b = s.heap.get? b := fun b n => Heap.get?_update_other _ _ (Ne.symm n)
  have rec0 : ∀ b o, s.heap.get? b = some o → (∀ ws, o.data ≠ .fields ws) → b ≠ T := fun b o y n z => by
    subst z; rw [t1] at y; cases y; exact n ts td
  unfold setFlight
  refine wpAny_bind (wpAny_field e1 ed et ?_)
  rw [if_pos (show (Value.ref T != Value.none) = true by simp)]
  refine wpAny_setField t1 td z3 (q _ ⟨fun b o y => (oth b fun z => by subst z; rw [tB] at y; cases y).trans (sB b o y), eB, fF.of_keeps fun b o y n => ⟨o, (oth b (rec0 b o y n)).trans y, rfl⟩, oe, vs, T, _, _, (oth e (Ne.symm tn)).trans e1, ek, ed, ec, et, tB, tn, Heap.get?_update_self _ t1 (Obj.isFreed_of_fields (Obj.data_mapFields td _)), Obj.data_mapFields td _, ?_⟩ fun b o y n => ⟨o.slots, (oth b (rec0 b o y n)).trans y⟩)
  simp [z3]
theorem fl_leave (fA : A.frames = some (env :: outer)) (fL : env.frame = some L) (x : Fl B (env :: outer) e cls c .none s.heap)
    (q : ∀ g, Fl B outer e cls c .none g → s.heap.UpToSlots g → Q () { s with heap := g }) : wpAny M A (leaving env (.ref e)) Q E s := by
  unfold leaving
  exact wpAny_bind (fl_note fA fL x fun g1 y1 u1 => fl_land (s := { s with heap := g1 }) y1 fun g2 y2 u2 => q g2 y2.rest (u1.trans u2))
theorem fl_leaveNew (fA : A.frames = some (env :: outer)) (fF : s.heap.FunFrames B (env :: outer)) (fL : env.frame = some L) (e1 : s.heap.get? e = some oe) (sB : B.StaysIn s.heap) (eB : B.get? e = none) (ed : oe.data = .fields vs) (ec : vs[2]? = some c) (et : vs[1]? = some .none)
    (q : ∀ g, Fl B outer e oe.cls c .none g → s.heap.UpToSlots g → Q () { s with heap := g }) : wpAny M A (leaving env (.ref e)) Q E s := by
  unfold leaving
  exact wpAny_bind (fl_new fA fF fL e1 sB eB ed ec et fun g1 y1 u1 => fl_land (s := { s with heap := g1 }) y1 fun g2 y2 u2 => q g2 y2.rest (u1.trans u2))
end
end L2
namespace L2
open PySem
inductive Reach (h : Heap) : Value → Value → Prop
  | refl (v : Value) : Reach h v v
  | step {a : Addr} {o : Obj} {vs : Array Value} {v u : Value} : h.get? a = some o → o.data = .fields vs → vs[2]? = some v → Reach h v u → Reach h (.ref a) u
theorem Reach.snoc {h : Heap} {u : Value} {b : Addr} {o : Obj} {vs : Array Value} {v : Value} (x : Reach h u (.ref b)) (e1 : h.get? b = some o) (e2 : o.data = .fields vs) (e3 : vs[2]? = some v) : Reach h u v := by
  generalize hz : Value.ref b = z at x
  induction x with
  | refl y => subst hz; exact .step e1 e2 e3 (.refl _)
  | step a1 a2 a3 _ ih => exact .step a1 a2 a3 (ih hz)
noncomputable def Chain (h : Heap) (F : Addr → Prop) : Nat → Value → Prop
  | 0, v => v = .none
  | n + 1, v => v = .none ∨ ∃ a o vs c, v = .ref a ∧ h.get? a = some o ∧ F a ∧ o.data = .fields vs ∧ vs[2]? = some c ∧ Chain h F n c
theorem Chain.imp {h g : Heap} {F G : Addr → Prop} (k : ∀ a o vs, F a → h.get? a = some o → o.data = .fields vs → g.get? a = some o ∧ G a) : ∀ {n : Nat} {v : Value}, Chain h F n v → Chain g G n v
  | 0, _, x => x
  | n + 1, _, x => by
    rcases x with x | ⟨a, o, vs, c, e1, e2, e3, e4, e5, r⟩
    · exact .inl x
    · exact .inr ⟨a, o, vs, c, e1, (k a o vs e3 e2 e4).1, (k a o vs e3 e2 e4).2, e4, e5, Chain.imp k r⟩
noncomputable def ChainP (ps : List (Addr × Obj)) : Nat → Value → Prop
  | 0, v => v = .none
  | n + 1, v => v = .none ∨ ∃ a o vs c, v = .ref a ∧ (a, o) ∈ ps ∧ o.data = .fields vs ∧ vs[2]? = some c ∧ ChainP ps n c
theorem ChainP.more {ps qs : List (Addr × Obj)} (k : ∀ p ∈ ps, p ∈ qs) : ∀ {n : Nat} {v : Value}, ChainP ps n v → ChainP qs n v
  | 0, _, x => x
  | n + 1, _, x => by
    rcases x with x | ⟨a, o, vs, c, e1, e2, e4, e5, r⟩
    · exact .inl x
    · exact .inr ⟨a, o, vs, c, e1, k _ e2, e4, e5, ChainP.more k r⟩
theorem Chain.pins {h : Heap} {F : Addr → Prop} : ∀ {n : Nat} {v : Value}, Chain h F n v → ∃ ps : List (Addr × Obj), (∀ p ∈ ps, h.get? p.1 = some p.2 ∧ F p.1 ∧ ∃ vs, p.2.data = .fields vs) ∧ ChainP ps n v
  | 0, _, x => ⟨[], fun _ y => absurd y (by simp), x⟩
  | n + 1, _, x => by
    rcases x with x | ⟨a, o, vs, c, e1, e2, e3, e4, e5, r⟩
    · exact ⟨[], fun _ y => absurd y (by simp), .inl x⟩
    · obtain ⟨ps, k, r⟩ := Chain.pins r
      refine ⟨(a, o) :: ps, fun p y => ?_, .inr ⟨a, o, vs, c, e1, List.mem_cons_self, e4, e5, r.more fun p y => List.mem_cons_of_mem _ y⟩⟩
      rcases List.mem_cons.mp y with rfl | y
      · exact ⟨e2, e3, vs, e4⟩
      · exact k p y
section
variable {prog : Program} {w : World}
end
end L2
namespace L2
open PySem
section
variable {prog : Program} {w : World} {A : Around} {E : Value → Shared → Prop} {env : Env}
variable {nm q : Str} {C N : Addr} {bs bm bmB : List Value} {hdct : Bool} {sn : List Str} {sub : List Value} {ab : Bool} {col : Option Bool} {dd : Option Addr} {k0 k1 k2 k3 k5 : Option Value} {newId : String}
end
end L2
namespace L2
open PySem
section
variable {prog : Program} {w : World} {A : Around} {E : Value → Shared → Prop} {s : Shared} {env : Env}
variable {nm q : Str} {C N : Addr} {bs bm bmB : List Value} {hdct : Bool} {sn : List Str} {sub : List Value} {ab : Bool} {col : Option Bool} {dd : Option Addr} {k0 k1 k2 k3 k5 : Option Value} {T newId initId : String}
end
end L2
namespace L2
open PySem PySem.Spec PyProof.Rows
theorem hok_none {P : Program} {w : World} {H : Hp} {h : Heap} {a : Addr} (x : HOk P w H h) (e : h.get? a = none) : H a = none := by
  cases q : H a with
  | none => rfl
  | some o =>
    have y := x a o q
    have : ∃ ob, h.get? a = some ob := by
      cases o with
      | lst xs => obtain ⟨_, _, _, _, e⟩ := y; exact ⟨_, e⟩
      | tup xs => obtain ⟨_, _, _, ⟨_, e, _⟩, _⟩ := y; exact ⟨_, e⟩
      | dK kvs => obtain ⟨_, _, _, _, o, _, _, e, _⟩ := y; exact ⟨_, e⟩
      | dT kvs => obtain ⟨_, _, _, _, o, _, _, e, _⟩ := y; exact ⟨_, e⟩
      | set S n => obtain ⟨o, _, _, _, e, _⟩ := y; exact ⟨_, e⟩
      | ins C dx fs => obtain ⟨_, _, _, e, _⟩ := y; exact ⟨_, e⟩
      | own y => obtain ⟨_, e⟩ := y; exact ⟨_, e⟩
      | xd fs => obtain ⟨_, ⟨_, _, _, e, _⟩, _⟩ := y; exact ⟨_, e⟩
      | rng lo hi => obtain ⟨_, _, _, e⟩ := y; exact ⟨_, e⟩
      | frz ob u => obtain ⟨e, _⟩ := y; exact ⟨_, e⟩
      | tbl ps => exact ⟨_, show h.get? a = some _ from y⟩
      | met f z => exact ⟨_, show h.get? a = some _ from y⟩
      | ext φ => obtain ⟨_, ⟨_, e⟩, _⟩ := y; exact ⟨_, e⟩
    obtain ⟨ob, z⟩ := this
    rw [e] at z; cases z
structure Flown (P : Program) (w : World) (outer : List Env) (H : Hp) (s : Shared) (x C : Addr) (c : Value) (B : Heap) (H' : Hp) (s' : Shared) : Prop where
  fly : Fl B outer x (.ref C) c .none s'.heap
  os : s'.os = s.os
  bare : AllBare s'.gens
  k1 : ∀ b o, s.heap.get? b = some o → H b = none → b ∉ frs outer → B.get? b = some o
  k2 : ∀ b o, s.heap.get? b = some o → H b = none → b ∈ frs outer → ∃ sl, s'.heap.get? b = some { o with slots := sl }
  k3 : ∀ b o, s.heap.get? b = some o → b ∉ frs outer → ∃ o', B.get? b = some o'
  free : ∀ b o, s.heap.get? b = some o → H b = none → H' b = none
  tups : ∀ b xs, H b = some (.tup xs) → H' b = some (.tup xs)
  frzs : ∀ b o u, H b = some (.frz o u) → H' b = some (.frz o u)
  tbls : ∀ b ps, H b = some (.tbl ps) → ∃ more, H' b = some (.tbl (ps ++ more))
  hok : HOk P w H' B
  new : H' x = none
  ch : ∃ n, Chain B (fun a => H' a = none) n c
noncomputable def CXR (P : Program) (w : World) : CXT := fun outer H s E e s' => ∃ (x C : Addr) (c : Value) (B : Heap) (H' : Hp), e = .ref x ∧ Flown P w outer H s x C c B H' s' ∧ E (.ref C) none H'
theorem Flown.un {P : Program} {w : World} {outer : List Env} {H : Hp} {s : Shared} {x C : Addr} {c : Value} {B : Heap} {H' : Hp} {s' : Shared} (F : Flown P w outer H s x C c B H' s') {h : Heap} (st : B.StaysIn h) (up : s'.heap.UpToSlots h) : Un (frs outer) [] H H' s.heap h := by
  have nf : ∀ b ∈ frs outer, ∀ o, s'.heap.get? b = some o → ∀ vs, o.data ≠ .fields vs := fun b hb o e => by
    obtain ⟨_, o', ho', n'⟩ := F.fly.2.2.1.mem hb
    rw [e] at ho'; cases ho'; exact n'
  refine ⟨fun b o e n hb _ => st b o (F.k1 b o e n hb), fun b o e n hb _ => ?_, fun b o e n _ => F.free b o e n, fun b o e _ => ?_, F.tups, F.frzs, F.tbls⟩
  · obtain ⟨sl, q⟩ := F.k2 b o e n hb
    obtain ⟨sl', q'⟩ := up b _ q (nf b hb _ q)
    exact ⟨sl', q'⟩
  · by_cases hb : b ∈ frs outer
    · obtain ⟨_, o', ho', n'⟩ := F.fly.2.2.1.mem hb
      obtain ⟨sl', q'⟩ := up b _ ho' n'
      exact ⟨_, q'⟩
    · obtain ⟨o', q⟩ := F.k3 b o e hb
      exact ⟨o', st b o' q⟩
section
variable {P : Program} {w : World} {K : PySem.W.Frag} {mg : Str → Option Value} {base : Heap} {N : List Str} {qual : Str} {scope : Scope} {f : Addr} {cd : Value} {A : Around} {outer : List Env} {s : Shared} {H : Hp} {E : XK}
theorem frs_cons {env : Env} {l : List Env} {b : Addr} (h : b ∈ frs l) : b ∈ frs (env :: l) := by
  unfold frs at h ⊢
  obtain ⟨e, he, hf⟩ := List.mem_filterMap.mp h
  exact List.mem_filterMap.mpr ⟨e, List.mem_cons_of_mem _ he, hf⟩
theorem cx_raise {pins : List (Addr × Obj)} {σ : St} {H1 : Hp} {s1 : Shared} {g : Heap} {x C : Addr} {oe : Obj} {vs : Array Value} {c : Value} (I : Inv (cxOf (CXR P w) P w K mg base N qual scope f cd A outer s H E) pins σ H1 s1)
    (kp : ∀ b o, s1.heap.get? b = some o → g.get? b = some o) (xn : s1.heap.get? x = none) (xg : g.get? x = some oe) (xk : oe.cls = .ref C) (xd : oe.data = .fields vs) (x1 : vs[1]? = some .none) (x2 : vs[2]? = some c) (xh : ∃ n, Chain s1.heap (fun a => H1 a = none) n c)
    (q : E (.ref C) none H1) : (cxOf (CXR P w) P w K mg base N qual scope f cd A outer s H E).xe (.ref x) { s1 with heap := g } := by
  have notF : ∀ b o, s.heap.get? b = some o → b ∉ frs outer → b ∉ frs (envOfC qual scope s.heap.objs.size f cd :: outer) := fun b o e hb z => by
    rcases List.mem_cons.mp (I.stkSub b z) with y | y
    · exact absurd (Heap.lt_size e) (by rw [y]; exact Nat.lt_irrefl _)
    · exact hb y
  have noex : ∀ b : Addr, b ∉ (cxOf (CXR P w) P w K mg base N qual scope f cd A outer s H E).ex := fun b z => absurd (show b ∈ ([] : List Addr) from z) (by simp)
  have fF : s1.heap.FunFrames (PySem.W.hideAll s1.heap (frs (envOfC qual scope s.heap.objs.size f cd :: outer))) (envOfC qual scope s.heap.objs.size f cd :: outer) :=
    PySem.W.funFrames_hide I.stack fun env he a ha => List.mem_filterMap.mpr ⟨env, he, ha⟩
  have notR : ∀ b o ws, s1.heap.get? b = some o → o.data = .fields ws → b ∉ frs (envOfC qual scope s.heap.objs.size f cd :: outer) := fun b o ws e2 e3 y => by
    obtain ⟨_, o', e4, n4⟩ := fF.mem y
    rw [e2] at e4; cases e4; exact n4 ws e3
  have nB : (PySem.W.hideAll s1.heap (frs (envOfC qual scope s.heap.objs.size f cd :: outer))).get? x = none := by
    cases z : (PySem.W.hideAll s1.heap (frs (envOfC qual scope s.heap.objs.size f cd :: outer))).get? x with
    | none => rfl
    | some o =>
      have z2 := PySem.W.of_hideAll _ z
      rw [xn] at z2; cases z2
  obtain ⟨n, xh⟩ := xh
  refine fl_leaveNew (s := { s1 with heap := g }) (B := PySem.W.hideAll s1.heap (frs (envOfC qual scope s.heap.objs.size f cd :: outer))) (outer := outer) (L := s.heap.objs.size) I.ok.frames (fF.of_keeps fun b o y _ => ⟨o, kp b o y, rfl⟩) rfl xg (fun b o z => kp b o (PySem.W.of_hideAll _ z)) nB xd x2 x1
    fun g2 fl up => ⟨x, C, c, _, H1, rfl, ⟨xk ▸ fl, I.os, I.bare, fun b o e n hb => ?_, fun b o e n hb => ?_, fun b o e hb => ?_, fun b o e n => I.base.free b o e n (noex b), I.base.tups, I.base.frzs, I.base.tbls, fun b u e => ?_, hok_none I.hok xn, n, xh.imp fun a o ws na ea da => ⟨PySem.W.hideAll_get _ ea (notR a o ws ea da), na⟩⟩, q⟩
  · exact PySem.W.hideAll_get _ (I.base.keep b o e n hb (noex b)) (notF b o e hb)
  · obtain ⟨sl, z⟩ := I.base.slot b o e n hb (noex b)
    obtain ⟨_, o', ho', nf⟩ := I.funs.mem hb
    rw [z] at ho'; cases ho'
    obtain ⟨sl', z'⟩ := up b _ (kp _ _ z) nf
    exact ⟨sl', z'⟩
  · obtain ⟨o', z⟩ := I.base.there b o e (noex b)
    exact ⟨o', PySem.W.hideAll_get _ z (notF b o e hb)⟩
  · have nfr : ∀ c v, H1 c = some v → c ∉ frs (envOfC qual scope s.heap.objs.size f cd :: outer) := fun c v e z => by
      rw [I.stkFree c z] at e; cases e
    refine (show ObjOk P w H1 s1.heap b u from I.hok b u e).stay (fun c v hc z => PySem.W.hideAll_get _ z ?_) (fun _ z => z) fun _ _ z => z
    rcases hc with y | y
    · rw [y]; exact nfr b u e
    · exact nfr c _ y
theorem cx_pass : Passes (CXR P w) (cxOf (CXR P w) P w K mg base N qual scope f cd A outer s H E) E := by
  intro pins σ H1 s1 e s' I h
  obtain ⟨x, C, c, B, H', rfl, F, q⟩ := h
  have noex : ∀ b : Addr, b ∉ (cxOf (CXR P w) P w K mg base N qual scope f cd A outer s H E).ex := fun b z => absurd (show b ∈ ([] : List Addr) from z) (by simp)
  have notF : ∀ b o, s.heap.get? b = some o → b ∉ frs outer → b ∉ frs (envOfC qual scope s.heap.objs.size f cd :: outer) := fun b o e hb z => by
    rcases List.mem_cons.mp (I.stkSub b z) with y | y
    · exact absurd (Heap.lt_size e) (by rw [y]; exact Nat.lt_irrefl _)
    · exact hb y
  refine fl_leave (outer := outer) (L := s.heap.objs.size) I.ok.frames rfl F.fly fun h'' fl up => ⟨x, C, c, B, H', rfl, ⟨fl, F.os.trans I.os, F.bare, fun b o e n hb => ?_, fun b o e n hb => ?_, fun b o e hb => ?_, fun b o e n => ?_, fun b xs e => F.tups b xs (I.base.tups b xs e), fun b o u e => F.frzs b o u (I.base.frzs b o u e), fun b ps e => ?_, F.hok, F.new, F.ch⟩, q⟩
  · exact F.k1 b o (I.base.keep b o e n hb (noex b)) (I.base.free b o e n (noex b)) (notF b o e hb)
  · obtain ⟨sl, z⟩ := I.base.slot b o e n hb (noex b)
    obtain ⟨sl', z'⟩ := F.k2 b _ z (I.base.free b o e n (noex b)) (frs_cons hb)
    have hb' : b ∈ frs (envOfC qual scope s.heap.objs.size f cd :: outer) := frs_cons hb
    obtain ⟨_, o2, ho2, nf2⟩ := F.fly.2.2.1.mem hb'
    rw [z'] at ho2; cases ho2
    obtain ⟨sl2, z2⟩ := up b _ z' nf2
    exact ⟨sl2, z2⟩
  · obtain ⟨o', z⟩ := I.base.there b o e (noex b)
    exact F.k3 b o' z (notF b o e hb)
  · obtain ⟨o', z⟩ := I.base.there b o e (noex b)
    exact F.free b o' z (I.base.free b o e n (noex b))
  · obtain ⟨m1, e1⟩ := I.base.tbls b ps e
    obtain ⟨m2, e2⟩ := F.tbls b _ e1
    exact ⟨m1 ++ m2, by rw [e2, Array.append_assoc]⟩
theorem Fun.okX {x qual : Str} {st : Stmt} {f : Addr} {fd : FuncData} {N ps : List Str} {k : Nat} {sp : Sp} (F : Fun K x qual st f fd) (S : FnScope N ps (defScope st)) (len : ∀ vs H Q E, sp vs H Q E → vs.length = ps.length)
    (hbody : ∀ (cdv : Value) (A : Around) (outer : List Env) (s : Shared) (H : Hp) (vs : List V) (Q : VK) (E : XK), Room k (A.deeper (envOfC qual (defScope st) s.heap.objs.size f cdv)) → sp vs H Q E →
      ∃ t, PSs (cxOf (CXR P w) P w K mg base N qual (defScope st) f cdv A outer s H E) (defBody st) t ∧ t { nx := fun _ H' => Q .non H', rt := Q } (start N vs) H) : FnOk P w K mg base (CXR P w) (k + 1) f fd ps sp := by
  obtain ⟨oc, od, kV, doc, pm, an, cdv, ct, osl, rfl, lk, hcd⟩ := F.ex
  exact fn_of lk hcd S len fun A outer s H vs Q E hr hsp => hbody cdv A outer s H vs Q E hr hsp
end
theorem FnOk.calm {P : Program} {w : World} {K : PySem.W.Frag} {mg : Str → Option Value} {base : Heap} {CX : CXT} {k : Nat} {f : Addr} {fd : FuncData} {ps : List Str} {sp : Sp} (F : FnOk P w K mg base CX0 k f fd ps sp) : FnOk P w K mg base CX k f fd ps sp :=
  ⟨F.len, fun A outer s H args us vs Q E hr he hb hv hs => codeAny_mono (F.run A outer s H args us vs Q E hr he hb hv hs) fun r s' h => by
    cases r with
    | error e => exact False.elim h
    | ok fl => cases fl <;> exact h⟩
structure FnX (P : Program) (w : World) (K : PySem.W.Frag) (mg : Str → Option Value) (base : Heap) (x : Str) (f : Addr) (fd : FuncData) (ps : List Str) (k : Nat) (sp : Sp) : Prop where
  ok : FnOk P w K mg base (CXR P w) k f fd ps sp
  mg : mg x = some (.ref f)
  kp : PySem.W.keepIn K (.ref f) = true
  bd : Binds K fd ps []
end L2
namespace L2
open PySem PySem.Spec PyProof.Rows
structure Exc (K : PySem.W.Frag) (mg : Str → Option Value) (x : Str) (C : Addr) (mro : List Value) : Prop where
  bound : mg x = some (.ref C)
  isin : PySem.W.excIn K C [.type "ValueError", .type "Exception", .type "BaseException", .type "object"] "ValueError.__new__" = true
  mro : ∃ c d cd sl, K.lookup C = some ⟨c, d, .cls cd, sl⟩ ∧ cd.mro = mro
theorem Exc.obj {K : PySem.W.Frag} {mg : Str → Option Value} {x : Str} {C : Addr} {mro : List Value} (O : Exc K mg x C mro) {h : Heap} (X : K.In h) :
    ∃ bm N nm q bs hdct sn sub ab col dd k0 k1 k2 k3 k5 mN, h.get? C = some (excClassObj nm q C N bs bm hdct sn sub ab col dd k0 k1 k2 k3 k5 "ValueError.__new__") ∧ h.Ns N mN ∧ mN "__init__" = none ∧
      OwnTail h [.type "ValueError", .type "Exception", .type "BaseException", .type "object"] bm ∧ mro = .ref C :: bm := by
  obtain ⟨_, q, c0, d0, cd0, sl0, lk, em⟩ := O
  unfold PySem.W.excIn at q
  rw [lk] at q
  split at q
  · rename_i dd cd sl ho
    cases ho
    split at q
    · rename_i C' bm k0 k1 k2 k3 n k5 hm hs
      simp only [Bool.and_eq_true, beq_iff_eq, Bool.not_eq_true'] at q
      obtain ⟨⟨⟨⟨⟨rfl, rfl⟩, hdel⟩, ht⟩, hok⟩, hni⟩ := q
      obtain ⟨nm, bs, mr, ns, qn, hd, sn, sub, ab, col, del⟩ := cd0
      dsimp only at hm hdel hok hni em
      subst hm hdel
      have hsl : sl0 = #[k0, k1, k2, k3, some (.builtin "ValueError.__new__"), k5] := by
        obtain ⟨l⟩ := sl0
        simp only at hs
        rw [hs]
      subst hsl
      exact ⟨bm, ns, nm, qn, bs, hd, sn, sub, ab, col, d0, k0, k1, k2, k3, k5, _, X _ _ lk, .of_isNs (PySem.W.isNs_of_in X hok), PySem.W.nsMap_none_of_in X hok hni, PySem.W.tail_of_in X ht, em.symm⟩
    · cases q
  · cases q
noncomputable def tRaise (C : Addr) (E : XK) (ta : TA) : TS := fun _ σ H => ta σ H fun vs H1 => vs.length ≤ sizeLine ∧ E (.ref C) none H1
theorem ps_raise {P : Program} {w : World} {K : PySem.W.Frag} {mg : Str → Option Value} {base : Heap} {N : List Str} {qual : Str} {scope : Scope} {f : Addr} {cd : Value} {A : Around} {outer : List Env} {s₀ : Shared} {H₀ : Hp} {E : XK}
    {x : Str} {C : Addr} {mro : List Value} {e : Expr} {es : List Expr} {ta : TA} {np cpos pos : Pos} (O : Exc K mg x C mro) (ha : PA (cxOf (CXR P w) P w K mg base N qual scope f cd A outer s₀ H₀ E) (e :: es) ta)
    (hg : Gl (cxOf (CXR P w) P w K mg base N qual scope f cd A outer s₀ H₀ E) x := by rfl) (hdb : (x == ("__debug__" : Str)) = false := by decide)
    (he : starEach (e :: es) (envOfC qual scope s₀.heap.objs.size f cd) = (false, eval e (envOfC qual scope s₀.heap.objs.size f cd)) :: starEach es (envOfC qual scope s₀.heap.objs.size f cd) := by rfl)
    (hpl : (backTo cpos (starEach es (envOfC qual scope s₀.heap.objs.size f cd))).any (·.1) = false := by rfl) :
    PS (cxOf (CXR P w) P w K mg base N qual scope f cd A outer s₀ H₀ E) (.Raise (some (.Call (.Name x np) (e :: es) [] cpos)) none pos) (tRaise C E ta) := by
  intro pins s σ H D I h
  obtain ⟨bm, N', nm, q, bs, hdct, sn, sub, ab, col, dd, k0, k1, k2, k3, k5, mN, hC, hN, hni, T, _⟩ := O.obj I.ok.mod.kin
  refine wpAny_Raise_call_subT (C := C) (nm := nm) (q := q) (N := N') (bs := bs) (bm := bm) (hdct := hdct) (sn := sn) (sub := sub) (ab := ab) (col := col) (dd := dd) (k0 := k0) (k1 := k1) (k2 := k2) (k3 := k3) (k5 := k5) (mN := mN)
    PySem.F.excBase_ValueError (T.hasType PySem.F.excBase_ValueError.hasBase) (I.ok.hd rfl) ?_ hni (ld_glob I hg O.bound ⟨rfl, ?_⟩ hdb)
  · show (backTo cpos (starEach (e :: es) (envOfC qual scope s₀.heap.objs.size f cd))).any (·.1) = false
    rw [he]
    show (false || (backTo cpos (starEach es (envOfC qual scope s₀.heap.objs.size f cd))).any (·.1)) = false
    rw [hpl]; rfl
  have hA := ha cpos pins s σ H _ I h
  show wpAny _ _ (evalArgs (.ref C) true (backTo cpos (starEach (e :: es) (envOfC qual scope s₀.heap.objs.size f cd))) []) _ _ s
  have hA' : wpAny (model P w) (cxOf (CXR P w) P w K mg base N qual scope f cd A outer s₀ H₀ E).A (spliced (backTo cpos (starEach (e :: es) (envOfC qual scope s₀.heap.objs.size f cd)))) _ _ s := hA
  rw [he] at hA' ⊢
  refine Calls.evalArgs_plain (thn hA' fun us s1 ⟨vs, H1, I1, r, hz, q1⟩ => ⟨rfl, by rw [← r.length]; exact hz, I1.bk _ _ hC, hN.keeps I1.bk, T.keeps I1.bk, fun h' x' hm => (let ⟨t, e1, _, _⟩ := hm.there; cx_raise I1 hm.keeps hm.new e1 rfl rfl rfl rfl ⟨0, rfl⟩ q1)⟩)
noncomputable def XP (X : Cx) (pins : List (Addr × Obj)) (σ : St) (Ex : XK) (e : Value) (s' : Shared) : Prop := ∃ H1 s1, Inv X pins σ H1 s1 ∧ CXR X.prog X.w X.stack H1 s1 Ex e s'
noncomputable abbrev TX := St → Hp → VK → XK → Prop
noncomputable def PEx (X : Cx) (e : Expr) (t : TX) : Prop :=
  ∀ (pins : List (Addr × Obj)) (s : Shared) (σ : St) (H : Hp) (Q : VK) (Ex : XK), Inv X pins σ H s → t σ H Q Ex → wpAny (model X.prog X.w) X.A (eval e X.env) (EP X pins σ Q) (XP X pins σ Ex) s
section
variable {X : Cx} {e : Expr} {es : List Expr} {pos : Pos}
theorem noxe {α : Type} {t : Sem α} {Q : α → Shared → Prop} {M : Model} {A : Around} {E : Value → Shared → Prop} {s : Shared} (h : wpAny M A t Q X.nox.xe s) : wpAny M A t Q E s := wpAny_mono h (fun _ _ z => z) fun _ _ z => False.elim z
variable {k : Nat} {f C : Addr} {fd : FuncData} {ps : List Str} {sp : Sp} {m x : Str} {p apos : Pos} {o : Expr} {ta : TE} {t : TA}
theorem run_fnx {pins : List (Addr × Obj)} {σ : St} {H : Hp} {s : Shared} {Q : VK} {Ex : XK} {us : List Value} {vs : List V} (F : FnOk X.prog X.w X.K X.mg X.base (CXR X.prog X.w) k f fd ps sp) (hr : Room k X.A) (hb : Binds X.K fd ps [])
    (I : Inv X pins σ H s) (r : Vals vs us) (h : sp vs H Q Ex) : wpAny (model X.prog X.w) X.A (call (.ref f) us) (EP X pins σ Q) (XP X pins σ Ex) s := by
  have hl : (us ++ []).length = ps.length := by rw [List.append_nil, ← r.length]; exact F.len _ _ _ _ h
  have hb' := hb s us I.kIn hl
  rw [List.append_nil] at hb'
  refine wpAny_call (codeAny_mono (F.run X.A X.stack s H ⟨us, []⟩ us vs Q Ex hr I.env0 hb' r h) fun r s' hq => ?_)
  cases r with
  | error e => exact ⟨H, s, I, hq⟩
  | ok fl =>
    cases fl with
    | ret u => exact I.after hq
    | next => exact False.elim hq
    | brk => exact False.elim hq
    | cont => exact False.elim hq
theorem px_call (F : FnOk X.prog X.w X.K X.mg X.base (CXR X.prog X.w) k f fd ps sp) (hr : Room k X.A) (hg : Gl X x) (hm : X.mg x = some (.ref f)) (hk : PySem.W.keepIn X.K (.ref f) = true) (hb : Binds X.K fd ps []) (ha : PA X.nox (e :: es) t)
    (hdb : (x == ("__debug__" : Str)) = false := by decide) (he : starEach (e :: es) X.env = (false, eval e X.env) :: starEach es X.env := by rfl) (hpl : (backTo pos (starEach es X.env)).any (·.1) = false := by rfl) :
    PEx X.nox (.Call (.Name x p) (e :: es) [] pos) (fun σ H Q Ex => t σ H fun vs H1 => sp vs H1 Q Ex) := by
  intro pins s σ H Q Ex I h
  refine wpAny_Call_Name_kw (ld_glob I hg hm ?_ hdb)
  refine PySem.W.callWith_K (h₀ := X.base) I.ok.mod.kin hk (thn (noxe (ha pos pins s σ H _ I h)) fun us s1 ⟨vs, H1, I1, r, q⟩ => ⟨I1.kIn, ?_⟩) he hpl
  exact run_fnx (X := X.nox) F hr hb I1 r q
end
theorem exc_matches {M : Model} {A : Around} {E : Value → Shared → Prop} {nm q nm' q' : Str} {C N D N' : Addr} {bs bm bs' bm' : List Value} {hdct hdct' : Bool} {sn sn' : List Str} {sub sub' : List Value} {ab ab' : Bool} {col col' : Option Bool} {dd dd' : Option Addr} {k0 k1 k2 k3 k5 l0 l1 l2 l3 l5 : Option Value} {newId newId' : String}
    {h : Heap} {g : Array GenState} {d : Drawn} {t : Nat} {os : OsState} {e : Addr} {oe : Obj} {Q : Bool → Shared → Prop}
    (hC : h.get? C = some (excClassObj nm q C N bs bm hdct sn sub ab col dd k0 k1 k2 k3 k5 newId)) (hD : h.get? D = some (excClassObj nm' q' D N' bs' bm' hdct' sn' sub' ab' col' dd' l0 l1 l2 l3 l5 newId'))
    (he : h.get? e = some oe) (hcls : oe.cls = .ref C) (hbase : bm'.contains (.type "BaseException") = true) (hq : Q ((Value.ref C :: bm).contains (.ref D)) ⟨h, g, d, t, os⟩) : wpAny M A (excMatches (.ref e) (.ref D)) Q E ⟨h, g, d, t, os⟩ := by
  have hcB : (Value.ref D :: bm').contains (.type "BaseException") = true := by rw [List.contains_cons, hbase, Bool.or_true]
  have f := tc_notTuple
  unfold excMatches
  cases hb : (Value.ref C :: bm).contains (.ref D) with
  | true =>
    rw [hb] at hq
    repeat (first | (with_reducible refine wpAny_loadPart_at he ?_; rw [hcls]) | with_reducible refine wpAny_loadPart_at hD ?_ | (with_reducible refine wpAny_isSubtype_exc hD ?_; rw [hcB]) | (with_reducible refine wpAny_isSubtype_exc hC ?_; rw [hb]) | wp_step)
    exact hq
  | false =>
    rw [hb] at hq
    repeat (first | (with_reducible refine wpAny_loadPart_at he ?_; rw [hcls]) | with_reducible refine wpAny_loadPart_at hD ?_ | (with_reducible refine wpAny_isSubtype_exc hD ?_; rw [hcB]) | (with_reducible refine wpAny_isSubtype_exc hC ?_; rw [hb]) | wp_step)
    exact hq
noncomputable abbrev Cx.caught (X : Cx) (x : Addr) (ps : List (Addr × Obj)) : Cx := { X with A := X.A.mark (some (.ref x)), calm := false, pn := ps ++ X.pn }
theorem caught_ok {X : Cx} {e : Addr} {ps : List (Addr × Obj)} (ok : X.Ok) : (X.caught e ps).Ok :=
  ⟨ok.mod, ok.kind, ok.glob, ok.blt, ok.above, ok.inj, ok.has, ok.cab, fun z => absurd (show false = true from z) Bool.false_ne_true, ok.frames, ok.stk, ok.exf, ok.bs, ok.bsz, ok.noex, ok.exfs, ok.funs, ok.frf⟩
theorem Inv.caught {X : Cx} {e : Addr} {ps pins : List (Addr × Obj)} {σ : St} {H : Hp} {s : Shared} (I : Inv X pins σ H s) (hp : ∀ p ∈ ps, s.heap.get? p.1 = some p.2 ∧ H p.1 = none ∧ p.1 ≠ X.env.locals ∧ p.1 ∉ X.fs ∧ ∀ v, p.2.data ≠ .cell v) : Inv (X.caught e ps) pins σ H s :=
  ⟨caught_ok I.ok, I.os, I.bare, I.base, I.loc, I.cell, I.free, I.freeC, fun p z => by
    rcases List.mem_append.mp z with z | z
    · rcases List.mem_append.mp z with z | z
      · exact hp p z
      · exact I.pin p (List.mem_append_left _ z)
    · exact I.pin p (List.mem_append_right _ z), I.hok, I.len⟩
theorem Inv.uncaught {X : Cx} {e : Addr} {ps pins : List (Addr × Obj)} {σ : St} {H : Hp} {s : Shared} (ok : X.Ok) (I : Inv (X.caught e ps) pins σ H s) : Inv X pins σ H s := ⟨ok, I.os, I.bare, I.base, I.loc, I.cell, I.free, I.freeC, fun p z => I.pin p (by
    rcases List.mem_append.mp z with z | z
    · exact List.mem_append_left _ (List.mem_append_right _ z)
    · exact List.mem_append_right _ z), I.hok, I.len⟩
theorem SP.uncaught {X : Cx} {e : Addr} {ps pins : List (Addr × Obj)} {D : Ends} {f : Flow} {s : Shared} (ok : X.Ok) (h : SP (X.caught e ps) pins D f s) : SP X pins D f s := by
  cases f with
  | next => obtain ⟨σ', H', I', q⟩ := h; exact ⟨σ', H', I'.uncaught ok, q⟩
  | brk => obtain ⟨σ', H', I', q⟩ := h; exact ⟨σ', H', I'.uncaught ok, q⟩
  | cont => obtain ⟨σ', H', I', q⟩ := h; exact ⟨σ', H', I'.uncaught ok, q⟩
  | ret v => obtain ⟨x, σ', H', I', r, q⟩ := h; exact ⟨x, σ', H', I'.uncaught ok, r, q⟩
noncomputable def HeadP (ps : List (Addr × Obj)) (x : Addr) : Prop := ∃ n, ChainP ps (n + 1) (.ref x)
inductive Hs (X : Cx) : List ExceptHandler → List (Addr × TS) → Prop where
  | nil : Hs X [] []
  | cons {x : Str} {C : Addr} {mro : List Value} {b₀ : Stmt} {suite : List Stmt} {pos np : Pos} {rest : List ExceptHandler} {ts : TS} {l : List (Addr × TS)} (O : Exc X.K X.mg x C mro) (hg : Gl X x) (hdb : (x == ("__debug__" : Str)) = false)
      (hs : ∀ e ps, X.Ok → HeadP ps e → PSs (X.caught e ps) (b₀ :: suite) ts) (r : Hs X rest l) : Hs X (.ExceptHandler (some (.Name x np)) none (b₀ :: suite) pos :: rest) ((C, ts) :: l)
noncomputable def pickH (mro : List Value) : List (Addr × TS) → Option TS
  | [] => none
  | (C, t) :: r => if mro.contains (.ref C) = true then some t else pickH mro r
noncomputable abbrev TSx := Ends → XK → St → Hp → Prop
noncomputable def PSx (X : Cx) (st : Stmt) (t : TSx) : Prop :=
  ∀ (pins : List (Addr × Obj)) (s : Shared) (σ : St) (H : Hp) (D : Ends) (Ex : XK), Inv X pins σ H s → t D Ex σ H → wpAny (model X.prog X.w) X.A (exec st X.env) (SP X pins D) (XP X pins σ Ex) s
theorem psx_set {X : Cx} {e : Expr} {te : TX} {i : Nat} {x : Str} {pos' ap : Pos} (hN : X.N.Nodup) (hi : X.N[i]? = some x) (hx : X.env.scope.names.lookup x = some .local) (he : PEx X.nox e te) (hsw : swapsWith e (some (.Name x pos')) ap.line X.env = pure false := by rfl) :
    PSx X.nox (.Assign [.Name x pos'] e ap) (fun D Ex σ H => te σ H (fun y H1 => D.nx (σ.set i (some y)) H1) Ex) := by
  intro pins s σ H D Ex I h
  refine wpAny_Assign_Name (thn (he pins s σ H _ _ I h) fun v s1 ⟨y, H1, I1, r1, q1⟩ => ?_) hsw
  exact store_ok I1 hN hi (.inl hx) r1 (fun s2 I2 => ⟨_, H1, I2, q1⟩) (.inr hx)
noncomputable def tTry (K : PySem.W.Frag) (mg : Str → Option Value) (te : TSx) (l : List (Addr × TS)) : TS := fun D σ H => te D (fun c _ H1 => ∃ x C mro t, c = .ref C ∧ Exc K mg x C mro ∧ pickH mro l = some t ∧ t D σ H1) σ H
theorem ps_try {X : Cx} {st : Stmt} {te : TSx} {h₀ : ExceptHandler} {hs : List ExceptHandler} {l : List (Addr × TS)} {pos : Pos} (he : PSx X.nox st te) (hh : Hs X (h₀ :: hs) l) (hf : X.env.frame = some X.env.locals) (hst : X.stack = X.env :: X.outer)
    (hpa : ∀ v, PassesOwnAt (model X.prog X.w) (X.A.mark v) X.A X.env X.xe) : PS X (.Try [st] (h₀ :: hs) [] [] pos) (tTry X.K X.mg te l) := by
  intro pins s σ H D I h
  refine wpAny_Try_except ?_
  refine wpAny_mono (Q := SP X.nox pins D) (E := XP X.nox pins σ fun c _ H1 => ∃ x C mro t, c = .ref C ∧ Exc X.K X.mg x C mro ∧ pickH mro l = some t ∧ t D σ H1) ?_ (fun f s1 q => ?_) fun ev s1 q => ?_
  · refine wpAny_execs_cons (thn (he pins s σ H D _ (I.wish _) h) fun f s1 q => ?_)
    cases f with
    | next => exact wpAny_execs_nil q
    | ret v => exact q
    | brk => exact q
    | cont => exact q
  · cases f with
    | next => exact wpAny_execs_nil (SP.unwish q)
    | ret v => exact SP.unwish q
    | brk => exact SP.unwish q
    | cont => exact SP.unwish q
  obtain ⟨H1, s2, I1, xa, C, c, B, H', rfl, F, nmx, C', mro, t, ec, O, pk, qt⟩ := q
  cases ec
  have F' : Flown X.prog X.w (X.env :: X.outer) H1 s2 xa C c B H' s1 := by
    have : Flown X.prog X.w X.stack H1 s2 xa C c B H' s1 := F
    rw [hst] at this; exact this
  have hfr : X.A.frames = some (X.env :: X.outer) := by rw [← hst]; exact I.ok.frames
  have I1' : Inv X pins σ H1 s2 := I1.unwish
  refine fl_note hfr hf F'.fly fun h4 held4 up4 => ?_
  refine fl_land (s := { s1 with heap := h4 }) held4 fun h5 fl5 up5' => ?_
  have up5 := up4.trans up5'
  -- whatever the handlers find, the names stand
  have inv : ∀ {h : Heap}, B.StaysIn h → s1.heap.UpToSlots h → Inv X pins σ H' { s1 with heap := h } := fun {h} st up => by
    have u := F.un st up
    exact I1'.call' (s' := { s1 with heap := h }) (ch := []) F.os u (F.hok.kept st) F.bare fun b z => absurd z (by simp)
  have ok := I.ok
  have main : ∀ {hs' : List ExceptHandler} {l' : List (Addr × TS)}, Hs X hs' l' → pickH mro l' = some t → wpAny (model X.prog X.w) X.A (handleBy (.ref xa) X.env hs') (SP X pins D) X.xe { s1 with heap := h5 } := by
    intro hs' l' hH
    induction hH with
    | nil => intro z; cases z
    | @cons nm2 C2 mro2 b₀ suite p2 np rest ts l2 O2 hg hdb hsu r ih =>
      intro z
      have I5 : Inv X pins σ H' { s1 with heap := h5 } := inv fl5.1 up5
      refine wpAny_handleBy_cons (codeAny_handlers_test ?_) (by intro q; cases q)
      have Ic : Inv (X.caught xa []) pins σ H' { s1 with heap := h5 } := I5.caught fun p hp => absurd hp (by simp)
      refine wpAny_mono (E := fun _ _ => False) (ld_glob Ic hg O2.bound (Q := fun c s' => c = .ref C2 ∧ s' = { s1 with heap := h5 }) ⟨rfl, rfl⟩ hdb) (fun c s' hc => ?_) fun _ _ z => z.elim
      obtain ⟨rfl, rfl⟩ := hc
      obtain ⟨bm, N1, nm, q1, bs, hdct, sn, sub, ab, col, dd, k0, k1, k2, k3, k5, mN, hC, _, _, T, em⟩ := O.obj I5.kIn
      obtain ⟨bm', N1', nm', q1', bs', hdct', sn', sub', ab', col', dd', l0, l1, l2', l3, l5, mN', hC', _, _, T', em'⟩ := O2.obj I5.kIn
      obtain ⟨ob, vs5, _, _, _, hob, hobc, _⟩ := fl5.2.2.2
      refine exc_matches (oe := ob) hC hC' hob hobc (T'.hasType PySem.F.excBase_ValueError.hasBase) ?_
      rw [← em]
      cases hb : mro.contains (.ref C2) with
      | true =>
        have z' : (if mro.contains (.ref C2) = true then some ts else pickH mro l2) = some t := z
        rw [hb, if_pos rfl] at z'
        cases z'
        refine codeAny_handlers_suite ?_
        refine fl_land (s := { s1 with heap := h5 }) fl5 fun h6 fl6 up6 => ?_
        have I6 : Inv X pins σ H' { s1 with heap := h6 } := inv fl6.1 (up5.trans up6)
        obtain ⟨oe, vs, _, _, _, g1, g2, g3, g4, _⟩ := fl6.2.2.2
        obtain ⟨n, chn⟩ := F.ch
        have chn6 : Chain h6 (fun a => H' a = none) (n + 1) (.ref xa) := .inr ⟨xa, oe, vs, c, rfl, g1, F.new, g3, g4, chn.imp fun a o ws na ea _ => ⟨fl6.1 a o ea, na⟩⟩
        obtain ⟨ps, pk1, pk2⟩ := chn6.pins
        have Ic6 : Inv (X.caught xa ps) pins σ H' { s1 with heap := h6 } := I6.caught fun p hp => by
          obtain ⟨a1, a2, ws, a3⟩ := pk1 p hp
          refine ⟨a1, a2, fun y => ?_, fun y => ?_, fun v y => ?_⟩
          · obtain ⟨m, ⟨o', es, ep, ho', hd', _⟩, _⟩ := I6.loc
            rw [y] at a1
            have a1' : h6.get? X.env.locals = some o' := ho'
            rw [a1'] at a1; cases a1
            rw [hd'] at a3; cases a3
          · obtain ⟨_, o', ho', n'⟩ := I6.funs.mem y
            have a1' : h6.get? p.1 = some o' := ho'
            rw [a1'] at a1; cases a1
            exact n' ws a3
          · rw [a3] at y; cases y
        refine wpAny_passesOwnAt (hpa _) ?_
        exact wpAny_mono (hsu xa ps ok ⟨n, pk2⟩ pins _ σ H' D Ic6 qt) (fun f s' q => SP.uncaught ok q) fun _ _ q => q
      | false =>
        have z' : (if mro.contains (.ref C2) = true then some ts else pickH mro l2) = some t := z
        rw [hb, if_neg Bool.false_ne_true] at z'
        exact ih z'
  exact main hh pk
structure RoomH (k : Nat) (A : Around) : Prop where
  dp : A.depth + 3 * k + 5 < recursionLimit
  un : A.units + 16 * k + 200 < cLine
theorem Room.h {k : Nat} {A : Around} (r : Room k A) (v : Option Value) : RoomH k (A.mark v) := ⟨r.dp, r.un⟩
structure FnOkH (P : Program) (w : World) (K : PySem.W.Frag) (mg : Str → Option Value) (base : Heap) (k : Nat) (f : Addr) (fd : FuncData) (ps : List Str) (sp : Sp) : Prop where
  len : ∀ vs H Q E, sp vs H Q E → vs.length = ps.length
  run : ∀ (A : Around) (outer : List Env) (s : Shared) (H : Hp) (args : Args) (us : List Value) (vs : List V) (Q : VK) (E : XK), RoomH k A → Env0 P w K mg base A outer s H → BindsTo s fd args (ps.zip us) → Vals vs us → sp vs H Q E →
    codeAny (model P w) A (.call (.ref f) args) (CR CX0 outer P w H s Q E) s
section
variable {P : Program} {w : World} {K : PySem.W.Frag} {mg : Str → Option Value} {base : Heap}
end
section
variable {X : Cx} {k : Nat} {f C : Addr} {fd : FuncData} {ps : List Str} {sp : Sp} {m : Str} {pos apos : Pos} {e o : Expr} {es : List Expr} {ta : TE} {t : TA}
end
section
variable {P : Program} {w : World} {K : PySem.W.Frag} {mg : Str → Option Value} {base : Heap} {N : List Str} {qual : Str} {scope : Scope} {f' : Addr} {cd : Value} {A : Around} {outer : List Env} {s₀ : Shared} {H₀ : Hp} {E : XK}
  {x : Str} {f : Addr} {fd : FuncData} {ps : List Str} {k k' : Nat} {sp : Sp} {e : Expr} {es : List Expr} {t : TA} {p pos : Pos}
theorem pe_fnX (F : FnX P w K mg base x f fd ps k sp) (hr : Room k' (cxOf (CXR P w) P w K mg base N qual scope f' cd A outer s₀ H₀ E).A) (ha : PA (cxOf (CXR P w) P w K mg base N qual scope f' cd A outer s₀ H₀ E) (e :: es) t) (hk : k ≤ k' := by first | decide | exact Nat.le_refl _) (hg : Gl (cxOf (CXR P w) P w K mg base N qual scope f' cd A outer s₀ H₀ E) x := by rfl) (hdb : (x == ("__debug__" : Str)) = false := by decide)
    (he : starEach (e :: es) (envOfC qual scope s₀.heap.objs.size f' cd) = (false, eval e (envOfC qual scope s₀.heap.objs.size f' cd)) :: starEach es (envOfC qual scope s₀.heap.objs.size f' cd) := by rfl) (hpl : (backTo pos (starEach es (envOfC qual scope s₀.heap.objs.size f' cd))).any (·.1) = false := by rfl) :
    PE (cxOf (CXR P w) P w K mg base N qual scope f' cd A outer s₀ H₀ E) (.Call (.Name x p) (e :: es) [] pos) (tCall sp [] E t) :=
  pe_call F.ok (hr.mono hk) hg F.mg F.kp F.bd .nil cx_pass ha hdb he hpl
end
section
variable {X : Cx} {x : Str} {f : Addr} {fd : FuncData} {ps : List Str} {k k' : Nat} {sp : Sp} {e : Expr} {es : List Expr} {t : TA} {p pos : Pos}
theorem px_fn (F : FnX X.prog X.w X.K X.mg X.base x f fd ps k sp) (hr : Room k' X.A) (ha : PA X.nox (e :: es) t) (hk : k ≤ k' := by first | decide | exact Nat.le_refl _) (hg : Gl X x := by rfl) (hdb : (x == ("__debug__" : Str)) = false := by decide)
    (he : starEach (e :: es) X.env = (false, eval e X.env) :: starEach es X.env := by rfl) (hpl : (backTo pos (starEach es X.env)).any (·.1) = false := by rfl) :
    PEx X.nox (.Call (.Name x p) (e :: es) [] pos) (fun σ H Q Ex => t σ H fun vs H1 => sp vs H1 Q Ex) :=
  px_call F.ok (hr.mono hk) hg F.mg F.kp F.bd ha hdb he hpl
end
end L2
namespace L2
open PySem PySem.Spec PyProof.Rows
section
variable {X : Cx} {pos : Pos}
end
end L2
namespace L2
open PySem PySem.Spec PyProof.Rows
section
variable {X : Cx}
theorem call_sumL (hc : X.calm = true) : CallR X (.builtin "sum") (fun xs H Q => ∃ (p : Addr) (ns : List Int), xs = [.ref p] ∧ SqL X.K H p (ns.map V.int) ∧ Q (.int ns.sum) H) := by
  intro pins s σ H xs us Q I r h
  obtain ⟨p, ns, rfl, hq, q⟩ := h
  obtain ⟨u, rfl, rx⟩ := vals1 r
  cases rx
  obtain ⟨its, rv, pl, hz⟩ := I.list hq
  have hlen : its.length = ns.length := by rw [← rv.length, List.length_map]
  have plt : p < s.heap.objs.size := by
    obtain ⟨o, ho, _⟩ := pl.isList
    exact Heap.lt_size ho
  have hh : X.A.in1.handled = none := I.ok.hd hc
  refine call_sum_walkG (wpAny_pyIter_list pl.isList ⟨s.heap.objs.size, _, _, _, _, _, fun i => ns.getD i 0, rfl, Walks.list hh s.heap.objs.size p (Nat.ne_of_lt plt) its.toArray, ⟨⟨_, Heap.get?_push_size _ rfl, rfl, rfl⟩, pl.isList.push _⟩, fun b hb => ?_, fun i v hv => ?_, fun h' tk t' k => ?_⟩)
  · show b < (s.heap.push _).objs.size
    rw [Heap.size_push]
    have : b = s.heap.objs.size ∨ b = p := by simpa using hb
    rcases this with rfl | rfl
    · exact Nat.lt_succ_self _
    · exact Nat.lt_succ_of_lt plt
  · have hv' : its[i]? = some v := by simpa using hv
    have hi : i < ns.length := by rw [← hlen]; exact (List.getElem?_eq_some_iff.mp hv').1
    obtain ⟨u, hu, ru⟩ := rv.get (i := i) (x := .int ns[i]) (by rw [List.getElem?_map, List.getElem?_eq_getElem hi]; rfl)
    rw [hv'] at hu; cases hu
    obtain ⟨t, rfl⟩ := ru
    refine ⟨t, ?_⟩
    show Value.int ns[i] t = Value.int (ns.getD i 0) t
    rw [List.getD_eq_getElem?_getD, List.getElem?_eq_getElem hi]
    rfl
  · have e : its.toArray.size = ns.length := by rw [List.size_toArray, hlen]
    rw [e, preSum_getD, List.take_length]
    refine ⟨.int ns.sum, H, ?_, ⟨_, rfl⟩, q⟩
    have I1 : Inv X pins σ H { s with heap := s.heap.push { cls := .type "list_iterator", data := .fields #[.ref p, .int 0 0] } } := I.kept (t' := s.toks) fun b o z => Heap.get?_push_of_some _ z
    refine I1.turnMany (t' := tk) (ch := [s.heap.objs.size]) (fun b hb => ?_) fun b o hb z => k b o (by simpa using hb) z
    have : b = s.heap.objs.size := by simpa using hb
    subst this
    exact I.fpOk (Nat.le_refl _) (I.hok.fresh (Nat.le_refl _))
end
end L2
set_option maxRecDepth 100000
namespace L2
open PySem PySem.Spec PyProof.Rows
section
variable {X : Cx}
end
section
variable {prog : Program} {w : World} {A : Around} {E : Value → Shared → Prop} {s : Shared}
end
section
variable {X : Cx}
variable {o e : Expr} {es : List Expr} {to : TE} {t : TA} {name : Str} {apos cpos : Pos} {id : String} {r : V → List V → Hp → VK → Prop}
end
end L2
namespace L2
open PySem PySem.Spec PyProof.Rows
section
variable {X : Cx}
end
end L2
namespace L2
open PySem PySem.Spec PyProof.Rows
section
variable {X : Cx}
end
end L2
set_option maxRecDepth 100000
namespace PySem
namespace R4
end R4
open PyProof.Rows
section
variable {prog : Program} {w : World} {A : Around} {E : Value → Shared → Prop} {s : Shared}
noncomputable def Heap.IsRevT (h : Heap) (a t : Addr) (i : Int) : Prop := ∃ o, h.get? a = some o ∧ o.cls = .type "reversed" ∧ o.data = .fields #[.ref t, rawInt i]
theorem Heap.IsRevT.typeIs {a t : Addr} {i : Int} (x : s.heap.IsRevT a t i) : s.TypeIs (.ref a) "reversed" := let ⟨o, ho, hc, _⟩ := x; ⟨o, ho, hc⟩
theorem Heap.IsRevT.at {h h' : Heap} {a t : Addr} {i : Int} (x : h.IsRevT a t i) (e : ∀ o, h.get? a = some o → h'.get? a = some o) : h'.IsRevT a t i := let ⟨o, ho, r⟩ := x; ⟨o, e _ ho, r⟩
end
section
variable {prog : Program} {w : World} {A : Around} {E : Value → Shared → Prop} {s : Shared} {I : Addr} {fp wr : List Addr} {G : Array GenState → Array GenState → Prop} {n : Nat} {P : Nat → Value → Prop} {St : Nat → Shared → Prop}
end
end PySem
namespace L2
open PySem PySem.Spec PyProof.Rows
section
variable {X : Cx}
end
end L2
namespace HT
open PySem PyProof.Rows
section
open PySem.SeqAt
open PySem.AutoSeq1 (wpAny_loadPart')
open PySem.MeetsSeq PySem.MeetsSeq2 PySem.MeetsSeq3
end
section
variable {prog : Program} {w : World} {A : Around} {E : Value → Shared → Prop} {s : Shared}
end
end HT
namespace L2
open PySem PySem.Spec PyProof.Rows
section
variable {X : Cx}
noncomputable def rNeTS (K : PySem.W.Frag) : R2 := fun x y H Q => ∃ b, y = .str b ∧ ((∃ a, x = .str a ∧ Q (.bl (!decide (V.str a = V.str b))) H) ∨ ∃ p xs, x = .ref p ∧ SqT K H p xs ∧ Q (.bl true) H)
theorem op_neTS (hu : X.A.units < cLine) : OpR X (compareOp .NotEq) (rNeTS X.K) := by
  intro pins s σ H x y v u Q I rx ry h
  obtain ⟨b, rfl, h⟩ := h
  rcases h with ⟨a, rfl, q⟩ | ⟨p, xs, rfl, hq, q⟩
  · exact op_ne pins s σ H _ _ v u Q I rx ry ⟨rfl, q⟩
  · cases rx
    obtain ⟨t, rfl⟩ := ry
    obtain ⟨its, r1, p1, _⟩ := I.tuple hq
    exact SeqAt.RcNeAt.tuple_str b t (show s.heap.IsTuple p its.toArray from p1) hu X.prog X.w _ _ ⟨.bl true, H, I, rfl, q⟩
end
section
variable {X : Cx} {tg : Expr}
end
end L2
namespace L2
open PySem PySem.Spec PyProof.Rows
theorem pe_calm {X : Cx} {e : Expr} {t : TX} (h : PEx X.nox e t) : PE X.nox e (fun σ H Q => t σ H Q fun _ _ _ => False) := by
  intro pins s σ H Q I q
  refine wpAny_mono (h pins s σ H Q _ I q) (fun _ _ z => z) fun v s' z => ?_
  obtain ⟨H1, s1, _, x, C, c, B, H', _, _, f⟩ := z
  exact f.elim
end L2
set_option maxRecDepth 100000
set_option maxHeartbeats 2000000
namespace L2
open PySem PySem.Spec PyProof.Rows
section
variable {κ : Type} [DecidableEq κ]
noncomputable def valV (kvs : List (κ × V)) (k : κ) : Option V := (kvs.find? fun kv => decide (kv.1 = k)).map (·.2)
noncomputable def putK (kvs : List (κ × V)) (k : κ) (v : V) : List (κ × V) :=
  if (kvs.any fun kv => decide (kv.1 = k)) = true then kvs.map (fun kv => if kv.1 = k then (kv.1, v) else kv) else kvs ++ [(k, v)]
noncomputable def dropK (kvs : List (κ × V)) (k : κ) : List (κ × V) := kvs.filter fun kv => decide (kv.1 ≠ k)
theorem valV_pos {p : κ × V} {r : List (κ × V)} {k : κ} (e : p.1 = k) : valV (p :: r) k = some p.2 := by simp [valV, List.find?_cons, e]
theorem valV_neg {p : κ × V} {r : List (κ × V)} {k : κ} (e : ¬ p.1 = k) : valV (p :: r) k = valV r k := by simp [valV, List.find?_cons, e]
theorem valV_any (k : κ) : ∀ kvs : List (κ × V), (kvs.any fun kv => decide (kv.1 = k)) = (valV kvs k).isSome
  | [] => rfl
  | p :: r => by
    rw [List.any_cons]
    by_cases e : p.1 = k
    · simp only [valV_pos e, decide_eq_true e, Bool.true_or, Option.isSome_some]
    · rw [valV_neg e, decide_eq_false e, Bool.false_or]; exact valV_any k r
theorem length_putK (kvs : List (κ × V)) (k : κ) (v : V) : (putK kvs k v).length ≤ kvs.length + 1 := by
  unfold putK
  split
  · rw [List.length_map]; omega
  · rw [List.length_append, List.length_cons, List.length_nil]; omega
theorem RelO.isSome_eq {o : Option V} {u : Option Value} (r : RelO o u) : o.isSome = u.isSome := by
  cases o with
  | none => cases u with
    | none => rfl
    | some _ => exact (show False from r).elim
  | some _ => cases u with
    | none => exact (show False from r).elim
    | some _ => rfl
theorem RelO.getD {o : Option V} {u : Option Value} {d : V} {d' : Value} (r : RelO o u) (rd : RelV d d') : RelV (o.getD d) (u.getD d') := by
  cases o with
  | none => cases u with
    | none => exact rd
    | some _ => exact (show False from r).elim
  | some _ => cases u with
    | none => exact (show False from r).elim
    | some _ => exact r
theorem KV.val {kvs : List (κ × V)} {vs : List (κ × Value)} (r : KV kvs vs) (k : κ) : RelO (valV kvs k) (valueAt vs k) := by
  unfold KV at r
  induction r with
  | nil => exact True.intro
  | @cons p q ps qs h t ih =>
    obtain ⟨h1, h2⟩ := h
    by_cases e : p.1 = k
    · have e' : q.1 = k := h1.symm.trans e
      have b : valueAt (q :: qs) k = some q.2 := by simp [valueAt, List.find?_cons, e']
      rw [valV_pos e, b]; exact h2
    · have e' : ¬ q.1 = k := fun z => e (h1.trans z)
      have b : valueAt (q :: qs) k = valueAt qs k := by simp [valueAt, List.find?_cons, e']
      rw [valV_neg e, b]; exact ih
theorem KV.any {kvs : List (κ × V)} {vs : List (κ × Value)} (r : KV kvs vs) (k : κ) : (kvs.any fun kv => decide (kv.1 = k)) = vs.any fun kv => decide (kv.1 = k) := by
  unfold KV at r
  induction r with
  | nil => rfl
  | cons h t ih => rw [List.any_cons, List.any_cons, ih, h.1]
theorem KV.repl {kvs : List (κ × V)} {vs : List (κ × Value)} (r : KV kvs vs) (k : κ) {y : V} {u : Value} (ry : RelV y u) :
    KV (kvs.map fun kv => if kv.1 = k then (kv.1, y) else kv) (vs.map fun kv => if kv.1 = k then (kv.1, u) else kv) := by
  unfold KV at r ⊢
  induction r with
  | nil => exact .nil
  | @cons p q ps qs h t ih =>
    rw [List.map_cons, List.map_cons]
    refine .cons ?_ ih
    obtain ⟨h1, h2⟩ := h
    by_cases e : p.1 = k
    · rw [if_pos e, if_pos (h1.symm.trans e)]; exact ⟨h1, ry⟩
    · rw [if_neg e, if_neg (fun z => e (h1.trans z))]; exact ⟨h1, h2⟩
theorem KV.put {kvs : List (κ × V)} {vs : List (κ × Value)} (r : KV kvs vs) (k : κ) {y : V} {u : Value} (ry : RelV y u) : KV (putK kvs k y) (stored vs k u) := by
  unfold putK stored
  rw [r.any k]
  by_cases e : (vs.any fun kv => decide (kv.1 = k)) = true
  · rw [if_pos e, if_pos e]; exact r.repl k ry
  · rw [if_neg e, if_neg e]; exact Paired.snoc r ⟨rfl, ry⟩
theorem KV.drop {kvs : List (κ × V)} {vs : List (κ × Value)} (r : KV kvs vs) (k : κ) : KV (dropK kvs k) (without vs k) := by
  unfold KV at r ⊢
  unfold dropK without
  induction r with
  | nil => exact .nil
  | @cons p q ps qs h t ih =>
    obtain ⟨h1, h2⟩ := h
    rw [List.filter_cons, List.filter_cons]
    by_cases e : p.1 = k
    · have a : ¬ decide (p.1 ≠ k) = true := by simp [e]
      have b : ¬ decide (q.1 ≠ k) = true := by simp [h1.symm.trans e]
      rw [if_neg a, if_neg b]; exact ih
    · have e' : ¬ q.1 = k := fun z => e (h1.trans z)
      have a : decide (p.1 ≠ k) = true := by simp [e]
      have b : decide (q.1 ≠ k) = true := by simp [e']
      rw [if_pos a, if_pos b]; exact .cons ⟨h1, h2⟩ ih
theorem KV.keys {kvs : List (κ × V)} {vs : List (κ × Value)} (r : KV kvs vs) : kvs.map (·.1) = vs.map (·.1) := by
  unfold KV at r
  induction r with
  | nil => rfl
  | cons h t ih => rw [List.map_cons, List.map_cons, ih, h.1]
theorem KV.length {kvs : List (κ × V)} {vs : List (κ × Value)} (r : KV kvs vs) : kvs.length = vs.length := Paired.length r
end
theorem kV_is {P : Program} {w : World} {k : Key} {u : Value} (r : RelV (kV k) u) : (mixKind P w).is k u = true := by
  cases k with
  | inl i => obtain ⟨t, e⟩ := (show ∃ t, u = Value.int i t from r); subst e; exact mixKind_int P w i t
  | inr x => obtain ⟨t, e⟩ := (show ∃ t, u = Value.str x t from r); subst e; exact mixKind_str P w x t
theorem items_are {P : Program} {w : World} : ∀ {ks : List Key} {us : List Value}, Vals (ks.map kV) us → ItemsAre (mixKind P w) ks us
  | [], _, r => by rw [List.map_nil] at r; cases r; exact .nil
  | k :: ks, _, r => by
    rw [List.map_cons] at r
    cases r with
    | cons h t => exact .cons (kV_is h) (items_are t)
noncomputable abbrev KT (H : Hp) : List (List Key × V) → List (List Key × Addr × Value) → Prop := Paired fun p q => p.1 = q.1 ∧ H q.2.1 = some (.tup (p.1.map kV)) ∧ RelV p.2 q.2.2
theorem KT.val {H : Hp} {kvs : List (List Key × V)} {xs : List (List Key × Addr × Value)} (r : KT H kvs xs) (k : List Key) : RelO (valV kvs k) ((atKey xs k).map (·.2)) := by
  induction r with
  | nil => exact True.intro
  | @cons p q ps qs h t ih =>
    obtain ⟨h1, _, h2⟩ := h
    by_cases e : p.1 = k
    · have e' : q.1 = k := h1.symm.trans e
      have b : atKey (q :: qs) k = some q.2 := by simp [atKey, List.find?_cons, e']
      rw [valV_pos e, b]; exact h2
    · have e' : ¬ q.1 = k := fun z => e (h1.trans z)
      have b : atKey (q :: qs) k = atKey qs k := by simp [atKey, List.find?_cons, e']
      rw [valV_neg e, b]; exact ih
theorem KT.repl {H : Hp} {kvs : List (List Key × V)} {xs : List (List Key × Addr × Value)} (r : KT H kvs xs) (k : List Key) {y : V} {u : Value} (ry : RelV y u) :
    KT H (kvs.map fun kv => if kv.1 = k then (kv.1, y) else kv) (xs.map (putAt k u)) := by
  induction r with
  | nil => exact .nil
  | @cons p q ps qs h t ih =>
    rw [List.map_cons, List.map_cons]
    refine .cons ?_ ih
    obtain ⟨h1, h2, h3⟩ := h
    unfold putAt
    by_cases e : p.1 = k
    · rw [if_pos e, if_pos (h1.symm.trans e)]; exact ⟨h1, h2, ry⟩
    · rw [if_neg e, if_neg (fun z => e (h1.trans z))]; exact ⟨h1, h2, h3⟩
theorem KT.put {H : Hp} {kvs : List (List Key × V)} {xs : List (List Key × Addr × Value)} (r : KT H kvs xs) (k : List Key) {b : Addr} {y : V} {u : Value} (hb : H b = some (.tup (k.map kV))) (ry : RelV y u) :
    KT H (putK kvs k y) (storedH xs k b u) := by
  have e : (kvs.any fun kv => decide (kv.1 = k)) = (atKey xs k).isSome := by
    rw [valV_any, (r.val k).isSome_eq, Option.isSome_map]
  unfold putK storedH
  rw [e]
  by_cases q : (atKey xs k).isSome = true
  · rw [if_pos q, if_pos q]; exact r.repl k ry
  · rw [if_neg q, if_neg q]; exact Paired.snoc r ⟨rfl, hb, ry⟩
theorem KT.keeps {H H' : Hp} {kvs : List (List Key × V)} {xs : List (List Key × Addr × Value)} (r : KT H kvs xs) (ht : ∀ b ys, H b = some (.tup ys) → H' b = some (.tup ys)) : KT H' kvs xs :=
  Paired.mapP r fun _ _ z => ⟨z.1, ht _ _ z.2.1, z.2.2⟩
section
variable {P : Program} {w : World} {H : Hp} {h : Heap} {a : Addr}
theorem rd_of {u : HO} (ok : HOk P w H h) (e : Rd H a u) : ObjOk P w H h a u := e.ok ok
theorem dk_rd {kvs : List (Key × V)} (ok : HOk P w H h) (e : Rd H a (.dK kvs)) : kvs.length ≤ sizeLine ∧ (a == sysModules) = false ∧ ∃ vs, KV kvs vs ∧ h.DictOf (mixKind P w) a vs :=
  show ObjOk P w H h a (.dK kvs) from rd_of ok e
theorem dk_of {kvs : List (Key × V)} (ok : HOk P w H h) (e : H a = some (.dK kvs)) : kvs.length ≤ sizeLine ∧ (a == sysModules) = false ∧ ∃ vs, KV kvs vs ∧ h.DictOf (mixKind P w) a vs := dk_rd ok (.inl e)
theorem key_of {ks : List Key} (ok : HOk P w H h) (e : H a = some (.tup (ks.map kV))) : (tupleKind (mixKind P w)).is h ks a := by
  obtain ⟨_, its, r, ⟨o, h1, h2, n, h3⟩, _⟩ := (show ObjOk P w H h a (.tup (ks.map kV)) from ok a _ e)
  exact ⟨o, its.toArray, n, h1, h2, h3, by simpa using items_are r⟩
theorem dt_rd {kvs : List (List Key × V)} (ok : HOk P w H h) (e : Rd H a (.dT kvs)) : kvs.length ≤ sizeLine ∧ (a == sysModules) = false ∧
    ∃ xs, KT H kvs xs ∧ h.DictOfH (tupleKind (mixKind P w)) a xs := by
  obtain ⟨z, y, xs, r, o, es, ep, h1, h2, h3, h4, h5⟩ := (show ObjOk P w H h a (.dT kvs) from rd_of ok e)
  refine ⟨z, y, xs, r, o, es, ep, h1, h2, h3, h4, fun x hx => ?_, h5⟩
  have all : ∀ {l : List (List Key × V)} {m : List (List Key × Addr × Value)}, KT H l m → ∀ x ∈ m, (tupleKind (mixKind P w)).is h x.1 x.2.1 := by
    intro l m q
    induction q with
    | nil => intro x hx; exact nomatch hx
    | @cons p q ps qs hq t ih =>
      intro x hx
      rcases List.mem_cons.mp hx with e | hx
      · subst e
        exact key_of ok (by rw [← hq.1]; exact hq.2.1)
      · exact ih x hx
  exact all r x hx
theorem dt_of {kvs : List (List Key × V)} (ok : HOk P w H h) (e : H a = some (.dT kvs)) : kvs.length ≤ sizeLine ∧ (a == sysModules) = false ∧
    ∃ xs, KT H kvs xs ∧ h.DictOfH (tupleKind (mixKind P w)) a xs := dt_rd ok (.inl e)
end
noncomputable def DGet (H : Hp) (a : Addr) (y : V) (r : Option V) : Prop :=
  (∃ kvs k, Rd H a (.dK kvs) ∧ y = kV k ∧ r = valV kvs k) ∨ ∃ kvs k b, Rd H a (.dT kvs) ∧ y = .ref b ∧ H b = some (.tup (k.map kV)) ∧ r = valV kvs k
noncomputable def DPut (H : Hp) (a : Addr) (y v : V) (H' : Hp) : Prop :=
  (∃ kvs k, H a = some (.dK kvs) ∧ y = kV k ∧ kvs.length < sizeLine ∧ H' = upd H a (.dK (putK kvs k v))) ∨
  ∃ kvs k b, H a = some (.dT kvs) ∧ y = .ref b ∧ H b = some (.tup (k.map kV)) ∧ kvs.length < sizeLine ∧ H' = upd H a (.dT (putK kvs k v))
theorem DGet.k {H : Hp} {a : Addr} {kvs : List (Key × V)} {k : Key} (e : H a = some (.dK kvs)) : DGet H a (kV k) (valV kvs k) := .inl ⟨kvs, k, .inl e, rfl, rfl⟩
theorem DGet.t {H : Hp} {a b : Addr} {kvs : List (List Key × V)} {k : List Key} (e : H a = some (.dT kvs)) (eb : H b = some (.tup (k.map kV))) : DGet H a (.ref b) (valV kvs k) := .inr ⟨kvs, k, b, .inl e, rfl, eb, rfl⟩
theorem DPut.k {H : Hp} {a : Addr} {kvs : List (Key × V)} {k : Key} {v : V} (e : H a = some (.dK kvs)) (hl : kvs.length < sizeLine) : DPut H a (kV k) v (upd H a (.dK (putK kvs k v))) := .inl ⟨kvs, k, e, rfl, hl, rfl⟩
theorem DPut.t {H : Hp} {a b : Addr} {kvs : List (List Key × V)} {k : List Key} {v : V} (e : H a = some (.dT kvs)) (eb : H b = some (.tup (k.map kV))) (hl : kvs.length < sizeLine) :
    DPut H a (.ref b) v (upd H a (.dT (putK kvs k v))) := .inr ⟨kvs, k, b, e, rfl, eb, hl, rfl⟩
section
variable {X : Cx} {pins : List (Addr × Obj)} {σ : St} {H : Hp} {s : Shared} {a : Addr} {y v : V} {u r : Value} {o : Option V} {A : Around} {E : Value → Shared → Prop}
theorem Inv.big (I : Inv X pins σ H s) : sysModules < s.heap.objs.size := by
  have h : mainGlobals < s.heap.objs.size := (I.mod.glob.keeps I.bk).lt
  exact Nat.lt_trans (by decide) h
theorem d_getItem {Q : Value → Shared → Prop} (hu : A.units + 1 < cLine) (I : Inv X pins σ H s) (g : DGet H a y (some v)) (ry : RelV y u) (h : ∀ w' s', Inv X pins σ H s' → RelV v w' → Q w' s') :
    wpAny (model X.prog X.w) A (getItem (.ref a) u) Q E s := by
  rcases g with ⟨kvs, k, e, ey, l⟩ | ⟨kvs, k, b, e, ey, eb, l⟩
  · subst ey
    obtain ⟨z, hd, vs, rel, dd⟩ := dk_rd I.hok e
    obtain ⟨w', hw, rw'⟩ := RelO.some_of (v := v) (o := valueAt vs k) (by rw [l]; exact rel.val k)
    exact wpAny_getItem_of (kV_is ry) dd.mapOf hw (h w' _ (I.tok _) rw')
  · subst ey
    cases (show u = Value.ref b from ry)
    obtain ⟨z, hd, xs, rel, dd⟩ := dt_rd I.hok e
    obtain ⟨w', hw, rw'⟩ := RelO.some_of (v := v) (o := (atKey xs k).map (·.2)) (by rw [l]; exact rel.val k)
    obtain ⟨p, hp, hp2⟩ := Option.map_eq_some_iff.mp hw
    refine wpAny_getItem_heap (tupleKind_room_in1 hu) (key_of I.hok eb) dd hp ?_
    rw [hp2]
    exact h w' _ (I.tok _) rw'
theorem d_write {h' : Heap} {t' : Nat} {ob : HO} (I : Inv X pins σ H s) (mu : Mut (H a)) (hs : Heap.SameBut a s.heap h') (he : ∃ q, h'.get? a = some q) (new : ObjOk X.prog X.w (upd H a ob) h' a ob) :
    Inv X pins σ (upd H a ob) { s with heap := h', toks := t' } :=
  I.write (x := a) (e := a) mu (.inl rfl) (fun b q hb z => (hs.2 b hb).trans z) he new
theorem dk_new {P : Program} {w : World} {H' : Hp} {h' : Heap} {kvs : List (Key × V)} {vs : List (Key × Value)} (z : kvs.length ≤ sizeLine) (hd : (a == sysModules) = false) (rel : KV kvs vs) (dd : h'.DictOf (mixKind P w) a vs) :
    ObjOk P w H' h' a (.dK kvs) := ⟨z, hd, vs, rel, dd⟩
theorem d_setItem {H' : Hp} {Q : Unit → Shared → Prop} (hu : A.units + 1 < cLine) (I : Inv X pins σ H s) (g : DPut H a y v H') (ry : RelV y u) (rv : RelV v r) (h : ∀ s', Inv X pins σ H' s' → Q () s') :
    wpAny (model X.prog X.w) A (setItem (.ref a) u r) Q E s := by
  rcases g with ⟨kvs, k, e, ey, l, eH⟩ | ⟨kvs, k, b, e, ey, eb, l, eH⟩
  · subst ey eH
    obtain ⟨z, hd, vs, rel, dd⟩ := dk_of I.hok e
    have hz : vs.length ≤ sizeLine := by rw [← rel.length]; exact z
    have hl : (putK kvs k v).length ≤ sizeLine := by have := length_putK kvs k v; omega
    refine wpAny_setItem_pairs (hsz := hz) (kV_is ry) dd fun h' dd' hs => h _ ?_
    have he : ∃ q, h'.get? a = some q := let ⟨q, _, _, hq, _⟩ := dd'; ⟨q, hq⟩
    exact d_write I (by rw [e]; exact True.intro) hs he (dk_new hl hd (rel.put k rv) dd')
  · subst ey eH
    cases (show u = Value.ref b from ry)
    obtain ⟨z, hd, xs, rel, dd⟩ := dt_of I.hok e
    have hz : xs.length ≤ sizeLine := by rw [← Paired.length rel]; exact z
    have hl : (putK kvs k v).length ≤ sizeLine := by have := length_putK kvs k v; omega
    refine wpAny_setItem_heap (hsz := hz) (tupleKind_room_in1 hu) (key_of I.hok eb) dd fun h' dd' hs => h _ ?_
    obtain ⟨q, es, ep, hq, h2, h3, h4, _, h5⟩ := dd'
    refine d_write I (by rw [e]; exact True.intro) hs ⟨q, hq⟩ ⟨hl, hd, _, (rel.put k eb rv).keeps fun c ys ec => ?_, q, es, ep, hq, h2, h3, h4, h5⟩
    rw [upd_ne (ne_of ec e (fun z => nomatch z))]
    exact ec
end
section
variable {X : Cx} {pins : List (Addr × Obj)} {σ : St} {H : Hp} {s : Shared} {a : Addr} {kvs : List (Key × V)} {k : Key} {u : Value} {A : Around} {E : Value → Shared → Prop}
end
noncomputable def NoSl (i : Expr) : Prop := ∀ ov iv, subscripted i false ov iv = operate [ov, iv] (getItem ov iv)
theorem subD_of {prog : Program} {w : World} {A : Around} {E : Value → Shared → Prop} {s : Shared} {env : Env} {value slice : Expr} {pos : Pos} {T id : String} {Q : Value → Shared → Prop}
    (hl : typeLookup (.type T) "__getitem__" = pure (some (.builtin id))) (hs : NoSl slice)
    (h : wpAny (model prog w) A (eval value env) (fun o s₁ => wpAny (model prog w) A (eval slice env) (fun i s₂ => s₂.TypeIs o T ∧ wpAny (model prog w) A (getItem o i) Q E s₂) E s₁) E s) :
    wpAny (model prog w) A (eval (.Subscript value slice pos) env) Q E s := by
  refine Subscript_ (wpAny_mono h (fun o s₁ h₁ => wpAny_mono h₁ (fun i s₂ h₂ => ?_) fun _ _ x => x) fun _ _ x => x)
  obtain ⟨hT, h₂⟩ := h₂
  unfold subscriptTail
  refine wpAny_bind ?_
  rw [getitemInPython_of_ne hT.not_modules]
  refine wpAny_bind (wpAny_specialOf hT hl ?_)
  have fin : wpAny (model prog w) A (subscripted slice false o i) (fun r s₃ => wpAny (model prog w) A (letTemporaryGo value o r >>= fun _ => pure r) Q E s₃) E s₂ := by
    rw [hs o i]
    exact wpAny_operating (wpAny_mono h₂ (fun r s₃ h₃ => wpAny_bind (wpAny_letTemporaryGo (wpAny_pure h₃))) fun _ _ x => x)
  first
    | exact wpAny_pure (wpAny_bind fin)
    | exact wpAny_bind (wpAny_pure (wpAny_bind fin))
    | exact wpAny_bind fin
theorem dict_typeIs {X : Cx} {pins : List (Addr × Obj)} {σ : St} {H : Hp} {s : Shared} {a : Addr} {y : V} {o : Option V} (I : Inv X pins σ H s) (g : DGet H a y o) : s.TypeIs (.ref a) "dict" := by
  rcases g with ⟨kvs, k, e, _, _⟩ | ⟨kvs, k, b, e, _, _, _⟩
  · obtain ⟨_, _, vs, _, dd⟩ := dk_rd I.hok e
    exact dd.typeIs
  · obtain ⟨_, _, xs, _, dd⟩ := dt_rd I.hok e
    exact dd.typeIs
noncomputable def tDGet (td ty : TE) : TE := fun σ H Q => td σ H fun x H1 => ty σ H1 fun y H2 => ∃ a v, x = .ref a ∧ DGet H2 a y (some v) ∧ Q v H2
noncomputable def sDPut (td ty tv : TE) : TS := fun D σ H => tv σ H fun v H1 => td σ H1 fun x H2 => ty σ H2 fun y H3 => ∃ a H4, x = .ref a ∧ DPut H3 a y v H4 ∧ D.nx σ H4
section
variable {X : Cx} {o i e value : Expr} {pos pos' tpos : Pos} {td ty tv : TE}
theorem pe_dget (hu : X.A.units + 1 < cLine) (ho : PE X o td) (hi : PE X i ty) (hs : NoSl i) : PE X (.Subscript o i pos) (tDGet td ty) := by
  intro pins s σ H Q I h
  refine subD_of PySem.F.slot_dict_getitem.lookup hs (thn (ho pins s σ H _ I h) fun u s1 ⟨x, H1, I1, rx, q1⟩ => thn (hi pins s1 σ H1 _ I1 q1) fun iv s2 ⟨y, H2, I2, ry, a, v, ex, g, q2⟩ => ?_)
  subst ex
  obtain rfl : u = Value.ref a := rx
  exact ⟨dict_typeIs I2 g, d_getItem hu I2 g ry fun w' s3 I3 rw' => ⟨v, H2, I3, rw', q2⟩⟩
theorem ps_dput (hu : X.A.units + 1 < cLine) (ho : PE X o td) (hi : PE X i ty) (hv : PE X value tv) (hs : swapsWith value (some (.Subscript o i pos')) pos.line X.env = pure false) :
    PS X (.Assign [.Subscript o i pos'] value pos) (sDPut td ty tv) := by
  intro pins s σ H D I h
  refine wpAny_Assign_Subscript (thn (hv pins s σ H _ I h) fun r s1 ⟨v, H1, I1, rv, q1⟩ => thn (ho pins s1 σ H1 _ I1 q1) fun u s2 ⟨x, H2, I2, rx, q2⟩ => thn (hi pins s2 σ H2 _ I2 q2) fun iv s3 ⟨y, H3, I3, ry, a, H4, ex, g, q3⟩ => ?_) hs
  subst ex
  obtain rfl : u = Value.ref a := rx
  exact d_setItem hu I3 g ry rv fun s4 I4 => ⟨σ, H4, I4, q3⟩
end
theorem dk_empty {P : Program} {w : World} {H : Hp} (h : Heap) (hb : sysModules < h.objs.size) : ObjOk P w H (h.push { cls := .type "dict", data := .dict #[] }) h.objs.size (.dK []) :=
  ⟨Nat.zero_le _, beq_eq_false_iff_ne.mpr (Ne.symm (Nat.ne_of_lt hb)), [], .nil, Heap.DictOf.new h⟩
noncomputable def tDNewK : TE := fun _ H Q => ∀ p, H p = none → Q (.ref p) (upd H p (.dK []))
section
variable {X : Cx} {pos : Pos}
theorem pe_dnewK : PE X (.Dict [] [] pos) tDNewK := fun pins s σ H Q I h =>
  wpAny_Dict_empty ⟨.ref s.heap.objs.size, _, I.laid (a := s.heap.objs.size) (o := .dK []) (t' := s.toks) (fun _ _ q => Heap.get?_push_of_some _ q) (Nat.le_refl _) (dk_empty s.heap I.big), rfl, h _ (I.hok.fresh (Nat.le_refl _))⟩
end
structure M1 (X : Cx) (o : Expr) (m : Str) (apos : Pos) (e : Expr) (cpos : Pos) : Prop where
  base : attributeBase o m X.env (eval o X.env) = eval o X.env
  few : ((backTo cpos (starEach [e] X.env)).all (fun x => !x.1) && (backToKw cpos (keywordEach [] X.env)).all (fun x => x.1.isSome)
    && decide (([e] : List Expr).length + ([] : List Keyword).length + (if ([] : List Keyword).isEmpty then 0 else 1) < 30)) = true
  line : (apos.endLine == cpos.line) = true
  trees : backTo cpos (starEach [e] X.env) = [(false, eval e X.env)]
structure M2 (X : Cx) (o : Expr) (m : Str) (apos : Pos) (e f : Expr) (cpos : Pos) : Prop where
  base : attributeBase o m X.env (eval o X.env) = eval o X.env
  few : ((backTo cpos (starEach [e, f] X.env)).all (fun x => !x.1) && (backToKw cpos (keywordEach [] X.env)).all (fun x => x.1.isSome)
    && decide (([e, f] : List Expr).length + ([] : List Keyword).length + (if ([] : List Keyword).isEmpty then 0 else 1) < 30)) = true
  line : (apos.endLine == cpos.line) = true
  trees : backTo cpos (starEach [e, f] X.env) = [(false, eval e X.env), (false, eval f X.env)]
noncomputable def IsD (H : Hp) (a : Addr) : Prop := (∃ kvs, Rd H a (.dK kvs)) ∨ ∃ kvs, Rd H a (.dT kvs)
theorem isD_at {X : Cx} {pins : List (Addr × Obj)} {σ : St} {H : Hp} {s : Shared} {a : Addr} (I : Inv X pins σ H s) (d : IsD H a) :
    s.TypeIs (.ref a) "dict" ∧ (∀ b, Value.ref a = .ref b → ∃ ob, s.heap.get? b = some ob ∧ ob.dict = none) ∧ (a == sysModules) = false := by
  rcases d with ⟨kvs, e⟩ | ⟨kvs, e⟩
  · obtain ⟨_, hd, vs, _, dd⟩ := dk_rd I.hok e
    refine ⟨dd.typeIs, fun b q => ?_, hd⟩
    cases q
    obtain ⟨ob, _, _, h1, h2, _⟩ := dd
    exact ⟨ob, h1, h2.2.1⟩
  · obtain ⟨_, hd, xs, _, dd⟩ := dt_rd I.hok e
    refine ⟨dd.typeIs, fun b q => ?_, hd⟩
    cases q
    obtain ⟨ob, _, _, h1, h2, _⟩ := dd
    exact ⟨ob, h1, h2.2.1⟩
section
variable {X : Cx} {pins : List (Addr × Obj)} {σ : St} {H : Hp} {s : Shared} {a : Addr} {y d : V} {u r : Value} {o : Option V} {A : Around} {E : Value → Shared → Prop}
theorem d_get2 {Q : Value → Shared → Prop} (hu : A.units + 1 < cLine) (I : Inv X pins σ H s) (g : DGet H a y o) (ry : RelV y u) (rd : RelV d r) (h : ∀ w' s', Inv X pins σ H s' → RelV (o.getD d) w' → Q w' s') :
    wpAny (model X.prog X.w) A (call (.builtin "dict.get") [.ref a, u, r]) Q E s := by
  rcases g with ⟨kvs, k, e, ey, l⟩ | ⟨kvs, k, b, e, ey, eb, l⟩
  · subst ey
    obtain ⟨z, hd, vs, rel, dd⟩ := dk_rd I.hok e
    refine call_meetsIn PySem.F.slot_dict_get dd.typeIs PySem.F.entry_dict_get (PySem.F.args_dict_get_3 _ _ _) (meets_dict_get_default (mixKind X.prog X.w) a (kV_is ry) hd r) ⟨_, dd.mapOf, h _ _ (I.tok _) ?_⟩
    rw [l]
    exact (rel.val k).getD rd
  · subst ey
    cases (show u = Value.ref b from ry)
    obtain ⟨z, hd, xs, rel, dd⟩ := dt_rd I.hok e
    refine call_meetsIn PySem.F.slot_dict_get dd.typeIs PySem.F.entry_dict_get (PySem.F.args_dict_get_3 _ _ _) (meetsH_dict_get_default (tupleKind (mixKind X.prog X.w)) a b hd r) ⟨tupleKind_room_in1 hu, k, xs, key_of I.hok eb, dd, h _ _ (I.tok _) ?_⟩
    rw [l]
    exact (rel.val k).getD rd
end
noncomputable def tDGet2 (td ty tx : TE) : TE := fun σ H Q => td σ H fun x H1 => ∃ a, x = .ref a ∧ IsD H1 a ∧ ty σ H1 fun y H2 => tx σ H2 fun z H3 => ∃ o, DGet H3 a y o ∧ Q (o.getD z) H3
section
variable {X : Cx} {o e f : Expr} {apos cpos : Pos} {td ty tx : TE}
theorem pe_dget2 (hu : X.A.units + 1 < cLine) (ho : PE X o td) (he : PE X e ty) (hf : PE X f tx) (m : M2 X o "get" apos e f cpos) : PE X (.Call (.Attribute o "get" apos) [e, f] [] cpos) (tDGet2 td ty tx) := by
  intro pins s σ H Q I h
  refine wpAny_Call_method m.base m.few m.line PySem.F.plainAttrs_dict PySem.F.slot_dict_get PySem.F.type_dict_get (thn (ho pins s σ H _ I h) fun u s1 ⟨x, H1, I1, rx, a, ex, d, q1⟩ => ?_)
  subst ex
  obtain rfl : u = Value.ref a := rx
  obtain ⟨t1, t2, _⟩ := isD_at I1 d
  refine ⟨t1, t2, ?_⟩
  rw [m.trees]
  refine Calls.callWith_builtin rfl (Calls.evalArgs_plain (Calls.spliced_cons (thn (he pins s1 σ H1 _ I1 q1) fun iv s2 ⟨y, H2, I2, ry, q2⟩ =>
    Calls.spliced_cons (thn (hf pins s2 σ H2 _ I2 q2) fun fv s3 ⟨z, H3, I3, rz, ov, g, q3⟩ => Calls.spliced_nil ?_))))
  exact d_get2 hu I3 g ry rz fun w' s4 I4 rw' => ⟨_, H3, I4, rw', q3⟩
end
section
variable {X : Cx} {pins : List (Addr × Obj)} {σ : St} {H : Hp} {s : Shared} {a : Addr} {kvs : List (Key × V)} {A : Around} {E : Value → Shared → Prop}
end
section
variable {X : Cx} {pins : List (Addr × Obj)} {σ : St} {H : Hp} {s : Shared} {a : Addr} {y : V} {u : Value} {A : Around} {E : Value → Shared → Prop}
end
end L2
namespace L2
open PySem PySem.Spec PyProof.Rows
section
variable {X : Cx}
end
section
variable {κ : Type} [DecidableEq κ]
end
end L2
namespace L2
open PySem PySem.Spec PyProof.Rows
section
variable {X : Cx}
end
end L2
namespace L2
open PySem
theorem se_Constant {es : List Expr} {env : Env} {value : Const} {k : Nat} {pos : Pos} : starEach (.Constant value k pos :: es) env = (false, eval (.Constant value k pos) env) :: starEach es env := rfl
theorem se_Tuple {es : List Expr} {env : Env} {elts : List Expr} {k : Nat} {pos : Pos} : starEach (.Tuple elts k pos :: es) env = (false, eval (.Tuple elts k pos) env) :: starEach es env := rfl
theorem se_List {es : List Expr} {env : Env} {elts : List Expr} {pos : Pos} : starEach (.List elts pos :: es) env = (false, eval (.List elts pos) env) :: starEach es env := rfl
theorem se_Name {es : List Expr} {env : Env} {id : Str} {pos : Pos} : starEach (.Name id pos :: es) env = (false, eval (.Name id pos) env) :: starEach es env := rfl
end L2
namespace L3
open PySem
open Sem (wp)
noncomputable abbrev IsZipF (h : Heap) (z TI TO : Addr) (f0 : Value) (f : Bool) : Prop :=
  h.get? z = some { cls := .type "zip", dict := none, data := .fields #[f0, .bool f, .bool false, .ref TI, .ref TO], slots := #[] }
structure ZipOut (z TI TO i1 i2 t1 t2 : Addr) (xs ys : Array Value) (i : Nat) (a : Addr) (f : Bool) (h : Heap) : Prop where
  hz : IsZipF h z TI TO (rawInt a) f
  hTI : IsPair h TI (.ref i1) (.ref i2)
  one : AtT i1 t1 xs i h
  two : AtT i2 t2 ys i h
  al : ∃ o, h.get? a = some o
  az : a ≠ z
  a1 : a ≠ i1
  a2 : a ≠ i2
  lt : TO < h.objs.size
section
variable {prog : Program} {w : World} {A : Around} {E : Value → Shared → Prop} {s : Shared}
end
end L3
namespace L3
open PySem
noncomputable def ZSt (z TI TO i1 i2 t1 t2 : Addr) (xs ys : Array Value) (S : Addr) (i : Nat) (h : Heap) : Prop :=
  (i = 0 ∧ ZipAt z TI TO i1 i2 t1 t2 xs ys 0 .none h) ∨ ∃ a f, ZipOut z TI TO i1 i2 t1 t2 xs ys i a f h ∧ a ≠ S
theorem ZSt.keep {z TI TO i1 i2 t1 t2 S : Addr} {xs ys : Array Value} {i : Nat} {h h' : Heap} (Z : ZSt z TI TO i1 i2 t1 t2 xs ys S i h) (nS : ∀ b ∈ [z, TI, TO, i1, i2, t1, t2], b ≠ S) (k : ∀ b o, b ≠ S → h.get? b = some o → h'.get? b = some o) (ks : h'.objs.size = h.objs.size) : ZSt z TI TO i1 i2 t1 t2 xs ys S i h' := by
  rcases Z with ⟨e, Z⟩ | ⟨a, f, Z, ha⟩
  · exact .inl ⟨e, Z.keeps (fun b hb o q => k b o (nS b (by simp only [List.mem_cons, List.not_mem_nil, or_false] at hb ⊢; rcases hb with h | h | h | h | h <;> simp [h])) q) (fun o q => k _ o (nS _ (by simp)) q) (fun o q => k _ o (nS _ (by simp)) q)⟩
  · obtain ⟨hz, hTI, h1, h2, ⟨o, al⟩, az, a1, a2, lt⟩ := Z
    exact .inr ⟨a, f, ⟨k _ _ (nS _ (by simp)) hz, k _ _ (nS _ (by simp)) hTI, h1.keeps (fun o q => k _ o (nS _ (by simp)) q) (fun o q => k _ o (nS _ (by simp)) q), h2.keeps (fun o q => k _ o (nS _ (by simp)) q) (fun o q => k _ o (nS _ (by simp)) q), ⟨o, k _ _ ha al⟩, az, a1, a2, by rw [ks]; exact lt⟩, ha⟩
section
variable {prog : Program} {w : World} {A : Around} {E : Value → Shared → Prop} {s : Shared}
end
end L3
namespace L2
open PySem PySem.Spec PyProof.Rows
end L2
namespace L2
open PySem PySem.Spec PyProof.Rows
end L2
namespace L2
open PySem PySem.Spec PyProof.Rows
section
variable {X : Cx} {tg : Expr}
theorem ints_all (ns ms : List Int) : ((List.range (min ns.length ms.length)).all (fun j => ns.getD j 0 == ms.getD j 0) && ns.length == ms.length) = decide (ns = ms) := by
  rw [Bool.eq_iff_iff]
  simp only [Bool.and_eq_true, List.all_eq_true, List.mem_range, beq_iff_eq, decide_eq_true_eq]
  constructor
  · rintro ⟨h, hl⟩
    refine List.ext_getElem hl fun i h1 h2 => ?_
    have := h i (by omega)
    rw [List.getD_eq_getElem?_getD, List.getD_eq_getElem?_getD, List.getElem?_eq_getElem h1, List.getElem?_eq_getElem h2] at this
    exact this
  · rintro rfl
    exact ⟨fun _ _ => rfl, rfl⟩
theorem int_at {ns : List Int} {its : List Value} (r : Vals (ns.map V.int) its) {j : Nat} (h : j < its.length) : ∃ t, its[j] = Value.int (ns.getD j 0) t := by
  have hl := r.length
  rw [List.length_map] at hl
  obtain ⟨u, hu, ru⟩ := r.get (i := j) (x := .int (ns.getD j 0)) (by rw [List.getElem?_map, List.getElem?_eq_getElem (by omega), List.getD_eq_getElem?_getD, List.getElem?_eq_getElem (by omega)]; rfl)
  obtain ⟨t, rfl⟩ := ru
  rw [List.getElem?_eq_getElem h] at hu
  exact ⟨t, Option.some.inj hu⟩
theorem op_neTI (hu : X.A.units < cLine) : OpR X (compareOp .NotEq) (fun x y H Q => ∃ (p p2 : Addr) (ns ms : List Int), x = .ref p ∧ y = .ref p2 ∧ SqT X.K H p (ns.map V.int) ∧ SqT X.K H p2 (ms.map V.int) ∧ Q (.bl (!decide (ns = ms))) H) := by
  intro pins s σ H x y v u Q I rx ry h
  obtain ⟨p, p2, ns, ms, rfl, rfl, h1, h2, q⟩ := h
  cases rx
  cases ry
  obtain ⟨its, r1, l1, _⟩ := I.tuple h1
  obtain ⟨its2, r2, l2, _⟩ := I.tuple h2
  have e1 := r1.length
  have e2 := r2.length
  rw [List.length_map] at e1 e2
  refine SeqAt.RcNeAt.tuples (e := fun j => ns.getD j 0 == ms.getD j 0) (show s.heap.IsTuple p its.toArray from l1) (show s.heap.IsTuple p2 its2.toArray from l2) hu (fun j g1 g2 => ?_) X.prog X.w _ _ ?_
  · rw [List.size_toArray] at g1 g2
    obtain ⟨t, w1⟩ := int_at r1 g1
    obtain ⟨t', w2⟩ := int_at r2 g2
    rw [List.getElem_toArray, List.getElem_toArray, w1, w2]
    exact SeqAt.EqAt.int_int _ _ _ _
  · rw [List.size_toArray, List.size_toArray, ← e1, ← e2, ints_all]
    exact ⟨.bl _, H, I, rfl, q⟩
end
end L2
namespace L2
open PySem PySem.Spec PyProof.Rows
end L2
namespace L2
open PySem PySem.Spec PyProof.Rows
section
variable {X : Cx}
end
end L2
namespace L2
open PySem PySem.Spec PyProof.Rows
end L2
namespace L2
open PySem PySem.Spec PyProof.Rows
section
variable {X : Cx}
end
end L2
namespace L2
open PySem PySem.Spec PyProof.Rows
end L2
namespace L2
open PySem PySem.Spec PyProof.Rows
theorem comp_of {J : It} {n : Nat} {g : TG} {tt : TT} {te : TE} {σ : St} {H : Hp} {Q : VK} (Pv : Nat → List V → St → Hp → Prop) (h0 : Pv 0 [] σ H) (hl : ∀ i acc σ H, i ≤ n → Pv i acc σ H → acc.length ≤ 1000000)
    (hgo : ∀ i acc σ H, i < n → Pv i acc σ H → J.go i H) (hstop : ∀ acc σ H, Pv n acc σ H → J.stop n H)
    (hs : ∀ i acc σ H, i < n → Pv i acc σ H → ∀ x H2, J.yld i H x H2 → g x σ H2 fun σ2 H3 => tt σ2 H3 fun b H4 => if b = true then te σ2 H4 fun y H5 => Pv (i + 1) (acc ++ [y]) σ2 H5 else Pv (i + 1) acc σ2 H4)
    (hd : ∀ acc σ H D, Pv n acc σ H → H D = none → Q (.ref D) (upd H D (.lst acc))) : compW J g tt te σ H Q := by
  refine ⟨fun i m acc σ H => m = n - i ∧ i ≤ n ∧ Pv i acc σ H, ⟨n, by simp, Nat.zero_le _, h0⟩, ?_⟩
  rintro i m acc σ H ⟨rfl, hi, p⟩
  have hz := hl i acc σ H hi p
  by_cases hlt : i < n
  · exact .inr ⟨hgo i acc σ H hlt p, smallL hz, Pv (i + 1), fun acc' σ' H' p' => ⟨n - (i + 1), by omega, rfl, hlt, p'⟩, hs i acc σ H hlt p⟩
  · have e : i = n := by omega
    subst e
    exact .inl ⟨hstop acc σ H p, small hz, fun D fD => hd acc σ H D p fD⟩
theorem comp_list {K : PySem.W.Frag} {a : Addr} {xs : List V} {g : TG} {tt : TT} {te : TE} {σ : St} {H : Hp} {Q : VK} (Pv : Nat → List V → St → Hp → Prop) (h0 : Pv 0 [] σ H) (hl : ∀ i acc σ H, i ≤ xs.length → Pv i acc σ H → acc.length ≤ 1000000)
    (ha : ∀ i acc σ H, i ≤ xs.length → Pv i acc σ H → SqL K H a xs)
    (hs : ∀ i x acc σ H, xs[i]? = some x → Pv i acc σ H → g x σ H fun σ2 H3 => tt σ2 H3 fun b H4 => if b = true then te σ2 H4 fun y H5 => Pv (i + 1) (acc ++ [y]) σ2 H5 else Pv (i + 1) acc σ2 H4)
    (hd : ∀ acc σ H D, Pv xs.length acc σ H → H D = none → Q (.ref D) (upd H D (.lst acc))) : compW (Itl K a) g tt te σ H Q :=
  comp_of Pv h0 hl (fun i acc σ H h p => ⟨xs, xs[i], ha i acc σ H (Nat.le_of_lt h) p, List.getElem?_eq_getElem h⟩) (fun acc σ H p => ⟨xs, ha _ acc σ H (Nat.le_refl _) p, Nat.le_refl _⟩) (fun i acc σ H h p x H2 y => by
    obtain ⟨e, y⟩ := y
    subst e
    exact hs i x acc σ _ (y xs (ha i acc σ _ (Nat.le_of_lt h) p)) p) hd
end L2
namespace L2
open PySem PySem.Spec PyProof.Rows
noncomputable def Fit (n : Nat) : Prop := ∃ k, k ≤ 8000 ∧ n < 2 ^ k
theorem Fit.le {m n : Nat} (h : Fit n) (l : m ≤ n) : Fit m := by
  obtain ⟨k, h1, h2⟩ := h
  exact ⟨k, h1, Nat.lt_of_le_of_lt l h2⟩
theorem Fit.of {n : Nat} (h : n < 18446744073709551616) : Fit n := ⟨64, by decide, h⟩
theorem Fit.log {n : Nat} (h : Fit n) : n.log2 < 9000 := by
  obtain ⟨k, h1, h2⟩ := h
  by_cases h0 : n = 0
  · rw [h0]; decide +kernel
  · have := (Nat.log2_lt h0).mpr h2
    omega
theorem Fit.bits {i : Int} (h : Fit i.natAbs) : Builtin.Int.intBits i ≤ 2 ^ 20 := by
  obtain ⟨k, h1, h2⟩ := h
  refine Nat.le_trans (PyProof.Rows.intBits_le h2) (Nat.le_trans h1 ?_)
  decide
noncomputable def CDivB (i j : Int) : Prop := 0 < j ∧ Fit j.natAbs
noncomputable def CMulB (i j : Int) : Prop := Fit i.natAbs ∧ Fit j.natAbs
theorem Room.units1 {k : Nat} {A : Around} (r : Room k A) : A.units + 1 < cLine := by have := r.un; omega
section
variable {X : Cx}
theorem op_fdivB : OpR X (binaryOp .FloorDiv) (rI CDivB fun i j => .int (i / j)) := opI fun i j _ _ _ _ _ hc q => by
  have h1 : (0 : Int) < j := hc.1
  exact floordiv_int (by omega) (by rw [Int.fdiv_eq_ediv_of_nonneg i (by omega)]; exact q) (.inl (PyProof.noPylong_of_log2 hc.2.log))
theorem op_mulB : OpR X (binaryOp .Mult) (rI CMulB fun i j => .int (i * j)) := opI fun _ _ _ _ _ _ _ hc q => mul_int q (IntMulOk.of_bits hc.1.bits hc.2.bits)
end
end L2
namespace PySem
open PySem.W PyProof.Rows
section
variable {prog : Program} {w : World} {A : Around} {E : Value → Shared → Prop} {s : Shared} {T : String} {r d : Addr} {n : Nat} {P : Nat → Value → Prop} {OK : Heap → Prop}
theorem collect_src {Q : List Value → Shared → Prop} (K : KdlSrc prog w T r d n P OK) (hh : A.handled = none) (hok : OK s.heap) (hn : n ≤ sizeLine)
    (hQ : ∀ (h' : Heap) (tk : Nat) (acc : Array Value), (∀ b o, s.heap.get? b = some o → h'.get? b = some o) → ItemsOf P acc n → Q acc.toList { s with heap := h', toks := tk }) : wpAny (model prog w) A (collect (.ref r)) Q E s := by
  unfold collect
  refine wpAny_bind (wpAny_runValue (codeAny_builtin F.entry_proto_collect ?_))
  rw [Around.under_plainId F.plain_proto_collect _]
  show wpAny _ A.in1 (newList [] >>= fun l => again (.builtin "list.__iadd__" ⟨[l, .ref r], []⟩)) _ _ s
  refine wpAny_bind (wpAny_newObj_type ?_)
  refine wpAny_pure ⟨plainId_quiet F.plain_list_iadd _, codeAny_builtin F.entry_list_iadd ?_⟩
  rw [Around.under_plainId F.plain_list_iadd _]
  show wpAny _ A.in1 (Builtin.List.listExtendWith (.ref s.heap.objs.size) (.ref r) (.ref s.heap.objs.size)) _ _ _
  have hlt := K.there _ hok
  have hS0 : (s.heap.push { cls := .type "list", data := .seq ([] : List Value).toArray }).get? s.heap.objs.size = some { cls := .type "list", data := .seq #[] 0 } := Heap.get?_push_size _ rfl
  refine kdl_extend (R := fun r s' => match r with
    | .ok (.ret v) => wpAny (model prog w) A (match v with
      | .ref a => do
        let o ← load a
        match o.data with
          | .seq xs _ => pure xs.toList
          | _ => unsupported "internal:collect"
      | _ => unsupported "internal:collect") Q E s'
    | .ok _ => False
    | .error e => E e s') (s := { s with heap := s.heap.push { cls := .type "list", data := .seq ([] : List Value).toArray } }) K hh (K.keep _ _ hok fun b _ o e => Heap.get?_push_of_some _ e) _ (Nat.ne_of_gt hlt.1) (Nat.ne_of_gt hlt.2) _ 0 hS0 (fun h' tk acc c hk hS hacc => ?_) hn
  show wpAny _ A (load s.heap.objs.size >>= _) _ _ _
  refine wpAny_bind (wpAny_load hS ?_)
  exact wpAny_pure (hQ h' tk acc (fun b o e => hk b o (Nat.ne_of_lt (Heap.lt_size e)) (Heap.get?_push_of_some _ e)) hacc)
end
end PySem
namespace L2
open PySem PySem.Spec PyProof.Rows PySem.W
theorem pairedGet {α β : Type} {F : α → β → Prop} : ∀ {l : List α} {m : List β}, l.length = m.length → (∀ (i : Nat) x y, l[i]? = some x → m[i]? = some y → F x y) → Paired F l m
  | [], [], _, _ => .nil
  | x :: l, y :: m, hl, h => .cons (h 0 x y rfl rfl) (pairedGet (by simpa using hl) fun i a b e1 e2 => h (i + 1) a b (by simpa using e1) (by simpa using e2))
  | [], _ :: _, hl, _ => by simp at hl
  | _ :: _, [], hl, _ => by simp at hl
theorem relKey {k : Key} {v : Value} (h : keyIs k v = true) : RelV (kV k) v := by
  rcases keyIs_shape h with ⟨i, t, rfl, rfl⟩ | ⟨x, t, rfl, rfl⟩
  · exact ⟨_, rfl⟩
  · exact ⟨_, rfl⟩
section
variable {X : Cx}
end
end L2
namespace L2
open PySem PySem.Spec PyProof.Rows
section
variable {X : Cx}
end
end L2
namespace L2
open PySem PySem.Spec PyProof.Rows
theorem vals_of_ints : ∀ {us : List Value} {ns : List Int}, IntsAre us ns → Vals (ns.map V.int) us
  | _, _, .nil => .nil
  | _, _, .cons n t h => .cons ⟨t, rfl⟩ (vals_of_ints h)
end L2
namespace L2
open PySem PySem.Spec PyProof.Rows
section
variable {X : Cx}
end
end L2
namespace L2
open PySem PySem.Spec PyProof.Rows
end L2
set_option maxRecDepth 100000
namespace L2
open PySem PySem.Spec PyProof.Rows
noncomputable abbrev Cx.tr (X : Cx) (ps : List (Addr × Obj)) (Kx : Value → Shared → Prop) : Cx := { X with pn := X.pn ++ ps, xe := fun e s' => wpAny (model X.prog X.w) X.A (noteFrame e X.env) (fun _ s'' => Kx e s'') X.xe s' }
section
variable {X : Cx} {ps pins : List (Addr × Obj)} {Kx : Value → Shared → Prop} {σ : St} {H : Hp} {s : Shared} {Ex : St → XK}
theorem Inv.tr (I : Inv X ps σ H s) (Kx : Value → Shared → Prop) : Inv (X.tr ps Kx) [] σ H s :=
  ⟨⟨I.ok.mod, I.ok.kind, I.ok.glob, I.ok.blt, I.ok.above, I.ok.inj, I.ok.has, I.ok.cab, I.ok.hd, I.ok.frames, I.ok.stk, I.ok.exf, I.ok.bs, I.ok.bsz, I.ok.noex, I.ok.exfs, I.ok.funs, I.ok.frf⟩, I.os, I.bare, I.base, I.loc, I.cell, I.free, I.freeC, fun p hp => I.pin p (by
    have : p ∈ (X.pn ++ ps) ++ [] := hp
    rwa [List.append_nil] at this), I.hok, I.len⟩
end
section
variable {X : Cx} {ps : List (Addr × Obj)} {Kx : Value → Shared → Prop} {Ex : St → XK} {k k' : Nat} {f C : Addr} {fd : FuncData} {qs : List Str} {sp : Sp} {m x : Str} {p pos apos : Pos} {o e : Expr} {es : List Expr} {ta : TE} {t : TA}
end
end L2
namespace L3
open PySem
open Sem (wp)
open AutoSeq1 (wpAny_loadPart')
noncomputable def AtQ (c : Bool) (it t : Addr) (xs : Array Value) (i : Nat) (h : Heap) : Prop := (c = true ∧ AtT it t xs i h) ∨ (c = false ∧ h.IsListIter it t i ∧ h.IsList t xs)
theorem AtQ.move {c : Bool} {it t b : Addr} {xs : Array Value} {i : Nat} {h h' : Heap} (a : AtQ c it t xs i h) (k : Heap.ExtBut b h h') (h1 : it ≠ b) (h2 : t ≠ b) : AtQ c it t xs i h' := by
  rcases a with ⟨e, a⟩ | ⟨e, a, a'⟩
  · exact .inl ⟨e, a.move k h1 h2⟩
  · exact .inr ⟨e, a.extBut k h1, a'.extBut k h2⟩
theorem AtQ.keeps {c : Bool} {it t : Addr} {xs : Array Value} {i : Nat} {h h' : Heap} (a : AtQ c it t xs i h) (k1 : ∀ o, h.get? it = some o → h'.get? it = some o) (k2 : ∀ o, h.get? t = some o → h'.get? t = some o) : AtQ c it t xs i h' := by
  rcases a with ⟨e, a⟩ | ⟨e, ⟨o, ho, r⟩, o', ho', r'⟩
  · exact .inl ⟨e, a.keeps k1 k2⟩
  · exact .inr ⟨e, ⟨o, k1 o ho, r⟩, o', k2 o' ho', r'⟩
noncomputable def ItQ (c : Bool) (it t : Addr) (i : Nat) (h : Heap) : Prop := (c = true ∧ h.IsTupleIter it t i) ∨ (c = false ∧ h.IsListIter it t i)
theorem AtQ.iter {c : Bool} {it t : Addr} {xs : Array Value} {i : Nat} {h : Heap} (a : AtQ c it t xs i h) : ItQ c it t i h := by
  rcases a with ⟨e, a⟩ | ⟨e, a, _⟩
  · exact .inl ⟨e, a.iter⟩
  · exact .inr ⟨e, a⟩
theorem ItQ.at {c : Bool} {it t : Addr} {i : Nat} {h h' : Heap} (a : ItQ c it t i h) (k : ∀ o, h.get? it = some o → h'.get? it = some o) : ItQ c it t i h' := by
  rcases a with ⟨e, o, ho, r⟩ | ⟨e, o, ho, r⟩
  · exact .inl ⟨e, o, k o ho, r⟩
  · exact .inr ⟨e, o, k o ho, r⟩
theorem ItQ.obj {c : Bool} {it t : Addr} {i : Nat} {h : Heap} (a : ItQ c it t i h) : ∃ o, h.get? it = some o ∧ ∀ v, o.data ≠ .cell v := by
  rcases a with ⟨_, o, ho, _, d⟩ | ⟨_, o, ho, _, d⟩
  · exact ⟨o, ho, fun v z => by rw [d] at z; cases z⟩
  · exact ⟨o, ho, fun v z => by rw [d] at z; cases z⟩
noncomputable def SeqQ (c : Bool) (t : Addr) (xs : Array Value) (h : Heap) : Prop := (c = true ∧ h.IsTuple t xs) ∨ (c = false ∧ h.IsList t xs)
theorem AtQ.of {c : Bool} {it t : Addr} {xs : Array Value} {i : Nat} {h : Heap} (a : ItQ c it t i h) (b : SeqQ c t xs h) : AtQ c it t xs i h := by
  rcases a with ⟨e, a⟩ | ⟨e, a⟩ <;> rcases b with ⟨e', b⟩ | ⟨e', b⟩
  · exact .inl ⟨e, a, b⟩
  · rw [e] at e'; cases e'
  · rw [e] at e'; cases e'
  · exact .inr ⟨e, a, b⟩
theorem SeqQ.lt {c : Bool} {t : Addr} {xs : Array Value} {h : Heap} (b : SeqQ c t xs h) : t < h.objs.size := by
  rcases b with ⟨_, o, ho, _⟩ | ⟨_, o, ho, _⟩ <;> exact Heap.lt_size ho
theorem SeqQ.keeps {c : Bool} {t : Addr} {xs : Array Value} {h h' : Heap} (b : SeqQ c t xs h) (k : ∀ o, h.get? t = some o → h'.get? t = some o) : SeqQ c t xs h' := by
  rcases b with ⟨e, o, ho, r⟩ | ⟨e, o, ho, r⟩
  · exact .inl ⟨e, o, k o ho, r⟩
  · exact .inr ⟨e, o, k o ho, r⟩
section
variable {prog : Program} {w : World} {A : Around} {E : Value → Shared → Prop} {s : Shared}
structure ZipQ (c1 c2 : Bool) (z TI TO i1 i2 t1 t2 : Addr) (xs ys : Array Value) (i : Nat) (f0 : Value) (h : Heap) : Prop where
  z : IsZip h z TI TO f0
  TI : IsPair h TI (.ref i1) (.ref i2)
  TO : ∃ a b, IsPair h TO a b
  one : AtQ c1 i1 t1 xs i h
  two : AtQ c2 i2 t2 ys i h
theorem ZipQ.keeps {c1 c2 : Bool} {z TI TO i1 i2 t1 t2 : Addr} {xs ys : Array Value} {i : Nat} {f0 : Value} {h h' : Heap} (Z : ZipQ c1 c2 z TI TO i1 i2 t1 t2 xs ys i f0 h) (k : ∀ b ∈ [z, TI, TO, i1, i2], ∀ o, h.get? b = some o → h'.get? b = some o)
    (k1 : ∀ o, h.get? t1 = some o → h'.get? t1 = some o) (k2 : ∀ o, h.get? t2 = some o → h'.get? t2 = some o) : ZipQ c1 c2 z TI TO i1 i2 t1 t2 xs ys i f0 h' :=
  ⟨k z (by simp) _ Z.z, k TI (by simp) _ Z.TI, let ⟨a, b, q⟩ := Z.TO; ⟨a, b, k TO (by simp) _ q⟩, Z.one.keeps (k i1 (by simp)) k1, Z.two.keeps (k i2 (by simp)) k2⟩
end
section
variable {prog : Program} {w : World} {A : Around} {E : Value → Shared → Prop} {s : Shared}
end
end L3
namespace L2
open PySem PySem.Spec PyProof.Rows
noncomputable def SqQ (c : Bool) (K : PySem.W.Frag) (H : Hp) (a : Addr) (xs : List V) : Prop := (c = true ∧ SqT K H a xs) ∨ (c = false ∧ SqL K H a xs)
theorem SqQ.tup {K : PySem.W.Frag} {H : Hp} {a : Addr} {xs : List V} (h : SqT K H a xs) : SqQ true K H a xs := .inl ⟨rfl, h⟩
theorem SqQ.lst {K : PySem.W.Frag} {H : Hp} {a : Addr} {xs : List V} (h : SqL K H a xs) : SqQ false K H a xs := .inr ⟨rfl, h⟩
section
variable {X : Cx}
end
end L2
namespace PySem
open PySem.W PyProof.Rows
section
variable {prog : Program} {w : World} {A : Around} {E : Value → Shared → Prop} {s : Shared} {r : Addr} {a b c : Int} {t u v : Tok} {n : Nat}
end
end PySem
namespace PyProof.Rows
open PySem
section
variable {prog : Program} {w : World} {A : Around} {E : Value → Shared → Prop} {s : Shared}
end
end PyProof.Rows
namespace L2
open PySem PySem.Spec PyProof.Rows
section
variable {X : Cx}
end
end L2
namespace PySem
open Sem (wp)
theorem lk_list_keys : typeLookup (.type "list") "keys" = pure none := by rw [typeLookup_type, builtinLookup_eq_fast]; kernel_rfl
theorem lk_list_getattr : typeLookup (.type "list") "__getattr__" = pure none := by rw [typeLookup_type, builtinLookup_eq_fast]; kernel_rfl
theorem meets_miss_list (a : Addr) (its : Array Value) (n : Nat) (u : Tok) :
    Meets (Builtin.«object.__getattribute__» ⟨[.ref a, .str "keys" u], []⟩) (fun A R s => s.heap.get? a = some { cls := .type "list", data := .seq its n } ∧ raisesAttr (.ref a) "keys" A R s) :=
  Meets.of_wp fun prog w A R s hs => by
    obtain ⟨hp, g, d, tk, os⟩ := s
    obtain ⟨hx, hs⟩ := hs
    have hT : (⟨hp, g, d, tk, os⟩ : Shared).TypeIs (.ref a) "list" := ⟨_, hx, rfl⟩
    have hx' : hp.get? a = some { cls := .type "list", data := .seq its n } := hx
    have f1 := lk_list_keys
    unfold Builtin.«object.__getattribute__»
    repeat (any_goals (first | assumption | with_reducible refine AutoSeq1.wpAny_loadPart' hx' ?_ | wp_step))
    exact wpAny_raiseAttrError hs.1 hs.2 (attrMsg_fits (by decide +kernel) (by decide +kernel))
theorem getAttr?_keys_list {prog : Program} {w : World} {A : Around} {E : Value → Shared → Prop} {s : Shared} {a : Addr} {its : Array Value} {n : Nat} {Q : Option Value → Shared → Prop} (hx : s.heap.get? a = some { cls := .type "list", data := .seq its n }) (hA : A.handled = none)
    (h : ∀ h' tk, (∀ b o, s.heap.get? b = some o → h'.get? b = some o) → Q none { s with heap := h', toks := tk }) : wpAny (model prog w) A (getAttr? (.ref a) "keys") Q E s := by
  obtain ⟨hp, g, d, tk, os⟩ := s
  have hT : (⟨hp, g, d, tk + 1, os⟩ : Shared).TypeIs (.ref a) "list" := ⟨_, hx, rfl⟩
  have f1 := sub_AttributeError
  have f3 := F.slot_list_getattribute.lookup
  have f4 := F.slot_list_getattribute.bind (.ref a)
  have f5 := lk_list_getattr
  unfold getAttr? getAttrBy? getAttrBy
  repeat (any_goals (first | assumption | ((with_reducible show wpAny _ _ (call (Value.builtin "list.__getattribute__") _ _) _ _ _); refine call_meets F.slot_list_getattribute hT F.entry_list_ga (F.args_list_getattribute_2 _ _) (meets_miss_list a its n _) ⟨hx, hA, fun h' tk' e hx' => ?_⟩) | wp_step))
  obtain ⟨t', u', he⟩ := hx'.there
  show wpAny _ _ (getattributeRaised _ _ _ _ _ _ _) _ _ _
  unfold getattributeRaised
  repeat (any_goals (first | assumption | wp_step))
  exact h _ _ hx'.keeps
end PySem
namespace PySem.F
theorem entry_dict_update_loop : entryFor table "dict.update.loop" = some Builtin.«dict.update.loop» := entryFor_of_tree (by kernel_rfl)
theorem plain_dict_update_loop : plainId "dict.update.loop" = true := by decide +kernel
end PySem.F
namespace L2
open PySem PySem.Spec PyProof.Rows
theorem d_dictSet {X : Cx} {pins : List (Addr × Obj)} {σ : St} {H : Hp} {s : Shared} {a : Addr} {v : V} {u r : Value} {A : Around} {E : Value → Shared → Prop} {kvs : List (Key × V)} {k : Key} {Q : Unit → Shared → Prop} (I : Inv X pins σ H s) (e : H a = some (.dK kvs)) (l : kvs.length < sizeLine) (ry : RelV (kV k) u) (rv : RelV v r)
    (h : ∀ h', Heap.SameBut a s.heap h' → Inv X pins σ (upd H a (.dK (putK kvs k v))) { s with heap := h', toks := s.toks + 1 } → Q () { s with heap := h', toks := s.toks + 1 }) : wpAny (model X.prog X.w) A (dictSet a u r) Q E s := by
  obtain ⟨z, hd, vs, rel, dd⟩ := dk_of I.hok e
  have hz : vs.length ≤ sizeLine := by rw [← rel.length]; exact z
  have hl : (putK kvs k v).length ≤ sizeLine := by have := length_putK kvs k v; omega
  refine wpAny_dictSet_pairs (hsz := hz) (kV_is ry) dd fun h' dd' hs => h h' hs ?_
  have he : ∃ q, h'.get? a = some q := let ⟨q, _, _, hq, _⟩ := dd'; ⟨q, hq⟩
  exact d_write I (by rw [e]; exact True.intro) hs he (dk_new hl hd (rel.put k rv) dd')
noncomputable def putsK (kvs : List (Key × V)) (acc : List (Key × V)) : List (Key × V) := kvs.foldl (fun acc kv => putK acc kv.1 kv.2) acc
theorem dloop {X : Cx} {pins : List (Addr × Obj)} {σ : St} {A : Around} {R : Result → Shared → Prop} {s : Shared} {S it l : Addr} {as : List Addr} {kvs : List (Key × V)} (hh : A.handled = none) (hne : it ≠ S) (hlS : l ≠ S) (hai : l ≠ it) (hlen : as.length = kvs.length) (hsz : kvs.length ≤ 1000000) {H1 : Hp} (hl1 : H1 l = some (.lst (as.map V.ref))) (hS1 : ∀ b ∈ as, b ≠ S)
    (hit1 : ∀ (j : Nat) (a : Addr) (kv : Key × V), as[j]? = some a → kvs[j]? = some kv → H1 a = some (.tup [kV kv.1, kv.2]))
    (hR : ∀ (h : Heap) (tk : Nat), Inv X pins σ (upd H1 S (.dK (putsK kvs []))) { s with heap := h, toks := tk } → R (.ok (.ret .none)) { s with heap := h, toks := tk }) :
    ∀ (k i : Nat) (h : Heap) (tk : Nat) (acc : List (Key × V)), kvs.length - i = k → i ≤ kvs.length → acc.length ≤ i → putsK (kvs.drop i) acc = putsK kvs [] → h.IsListIter it l i → Inv X pins σ (upd H1 S (.dK acc)) { s with heap := h, toks := tk } → FpOk X pins (upd H1 S (.dK acc)) it →
      codeAny (model X.prog X.w) A (.builtin "dict.update.loop" ⟨[.ref S, .ref it, rawInt i, .none], []⟩) R { s with heap := h, toks := tk } := by
  intro k
  induction k with
  | zero =>
    intro i h tk acc hk hi hacc hput hit I hf
    have ei : i = kvs.length := by omega
    obtain ⟨its, rv, p, _⟩ := I.list (a := l) (xs := as.map V.ref) (SqL.of (by rw [upd_ne hlS]; exact hl1))
    have hl := rv.length
    rw [List.length_map] at hl
    obtain ⟨f0, f1, f2, f3, f4, f5⟩ := hf
    refine codeAny_builtin PySem.F.entry_dict_update_loop ?_
    rw [Around.under_plainId PySem.F.plain_dict_update_loop _]
    show wpAny _ A.in1 (pyNext (.ref it) >>= _) _ _ _
    refine wpAny_bind (wpAny_pyNext_list_end (s := { s with heap := h, toks := tk }) (A := A.in1) hh hit p.isList (by simp; omega) fun h' eb => ?_)
    have I' : Inv X pins σ (upd H1 S (.dK acc)) { s with heap := h', toks := tk } := Inv.turned (s := { s with heap := h, toks := tk }) (t' := tk) I (fun b o hb e => eb b o hb e) f0 f1 f3 f4 f5
    have e : acc = putsK kvs [] := by rw [← hput, List.drop_eq_nil_of_le (by omega)]; rfl
    subst e
    show wpAny _ A.in1 (Builtin.Dict.addKeywords S [] >>= fun _ => ret Value.none) _ _ _
    exact wpAny_bind (wpAny_pure (wpAny_pure (hR h' tk I')))
  | succ k ih =>
    intro i h tk acc hk hi hacc hput hit I hf
    have hlt : i < kvs.length := by omega
    have hx : as[i]? = some as[i] := List.getElem?_eq_getElem (by omega)
    have hkv : kvs[i]? = some kvs[i] := List.getElem?_eq_getElem hlt
    have haS : as[i] ≠ S := hS1 _ (List.getElem_mem _)
    have hT := hit1 i _ _ hx hkv
    obtain ⟨its, rv, p, _⟩ := I.list (a := l) (xs := as.map V.ref) (SqL.of (by rw [upd_ne hlS]; exact hl1))
    obtain ⟨u, hu, ru⟩ := rv.get (i := i) (x := V.ref as[i]) (by rw [List.getElem?_map, hx]; rfl)
    cases ru
    obtain ⟨f0, f1, f2, f3, f4, f5⟩ := id hf
    refine codeAny_builtin PySem.F.entry_dict_update_loop ?_
    rw [Around.under_plainId PySem.F.plain_dict_update_loop _]
    show wpAny _ A.in1 (pyNext (.ref it) >>= _) _ _ _
    refine wpAny_bind (wpAny_pyNext_list_item (s := { s with heap := h, toks := tk }) hit p.isList (x := .ref as[i]) (by simpa using hu) fun h' st' sb => ?_)
    have I' : Inv X pins σ (upd H1 S (.dK acc)) { s with heap := h', toks := tk } := Inv.turned (s := { s with heap := h, toks := tk }) (t' := tk) I (fun b o hb e => (sb.2 b hb).trans e) f0 f1 f3 f4 f5
    obtain ⟨tits, trv, tp, _⟩ := I'.tuple (a := as[i]) (xs := [kV kvs[i].1, kvs[i].2]) (SqT.of (by rw [upd_ne haS]; exact hT))
    obtain ⟨o, ho, hc, n, hd⟩ := tp
    obtain ⟨u1, u2, rfl, r1, r2⟩ := vals2 trv
    refine wpAny_bind (wpAny_holding (wpAny_bind (wpAny_tryCatch ?_)))
    unfold Builtin.Dict.pairItems
    refine wpAny_bind (wpAny_typeOf (T := "tuple") ⟨o, ho, hc⟩ ?_)
    rw [if_pos (by decide)]
    refine wpAny_bind (wpAny_seqItems ho hd (wpAny_pure ?_))
    show wpAny _ _ (holding [u1, u2] (dictSet S u1 u2)) _ _ _
    refine wpAny_holding (d_dictSet (s := { s with heap := h', toks := tk }) I' upd_same (by exact Nat.lt_of_le_of_lt (show acc.length ≤ 1000000 by omega) (by decide)) r1 r2 fun h2 sb2 I2 => ?_)
    rw [upd_upd] at I2
    refine wpAny_pure ⟨plainId_quiet PySem.F.plain_dict_update_loop _, ?_⟩
    have ec : ((i : Int) + 1) = ((i + 1 : Nat) : Int) := by push_cast; rfl
    rw [ec]
    refine ih (i + 1) h2 (tk + 1) (putK acc kvs[i].1 kvs[i].2) (by omega) (by omega) (by have := length_putK acc kvs[i].1 kvs[i].2; omega) ?_ ?_ I2 ?_
    · rw [← hput, List.drop_eq_getElem_cons hlt]
      rfl
    · obtain ⟨o', e', r'⟩ := st'
      exact ⟨o', (sb2.2 it hne).trans e', r'⟩
    · refine ⟨?_, f1, f2, f3, f4, f5⟩
      rw [upd_ne hne] at f0 ⊢
      exact f0
theorem call_dictL {X : Cx} (hc : X.calm = true) : CallR X (.type "dict") (fun xs H Q => ∃ (l : Addr) (as : List Addr) (kvs : List (Key × V)), xs = [.ref l] ∧ H l = some (.lst (as.map V.ref)) ∧ as.length = kvs.length ∧ kvs.length ≤ 1000000 ∧
    (∀ (j : Nat) (a : Addr) (kv : Key × V), as[j]? = some a → kvs[j]? = some kv → H a = some (.tup [kV kv.1, kv.2])) ∧ ∀ d, H d = none → Q (.ref d) (upd H d (.dK (putsK kvs [])))) := by
  intro pins s σ H xs us Q I r h
  obtain ⟨l, as, kvs, rfl, hl, hlen, hsz, hit, q⟩ := h
  obtain ⟨u, rfl, ru⟩ := vals1 r
  cases ru
  have hA : X.A.handled = none := I.ok.hd hc
  refine callType_codes (Q₁ := fun obj s₁ => obj = .ref s.heap.objs.size ∧ s₁ = { s with heap := s.heap.push { cls := .type "dict", data := .dict #[] } }) F.kt_called_dict (F.kt_typeCall_dict_1 _) F.entry_dict_init (kt_code_dict_new _ ⟨rfl, rfl⟩) ?_
  rintro obj s₁ ⟨rfl, rfl⟩
  have hnew : (s.heap.push { cls := .type "dict", data := .dict #[] }).DictOf (mixKind X.prog X.w) s.heap.objs.size [] := Heap.DictOf.new s.heap
  have nS : H s.heap.objs.size = none := I.hok.fresh (Nat.le_refl _)
  have hlS : l ≠ s.heap.objs.size := ne_of_none hl nS
  have I0 : Inv X pins σ (upd H s.heap.objs.size (.dK [])) { s with heap := s.heap.push { cls := .type "dict", data := .dict #[] }, toks := s.toks } := I.laid (a := s.heap.objs.size) (o := .dK []) (t' := s.toks) (fun _ _ q => Heap.get?_push_of_some _ q) (Nat.le_refl _) (dk_empty s.heap I.big)
  refine ⟨hnew.typeIs, F.args_dict_init_2 _ _, ?_⟩
  unfold Builtin.«dict.__init__»
  refine wpAny_bind ?_
  unfold Builtin.Dict.selfAndRest
  refine wpAny_bind (wpAny_notOrdered_dict hnew.typeIs ?_)
  show wpAny _ _ (pure (s.heap.objs.size, [Value.ref l])) _ _ _
  refine wpAny_pure ?_
  show wpAny _ _ (Builtin.Dict.updateFrom "dict.__init__" s.heap.objs.size (.ref l) [] .none) _ _ _
  unfold Builtin.Dict.updateFrom
  obtain ⟨zz, its, n, rv, hle, e⟩ := I0.lstM (by rw [upd_ne hlS]; exact hl)
  refine wpAny_bind (wpAny_typeOf (T := "list") ⟨_, e, rfl⟩ ?_)
  rw [if_pos (by decide)]
  refine wpAny_bind (getAttr?_keys_list (A := X.A.in1.in1) e hA fun h1 tk1 k1 => ?_)
  dsimp only
  rw [if_pos (by decide)]
  refine wpAny_bind (wpAny_rule ?_)
  have I1 : Inv X pins σ (upd H s.heap.objs.size (.dK [])) { s with heap := h1, toks := tk1 } := I0.kept k1
  refine wpAny_bind (wpAny_pyIter_list (items := its.toArray) ⟨_, k1 _ _ e, rfl, n, rfl⟩ ?_)
  refine wpAny_pure ⟨plainId_quiet PySem.F.plain_dict_update_loop _, ?_⟩
  have I2 : Inv X pins σ (upd H s.heap.objs.size (.dK [])) { s with heap := h1.push { cls := .type "list_iterator", data := .fields #[.ref l, .int 0 0] }, toks := tk1 } := I1.kept fun b o e => Heap.get?_push_of_some _ e
  have hlt : s.heap.objs.size < h1.objs.size := (I1.hok _ _ upd_same).lt
  have nit : (upd H s.heap.objs.size (.dK [])) h1.objs.size = none := I1.hok.fresh (Nat.le_refl _)
  refine dloop (X := X) (A := X.A.in1) (pins := pins) (σ := σ) (s := s) (as := as) (kvs := kvs) (H1 := H) hA (Nat.ne_of_gt hlt) hlS (ne_of_none (show (upd H s.heap.objs.size (.dK [])) l = _ by rw [upd_ne hlS]; exact hl) nit) hlen hsz hl (fun b hb z => ?_) hit (fun h tk J => ?_) kvs.length 0 _ tk1 [] (by omega) (Nat.zero_le _) (Nat.zero_le _) rfl ⟨_, Heap.get?_push_size _ rfl, rfl, rfl⟩ I2 (I1.fpOk (Nat.le_refl _) nit)
  · obtain ⟨j, hj, ej⟩ := List.mem_iff_getElem.mp hb
    have := hit j b kvs[j] (by rw [List.getElem?_eq_getElem hj, ej]) (List.getElem?_eq_getElem (by omega))
    rw [z, nS] at this
    cases this
  · exact ⟨rfl, .ref s.heap.objs.size, _, J, rfl, q _ nS⟩
end L2
namespace L2
open PySem PySem.Spec PyProof.Rows
section
variable {X : Cx} {tg : Expr}
end
end L2
namespace L2
open PySem PySem.Spec PyProof.Rows
section
variable {X : Cx}
end
end L2
namespace PySem
open Sem (wp)
section
variable {prog : Program} {w : World} {A : Around} {E : Value → Shared → Prop} {s : Shared}
end
end PySem
namespace L2
open PySem PySem.Spec PyProof.Rows PySem.W
section
variable {X : Cx} {tg : Expr}
end
end L2
namespace PySem
open Sem (wp)
section
variable {prog : Program} {w : World} {K : Type} [DecidableEq K] {knd : KeyKind prog w K} {A : Around} {E : Value → Shared → Prop} {s : Shared}
end
end PySem
namespace L2
open PySem PySem.Spec PyProof.Rows PySem.W
section
variable {X : Cx} {o e f : Expr} {apos cpos : Pos} {td ty tx : TE}
end
end L2
namespace L2
open PySem PySem.Spec PyProof.Rows PySem.W
section
variable {X : Cx}
end
end L2
namespace L2
open PySem PySem.Spec PyProof.Rows PySem.W
section
variable {X : Cx}
noncomputable def rEqTA (K : PySem.W.Frag) (neg : Bool) : R2 := fun x y H Q => ∃ (a b : Addr) (d c : Str) (rest : List V), x = .ref a ∧ y = .ref b ∧ SqT K H a (.str d :: rest) ∧ SqT K H b [.str c] ∧ Q (.bl (if neg then !(decide (d = c) && rest.isEmpty) else (decide (d = c) && rest.isEmpty))) H
theorem op_neTA (hu : X.A.units + 64 < cLine) : OpR X (compareOp .NotEq) (rEqTA X.K true) := by
  intro pins s σ H x y v u Q I rx ry h
  obtain ⟨a, b, d, c, rest, rfl, rfl, ha, hb, q⟩ := h
  cases rx
  cases ry
  obtain ⟨its, r1, p1, _⟩ := I.tuple ha
  obtain ⟨its2, r2, p2, _⟩ := I.tuple hb
  obtain ⟨u2, rfl, ru2⟩ := vals1 r2
  obtain ⟨t2, rfl⟩ := ru2
  have hl := r1.length
  obtain ⟨u1, us, rfl, t1, rfl⟩ : ∃ u1 us, its = u1 :: us ∧ ∃ t, u1 = .str d t := by
    cases r1 with
    | cons r t => obtain ⟨t', rfl⟩ := r; exact ⟨_, _, rfl, t', rfl⟩
  have hlu : us.length = rest.length := by simpa using hl.symm
  have ed : eqV (.str d) (.str c) = decide (d = c) := by
    show (d == c) = decide (d = c)
    by_cases z : d = c
    · rw [decide_eq_true z, z]; exact beq_self_eq_true _
    · rw [decide_eq_false z]
      cases e : d == c with
      | false => rfl
      | true => exact absurd (eq_of_beq e) z
  refine SeqAt.RcNeAt.tuples (e := fun _ => decide (d = c)) (show s.heap.IsTuple a (Value.str d t1 :: us).toArray from p1) (show s.heap.IsTuple b [Value.str c t2].toArray from p2) (by omega) (fun j g1 g2 => ?_) X.prog X.w _ _ ?_
  · have : j = 0 := by
      have : j < 1 := g2
      omega
    subst this
    rw [← ed]
    exact eqAt_V (y := .str d) (x := .str c) ⟨t1, rfl⟩ ⟨t2, rfl⟩ rfl rfl
  · have hv : ((List.range (min (Value.str d t1 :: us).toArray.size [Value.str c t2].toArray.size)).all (fun _ => decide (d = c)) && (Value.str d t1 :: us).toArray.size == [Value.str c t2].toArray.size) = (decide (d = c) && rest.isEmpty) := by
      rw [List.size_toArray, List.size_toArray, List.length_cons, List.length_singleton, hlu, show min (rest.length + 1) 1 = 1 by omega]
      show ((decide (d = c) && true) && _) = _
      rw [Bool.and_true]
      congr 1
      cases rest <;> simp
    rw [hv]
    exact ⟨.bl _, H, I, rfl, q⟩
end
end L2
namespace PySem
open Sem (wp)
section
variable {prog : Program} {w : World} {A : Around} {E : Value → Shared → Prop} {s : Shared}
theorem wpAny_pyHash_none {Q : Int → Shared → Prop} (h : Q 4238894112 { s with toks := s.toks + 1 }) : wpAny (model prog w) A (pyHash .none) Q E s := by
  unfold pyHash
  have hv : [Value.none].any Value.onHeap = false := rfl
  refine wpAny_bind ?_
  rw [cRoomFor, if_neg (by rw [hv]; exact Bool.false_ne_true)]; refine wpAny_pure ?_
  refine wpAny_bind (wpAny_specialOf (typeIs_none s) F.slot_NoneType_hash.lookup ?_)
  show wpAny _ _ (if (some (Value.builtin "NoneType.__hash__") == some Value.none) = true then _ else _) Q E s
  rw [if_neg (by rw [beq_builtin_none]; exact Bool.false_ne_true)]
  refine wpAny_bind (wpAny_specialOf (typeIs_none s) F.slot_NoneType_hash.lookup ?_)
  show wpAny _ _ (callSpecialIfBoundUnlessNone? .none "__hash__" _ >>= _) Q E s
  refine wpAny_bind (wpAny_callSpecialIfBoundUnlessNone?_slot (typeIs_none s) F.slot_NoneType_hash
    (wpAny_call_entry F.slot_NoneType_hash (typeIs_none s) F.entry_NoneType_hash
      (show wpAny _ _ (do ret (← mkInt 4238894112)) _ _ s from wpAny_ret_mkInt ?_) (F.args_NoneType_hash_1 _)))
  show wpAny _ _ (if (decide (-(2 : Int) ^ 63 ≤ 4238894112) && decide ((4238894112 : Int) < 2 ^ 63)) = true then _ else _) Q E _
  rw [if_pos (by decide)]
  exact wpAny_pure h
end
end PySem
namespace L2
open PySem PySem.Spec PyProof.Rows
noncomputable def oIs : Option Int → Value → Bool
  | none, .none => true
  | none, _ => false
  | some i, v => Value.isInt i v
noncomputable def oH : Option Int → Int
  | none => 4238894112
  | some i => hashInt i
theorem oIs_shape : ∀ {k : Option Int} {v : Value}, oIs k v = true → (k = none ∧ v = Value.none) ∨ (∃ i t, k = some i ∧ v = Value.int i t)
  | none, v, h => by
    cases v with
    | none => exact .inl ⟨rfl, rfl⟩
    | _ => cases h
  | some i, v, h => by
    obtain ⟨t, e⟩ := Value.isInt_shape (k := i) (v := v) h
    exact .inr ⟨i, t, rfl, e⟩
noncomputable def noneKind (prog : Program) (w : World) : PySem.KeyKind prog w (Option Int) where
  is := oIs
  hash := oH
  inj := fun v a b ha hb => by
    rcases oIs_shape ha with ⟨rfl, rfl⟩ | ⟨i, t, rfl, rfl⟩
    · rcases oIs_shape hb with ⟨rfl, e⟩ | ⟨j, u, rfl, e⟩
      · rfl
      · exact nomatch e
    · rcases oIs_shape hb with ⟨rfl, e⟩ | ⟨j, u, rfl, e⟩
      · exact nomatch e
      · injection e with e1 _; rw [e1]
  byValue := fun k v h => by
    rcases oIs_shape h with ⟨rfl, rfl⟩ | ⟨i, t, rfl, rfl⟩ <;> rfl
  pyHash := fun hv h => by
    rcases oIs_shape hv with ⟨rfl, rfl⟩ | ⟨i, t, rfl, rfl⟩
    · exact wpAny_pyHash_none h
    · exact wpAny_pyHash_int h
  eqBool := fun {A E s a b u v Q} hu hv h => by
    rcases oIs_shape hu with ⟨rfl, rfl⟩ | ⟨i, t, rfl, rfl⟩
    · rcases oIs_shape hv with ⟨rfl, rfl⟩ | ⟨j, u, rfl, rfl⟩
      · exact SeqAt.EqAt.same .none _ _ _ _ h
      · exact SeqAt.EqAt.none_int j u _ _ _ _ h
    · rcases oIs_shape hv with ⟨rfl, rfl⟩ | ⟨j, u, rfl, rfl⟩
      · exact SeqAt.EqAt.int_none i t _ _ _ _ h
      · have e : decide ((some i : Option Int) = some j) = (i == j) := by
          by_cases c : i = j
          · subst c; simp
          · rw [decide_eq_false (fun z => c (Option.some.inj z))]; exact (beq_eq_false_iff_ne.mpr c).symm
        rw [e] at h
        exact wpAny_eqBool_int h
  «strs» := fun k x t v h => by
    rcases oIs_shape h with ⟨_, e⟩ | ⟨_, _, _, e⟩ <;> exact nomatch e
noncomputable def oV : Option Int → V
  | none => .non
  | some i => .int i
theorem oV_is : ∀ {k : Option Int} {v : Value}, RelV (oV k) v → oIs k v = true
  | none, _, r => by cases (show _ = Value.none from r); rfl
  | some i, _, r => by
    obtain ⟨t, rfl⟩ := r
    simp [oIs, Value.isInt]
theorem oItems {P : Program} {w : World} : ∀ {ks : List (Option Int)} {us : List Value}, Vals (ks.map oV) us → ItemsAre (noneKind P w) ks us
  | [], _, r => by rw [List.map_nil] at r; cases r; exact .nil
  | k :: ks, _, r => by
    rw [List.map_cons] at r
    cases r with
    | cons h t => exact .cons (oV_is h) (oItems t)
theorem oKey {P : Program} {w : World} {H : Hp} {h : Heap} {a : Addr} {ks : List (Option Int)} (ok : HOk P w H h) (e : H a = some (.tup (ks.map oV))) : (tupleKind (noneKind P w)).is h ks a := by
  obtain ⟨_, its, r, ⟨o, h1, h2, n, h3⟩, _⟩ := (show ObjOk P w H h a (.tup (ks.map oV)) from ok a _ e)
  exact ⟨o, its.toArray, n, h1, h2, h3, by simpa using oItems r⟩
noncomputable def OD (P : Program) (w : World) (H : Hp) (h : Heap) (S : Addr) (ks : List (List (Option Int))) : Prop := ∃ (xs : List (List (Option Int) × Addr × Value)) (o : Obj) (es : Array DictEntry) (ep : Nat), xs.map (·.1) = ks ∧ (∀ x ∈ xs, H x.2.1 = some (.tup (x.1.map oV))) ∧ h.get? S = some o ∧ o.ExactDict ∧ o.data = .dict es ep ∧ es.toList = xs.map (entryOfKey (tupleKind (noneKind P w)))
theorem OD.at' {P : Program} {w : World} {H : Hp} {h h' : Heap} {S : Addr} {ks : List (List (Option Int))} (d : OD P w H h S ks) (k : ∀ o, h.get? S = some o → h'.get? S = some o) : OD P w H h' S ks := by
  obtain ⟨xs, o, es, ep, e1, e2, e3, e4⟩ := d
  exact ⟨xs, o, es, ep, e1, e2, k _ e3, e4⟩
theorem OD.set {X : Cx} {pins : List (Addr × Obj)} {σ : St} {H : Hp} {s : Shared} {S a : Addr} {r : Value} {A : Around} {E : Value → Shared → Prop} {ks : List (List (Option Int))} {k : List (Option Int)} {Q : Unit → Shared → Prop} (I : Inv X pins σ H s) (d : OD X.prog X.w H s.heap S ks) (hn : (ks ++ [k]).Nodup) (l : ks.length ≤ 1000000) (hu : A.units < cLine) (ha : H a = some (.tup (k.map oV)))
    (h : ∀ h' tk, Heap.SameBut S s.heap h' → OD X.prog X.w H h' S (ks ++ [k]) → Q () { s with heap := h', toks := tk }) : wpAny (model X.prog X.w) A (dictSet S (.ref a) r) Q E s := by
  obtain ⟨xs, o, es, ep, e1, e2, e3, e4, e5, e6⟩ := d
  rw [List.nodup_append] at hn
  have hx : ∀ x ∈ xs, (tupleKind (noneKind X.prog X.w)).is s.heap x.1 x.2.1 := fun x hx => oKey I.hok (e2 x hx)
  have dd : s.heap.DictOfH (tupleKind (noneKind X.prog X.w)) S xs := ⟨o, es, ep, e3, e4, e5, e6, hx, by rw [e1]; exact hn.1⟩
  have hz : xs.length ≤ sizeLine := by
    have : xs.length = ks.length := by rw [← e1, List.length_map]
    exact Nat.le_trans (show xs.length ≤ 1000000 by omega) (by decide)
  refine wpAny_dictSet_heap (knd := tupleKind (noneKind X.prog X.w)) (hsz := hz) hu (oKey I.hok ha) dd fun h' dd' hs => h h' _ hs ?_
  have hnew : atKey xs k = none := atKey_none_of_get fun j p hj => hn.2.2 k (by rw [← e1]; exact List.mem_map.mpr ⟨_, List.mem_of_getElem? hj, rfl⟩) k (by simp) rfl
  rw [storedH_new hnew] at dd'
  obtain ⟨o', es', ep', f1, f2, f3, f4, f5, f6⟩ := dd'
  refine ⟨_, o', es', ep', by rw [List.map_append, e1]; rfl, fun x hx => ?_, f1, f2, f3, f4⟩
  rcases List.mem_append.mp hx with y | y
  · exact e2 x y
  · have : x = (k, a, r) := by simpa using y
    rw [this]; exact ha
theorem paired_getR {α β : Type} {F : α → β → Prop} : ∀ {l : List α} {m : List β} {i : Nat} {x : α} {y : β}, Paired F l m → l[i]? = some x → m[i]? = some y → F x y
  | _, _, _, _, _, .nil, h, _ => by simp at h
  | _, _, 0, _, _, .cons r _, h, h' => by
    simp at h h'; subst h; subst h'; exact r
  | _, _, i + 1, _, _, .cons _ t, h, h' => paired_getR (i := i) t (by simpa using h) (by simpa using h')
section
variable {X : Cx}
theorem call_maxL (hc : X.calm = true) : CallR X (.builtin "max") (fun xs H Q => ∃ (p : Addr) (ns : List Int), xs = [.ref p] ∧ SqL X.K H p (ns.map V.int) ∧ 0 < ns.length ∧ ∀ M, M ∈ ns → (∀ a ∈ ns, a ≤ M) → Q (.int M) H) := by
  intro pins s σ H xs us Q I r h
  obtain ⟨p, ns, rfl, hq, hne, q⟩ := h
  obtain ⟨u, rfl, rx⟩ := vals1 r
  cases rx
  obtain ⟨its, rv, pl, hz⟩ := I.list hq
  have hi := intsAre_of rv
  have hl := pl.isList
  obtain ⟨ys, e⟩ := hi.allInts.items
  have hns : ns = ys.toList.map (·.1) := by
    rw [← hi.numsOf, ← nums_intItems, ← e]
  have hsz : 0 < ys.size := by
    have h3 := hne; rw [hns, List.length_map, Array.length_toList] at h3; exact h3
  rw [e] at hl
  have hh : X.A.handled = none := I.ok.hd hc
  refine max_intList hh hl hsz fun v h' tk hv hk => ?_
  obtain ⟨t, rfl⟩ := intItems_at hv
  obtain ⟨h1, h2⟩ := argBest_gt (numAt ys) (ys.size - 1)
  refine ⟨.int _, H, I.kept (t' := tk) hk, ⟨t, rfl⟩, q _ ?_ fun a ha => ?_⟩
  · rw [hns, numAt_eq]; exact getD_mem (by rw [List.length_map, Array.length_toList]; omega)
  · rw [hns] at ha
    obtain ⟨j, hj, rfl⟩ := mem_getD ha
    rw [List.length_map, Array.length_toList] at hj
    rw [← numAt_eq]; exact h2 j (by omega)
noncomputable def tSumVals (te : TE) : TE := fun σ H Q => te σ H fun x H1 => ∃ (a : Addr) (kvs : List (Key × V)) (ns : List Int), x = .ref a ∧ H1 a = some (.dK kvs) ∧ kvs.map (·.2) = ns.map V.int ∧ Q (.int ns.sum) H1
theorem pe_sumVals {o : Expr} {to : TE} {p pos apos cpos : Pos} (hc : X.calm = true) (hg : Gl X "sum") (hm : X.mg "sum" = none) (ho : PE X o to)
    (hbase : attributeBase o "values" X.env (eval o X.env) = eval o X.env := by rfl) (hline : (apos.endLine == cpos.line) = true := by rfl)
    (hs2 : starEach [.Call (.Attribute o "values" apos) [] [] cpos] X.env = [(false, eval (.Call (.Attribute o "values" apos) [] [] cpos) X.env)] := by rfl) : PE X (.Call (.Name "sum" p) [.Call (.Attribute o "values" apos) [] [] cpos] [] pos) (tSumVals to) := by
  intro pins s σ H Q I h
  refine Call_ (ld_blt I hg hm L3.bt_sum (PyProof.Rows.callWith_builtin1 ?_ hs2 rfl))
  rw [hs2]
  show wpAny _ _ (spliced ((false, eval (.Call (.Attribute o "values" apos) [] [] cpos) X.env) :: backTo pos [])) _ _ s
  refine Calls.spliced_cons ?_
  refine wpAny_Call_method0_late hbase hline (thn (ho pins s σ H _ I h) fun v s1 ⟨x, H1, I1, r1, a, kvs, ns, ex, ha, hvs, q⟩ => ?_)
  subst ex
  obtain rfl : v = Value.ref a := r1
  obtain ⟨t1, t2, _⟩ := isD_at I1 (.inl ⟨kvs, .inl ha⟩)
  refine ⟨"dict", "dict.values", PySem.F.plainAttrs_dict, PySem.F.slot_dict_values, PySem.F.type_dict_values, t1, t2, Calls.callWith_builtin rfl (PySem.evalArgs_none ?_)⟩
  obtain ⟨hz, hd, vs, rel, dd⟩ := dk_of I1.hok ha
  refine call_meetsIn PySem.F.slot_dict_values dd.typeIs PySem.F.entry_dict_values (PySem.F.args_dict_values_1 _) (meets_dict_values (mixKind X.prog X.w) a hd) ⟨⟨vs, dd⟩, ?_⟩
  refine Calls.spliced_nil ?_
  obtain ⟨ep, da⟩ := dd.dictAt
  have I2 : Inv X pins σ H1 { s1 with heap := s1.heap.push { cls := .type "dict_values", data := .fields #[.ref a] }, toks := s1.toks } := I1.kept (t' := s1.toks) fun b o e => Heap.get?_push_of_some _ e
  have hh : X.A.in1.handled = none := I1.ok.hd hc
  have K := PySem.W.kdl_values (prog := X.prog) (w := X.w) (knd := mixKind X.prog X.w) (r := s1.heap.objs.size) (d := a) (kvs := vs) (ep := ep)
  have hok : (s1.heap.push { cls := .type "dict_values", data := .fields #[.ref a] }).IsValuesView s1.heap.objs.size a ∧ (s1.heap.push { cls := .type "dict_values", data := .fields #[.ref a] }).DictAt (mixKind X.prog X.w) a vs ep := ⟨⟨_, Heap.get?_push_size _ rfl, rfl, rfl⟩, da.push _⟩
  have hlen : vs.length = ns.length := by
    have h1 := rel.length
    have h2 := congrArg List.length hvs
    rw [List.length_map, List.length_map] at h2
    omega
  refine call_sum_walkAnyS ?_
  obtain ⟨oI, St, hit, W, st⟩ := K.iter X.A.in1 { s1 with heap := s1.heap.push { cls := .type "dict_values", data := .fields #[.ref a] } } hh hok
  refine hit _ _ ⟨_, _, _, _, vs.length, _, _, fun i => ns.getD i 0, rfl, W.toS, st, fun b hb => ?_, fun i v ⟨k, hk⟩ => ?_, fun s' t' hm' => ?_⟩
  · show b < ((s1.heap.push _).push oI).objs.size
    rw [size_push']
    rcases List.mem_cons.mp hb with e | hb
    · rw [e]; exact Nat.lt_succ_self _
    · rw [List.mem_singleton.mp hb]; exact Nat.lt_succ_of_lt (K.there _ hok).2
  · have hi : i < ns.length := by rw [← hlen]; exact (List.getElem?_eq_some_iff.mp hk).1
    have hki : i < kvs.length := by have := rel.length; omega
    have hr := paired_getR rel (List.getElem?_eq_getElem hki) hk
    have e2 : (kvs.map (·.2))[i]? = some (V.int ns[i]) := by rw [hvs, List.getElem?_map, List.getElem?_eq_getElem hi]; rfl
    rw [List.getElem?_map, List.getElem?_eq_getElem hki] at e2
    have e3 : kvs[i].2 = V.int ns[i] := Option.some.inj e2
    have hr2 := hr.2
    rw [e3] at hr2
    obtain ⟨t, ht⟩ := hr2
    refine ⟨t, ?_⟩
    show v = Value.int (ns.getD i 0) t
    rw [List.getD_eq_getElem?_getD, List.getElem?_eq_getElem hi]
    exact ht
  · have hk : ∀ b o, (s1.heap.push { cls := .type "dict_values", data := .fields #[.ref a] }).get? b = some o → s'.heap.get? b = some o := fun b o e =>
      hm'.heap b o (fun hI => absurd (Heap.lt_size e) (by rw [List.mem_singleton.mp hI]; exact Nat.lt_irrefl _)) (Heap.get?_push_of_some _ e)
    rw [Moved.eq_with hm', hlen, preSum_getD, List.take_length]
    exact ⟨.int ns.sum, H1, I2.kept (t' := s'.toks) hk, ⟨_, rfl⟩, q⟩
end
end L2
namespace L2
open PySem PySem.Spec PyProof.Rows
end L2
namespace L2
open PySem PySem.Spec PyProof.Rows
section
variable {X : Cx}
end
end L2
namespace L2
open PySem PySem.Spec PyProof.Rows
section
variable {X : Cx}
end
end L2
namespace L2
open PySem PySem.Spec PyProof.Rows
section
variable {X : Cx}
end
end L2
set_option maxRecDepth 100000
namespace L2
open PySem PyProof.Rows
noncomputable def tgal : Bool → Keyed → Array Keyed → Nat → Nat → Nat → StateT SortSt Sem (Option Nat) := sortPriv% PySem.Builtin.gallop
noncomputable def Ans (M : Model) (A : Around) (E : Value → Shared → Prop) (s : Shared) (kd : SortKind) (k : Keyed → Int) (G : Keyed → Prop) : Prop :=
  ∀ (x y : Keyed) (st : SortSt) (Q : Option Bool → SortSt → Prop), G x → G y → kindOf st = kd → Q (some (decide (k x < k y))) st → wpS M A E s (lt' x y) Q st
noncomputable def kA (k : Keyed → Int) (xs : Array Keyed) (i : Nat) : Int := match xs[i]? with | some y => k y | none => 0
theorem kA_some {k : Keyed → Int} {xs : Array Keyed} {i : Nat} {y : Keyed} (h : xs[i]? = some y) : kA k xs i = k y := by unfold kA; rw [h]
theorem kA_congr {k : Keyed → Int} {xs ys : Array Keyed} {i j : Nat} (h : xs[i]? = ys[j]?) : kA k xs i = kA k ys j := by unfold kA; rw [h]
section
variable {prog : Program} {w : World} {A : Around} {E : Value → Shared → Prop} {s : Shared} {kd : SortKind} {k : Keyed → Int} {G : Keyed → Prop}
theorem wps_elem {xs : Array Keyed} {i : Nat} {y : Keyed} {Q : Keyed → SortSt → Prop} {st : SortSt} (h : xs[i]? = some y) (q : Q y st) : wpS (model prog w) A E s (elem' xs i) Q st := by
  rw [elem'_eq, h]
  exact wpS_pure q
theorem wps_bey (hA : Ans (model prog w) A E s kd k G) {left : Bool} {x y : Keyed} {xs : Array Keyed} {i : Nat} {Q : Option Bool → SortSt → Prop} {st : SortSt} (hi : xs[i]? = some y) (gx : G x) (gy : G y) (hk : kindOf st = kd)
    (h : Q (some (if left then decide (kA k xs i < k x) else decide (kA k xs i ≤ k x))) st) :
    wpS (model prog w) A E s (do let z ← elem' xs i; if left = true then lt' z x else do let r ← lt' x z; pure (Option.map (fun b => !b) r)) Q st := by
  refine wpS_bind (wps_elem hi ?_)
  rw [kA_some hi] at h
  cases left with
  | true => exact hA _ _ _ _ gy gx hk h
  | false =>
    refine wpS_bind (hA _ _ _ _ gx gy hk (wpS_pure ?_))
    have e : (!decide (k x < k y)) = decide (k y ≤ k x) := by
      by_cases c : k x < k y
      · rw [decide_eq_true c, decide_eq_false (by omega)]; rfl
      · rw [decide_eq_false c, decide_eq_true (by omega)]; rfl
    show Q (some (!decide (k x < k y))) st
    rw [e]
    exact h
theorem wps_gal (hA : Ans (model prog w) A E s kd k G) {left : Bool} {x : Keyed} {xs : Array Keyed} {b n hint : Nat} {Q : Option Nat → SortSt → Prop} {st : SortSt} (gx : G x) (hk : kindOf st = kd) (hh : hint < n)
    (hG : ∀ i, i < n → ∃ y, xs[b + i]? = some y ∧ G y) (hs : ∀ i j, i ≤ j → j < n → kA k xs (b + i) ≤ kA k xs (b + j))
    (q : ∀ r, r ≤ n → (∀ i, i < r → if left then kA k xs (b + i) < k x else kA k xs (b + i) ≤ k x) → (∀ i, r ≤ i → i < n → if left then k x ≤ kA k xs (b + i) else k x < kA k xs (b + i)) → Q (some r) st) :
    wpS (model prog w) A E s (tgal left x xs b n hint) Q st := by
  obtain ⟨P, hP⟩ : ∃ P : Nat → Bool, P = fun i => if left then decide (kA k xs (b + i) < k x) else decide (kA k xs (b + i) ≤ k x) := ⟨_, rfl⟩
  have hd : ∀ i j, i ≤ j → j < n → P j = true → P i = true := by
    intro i j hij hj h
    have := hs i j hij hj
    rw [hP] at h ⊢
    dsimp only at h ⊢
    cases left
    · simp only [Bool.false_eq_true, if_false, decide_eq_true_eq] at h ⊢; omega
    · simp only [if_true, decide_eq_true_eq] at h ⊢; omega
  have hb : ∀ (i : Nat) (R : Option Bool → SortSt → Prop) (st' : SortSt), i < n → st' = st → R (some (P i)) st' → wpS (model prog w) A E s (do let z ← elem' xs (b + i); if left = true then lt' z x else do let r ← lt' x z; pure (Option.map (fun b => !b) r)) R st' := by
    intro i R st' hi e h
    obtain ⟨y, hy, gy⟩ := hG i hi
    refine wps_bey hA hy gx gy (by rw [e]; exact hk) ?_
    rw [hP] at h
    exact h
  have q' : ∀ r, r ≤ n → (∀ i, i < r → P i = true) → (∀ i, r ≤ i → i < n → P i = false) → Q (some r) st := by
    intro r hr h1 h2
    rw [hP] at h1 h2
    refine q r hr (fun i hi => ?_) (fun i hi hn => ?_)
    · have := h1 i hi
      cases left
      · simpa using this
      · simpa using this
    · have := h2 i hi hn
      cases left
      · simpa using this
      · simpa using this
  clear q hP hG hs
  -- the search by halves, once for both ways
  have fin : ∀ lo hi : Nat, lo ≤ hi → hi ≤ n → (∀ i, i < lo → P i = true) → (∀ i, hi ≤ i → i < n → P i = false) → ∀ st', st' = st →
      wpS (model prog w) A E s (forIn [0:n] ((none, lo, hi) : Option (Option Nat) × Nat × Nat) fun x_1 c =>
        if c.2.1 ≥ c.2.2 then pure (ForInStep.done (none, c.2.1, c.2.2)) else do
          let o ← (do let z ← elem' xs (b + (c.2.1 + (c.2.2 - c.2.1) / 2)); if left = true then lt' z x else do let r ← lt' x z; pure (Option.map (fun b => !b) r))
          match o with
          | some more => if more = true then pure (ForInStep.yield (none, c.2.1 + (c.2.2 - c.2.1) / 2 + 1, c.2.2)) else pure (ForInStep.yield (none, c.2.1, c.2.1 + (c.2.2 - c.2.1) / 2))
          | _ => pure (ForInStep.done (some none, c.2.1, c.2.2)))
        (fun c st'' => st'' = st ∧ ∃ l r, c = (none, l, r) ∧ r ≤ n ∧ (∀ i, i < r → P i = true) ∧ ∀ i, r ≤ i → i < n → P i = false) st' := by
    intro lo hi hlh hhn h1 h2 st' e
    refine wpS_forRange (I := fun t c st'' => st'' = st ∧ ∃ l r, c = (none, l, r) ∧ l ≤ r ∧ r ≤ n ∧ r - l ≤ n - t ∧ (∀ i, i < l → P i = true) ∧ ∀ i, r ≤ i → i < n → P i = false) ?_ ?_ ⟨e, lo, hi, rfl, hlh, hhn, by omega, h1, h2⟩
    · rintro t c st'' _ ht ⟨rfl, l, r, rfl, hlr, hrn, hm, a1, a2⟩
      dsimp only
      by_cases hc : l ≥ r
      · rw [if_pos hc]
        have : l = r := by omega
        subst this
        exact wpS_pure ⟨rfl, l, l, rfl, hrn, a1, a2⟩
      · rw [if_neg hc]
        refine wpS_bind (hb _ _ _ (by omega) rfl ?_)
        dsimp only
        cases hp : P (l + (r - l) / 2)
        · simp only [Bool.false_eq_true, if_false]
          refine wpS_pure ⟨rfl, l, l + (r - l) / 2, rfl, by omega, by omega, by omega, a1, fun i hi hin => ?_⟩
          cases hq : P i with
          | false => rfl
          | true => rw [hd _ _ hi hin hq] at hp; cases hp
        · simp only [if_true]
          exact wpS_pure ⟨rfl, l + (r - l) / 2 + 1, r, rfl, by omega, hrn, by omega, fun i hi => hd i (l + (r - l) / 2) (by omega) (by omega) hp, a2⟩
    · rintro c st'' ⟨rfl, l, r, rfl, hlr, hrn, hm, a1, a2⟩
      have : l = r := by omega
      subst this
      exact ⟨rfl, l, l, rfl, hrn, a1, a2⟩
  refine wpS_bind (hb hint _ _ hh rfl ?_)
  dsimp only
  cases hp : P hint
  · simp only [Bool.false_eq_true, if_false]
    refine wpS_bind (wpS_mono (wpS_forRange (I := fun t c st'' => st'' = st ∧ ∃ l o, c = (none, l, o) ∧ l < o ∧ l ≤ hint ∧ t + 1 ≤ o ∧ P (hint - l) = false) (Q := fun c st'' => st'' = st ∧ ∃ l o, c = (none, l, o) ∧ l < o ∧ l ≤ hint ∧ P (hint - l) = false ∧ (hint + 1 ≤ o ∨ o ≤ hint ∧ P (hint - o) = true)) ?_ ?_ ⟨rfl, 0, 1, rfl, by omega, by omega, by omega, hp⟩) ?_)
    · rintro t c st'' _ ht ⟨rfl, l, o, rfl, hlo, hlh, hto, hpl⟩
      dsimp only
      by_cases hc : o ≥ hint + 1
      · rw [if_pos hc]
        exact wpS_pure ⟨rfl, l, o, rfl, hlo, hlh, hpl, .inl hc⟩
      · rw [if_neg hc]
        refine wpS_bind (hb _ _ _ (by omega) rfl ?_)
        dsimp only
        cases hq : P (hint - o)
        · simp only [Bool.false_eq_true, if_false]
          exact wpS_pure ⟨rfl, o, 2 * o + 1, rfl, by omega, by omega, by omega, hq⟩
        · simp only [if_true]
          exact wpS_pure ⟨rfl, l, o, rfl, hlo, hlh, hpl, .inr ⟨by omega, hq⟩⟩
    · rintro c st'' ⟨rfl, l, o, rfl, hlo, hlh, hto, hpl⟩
      exact ⟨rfl, l, o, rfl, hlo, hlh, hpl, .inl (by omega)⟩
    · rintro c st'' ⟨rfl, l, o, rfl, hlo, hlh, hpl, hor⟩
      dsimp only
      refine wpS_bind (wpS_mono (fin (hint + 1 - min o (hint + 1)) (hint - l) (by omega) (by omega) (fun i hi => ?_) (fun i hi hin => ?_) _ rfl) ?_)
      · rcases hor with h | ⟨h, h'⟩
        · omega
        · exact hd i (hint - o) (by omega) (by omega) h'
      · cases hq : P i with
        | false => rfl
        | true => rw [hd _ _ hi hin hq] at hpl; cases hpl
      · rintro c st3 ⟨rfl, l', r, rfl, hr, a1, a2⟩
        exact wpS_pure (q' r hr a1 a2)
  · simp only [if_true]
    refine wpS_bind (wpS_mono (wpS_forRange (I := fun t c st'' => st'' = st ∧ ∃ l o, c = (none, l, o) ∧ l < o ∧ hint + l < n ∧ t + 1 ≤ o ∧ P (hint + l) = true) (Q := fun c st'' => st'' = st ∧ ∃ l o, c = (none, l, o) ∧ l < o ∧ hint + l < n ∧ P (hint + l) = true ∧ (n - hint ≤ o ∨ o < n - hint ∧ P (hint + o) = false)) ?_ ?_ ⟨rfl, 0, 1, rfl, by omega, by omega, by omega, hp⟩) ?_)
    · rintro t c st'' _ ht ⟨rfl, l, o, rfl, hlo, hlh, hto, hpl⟩
      dsimp only
      by_cases hc : o ≥ n - hint
      · rw [if_pos hc]
        exact wpS_pure ⟨rfl, l, o, rfl, hlo, hlh, hpl, .inl hc⟩
      · rw [if_neg hc]
        refine wpS_bind (hb _ _ _ (by omega) rfl ?_)
        dsimp only
        cases hq : P (hint + o)
        · simp only [Bool.not_false, if_true]
          exact wpS_pure ⟨rfl, l, o, rfl, hlo, hlh, hpl, .inr ⟨by omega, hq⟩⟩
        · simp only [Bool.not_true, Bool.false_eq_true, if_false]
          exact wpS_pure ⟨rfl, o, 2 * o + 1, rfl, by omega, by omega, by omega, hq⟩
    · rintro c st'' ⟨rfl, l, o, rfl, hlo, hlh, hto, hpl⟩
      exact ⟨rfl, l, o, rfl, hlo, hlh, hpl, .inl (by omega)⟩
    · rintro c st'' ⟨rfl, l, o, rfl, hlo, hlh, hpl, hor⟩
      dsimp only
      refine wpS_bind (wpS_mono (fin (hint + l + 1) (hint + min o (n - hint)) (by omega) (by omega) (fun i hi => hd i (hint + l) (by omega) (by omega) hpl) (fun i hi hin => ?_) _ rfl) ?_)
      · rcases hor with h | ⟨h, h'⟩
        · omega
        · cases hq : P i with
          | false => rfl
          | true => rw [hd (hint + o) i (by omega) hin hq] at h'; cases h'
      · rintro c st3 ⟨rfl, l', r, rfl, hr, a1, a2⟩
        exact wpS_pure (q' r hr a1 a2)
end
end L2
namespace L2
open PySem PyProof.Rows
noncomputable def tmlo : Array Keyed → Array Keyed → StateT SortSt Sem (Array Keyed) := sortPriv% PySem.Builtin.mergeLo
noncomputable def tmhi : Array Keyed → Array Keyed → StateT SortSt Sem (Array Keyed) := sortPriv% PySem.Builtin.mergeHi
noncomputable def Up (k : Keyed → Int) (l : List Keyed) : Prop := l.Pairwise fun x y => k x ≤ k y
structure MI (k : Keyed → Int) (tot L ra rb : List Keyed) : Prop where
  perm : (L ++ ra ++ rb).Perm tot
  up : Up k L
  ua : Up k ra
  ub : Up k rb
  bnd : ∀ x ∈ L, ∀ y, y ∈ ra ∨ y ∈ rb → k x ≤ k y
theorem Up.app {k : Keyed → Int} {u v : List Keyed} (h1 : Up k u) (h2 : Up k v) (h : ∀ x ∈ u, ∀ y ∈ v, k x ≤ k y) : Up k (u ++ v) := List.pairwise_append.mpr ⟨h1, h2, h⟩
theorem Up.left {k : Keyed → Int} {u v : List Keyed} (h : Up k (u ++ v)) : Up k u := (List.pairwise_append.mp h).1
theorem Up.right {k : Keyed → Int} {u v : List Keyed} (h : Up k (u ++ v)) : Up k v := (List.pairwise_append.mp h).2.1
theorem Up.mid {k : Keyed → Int} {u v : List Keyed} (h : Up k (u ++ v)) : ∀ x ∈ u, ∀ y ∈ v, k x ≤ k y := (List.pairwise_append.mp h).2.2
namespace MI
variable {k : Keyed → Int} {tot L ra rb : List Keyed}
theorem swap (h : MI k tot L ra rb) : MI k tot L rb ra := by
  refine ⟨?_, h.up, h.ub, h.ua, fun x hx y hy => h.bnd x hx y hy.symm⟩
  rw [List.append_assoc]
  refine (List.Perm.append_left L List.perm_append_comm).trans ?_
  rw [← List.append_assoc]
  exact h.perm
theorem take {u ra' : List Keyed} (h : MI k tot L ra rb) (e : ra = u ++ ra') (hu : ∀ x ∈ u, ∀ y ∈ rb, k x ≤ k y) : MI k tot (L ++ u) ra' rb := by
  subst e
  refine ⟨?_, h.up.app h.ua.left fun x hx y hy => h.bnd x hx y (.inl (List.mem_append_left _ hy)), h.ua.right, h.ub, fun x hx y hy => ?_⟩
  · rw [List.append_assoc L u]; exact h.perm
  · rcases List.mem_append.mp hx with hx | hx
    · exact h.bnd x hx y (hy.imp (List.mem_append_right _) id)
    · rcases hy with hy | hy
      · exact h.ua.mid x hx y hy
      · exact hu x hx y hy
theorem done (h : MI k tot L ra []) : (L ++ ra).Perm tot ∧ Up k (L ++ ra) := by
  refine ⟨?_, h.up.app h.ua fun x hx y hy => h.bnd x hx y (.inl hy)⟩
  have := h.perm
  rwa [List.append_nil] at this
theorem last {z : Keyed} (h : MI k tot L [z] rb) (hz : ∀ y ∈ rb, k y ≤ k z) : (L ++ rb ++ [z]).Perm tot ∧ Up k (L ++ rb ++ [z]) := by
  refine ⟨h.swap.perm, (h.up.app h.ub fun x hx y hy => h.bnd x hx y (.inr hy)).app h.ua fun x hx y hy => ?_⟩
  obtain rfl := List.mem_singleton.mp hy
  rcases List.mem_append.mp hx with hx | hx
  · exact h.bnd x hx y (.inl (List.mem_cons_self ..))
  · exact hz x hx
end MI
theorem drop_at {l : List Keyed} {i : Nat} (h : i < l.length) : l.drop i = [l[i]] ++ l.drop (i + 1) := List.drop_eq_getElem_cons h
theorem drop_cut (l : List Keyed) (i m : Nat) : l.drop i = (l.drop i).take m ++ l.drop (i + m) := by
  rw [← List.drop_drop, List.take_append_drop]
theorem ext_list (a : Array Keyed) (i m : Nat) : (a.extract i (i + m)).toList = (a.toList.drop i).take m := by
  rw [Array.toList_extract, List.extract_eq_take_drop]
  congr 1
  omega
theorem ext_all (a : Array Keyed) (i : Nat) : (a.extract i a.size).toList = a.toList.drop i := by
  rw [Array.toList_extract, List.extract_eq_take_drop]
  refine List.take_of_length_le ?_
  rw [List.length_drop, Array.length_toList]
  exact Nat.le_refl _
theorem arr_at {a : Array Keyed} {i : Nat} (h : i < a.toList.length) : a[i]? = some (a.toList[i]) := by
  rw [← Array.getElem?_toList, List.getElem?_eq_getElem h]
section
variable {prog : Program} {w : World} {A : Around} {E : Value → Shared → Prop} {s : Shared} {kd : SortKind} {k : Keyed → Int} {G : Keyed → Prop}
theorem wps_galL (hA : Ans (model prog w) A E s kd k G) {left : Bool} {x : Keyed} {a : Array Keyed} {b n hint : Nat} {Q : Option Nat → SortSt → Prop} {st : SortSt} (gx : G x) (hk : kindOf st = kd) (hh : hint < n)
    (hn : b + n ≤ a.toList.length) (hG : ∀ y ∈ a.toList, G y) (hs : Up k ((a.toList.drop b).take n))
    (q : ∀ r, r ≤ n → (∀ y ∈ (a.toList.drop b).take r, if left then k y < k x else k y ≤ k x) → (∀ y ∈ ((a.toList.drop b).take n).drop r, if left then k x ≤ k y else k x < k y) → Q (some r) st) :
    wpS (model prog w) A E s (tgal left x a b n hint) Q st := by
  have key : ∀ i, i < n → ∃ h : i < ((a.toList.drop b).take n).length, kA k a (b + i) = k ((a.toList.drop b).take n)[i] := by
    intro i hi
    have hl : i < ((a.toList.drop b).take n).length := by rw [List.length_take, List.length_drop]; omega
    refine ⟨hl, ?_⟩
    rw [List.getElem_take, List.getElem_drop]
    exact kA_some (arr_at (by omega))
  refine wps_gal hA gx hk hh (fun i hi => ⟨_, arr_at (by omega), hG _ (List.getElem_mem _)⟩) (fun i j hij hj => ?_) fun r hr h1 h2 => q r hr (fun y hy => ?_) (fun y hy => ?_)
  · obtain ⟨l1, e1⟩ := key i (by omega)
    obtain ⟨l2, e2⟩ := key j hj
    rw [e1, e2]
    by_cases c : i = j
    · subst c; exact Int.le_refl _
    · exact List.pairwise_iff_getElem.mp hs i j l1 l2 (by omega)
  · obtain ⟨i, hi, rfl⟩ := List.mem_iff_getElem.mp hy
    rw [List.length_take, List.length_drop] at hi
    have := h1 i (by omega)
    rw [kA_some (arr_at (show b + i < a.toList.length by omega))] at this
    rw [List.getElem_take, List.getElem_drop]
    exact this
  · obtain ⟨i, hi, rfl⟩ := List.mem_iff_getElem.mp hy
    rw [List.length_drop, List.length_take, List.length_drop] at hi
    have := h2 (r + i) (by omega) (by omega)
    rw [kA_some (arr_at (show b + (r + i) < a.toList.length by omega))] at this
    rw [List.getElem_drop, List.getElem_take, List.getElem_drop]
    exact this
theorem wps_setg {g : Nat} {Q : Unit → SortSt → Prop} {st : SortSt} (h : ∀ st', (∃ g, st' = SortSt.mk' (kindOf st) (arrOf st) (pendingOf st) g (failedOf st)) → Q () st') : wpS (model prog w) A E s ((sortPriv% PySem.Builtin.setMinGallop) g) Q st :=
  wpS_modify (h _ ⟨_, rfl⟩)
theorem wps_mlo (hA : Ans (model prog w) A E s kd k G) {a b xs : Array Keyed} {ps : Array (Nat × Nat × Nat)} {Q : Array Keyed → SortSt → Prop} {st : SortSt} (hst : ∃ g, st = SortSt.mk' kd xs ps g none)
    (ga : ∀ y ∈ a.toList, G y) (gb : ∀ y ∈ b.toList, G y) (ua : Up k a.toList) (ub : Up k b.toList) (na : 0 < a.toList.length) (nb : 0 < b.toList.length)
    (h0 : ∀ y ∈ a.toList, k b.toList[0] ≤ k y) (hl : ∀ y ∈ b.toList, k y ≤ k (a.toList[a.toList.length - 1]))
    (q : ∀ (r : Array Keyed) st', (∃ g, st' = SortSt.mk' kd xs ps g none) → r.toList.Perm (a.toList ++ b.toList) → Up k r.toList → Q r st') : wpS (model prog w) A E s (tmlo a b) Q st := by
  have sza : a.size = a.toList.length := rfl
  have szb : b.size = b.toList.length := rfl
  -- the two ends
  have eD : ∀ (out : Array Keyed) (ia ib : Nat), MI k (a.toList ++ b.toList) out.toList (a.toList.drop ia) (b.toList.drop ib) → b.toList.length ≤ ib ∨ a.toList.length ≤ ia → (out ++ a.extract ia a.size ++ b.extract ib b.size).toList.Perm (a.toList ++ b.toList) ∧ Up k (out ++ a.extract ia a.size ++ b.extract ib b.size).toList := by
    intro out ia ib h hor
    rw [Array.toList_append, Array.toList_append, ext_all, ext_all]
    rcases hor with e | e
    · rw [List.drop_of_length_le e] at h ⊢
      rw [List.append_nil]
      exact h.done
    · rw [List.drop_of_length_le e] at h ⊢
      rw [List.append_nil]
      exact h.swap.done
  have eL : ∀ (out : Array Keyed) (ia ib : Nat), MI k (a.toList ++ b.toList) out.toList (a.toList.drop ia) (b.toList.drop ib) → ia + 1 = a.toList.length → (out ++ b.extract ib b.size ++ a.extract ia a.size).toList.Perm (a.toList ++ b.toList) ∧ Up k (out ++ b.extract ib b.size ++ a.extract ia a.size).toList := by
    intro out ia ib h e
    rw [Array.toList_append, Array.toList_append, ext_all, ext_all]
    have e1 : a.toList.drop ia = [a.toList[a.toList.length - 1]] := by
      rw [drop_at (show ia < a.toList.length by omega), List.drop_of_length_le (by omega), List.append_nil]
      congr 2
      omega
    rw [e1] at h ⊢
    exact h.last fun y hy => hl y (List.mem_of_mem_drop hy)
  -- one step each
  have tB : ∀ (out : Array Keyed) (ia ib : Nat) (hb : ib < b.toList.length), MI k (a.toList ++ b.toList) out.toList (a.toList.drop ia) (b.toList.drop ib) → (∀ y ∈ a.toList.drop ia, k b.toList[ib] ≤ k y) → MI k (a.toList ++ b.toList) (out.push b.toList[ib]).toList (a.toList.drop ia) (b.toList.drop (ib + 1)) := by
    intro out ia ib hb h hy
    rw [Array.toList_push]
    exact (h.swap.take (drop_at hb) (fun x hx => by obtain rfl := List.mem_singleton.mp hx; exact hy)).swap
  have tA : ∀ (out : Array Keyed) (ia ib : Nat) (ha : ia < a.toList.length), MI k (a.toList ++ b.toList) out.toList (a.toList.drop ia) (b.toList.drop ib) → (∀ y ∈ b.toList.drop ib, k a.toList[ia] ≤ k y) → MI k (a.toList ++ b.toList) (out.push a.toList[ia]).toList (a.toList.drop (ia + 1)) (b.toList.drop ib) := by
    intro out ia ib ha h hy
    rw [Array.toList_push]
    exact h.take (drop_at ha) (fun x hx => by obtain rfl := List.mem_singleton.mp hx; exact hy)
  have hd : ∀ (l : List Keyed) (i : Nat) (h : i < l.length), Up k l → ∀ y ∈ l.drop i, k l[i] ≤ k y := by
    intro l i h hu y hy
    rw [drop_at h] at hy
    rcases List.mem_append.mp hy with hy | hy
    · rw [List.mem_singleton.mp hy]; exact Int.le_refl _
    · have : Up k (l.drop i) := hu.sublist (List.drop_sublist _ _)
      rw [drop_at h] at this
      exact this.mid _ (List.mem_singleton.mpr rfl) y hy
  refine wpS_bind (wpS_lift (wpAny_rule ⟨rfl, ?_⟩))
  refine wpS_bind (wps_elem (arr_at nb) ?_)
  have m0 : MI k (a.toList ++ b.toList) (#[b.toList[0]] : Array Keyed).toList (a.toList.drop 0) (b.toList.drop 1) := by
    have : MI k (a.toList ++ b.toList) ([] ++ [b.toList[0]]) (b.toList.drop (0 + 1)) (a.toList) := MI.take (L := []) (ra := b.toList) ⟨List.perm_append_comm, List.Pairwise.nil, ub, ua, fun x hx => by cases hx⟩ (drop_at nb) (fun x hx => by obtain rfl := List.mem_singleton.mp hx; exact h0)
    exact this.swap
  dsimp only
  by_cases c1 : 1 = b.toList.length
  · rw [if_pos (by rw [szb, ← c1]; rfl)]
    have := eD _ 0 1 m0 (.inl (by omega))
    exact wpS_pure (q _ _ hst this.1 this.2)
  rw [if_neg (by rw [szb]; simpa using c1)]
  by_cases c2 : 0 + 1 = a.toList.length
  · rw [if_pos (by rw [sza, ← c2]; rfl)]
    have := eL _ 0 1 m0 c2
    exact wpS_pure (q _ _ hst this.1 this.2)
  rw [if_neg (by rw [sza]; simpa using c2)]
  refine wpS_bind (wpS_get ?_)
  refine wpS_bind (wpS_mono (wpS_forRange (I := fun t c st' => (∃ g, st' = SortSt.mk' kd xs ps g none) ∧ ∃ out ia ib g, c = (none, out, ia, ib, g) ∧ MI k (a.toList ++ b.toList) out.toList (a.toList.drop ia) (b.toList.drop ib) ∧ ia + 1 < a.toList.length ∧ ib < b.toList.length ∧ t + 1 ≤ ia + ib)
    (Q := fun c st' => (∃ g, st' = SortSt.mk' kd xs ps g none) ∧ ∃ r o, c = (some r, o) ∧ r.toList.Perm (a.toList ++ b.toList) ∧ Up k r.toList) ?step ?fin ⟨hst, _, 0, 1, _, rfl, m0, by omega, by omega, by omega⟩) ?post)
  case post =>
    rintro c st' ⟨hs', r, o, rfl, hp, hu⟩
    exact wpS_pure (q r st' hs' hp hu)
  case fin =>
    rintro c st' ⟨hs', out, ia, ib, g, rfl, m, h1, h2, h3⟩
    exfalso
    rw [sza, szb] at h3
    omega
  case step =>
    rintro t c st' _ ht ⟨hs', out, ia, ib, g, rfl, m, h1, h2, h3⟩
    dsimp only
    rw [sza, szb] at ht
    -- one by one
    refine wpS_bind (wpS_mono (wpS_forRange (I := fun u c st'' => (∃ g, st'' = SortSt.mk' kd xs ps g none) ∧ ∃ out ia ib ac bc, c = (none, out, ia, ib, ac, bc) ∧ MI k (a.toList ++ b.toList) out.toList (a.toList.drop ia) (b.toList.drop ib) ∧ ia + 1 < a.toList.length ∧ ib < b.toList.length ∧ (t + 1 ≤ ia + ib ∧ (0 < u → t + 2 ≤ ia + ib)))
      (Q := fun c st'' => (∃ g, st'' = SortSt.mk' kd xs ps g none) ∧ ((∃ r o, c = (some r, o) ∧ r.toList.Perm (a.toList ++ b.toList) ∧ Up k r.toList) ∨ ∃ out ia ib ac bc, c = (none, out, ia, ib, ac, bc) ∧ MI k (a.toList ++ b.toList) out.toList (a.toList.drop ia) (b.toList.drop ib) ∧ ia + 1 < a.toList.length ∧ ib < b.toList.length ∧ t + 2 ≤ ia + ib)) ?step1 ?fin1 ⟨hs', out, ia, ib, 0, 0, rfl, m, h1, h2, h3, fun z => absurd z (by omega)⟩) ?post1)
    case fin1 =>
      rintro c st'' ⟨hs'', out, ia, ib, ac, bc, rfl, m, h1, h2, h3, h4⟩
      exact ⟨hs'', .inr ⟨out, ia, ib, ac, bc, rfl, m, h1, h2, h4 (by rw [sza, szb]; omega)⟩⟩
    case step1 =>
      rintro u c st'' _ hu ⟨hs'', out, ia, ib, ac, bc, rfl, m, h1, h2, h3, h4⟩
      dsimp only
      refine wpS_bind (wps_elem (arr_at h2) ?_)
      refine wpS_bind (wps_elem (arr_at (show ia < a.toList.length by omega)) ?_)
      refine wpS_bind (hA _ _ _ _ (gb _ (List.getElem_mem _)) (ga _ (List.getElem_mem _)) (by obtain ⟨g', e⟩ := hs''; rw [e]) ?_)
      dsimp only
      by_cases cc : k b.toList[ib] < k a.toList[ia]
      · rw [if_pos (decide_eq_true cc)]
        refine wpS_bind (wps_elem (arr_at h2) ?_)
        have m' := tB out ia ib h2 m fun y hy => by
          have := hd _ ia (by omega) ua y hy
          omega
        by_cases c3 : ib + 1 = b.toList.length
        · rw [if_pos (by rw [szb, c3]; simp)]
          have := eD _ ia (ib + 1) m' (.inl (by omega))
          exact wpS_pure ⟨hs'', .inl ⟨_, _, rfl, this.1, this.2⟩⟩
        · rw [if_neg (by rw [szb]; simpa using c3)]
          split
          · exact wpS_pure ⟨hs'', .inr ⟨_, _, _, _, _, rfl, m', h1, by omega, by omega⟩⟩
          · exact wpS_pure ⟨hs'', _, _, _, _, _, rfl, m', h1, by omega, by omega, fun _ => by omega⟩
      · rw [if_neg (by simpa using cc)]
        refine wpS_bind (wps_elem (arr_at (show ia < a.toList.length by omega)) ?_)
        have m' := tA out ia ib (by omega) m fun y hy => by
          have := hd _ ib h2 ub y hy
          omega
        by_cases c3 : ia + 1 + 1 = a.toList.length
        · rw [if_pos (by rw [sza, c3]; simp)]
          have := eL _ (ia + 1) ib m' c3
          exact wpS_pure ⟨hs'', .inl ⟨_, _, rfl, this.1, this.2⟩⟩
        · rw [if_neg (by rw [sza]; simpa using c3)]
          split
          · exact wpS_pure ⟨hs'', .inr ⟨_, _, _, _, _, rfl, m', by omega, h2, by omega⟩⟩
          · exact wpS_pure ⟨hs'', _, _, _, _, _, rfl, m', by omega, h2, by omega, fun _ => by omega⟩
    case post1 =>
      clear m h1 h2 h3 hs'
      rintro c st'' ⟨hs'', h⟩
      rcases h with ⟨r, o, rfl, hp, hu⟩ | ⟨out, ia, ib, ac, bc, rfl, m, h1, h2, h3⟩
      · exact wpS_pure ⟨hs'', r, _, rfl, hp, hu⟩
      dsimp only
      refine wpS_bind (wpS_lift (wpAny_rule ⟨rfl, ?_⟩))
      -- by leaps
      refine wpS_bind (wpS_mono (wpS_forRange (I := fun u c st'' => (∃ g, st'' = SortSt.mk' kd xs ps g none) ∧ ∃ out ia ib g ac bc, c = (none, out, ia, ib, g, ac, bc) ∧ MI k (a.toList ++ b.toList) out.toList (a.toList.drop ia) (b.toList.drop ib) ∧ ia + 1 < a.toList.length ∧ ib < b.toList.length ∧ t + 2 ≤ ia + ib)
        (Q := fun c st'' => (∃ g, st'' = SortSt.mk' kd xs ps g none) ∧ ((∃ r o, c = (some r, o) ∧ r.toList.Perm (a.toList ++ b.toList) ∧ Up k r.toList) ∨ ∃ out ia ib g ac bc, c = (none, out, ia, ib, g, ac, bc) ∧ MI k (a.toList ++ b.toList) out.toList (a.toList.drop ia) (b.toList.drop ib) ∧ ia + 1 < a.toList.length ∧ ib < b.toList.length ∧ t + 2 ≤ ia + ib)) ?step2 ?fin2 ⟨hs'', out, ia, ib, _, _, _, rfl, m, h1, h2, h3⟩) ?post2)
      case fin2 =>
        rintro c st'' ⟨hs'', h⟩
        exact ⟨hs'', .inr h⟩
      case post2 =>
        clear m h1 h2 h3 hs''
        rintro c st3 ⟨hs3, h⟩
        rcases h with ⟨r, o, rfl, hp, hu⟩ | ⟨out, ia, ib, g, ac, bc, rfl, m, h1, h2, h3⟩
        · exact wpS_pure ⟨hs3, r, _, rfl, hp, hu⟩
        dsimp only
        refine wpS_bind (wps_setg fun st4 h4 => wpS_pure ⟨?_, out, ia, ib, _, rfl, m, h1, h2, by omega⟩)
        obtain ⟨g1, e1⟩ := hs3
        obtain ⟨g2, e2⟩ := h4
        exact ⟨g2, by rw [e2, e1]⟩
      case step2 =>
        clear m h1 h2 h3 hs''
        rintro u c st3 _ hu ⟨hs3, out, ia, ib, g, ac, bc, rfl, m, h1, h2, h3⟩
        have hs4' : ∀ st4, (∃ g, st4 = SortSt.mk' (kindOf st3) (arrOf st3) (pendingOf st3) g (failedOf st3)) → ∃ g, st4 = SortSt.mk' kd xs ps g none := by
          obtain ⟨g1, e1⟩ := hs3
          rintro st4 ⟨g2, e2⟩
          exact ⟨g2, by rw [e2, e1]⟩
        clear hs3
        have et : (a.toList.drop ia).take (a.size - ia) = a.toList.drop ia := List.take_of_length_le (by rw [List.length_drop]; exact Nat.le_refl _)
        dsimp only
        by_cases cg : g > 1
        all_goals
          first
            | rw [if_pos cg]
            | rw [if_neg cg]
          refine wpS_bind (wps_setg fun st4 h4 => ?_)
          have hs4 := hs4' _ h4
          have hk4 : kindOf st4 = kd := by obtain ⟨g', e⟩ := hs4; rw [e]
          refine wpS_bind (wps_elem (arr_at h2) ?_)
          refine wpS_bind (wps_galL (left := false) hA (gb _ (List.getElem_mem _)) hk4 (by rw [sza]; omega) (by rw [sza]; omega) ga (by rw [et]; exact ua.sublist (List.drop_sublist _ _)) fun r hr g1 g2 => ?_)
          rw [et] at g2
          dsimp only at g1 g2 ⊢
          rw [sza] at hr
          have m1 : MI k (a.toList ++ b.toList) (out ++ a.extract ia (ia + r)).toList (a.toList.drop (ia + r)) (b.toList.drop ib) := by
            rw [Array.toList_append, ext_list]
            refine m.take (drop_cut _ _ _) fun x hx y hy => ?_
            have q1 := g1 x hx
            have q2 := hd _ ib h2 ub y hy
            simp only [Bool.false_eq_true, if_false] at q1
            omega
          have g2' : ∀ y ∈ a.toList.drop (ia + r), k b.toList[ib] ≤ k y := by
            intro y hy
            rw [← List.drop_drop] at hy
            have := g2 y hy
            simp only [Bool.false_eq_true, if_false] at this
            omega
          have h3' : t + 2 ≤ ia + r + ib := by omega
          clear g1 g2 h3
          by_cases hr0 : r > 0
          all_goals first
            | rw [if_pos hr0]
              by_cases c3 : ia + r + 1 = a.toList.length
              · rw [if_pos (by rw [sza, c3]; simp)]
                have := eL _ (ia + r) ib m1 c3
                exact wpS_pure ⟨hs4, .inl ⟨_, _, rfl, this.1, this.2⟩⟩
              rw [if_neg (by rw [sza]; simpa using c3)]
              by_cases c4 : ia + r = a.toList.length
              · rw [if_pos (by rw [sza, c4]; simp)]
                have := eD _ (ia + r) ib m1 (.inr (by omega))
                exact wpS_pure ⟨hs4, .inl ⟨_, _, rfl, this.1, this.2⟩⟩
              rw [if_neg (by rw [sza]; simpa using c4)]
              have h1' : ia + r + 1 < a.toList.length := by omega
              clear c3 c4
              generalize out ++ a.extract ia (ia + r) = out2 at m1 ⊢
              generalize ia + r = ia2 at m1 g2' h3' h1' ⊢
            | rw [if_neg hr0]
              obtain rfl : r = 0 := by omega
              have h1' : ia + 1 < a.toList.length := h1
              rw [Nat.add_zero] at m1 g2' h3'
              replace m1 := m
              generalize hout2 : out = out2 at m1 ⊢
              generalize hia2 : ia = ia2 at m1 g2' h3' h1' ⊢
          all_goals
            refine wpS_bind (wps_elem (arr_at h2) ?_)
            have m2 := tB out2 ia2 ib h2 m1 g2'
            by_cases c5 : ib + 1 = b.toList.length
            · rw [if_pos (by rw [szb, c5]; simp)]
              have := eD _ ia2 (ib + 1) m2 (.inl (by omega))
              exact wpS_pure ⟨hs4, .inl ⟨_, _, rfl, this.1, this.2⟩⟩
            rw [if_neg (by rw [szb]; simpa using c5)]
            have h2' : ib + 1 < b.toList.length := by omega
            have h3'' : t + 2 ≤ ia2 + (ib + 1) := by omega
            clear c5 m1 g2' h3'
            generalize out2.push b.toList[ib] = out3 at m2 ⊢
            generalize ib + 1 = ib3 at m2 h2' h3'' ⊢
            refine wpS_bind (wps_elem (arr_at (show ia2 < a.toList.length by omega)) ?_)
            have et2 : (b.toList.drop ib3).take (b.size - ib3) = b.toList.drop ib3 := List.take_of_length_le (by rw [List.length_drop]; exact Nat.le_refl _)
            refine wpS_bind (wps_galL (left := true) hA (ga _ (List.getElem_mem _)) hk4 (by rw [szb]; omega) (by rw [szb]; omega) gb (by rw [et2]; exact ub.sublist (List.drop_sublist _ _)) fun r2 hr2 g3 g4 => ?_)
            rw [et2] at g4
            dsimp only at g3 g4 ⊢
            rw [szb] at hr2
            have m4 : MI k (a.toList ++ b.toList) (out3 ++ b.extract ib3 (ib3 + r2)).toList (a.toList.drop ia2) (b.toList.drop (ib3 + r2)) := by
              rw [Array.toList_append, ext_list]
              refine (m2.swap.take (drop_cut _ _ _) fun x hx y hy => ?_).swap
              have q1 := g3 x hx
              have q2 := hd _ ia2 (by omega) ua y hy
              simp only [if_true] at q1
              omega
            have g5 : ∀ y ∈ b.toList.drop (ib3 + r2), k a.toList[ia2] ≤ k y := by
              intro y hy
              rw [← List.drop_drop] at hy
              have := g4 y hy
              simp only [if_true] at this
              exact this
            have h5 : t + 2 ≤ ia2 + (ib3 + r2) := by omega
            clear g3 g4 h3''
            by_cases hr20 : r2 > 0
            all_goals first
              | rw [if_pos hr20]
                by_cases c6 : ib3 + r2 = b.toList.length
                · rw [if_pos (by rw [szb, c6]; simp)]
                  have := eD _ ia2 (ib3 + r2) m4 (.inl (by omega))
                  exact wpS_pure ⟨hs4, .inl ⟨_, _, rfl, this.1, this.2⟩⟩
                rw [if_neg (by rw [szb]; simpa using c6)]
                have h6 : ib3 + r2 < b.toList.length := by omega
                clear c6
                generalize out3 ++ b.extract ib3 (ib3 + r2) = out4 at m4 ⊢
                generalize ib3 + r2 = ib4 at m4 g5 h5 h6 ⊢
              | rw [if_neg hr20]
                obtain rfl : r2 = 0 := by omega
                have h6 := h2'
                rw [Nat.add_zero] at m4 g5 h5
                replace m4 := m2
                generalize hout4 : out3 = out4 at m4 ⊢
                generalize hib4 : ib3 = ib4 at m4 g5 h5 h6 ⊢
            all_goals
              refine wpS_bind (wps_elem (arr_at (show ia2 < a.toList.length by omega)) ?_)
              have m6 := tA out4 ia2 ib4 (by omega) m4 g5
              by_cases c7 : ia2 + 1 + 1 = a.toList.length
              · rw [if_pos (by rw [sza, c7]; simp)]
                have := eL _ (ia2 + 1) ib4 m6 c7
                exact wpS_pure ⟨hs4, .inl ⟨_, _, rfl, this.1, this.2⟩⟩
              rw [if_neg (by rw [sza]; simpa using c7)]
              split
              · exact wpS_pure ⟨hs4, .inr ⟨_, _, _, _, _, _, rfl, m6, by omega, h6, by omega⟩⟩
              · exact wpS_pure ⟨hs4, _, _, _, _, _, _, rfl, m6, by omega, h6, by omega⟩
end
end L2
namespace L2
open PySem PyProof.Rows
noncomputable def tk (l : List Keyed) (n : Nat) : List Keyed := (l.take n).reverse
theorem tk_at {l : List Keyed} {n : Nat} (h0 : 0 < n) (h : n ≤ l.length) : tk l n = [l[n - 1]] ++ tk l (n - 1) := by
  obtain ⟨m, rfl⟩ : ∃ m, n = m + 1 := ⟨n - 1, by omega⟩
  unfold tk
  rw [List.take_succ_eq_append_getElem (by omega), List.reverse_append]
  rfl
theorem tk_cut (l : List Keyed) {n m : Nat} (h : m ≤ n) : tk l n = ((l.drop m).take (n - m)).reverse ++ tk l m := by
  unfold tk
  rw [← List.reverse_append]
  congr 1
  have e : n = m + (n - m) := by omega
  rw [e, List.take_add]
  congr 2
  omega
theorem tk_zero (l : List Keyed) : tk l 0 = [] := rfl
theorem tk_all {l : List Keyed} : tk l l.length = l.reverse := by unfold tk; rw [List.take_length]
theorem mem_tk {l : List Keyed} {n : Nat} {y : Keyed} (h : y ∈ tk l n) : y ∈ l.take n := List.mem_reverse.mp h
theorem up_tk {k : Keyed → Int} {l : List Keyed} (n : Nat) (h : Up k l) : Up (fun x => - k x) (tk l n) := by
  unfold Up tk
  rw [List.pairwise_reverse]
  exact (List.Pairwise.sublist (List.take_sublist _ _) h).imp fun h => by dsimp only; omega
theorem up_rev {k : Keyed → Int} {l : List Keyed} (h : Up (fun x => - k x) l) : Up k l.reverse := by
  unfold Up
  rw [List.pairwise_reverse]
  exact List.Pairwise.imp (fun h => by dsimp only at h; omega) h
theorem ext0 (a : Array Keyed) (n : Nat) : (a.extract 0 n).toList = (tk a.toList n).reverse := by
  unfold tk
  rw [List.reverse_reverse, Array.toList_extract, List.extract_eq_take_drop, List.drop_zero, Nat.sub_zero]
theorem ext_rev (a : Array Keyed) (m n : Nat) : (a.extract m n).reverse.toList = ((a.toList.drop m).take (n - m)).reverse := by
  rw [Array.toList_reverse, Array.toList_extract, List.extract_eq_take_drop]
section
variable {prog : Program} {w : World} {A : Around} {E : Value → Shared → Prop} {s : Shared} {kd : SortKind} {k : Keyed → Int} {G : Keyed → Prop}
theorem wps_mhi (hA : Ans (model prog w) A E s kd k G) {a b xs : Array Keyed} {ps : Array (Nat × Nat × Nat)} {Q : Array Keyed → SortSt → Prop} {st : SortSt} (hst : ∃ g, st = SortSt.mk' kd xs ps g none)
    (ga : ∀ y ∈ a.toList, G y) (gb : ∀ y ∈ b.toList, G y) (ua : Up k a.toList) (ub : Up k b.toList) (pa : 0 < a.toList.length) (pb : 0 < b.toList.length)
    (h0 : ∀ y ∈ a.toList, k b.toList[0] ≤ k y) (hl : ∀ y ∈ b.toList, k y ≤ k (a.toList[a.toList.length - 1]))
    (q : ∀ (r : Array Keyed) st', (∃ g, st' = SortSt.mk' kd xs ps g none) → r.toList.Perm (a.toList ++ b.toList) → Up k r.toList → Q r st') : wpS (model prog w) A E s (tmhi a b) Q st := by
  have sza : a.size = a.toList.length := rfl
  have szb : b.size = b.toList.length := rfl
  -- the two ends
  have eD : ∀ (out : Array Keyed) (na nb : Nat), MI (fun x => - k x) (a.toList ++ b.toList) out.toList (tk a.toList na) (tk b.toList nb) → na = 0 ∨ nb = 0 → (a.extract 0 na ++ b.extract 0 nb ++ out.reverse).toList.Perm (a.toList ++ b.toList) ∧ Up k (a.extract 0 na ++ b.extract 0 nb ++ out.reverse).toList := by
    intro out na nb h hor
    rw [Array.toList_append, Array.toList_append, Array.toList_reverse, ext0, ext0]
    rcases hor with e | e
    · subst e
      rw [tk_zero] at h ⊢
      have := h.swap.done
      have e2 : ([].reverse ++ (tk b.toList nb).reverse ++ out.toList.reverse : List Keyed) = (out.toList ++ tk b.toList nb).reverse := by rw [List.reverse_append]; rfl
      rw [e2]
      exact ⟨(List.reverse_perm _).trans this.1, up_rev this.2⟩
    · subst e
      rw [tk_zero] at h ⊢
      have := h.done
      have e2 : ((tk a.toList na).reverse ++ [].reverse ++ out.toList.reverse : List Keyed) = (out.toList ++ tk a.toList na).reverse := by rw [List.reverse_append, List.reverse_nil, List.append_nil]
      rw [e2]
      exact ⟨(List.reverse_perm _).trans this.1, up_rev this.2⟩
  have eL : ∀ (out : Array Keyed) (na nb : Nat), MI (fun x => - k x) (a.toList ++ b.toList) out.toList (tk a.toList na) (tk b.toList nb) → nb = 1 → (b.extract 0 nb ++ a.extract 0 na ++ out.reverse).toList.Perm (a.toList ++ b.toList) ∧ Up k (b.extract 0 nb ++ a.extract 0 na ++ out.reverse).toList := by
    intro out na nb h e
    subst e
    rw [Array.toList_append, Array.toList_append, Array.toList_reverse, ext0, ext0]
    have e1 : tk b.toList 1 = [b.toList[0]] := by rw [tk_at (by omega) (by omega)]; rfl
    rw [e1] at h ⊢
    have := h.swap.last fun y hy => by
      have := h0 y (List.mem_of_mem_take (mem_tk hy))
      show - k y ≤ - k b.toList[0]
      omega
    have e2 : ([b.toList[0]].reverse ++ (tk a.toList na).reverse ++ out.toList.reverse : List Keyed) = (out.toList ++ tk a.toList na ++ [b.toList[0]]).reverse := by rw [List.reverse_append, List.reverse_append, List.append_assoc]
    rw [e2]
    exact ⟨(List.reverse_perm _).trans this.1, up_rev this.2⟩
  have tB : ∀ (out : Array Keyed) (na nb : Nat) (p0 : 0 < nb) (hb : nb ≤ b.toList.length), MI (fun x => - k x) (a.toList ++ b.toList) out.toList (tk a.toList na) (tk b.toList nb) → (∀ y ∈ tk a.toList na, k y ≤ k b.toList[nb - 1]) → MI (fun x => - k x) (a.toList ++ b.toList) (out.push b.toList[nb - 1]).toList (tk a.toList na) (tk b.toList (nb - 1)) := by
    intro out na nb p0 hb h hy
    rw [Array.toList_push]
    exact (h.swap.take (tk_at p0 hb) (fun x hx y hz => by obtain rfl := List.mem_singleton.mp hx; have := hy y hz; omega)).swap
  have tA : ∀ (out : Array Keyed) (na nb : Nat) (p0 : 0 < na) (ha : na ≤ a.toList.length), MI (fun x => - k x) (a.toList ++ b.toList) out.toList (tk a.toList na) (tk b.toList nb) → (∀ y ∈ tk b.toList nb, k y ≤ k a.toList[na - 1]) → MI (fun x => - k x) (a.toList ++ b.toList) (out.push a.toList[na - 1]).toList (tk a.toList (na - 1)) (tk b.toList nb) := by
    intro out na nb p0 ha h hy
    rw [Array.toList_push]
    exact h.take (tk_at p0 ha) (fun x hx y hz => by obtain rfl := List.mem_singleton.mp hx; have := hy y hz; omega)
  have hd : ∀ (l : List Keyed) (n : Nat) (p0 : 0 < n) (h : n ≤ l.length), Up k l → ∀ y ∈ tk l n, k y ≤ k l[n - 1] := by
    intro l n p0 h hu y hy
    have hu2 := up_tk n hu
    rw [tk_at p0 h] at hy hu2
    rcases List.mem_append.mp hy with hy | hy
    · rw [List.mem_singleton.mp hy]; exact Int.le_refl _
    · have := hu2.mid _ (List.mem_singleton.mpr rfl) y hy
      omega
  have eA1 : a.toList.length - 1 < a.toList.length := by omega
  refine wpS_bind (wpS_lift (wpAny_rule ⟨rfl, ?_⟩))
  refine wpS_bind (wps_elem (arr_at (show a.size - 1 < a.toList.length by rw [sza]; omega)) ?_)
  have m0 : MI (fun x => - k x) (a.toList ++ b.toList) (#[a.toList[a.size - 1]] : Array Keyed).toList (tk a.toList (a.size - 1)) (tk b.toList b.size) := by
    have z : MI (fun x => - k x) (a.toList ++ b.toList) [] (tk a.toList a.toList.length) (tk b.toList b.toList.length) := by
      refine ⟨?_, List.Pairwise.nil, up_tk _ ua, up_tk _ ub, fun x hx => by cases hx⟩
      rw [tk_all, tk_all]
      exact List.Perm.append (List.reverse_perm _) (List.reverse_perm _)
    have := MI.take z (tk_at pa (Nat.le_refl _)) (fun x hx y hy => by
      obtain rfl := List.mem_singleton.mp hx
      have := hl y (List.mem_of_mem_take (mem_tk hy))
      omega)
    exact this
  dsimp only
  by_cases c1 : a.toList.length - 1 = 0
  · rw [if_pos (by rw [sza, c1]; rfl)]
    have := eD _ (a.size - 1) b.size m0 (.inl c1)
    exact wpS_pure (q _ _ hst this.1 this.2)
  rw [if_neg (by rw [sza]; simpa using c1)]
  by_cases c2 : b.toList.length = 1
  · rw [if_pos (by rw [szb, c2]; rfl)]
    have := eL _ (a.size - 1) b.size m0 c2
    exact wpS_pure (q _ _ hst this.1 this.2)
  rw [if_neg (by rw [szb]; simpa using c2)]
  refine wpS_bind (wpS_get ?_)
  refine wpS_bind (wpS_mono (wpS_forRange (I := fun t c st' => (∃ g, st' = SortSt.mk' kd xs ps g none) ∧ ∃ na nb out g, c = (none, na, nb, out, g) ∧ MI (fun x => - k x) (a.toList ++ b.toList) out.toList (tk a.toList na) (tk b.toList nb) ∧ (0 < na ∧ na ≤ a.toList.length) ∧ (1 < nb ∧ nb ≤ b.toList.length) ∧ na + nb + t + 1 ≤ a.toList.length + b.toList.length)
    (Q := fun c st' => (∃ g, st' = SortSt.mk' kd xs ps g none) ∧ ∃ r o, c = (some r, o) ∧ r.toList.Perm (a.toList ++ b.toList) ∧ Up k r.toList) ?step ?fin ⟨hst, a.size - 1, b.size, _, _, rfl, m0, ⟨by omega, by omega⟩, ⟨by omega, by omega⟩, by omega⟩) ?post)
  case post =>
    rintro c st' ⟨hs', r, o, rfl, hp, hu⟩
    exact wpS_pure (q r st' hs' hp hu)
  case fin =>
    rintro c st' ⟨hs', na, nb, out, g, rfl, m, h1, h2, h3⟩
    exfalso
    rw [sza, szb] at h3
    omega
  case step =>
    rintro t c st' _ ht ⟨hs', na, nb, out, g, rfl, m, h1, h2, h3⟩
    dsimp only
    rw [sza, szb] at ht
    -- one by one
    refine wpS_bind (wpS_mono (wpS_forRange (I := fun u c st'' => (∃ g, st'' = SortSt.mk' kd xs ps g none) ∧ ∃ na nb out ac bc, c = (none, na, nb, out, ac, bc) ∧ MI (fun x => - k x) (a.toList ++ b.toList) out.toList (tk a.toList na) (tk b.toList nb) ∧ (0 < na ∧ na ≤ a.toList.length) ∧ (1 < nb ∧ nb ≤ b.toList.length) ∧ (na + nb + t + 1 ≤ a.toList.length + b.toList.length ∧ (0 < u → na + nb + t + 2 ≤ a.toList.length + b.toList.length)))
      (Q := fun c st'' => (∃ g, st'' = SortSt.mk' kd xs ps g none) ∧ ((∃ r o, c = (some r, o) ∧ r.toList.Perm (a.toList ++ b.toList) ∧ Up k r.toList) ∨ ∃ na nb out ac bc, c = (none, na, nb, out, ac, bc) ∧ MI (fun x => - k x) (a.toList ++ b.toList) out.toList (tk a.toList na) (tk b.toList nb) ∧ (0 < na ∧ na ≤ a.toList.length) ∧ (1 < nb ∧ nb ≤ b.toList.length) ∧ na + nb + t + 2 ≤ a.toList.length + b.toList.length)) ?step1 ?fin1 ⟨hs', na, nb, out, 0, 0, rfl, m, h1, h2, h3, fun z => absurd z (by omega)⟩) ?post1)
    case fin1 =>
      rintro c st'' ⟨hs'', na, nb, out, ac, bc, rfl, m, h1, h2, h3, h4⟩
      exact ⟨hs'', .inr ⟨na, nb, out, ac, bc, rfl, m, h1, h2, h4 (by rw [sza, szb]; omega)⟩⟩
    case step1 =>
      rintro u c st'' _ hu ⟨hs'', na, nb, out, ac, bc, rfl, m, h1, h2, h3, h4⟩
      dsimp only
      refine wpS_bind (wps_elem (arr_at (show nb - 1 < b.toList.length by omega)) ?_)
      refine wpS_bind (wps_elem (arr_at (show na - 1 < a.toList.length by omega)) ?_)
      refine wpS_bind (hA _ _ _ _ (gb _ (List.getElem_mem _)) (ga _ (List.getElem_mem _)) (by obtain ⟨g', e⟩ := hs''; rw [e]) ?_)
      dsimp only
      by_cases cc : k b.toList[nb - 1] < k a.toList[na - 1]
      · rw [if_pos (decide_eq_true cc)]
        refine wpS_bind (wps_elem (arr_at (show na - 1 < a.toList.length by omega)) ?_)
        have m' := tA out na nb h1.1 h1.2 m fun y hy => by
          have := hd _ nb (by omega) h2.2 ub y hy
          omega
        by_cases c3 : na - 1 = 0
        · rw [if_pos (by rw [c3]; rfl)]
          have := eD _ (na - 1) nb m' (.inl c3)
          exact wpS_pure ⟨hs'', .inl ⟨_, _, rfl, this.1, this.2⟩⟩
        · rw [if_neg (by simpa using c3)]
          split
          · exact wpS_pure ⟨hs'', .inr ⟨_, _, _, _, _, rfl, m', ⟨by omega, by omega⟩, h2, by omega⟩⟩
          · exact wpS_pure ⟨hs'', _, _, _, _, _, rfl, m', ⟨by omega, by omega⟩, h2, by omega, fun _ => by omega⟩
      · rw [if_neg (by simpa using cc)]
        refine wpS_bind (wps_elem (arr_at (show nb - 1 < b.toList.length by omega)) ?_)
        have m' := tB out na nb (by omega) h2.2 m fun y hy => by
          have := hd _ na h1.1 h1.2 ua y hy
          omega
        by_cases c3 : nb - 1 = 1
        · rw [if_pos (by rw [c3]; rfl)]
          have := eL _ na (nb - 1) m' c3
          exact wpS_pure ⟨hs'', .inl ⟨_, _, rfl, this.1, this.2⟩⟩
        · rw [if_neg (by simpa using c3)]
          split
          · exact wpS_pure ⟨hs'', .inr ⟨_, _, _, _, _, rfl, m', h1, ⟨by omega, by omega⟩, by omega⟩⟩
          · exact wpS_pure ⟨hs'', _, _, _, _, _, rfl, m', h1, ⟨by omega, by omega⟩, by omega, fun _ => by omega⟩
    case post1 =>
      clear m h1 h2 h3 hs'
      rintro c st'' ⟨hs'', h⟩
      rcases h with ⟨r, o, rfl, hp, hu⟩ | ⟨na, nb, out, ac, bc, rfl, m, h1, h2, h3⟩
      · exact wpS_pure ⟨hs'', r, _, rfl, hp, hu⟩
      dsimp only
      refine wpS_bind (wpS_lift (wpAny_rule ⟨rfl, ?_⟩))
      -- by leaps
      refine wpS_bind (wpS_mono (wpS_forRange (I := fun u c st'' => (∃ g, st'' = SortSt.mk' kd xs ps g none) ∧ ∃ na nb out g ac bc, c = (none, na, nb, out, g, ac, bc) ∧ MI (fun x => - k x) (a.toList ++ b.toList) out.toList (tk a.toList na) (tk b.toList nb) ∧ (0 < na ∧ na ≤ a.toList.length) ∧ (1 < nb ∧ nb ≤ b.toList.length) ∧ na + nb + t + 2 ≤ a.toList.length + b.toList.length)
        (Q := fun c st'' => (∃ g, st'' = SortSt.mk' kd xs ps g none) ∧ ((∃ r o, c = (some r, o) ∧ r.toList.Perm (a.toList ++ b.toList) ∧ Up k r.toList) ∨ ∃ na nb out g ac bc, c = (none, na, nb, out, g, ac, bc) ∧ MI (fun x => - k x) (a.toList ++ b.toList) out.toList (tk a.toList na) (tk b.toList nb) ∧ (0 < na ∧ na ≤ a.toList.length) ∧ (1 < nb ∧ nb ≤ b.toList.length) ∧ na + nb + t + 2 ≤ a.toList.length + b.toList.length)) ?step2 ?fin2 ⟨hs'', na, nb, out, _, _, _, rfl, m, h1, h2, h3⟩) ?post2)
      case fin2 =>
        rintro c st'' ⟨hs'', h⟩
        exact ⟨hs'', .inr h⟩
      case post2 =>
        clear m h1 h2 h3 hs''
        rintro c st3 ⟨hs3, h⟩
        rcases h with ⟨r, o, rfl, hp, hu⟩ | ⟨na, nb, out, g, ac, bc, rfl, m, h1, h2, h3⟩
        · exact wpS_pure ⟨hs3, r, _, rfl, hp, hu⟩
        dsimp only
        refine wpS_bind (wps_setg fun st4 h4 => wpS_pure ⟨?_, na, nb, out, _, rfl, m, h1, h2, by omega⟩)
        obtain ⟨g1, e1⟩ := hs3
        obtain ⟨g2, e2⟩ := h4
        exact ⟨g2, by rw [e2, e1]⟩
      case step2 =>
        clear m h1 h2 h3 hs''
        rintro u c st3 _ hu ⟨hs3, na, nb, out, g, ac, bc, rfl, m, h1, h2, h3⟩
        have hs4' : ∀ st4, (∃ g, st4 = SortSt.mk' (kindOf st3) (arrOf st3) (pendingOf st3) g (failedOf st3)) → ∃ g, st4 = SortSt.mk' kd xs ps g none := by
          obtain ⟨g1, e1⟩ := hs3
          rintro st4 ⟨g2, e2⟩
          exact ⟨g2, by rw [e2, e1]⟩
        clear hs3
        dsimp only
        by_cases cg : g > 1
        all_goals
          first
            | rw [if_pos cg]
            | rw [if_neg cg]
          refine wpS_bind (wps_setg fun st4 h4 => ?_)
          have hs4 := hs4' _ h4
          have hk4 : kindOf st4 = kd := by obtain ⟨g', e⟩ := hs4; rw [e]
          refine wpS_bind (wps_elem (arr_at (show nb - 1 < b.toList.length by omega)) ?_)
          refine wpS_bind (wps_galL (left := false) hA (gb _ (List.getElem_mem _)) hk4 (show na - 1 < na by omega) (by omega) ga (by rw [List.drop_zero]; exact ua.sublist (List.take_sublist _ _)) fun r hr g1 g2 => ?_)
          rw [List.drop_zero] at g1 g2
          rw [List.drop_take] at g2
          dsimp only at g1 g2 ⊢
          have m1 : MI (fun x => - k x) (a.toList ++ b.toList) (out ++ (a.extract r na).reverse).toList (tk a.toList r) (tk b.toList nb) := by
            rw [Array.toList_append, ext_rev]
            refine m.take (tk_cut _ hr) fun x hx y hy => ?_
            have q1 := g2 x (List.mem_reverse.mp hx)
            have q2 := hd _ nb (by omega) h2.2 ub y hy
            simp only [Bool.false_eq_true, if_false] at q1
            omega
          have g2' : ∀ y ∈ tk a.toList r, k y ≤ k b.toList[nb - 1] := by
            intro y hy
            have := g1 y (mem_tk hy)
            simp only [Bool.false_eq_true, if_false] at this
            omega
          have h3' : r + nb + t + 2 ≤ a.toList.length + b.toList.length := by omega
          clear g1 g2 h3
          by_cases hr0 : na - r > 0
          all_goals first
            | rw [if_pos hr0]
              by_cases c4 : r = 0
              · rw [if_pos (by rw [c4]; rfl)]
                have := eD _ r nb m1 (.inl c4)
                exact wpS_pure ⟨hs4, .inl ⟨_, _, rfl, this.1, this.2⟩⟩
              rw [if_neg (by simpa using c4)]
              have h1' : 0 < r ∧ r ≤ a.toList.length := by omega
              clear c4
              generalize out ++ (a.extract r na).reverse = out2 at m1 ⊢
              generalize hr2 : r = na2 at m1 g2' h3' h1' ⊢
            | rw [if_neg hr0]
              obtain rfl : r = na := by omega
              have h1' := h1
              replace m1 := m
              generalize hout2 : out = out2 at m1 ⊢
              generalize hr2 : r = na2 at m1 g2' h3' h1' ⊢
          all_goals
            refine wpS_bind (wps_elem (arr_at (show nb - 1 < b.toList.length by omega)) ?_)
            have m2 := tB out2 na2 nb (by omega) h2.2 m1 g2'
            by_cases c5 : nb - 1 = 1
            · rw [if_pos (by rw [c5]; rfl)]
              have := eL _ na2 (nb - 1) m2 c5
              exact wpS_pure ⟨hs4, .inl ⟨_, _, rfl, this.1, this.2⟩⟩
            rw [if_neg (by simpa using c5)]
            have h2' : 1 < nb - 1 ∧ nb - 1 ≤ b.toList.length := by omega
            have h3'' : na2 + (nb - 1) + t + 2 ≤ a.toList.length + b.toList.length := by omega
            clear c5 m1 g2' h3'
            generalize out2.push b.toList[nb - 1] = out3 at m2 ⊢
            generalize nb - 1 = nb3 at m2 h2' h3'' ⊢
            refine wpS_bind (wps_elem (arr_at (show na2 - 1 < a.toList.length by omega)) ?_)
            refine wpS_bind (wps_galL (left := true) hA (ga _ (List.getElem_mem _)) hk4 (show nb3 - 1 < nb3 by omega) (by omega) gb (by rw [List.drop_zero]; exact ub.sublist (List.take_sublist _ _)) fun r2 hr2 g3 g4 => ?_)
            rw [List.drop_zero] at g3 g4
            rw [List.drop_take] at g4
            dsimp only at g3 g4 ⊢
            have m4 : MI (fun x => - k x) (a.toList ++ b.toList) (out3 ++ (b.extract r2 nb3).reverse).toList (tk a.toList na2) (tk b.toList r2) := by
              rw [Array.toList_append, ext_rev]
              refine (m2.swap.take (tk_cut _ hr2) fun x hx y hy => ?_).swap
              have q1 := g4 x (List.mem_reverse.mp hx)
              have q2 := hd _ na2 h1'.1 h1'.2 ua y hy
              simp only [if_true] at q1
              omega
            have g5 : ∀ y ∈ tk b.toList r2, k y ≤ k a.toList[na2 - 1] := by
              intro y hy
              have := g3 y (mem_tk hy)
              simp only [if_true] at this
              omega
            have h5 : na2 + r2 + t + 2 ≤ a.toList.length + b.toList.length := by omega
            clear g3 g4 h3''
            by_cases hr20 : nb3 - r2 > 0
            all_goals first
              | rw [if_pos hr20]
                by_cases c6 : r2 = 1
                · rw [if_pos (by rw [c6]; rfl)]
                  have := eL _ na2 r2 m4 c6
                  exact wpS_pure ⟨hs4, .inl ⟨_, _, rfl, this.1, this.2⟩⟩
                rw [if_neg (by simpa using c6)]
                by_cases c8 : r2 = 0
                · rw [if_pos (by rw [c8]; rfl)]
                  have := eD _ na2 r2 m4 (.inr c8)
                  exact wpS_pure ⟨hs4, .inl ⟨_, _, rfl, this.1, this.2⟩⟩
                rw [if_neg (by simpa using c8)]
                have h6 : 1 < r2 ∧ r2 ≤ b.toList.length := by omega
                clear c6 c8
                generalize out3 ++ (b.extract r2 nb3).reverse = out4 at m4 ⊢
                generalize hr4 : r2 = nb4 at m4 g5 h5 h6 ⊢
              | rw [if_neg hr20]
                obtain rfl : r2 = nb3 := by omega
                have h6 := h2'
                replace m4 := m2
                generalize hout4 : out3 = out4 at m4 ⊢
                generalize hr4 : r2 = nb4 at m4 g5 h5 h6 ⊢
            all_goals
              refine wpS_bind (wps_elem (arr_at (show na2 - 1 < a.toList.length by omega)) ?_)
              have m6 := tA out4 na2 nb4 h1'.1 h1'.2 m4 g5
              by_cases c7 : na2 - 1 = 0
              · rw [if_pos (by rw [c7]; rfl)]
                have := eD _ (na2 - 1) nb4 m6 (.inl c7)
                exact wpS_pure ⟨hs4, .inl ⟨_, _, rfl, this.1, this.2⟩⟩
              rw [if_neg (by simpa using c7)]
              split
              · exact wpS_pure ⟨hs4, .inr ⟨_, _, _, _, _, _, rfl, m6, ⟨by omega, by omega⟩, h6, by omega⟩⟩
              · exact wpS_pure ⟨hs4, _, _, _, _, _, _, rfl, m6, ⟨by omega, by omega⟩, h6, by omega⟩
end
end L2
namespace L2
open PySem PyProof.Rows
theorem set_row {b : Nat} : ∀ (m : List Keyed) (n : Nat) (xs : Array Keyed) (P O S : List Keyed), xs.toList = P ++ O ++ S → P.length = b + n → O.length = m.length →
    ((m.zipIdx n).foldl (fun (a : Array Keyed) (x : Keyed × Nat) => match x with | (p, j) => a.setIfInBounds (b + j) p) xs).toList = P ++ m ++ S
  | [], n, xs, P, O, S, e, _, h => by
    obtain rfl := List.length_eq_zero_iff.mp h
    exact e
  | p :: m, n, xs, P, [], S, e, h1, h2 => by simp at h2
  | p :: m, n, xs, P, o :: O, S, e, h1, h2 => by
    rw [List.zipIdx_cons, List.foldl_cons]
    have e2 : P ++ p :: m ++ S = (P ++ [p]) ++ m ++ S := by simp
    rw [e2]
    refine set_row m (n + 1) _ (P ++ [p]) O S ?_ (by rw [List.length_append, h1]; rfl) (by simpa using h2)
    dsimp only
    rw [Array.toList_setIfInBounds, e, ← h1]
    simp
theorem seg_take (P X R : List Keyed) : ((P ++ X ++ R).drop P.length).take X.length = X := by simp
theorem seg_at {P X R l : List Keyed} {i : Nat} (e : l = P ++ X ++ R) (hi : i < X.length) : l[P.length + i]? = some X[i] := by
  subst e
  rw [List.append_assoc, List.getElem?_append_right (by omega), show P.length + i - P.length = i by omega, List.getElem?_append_left hi, List.getElem?_eq_getElem hi]
theorem up_last {k : Keyed → Int} {l : List Keyed} (h : Up k l) (hl : 0 < l.length) : ∀ y ∈ l, k y ≤ k (l[l.length - 1]) := by
  intro y hy
  obtain ⟨i, hi, rfl⟩ := List.mem_iff_getElem.mp hy
  by_cases c : i = l.length - 1
  · subst c; exact Int.le_refl _
  · exact List.pairwise_iff_getElem.mp h i (l.length - 1) hi (by omega) (by omega)
theorem up_first {k : Keyed → Int} {l : List Keyed} (h : Up k l) (hl : 0 < l.length) : ∀ y ∈ l, k l[0] ≤ k y := by
  intro y hy
  obtain ⟨i, hi, rfl⟩ := List.mem_iff_getElem.mp hy
  by_cases c : i = 0
  · subst c; exact Int.le_refl _
  · exact List.pairwise_iff_getElem.mp h 0 i hl hi (by omega)
section
variable {prog : Program} {w : World} {A : Around} {E : Value → Shared → Prop} {s : Shared} {kd : SortKind} {k : Keyed → Int} {G : Keyed → Prop}
theorem wps_mat (hA : Ans (model prog w) A E s kd k G) {xs : Array Keyed} {ps : Array (Nat × Nat × Nat)} {g i p p2 : Nat} {P X Y S : List Keyed} {Q : Bool → SortSt → Prop}
    (e : xs.toList = P ++ X ++ (Y ++ S)) (hG : ∀ y ∈ xs.toList, G y) (ux : Up k X) (uy : Up k Y) (nx : 0 < X.length) (ny : 0 < Y.length)
    (e1 : ps[i]? = some (P.length, X.length, p)) (e2 : ps[i + 1]? = some (P.length + X.length, Y.length, p2))
    (q : ∀ (ys : Array Keyed) (C : List Keyed) (g : Nat), ys.toList = P ++ C ++ S → C.Perm (X ++ Y) → Up k C → Q true (SortSt.mk' kd ys ((ps.setIfInBounds i (P.length, X.length + Y.length, p)).eraseIdxIfInBounds (i + 1)) g none)) :
    wpS (model prog w) A E s (mergeAt' i) Q (SortSt.mk' kd xs ps g none) := by
  refine wpS_bind (wpS_get ?_)
  have c0 : ((pendingOf (SortSt.mk' kd xs ps g none))[i]?, (pendingOf (SortSt.mk' kd xs ps g none))[i + 1]?) = (some (P.length, X.length, p), some (P.length + X.length, Y.length, p2)) := by
    show (ps[i]?, ps[i + 1]?) = _
    rw [e1, e2]
  rw [c0]
  dsimp only
  refine wpS_bind (wpS_modify ?_)
  generalize hps : (ps.setIfInBounds i (P.length, X.length + Y.length, p)).eraseIdxIfInBounds (i + 1) = ps' at q
  have e' : xs.toList = (P ++ X) ++ Y ++ S := by rw [e]; simp
  have ly : (P ++ X).length = P.length + X.length := List.length_append
  have lall : xs.toList.length = P.length + X.length + Y.length + S.length := by rw [e]; simp; omega
  have hb : xs[P.length + X.length]? = some Y[0] := by
    rw [← Array.getElem?_toList, ← ly]
    exact seg_at (i := 0) e' ny
  have gY : G Y[0] := hG _ (by rw [e']; exact List.mem_append_left _ (List.mem_append_right _ (List.getElem_mem _)))
  have gX : G X[X.length - 1] := hG _ (by rw [e]; exact List.mem_append_left _ (List.mem_append_right _ (List.getElem_mem _)))
  refine wpS_bind (wps_elem hb ?_)
  have sx : (xs.toList.drop P.length).take X.length = X := by rw [e]; exact seg_take _ _ _
  have sy : (xs.toList.drop (P.length + X.length)).take Y.length = Y := by rw [e', ← ly]; exact seg_take _ _ _
  refine wpS_bind (wps_galL (left := false) hA gY rfl nx (by omega) hG (by rw [sx]; exact ux) fun r hr g1 g2 => ?_)
  rw [sx] at g2
  have g1' : ∀ y ∈ X.take r, k y ≤ k Y[0] := by
    intro y hy
    have : y ∈ (xs.toList.drop P.length).take r := by
      rw [← sx, List.take_take, Nat.min_eq_left hr] at hy
      exact hy
    have := g1 y this
    simpa using this
  have g2' : ∀ y ∈ X.drop r, k Y[0] < k y := by
    intro y hy
    have := g2 y hy
    simpa using this
  clear g1 g2
  dsimp only
  have fy := up_first uy ny
  have lx := up_last ux nx
  by_cases c1 : X.length - r = 0
  · rw [if_pos (by rw [c1]; rfl)]
    refine wpS_pure (q xs (X ++ Y) g (by rw [e]; simp) (List.Perm.refl _) (ux.app uy fun x hx y hy => ?_))
    have := g1' x (by rwa [List.take_of_length_le (by omega)])
    have := fy y hy
    omega
  rw [if_neg (by simpa using c1)]
  have hxl : xs[P.length + r + (X.length - r) - 1]? = some X[X.length - 1] := by
    rw [← Array.getElem?_toList, show P.length + r + (X.length - r) - 1 = P.length + (X.length - 1) by omega]
    exact seg_at e (by omega)
  refine wpS_bind (wps_elem hxl ?_)
  refine wpS_bind (wps_galL (left := true) hA gX rfl (show Y.length - 1 < Y.length by omega) (by omega) hG (by rw [sy]; exact uy) fun r2 hr2 g3 g4 => ?_)
  rw [sy] at g4
  have g3' : ∀ y ∈ Y.take r2, k y < k X[X.length - 1] := by
    intro y hy
    have : y ∈ (xs.toList.drop (P.length + X.length)).take r2 := by
      rw [← sy, List.take_take, Nat.min_eq_left hr2] at hy
      exact hy
    have := g3 y this
    simpa using this
  have g4' : ∀ y ∈ Y.drop r2, k X[X.length - 1] ≤ k y := by
    intro y hy
    have := g4 y hy
    simpa using this
  clear g3 g4
  dsimp only
  by_cases c2 : r2 = 0
  · rw [if_pos (by rw [c2]; rfl)]
    refine wpS_pure (q xs (X ++ Y) g (by rw [e]; simp) (List.Perm.refl _) (ux.app uy fun x hx y hy => ?_))
    have := g4' y (by rw [c2]; exact hy)
    have := lx x hx
    omega
  rw [if_neg (by simpa using c2)]
  -- what is merged
  have ea : (xs.extract (P.length + r) (P.length + X.length)).toList = X.drop r := by
    rw [Array.toList_extract, List.extract_eq_take_drop, ← List.drop_drop]
    have : xs.toList.drop P.length = X ++ (Y ++ S) := by rw [e, List.append_assoc]; simp
    rw [this, List.drop_append_of_le_length hr, List.take_append_of_le_length (by rw [List.length_drop]; omega), List.take_of_length_le (by rw [List.length_drop]; omega)]
  have eb : (xs.extract (P.length + X.length) (P.length + X.length + r2)).toList = Y.take r2 := by
    rw [ext_list]
    conv => rhs; rw [← sy, List.take_take, Nat.min_eq_left hr2]
  generalize hxa : xs.extract (P.length + r) (P.length + X.length) = xa at ea
  generalize hxb : xs.extract (P.length + X.length) (P.length + X.length + r2) = xb at eb
  have la : xa.toList.length = X.length - r := by rw [ea, List.length_drop]
  have lb : xb.toList.length = r2 := by rw [eb, List.length_take]; omega
  have memX : ∀ y ∈ X, G y := fun y hy => hG y (by rw [e]; exact List.mem_append_left _ (List.mem_append_right _ hy))
  have memY : ∀ y ∈ Y, G y := fun y hy => hG y (by rw [e']; exact List.mem_append_left _ (List.mem_append_right _ hy))
  have p1 : ∀ y ∈ xa.toList, G y := by rw [ea]; exact fun y hy => memX y (List.mem_of_mem_drop hy)
  have p3 : ∀ y ∈ xb.toList, G y := by rw [eb]; exact fun y hy => memY y (List.mem_of_mem_take hy)
  have p4 : Up k xa.toList := by rw [ea]; exact ux.sublist (List.drop_sublist _ _)
  have p5 : Up k xb.toList := by rw [eb]; exact uy.sublist (List.take_sublist _ _)
  have p6 : 0 < xa.toList.length := by omega
  have p7 : 0 < xb.toList.length := by omega
  have z1 : xb.toList[0] = Y[0] := by
    have : xb.toList[0]? = Y[0]? := by rw [eb, List.getElem?_take, if_pos (by omega)]
    rw [List.getElem?_eq_getElem p7, List.getElem?_eq_getElem ny] at this
    exact Option.some.inj this
  have z2 : xa.toList[xa.toList.length - 1] = X[X.length - 1] := by
    have : xa.toList[xa.toList.length - 1]? = X[X.length - 1]? := by
      rw [la, ea, List.getElem?_drop]
      congr 1
      omega
    rw [List.getElem?_eq_getElem (by omega), List.getElem?_eq_getElem (by omega)] at this
    exact Option.some.inj this
  have p8 : ∀ y ∈ xa.toList, k xb.toList[0] ≤ k y := by
    rw [z1, ea]
    exact fun y hy => Int.le_of_lt (g2' y hy)
  have p9 : ∀ y ∈ xb.toList, k y ≤ k (xa.toList[xa.toList.length - 1]) := by
    rw [z2, eb]
    exact fun y hy => Int.le_of_lt (g3' y hy)
  have last : ∀ (m : Array Keyed) (st' : SortSt), (∃ g, st' = SortSt.mk' kd xs ps' g none) → m.toList.Perm (xa.toList ++ xb.toList) → Up k m.toList →
      Q true (SortSt.mk' kd (m.toList.zipIdx.foldl (fun (a : Array Keyed) (x : Keyed × Nat) => match x with | (p, j) => a.setIfInBounds (P.length + r + j) p) xs) ps' (gallopOf st') none) := by
    intro m st' hst hp hu
    have hlen : m.toList.length = (X.length - r) + r2 := by rw [hp.length_eq, List.length_append, la, lb]
    have hrow := set_row (b := P.length + r) m.toList 0 xs (P ++ X.take r) (X.drop r ++ Y.take r2) (Y.drop r2 ++ S) (by
        rw [e]
        have t1 := List.take_append_drop r X
        have t2 := List.take_append_drop r2 Y
        conv => lhs; rw [← t1, ← t2]
        simp only [List.append_assoc]) (by rw [List.length_append, List.length_take]; omega) (by rw [List.length_append, List.length_drop, List.length_take, hlen]; omega)
    rw [ea, eb] at hp
    refine q _ (X.take r ++ m.toList ++ Y.drop r2) _ ?_ ?_ ?_
    · rw [hrow]
      simp only [List.append_assoc]
    · refine ((List.Perm.append_left _ hp).append_right _).trans ?_
      have t1 := List.take_append_drop r X
      have t2 := List.take_append_drop r2 Y
      rw [← List.append_assoc, t1, List.append_assoc, t2]
    · have low : ∀ x ∈ X.take r, ∀ y, y ∈ X.drop r ∨ y ∈ Y → k x ≤ k y := by
        intro x hx y hy
        rcases hy with hy | hy
        · have : Up k (X.take r ++ X.drop r) := by rw [List.take_append_drop]; exact ux
          exact this.mid x hx y hy
        · have := g1' x hx
          have := fy y hy
          omega
      have memM : ∀ x ∈ m.toList, x ∈ X.drop r ∨ x ∈ Y.take r2 := fun x hx => List.mem_append.mp (hp.mem_iff.mp hx)
      refine Up.app (Up.app (ux.sublist (List.take_sublist _ _)) hu fun x hx y hy => ?_) (uy.sublist (List.drop_sublist _ _)) fun x hx y hy => ?_
      · exact low x hx y ((memM y hy).imp id List.mem_of_mem_take)
      · rcases List.mem_append.mp hx with hx | hx
        · exact low x hx y (.inr (List.mem_of_mem_drop hy))
        · have h4 := g4' y hy
          rcases memM x hx with hx | hx
          · have := lx x (List.mem_of_mem_drop hx)
            omega
          · have := g3' x hx
            omega
  have go : ∀ (m : Array Keyed) (st' : SortSt), (∃ g, st' = SortSt.mk' kd xs ps' g none) → m.toList.Perm (xa.toList ++ xb.toList) → Up k m.toList →
      wpS (model prog w) A E s (do
        modify fun (s : SortSt) => SortSt.mk' (kindOf s) (m.toList.zipIdx.foldl (fun (a : Array Keyed) (x : Keyed × Nat) => match x with | (p, j) => a.setIfInBounds (P.length + r + j) p) (arrOf s)) (pendingOf s) (gallopOf s) (failedOf s)
        let t ← get
        pure (failedOf t).isNone) Q st' := by
    intro m st' hst hp hu
    have := last m st' hst hp hu
    obtain ⟨g', rfl⟩ := hst
    exact wpS_bind (wpS_modify (wpS_bind (wpS_get (wpS_pure this))))
  by_cases c3 : X.length - r ≤ r2
  · rw [if_pos c3]
    refine wpS_bind ?_
    exact wps_mlo hA ⟨_, rfl⟩ p1 p3 p4 p5 p6 p7 p8 p9 fun m st' h1 h2 h3 => go m st' h1 h2 h3
  · rw [if_neg c3]
    refine wpS_bind ?_
    exact wps_mhi hA ⟨_, rfl⟩ p1 p3 p4 p5 p6 p7 p8 p9 fun m st' h1 h2 h3 => go m st' h1 h2 h3
end
end L2
namespace L2
open PySem PyProof.Rows
noncomputable def Srt (k : Keyed → Int) (xs : Array Keyed) (lo n : Nat) : Prop := ∀ i j, i ≤ j → j < n → kA k xs (lo + i) ≤ kA k xs (lo + j)
noncomputable def Fal (k : Keyed → Int) (xs : Array Keyed) (lo n : Nat) : Prop := ∀ i j, i ≤ j → j < n → kA k xs (lo + j) ≤ kA k xs (lo + i)
structure Kp (xs ys : Array Keyed) (lo : Nat) : Prop where
  perm : ys.Perm xs
  low : ∀ i, i < lo → ys[i]? = xs[i]?
theorem Kp.refl (xs : Array Keyed) (lo : Nat) : Kp xs xs lo := ⟨Array.Perm.refl _, fun _ _ => rfl⟩
theorem Kp.trans {xs ys zs : Array Keyed} {lo : Nat} (h : Kp xs ys lo) (h' : Kp ys zs lo) : Kp xs zs lo := ⟨h'.perm.trans h.perm, fun i hi => (h'.low i hi).trans (h.low i hi)⟩
theorem Kp.size {xs ys : Array Keyed} {lo : Nat} (h : Kp xs ys lo) : ys.size = xs.size := h.perm.size_eq
theorem Kp.mem {G : Keyed → Prop} {xs ys : Array Keyed} {lo : Nat} (h : Kp xs ys lo) (hG : ∀ y ∈ xs.toList, G y) : ∀ y ∈ ys.toList, G y := fun y hy => hG y ((Array.perm_iff_toList_perm.mp h.perm).mem_iff.mp hy)
theorem kp_mirror {xs : Array Keyed} {lo i j : Nat} (hi : lo ≤ i) (hj : j ≤ xs.size) : Kp xs (mirror xs i j ((j - i) / 2)) lo := by
  refine ⟨mirror_perm _ _ _ _, fun t ht => ?_⟩
  rw [getElem?_mirror_all hj, if_neg (by omega)]
theorem kp_bubble {xs : Array Keyed} {lo src d : Nat} (hs : src < xs.size) (hd : d ≤ src) (hl : lo ≤ src - d) : Kp xs (bubble xs src d) lo := by
  refine ⟨bubble_perm _ _ _, fun t ht => ?_⟩
  rw [getElem?_bubble hs d hd, if_neg (by omega), if_neg (by omega)]
theorem kA_mirror {k : Keyed → Int} {xs : Array Keyed} {i j : Nat} (hj : j ≤ xs.size) (t : Nat) : kA k (mirror xs i j ((j - i) / 2)) t = if i ≤ t ∧ t < j then kA k xs (i + j - 1 - t) else kA k xs t := by
  have e := getElem?_mirror_all (i := i) hj t
  by_cases c : i ≤ t ∧ t < j
  · rw [if_pos c] at e ⊢; exact kA_congr e
  · rw [if_neg c] at e ⊢; exact kA_congr e
theorem kA_flat {k : Keyed → Int} {xs : Array Keyed} {i j : Nat} (hj : j ≤ xs.size) (h : ∀ t, i ≤ t → t < j → kA k xs t = kA k xs (j - 1)) (t : Nat) : kA k (mirror xs i j ((j - i) / 2)) t = kA k xs t := by
  rw [kA_mirror hj]
  split
  · rw [h _ (by omega) (by omega), h t (by omega) (by omega)]
  · rfl
theorem kA_bubble {k : Keyed → Int} {xs : Array Keyed} {src d : Nat} (hs : src < xs.size) (hd : d ≤ src) (t : Nat) :
    kA k (bubble xs src d) t = if t = src - d then kA k xs src else if src - d < t ∧ t ≤ src then kA k xs (t - 1) else kA k xs t := by
  have e := getElem?_bubble hs d hd t
  by_cases h1 : t = src - d
  · rw [if_pos h1] at e ⊢; exact kA_congr e
  · rw [if_neg h1] at e ⊢
    by_cases h2 : src - d < t ∧ t ≤ src
    · rw [if_pos h2] at e ⊢; exact kA_congr e
    · rw [if_neg h2] at e ⊢; exact kA_congr e
theorem Srt.one (k : Keyed → Int) (xs : Array Keyed) (lo : Nat) : Srt k xs lo 1 := fun i j h1 h2 => by
  have : i = j := by omega
  subst this; exact Int.le_refl _
theorem Srt.snoc {k : Keyed → Int} {xs : Array Keyed} {lo n : Nat} (h : Srt k xs lo n) (h1 : 1 ≤ n) (hx : kA k xs (lo + n - 1) ≤ kA k xs (lo + n)) : Srt k xs lo (n + 1) := fun i j hij hj => by
  by_cases c : j < n
  · exact h i j hij c
  · obtain rfl : j = n := by omega
    by_cases ci : i = j
    · subst ci; exact Int.le_refl _
    · have := h i (j - 1) (by omega) (by omega)
      rw [show lo + (j - 1) = lo + j - 1 by omega] at this
      omega
theorem Fal.snoc {k : Keyed → Int} {xs : Array Keyed} {lo n : Nat} (h : Fal k xs lo n) (h1 : 1 ≤ n) (hx : kA k xs (lo + n) ≤ kA k xs (lo + n - 1)) : Fal k xs lo (n + 1) := fun i j hij hj => by
  by_cases c : j < n
  · exact h i j hij c
  · obtain rfl : j = n := by omega
    by_cases ci : i = j
    · subst ci; exact Int.le_refl _
    · have := h i (j - 1) (by omega) (by omega)
      rw [show lo + (j - 1) = lo + j - 1 by omega] at this
      omega
theorem Fal.turn {k : Keyed → Int} {xs : Array Keyed} {lo n : Nat} (h : Fal k xs lo n) (hz : lo + n ≤ xs.size) : Srt k (mirror xs lo (lo + n) ((lo + n - lo) / 2)) lo n := fun i j hij hj => by
  rw [kA_mirror hz, kA_mirror hz, if_pos (by omega), if_pos (by omega)]
  have := h (n - 1 - j) (n - 1 - i) (by omega) (by omega)
  rw [show lo + (lo + n) - 1 - (lo + i) = lo + (n - 1 - i) by omega, show lo + (lo + n) - 1 - (lo + j) = lo + (n - 1 - j) by omega]
  exact this
section
variable {prog : Program} {w : World} {A : Around} {E : Value → Shared → Prop} {s : Shared} {kd : SortKind} {k : Keyed → Int} {G : Keyed → Prop} {ps : Array (Nat × Nat × Nat)} {g : Nat}
theorem wps_ltA (hA : Ans (model prog w) A E s kd k G) {xs : Array Keyed} {i j : Nat} {Q : Option Bool → SortSt → Prop} (hG : ∀ y ∈ xs.toList, G y) (hi : i < xs.size) (hj : j < xs.size)
    (q : Q (some (decide (kA k xs i < kA k xs j))) (SortSt.mk' kd xs ps g none)) : wpS (model prog w) A E s (ltAt' i j) Q (SortSt.mk' kd xs ps g none) := by
  refine wpS_bind (wpS_get ?_)
  refine wpS_bind (wps_elem (arr_at (i := i) hi) ?_)
  refine wpS_bind (wps_elem (arr_at (i := j) hj) ?_)
  rw [kA_some (arr_at (i := i) hi), kA_some (arr_at (i := j) hj)] at q
  exact hA _ _ _ _ (hG _ (List.getElem_mem _)) (hG _ (List.getElem_mem _)) rfl q
theorem wps_rev {xs : Array Keyed} {i j : Nat} {Q : Unit → SortSt → Prop} (q : Q () (SortSt.mk' kd (mirror xs i j ((j - i) / 2)) ps g none)) : wpS (model prog w) A E s (reverseSlice' i j) Q (SortSt.mk' kd xs ps g none) := by
  rw [reverseSlice'_eq]
  exact wpS_modify q
theorem wps_asc (hA : Ans (model prog w) A E s kd k G) {xs : Array Keyed} {lo a n : Nat} (hG : ∀ y ∈ xs.toList, G y) (hz : lo + n ≤ xs.size) (h1 : 1 ≤ a) (ha : a ≤ n) (hs : Srt k xs lo a) {Q : Option (Option Nat) × Nat → SortSt → Prop}
    (q : ∀ m, a ≤ m → m ≤ n → Srt k xs lo m → (m = n ∨ kA k xs (lo + m) < kA k xs (lo + m - 1)) → Q (none, m) (SortSt.mk' kd xs ps g none)) :
    wpS (model prog w) A E s (forIn [a:n] ((none, a) : Option (Option Nat) × Nat) fun _ c => do
      let o ← ltAt' (lo + c.2) (lo + c.2 - 1)
      match o with
      | some b => if b = true then pure (ForInStep.done (none, c.2)) else pure (ForInStep.yield (none, c.2 + 1))
      | _ => pure (ForInStep.done (some none, c.2))) Q (SortSt.mk' kd xs ps g none) := by
  refine wpS_forRange (I := fun x c st => st = SortSt.mk' kd xs ps g none ∧ c = (none, x) ∧ Srt k xs lo x) ?_ ?_ ⟨rfl, rfl, hs⟩
  · rintro x c st hx hxn ⟨rfl, rfl, h⟩
    dsimp only
    refine wpS_bind (wps_ltA hA hG (by omega) (by omega) ?_)
    dsimp only
    by_cases cc : kA k xs (lo + x) < kA k xs (lo + x - 1)
    · rw [if_pos (decide_eq_true cc)]
      exact wpS_pure (q x hx (by omega) h (.inr cc))
    · rw [if_neg (by simpa using cc)]
      exact wpS_pure ⟨rfl, rfl, h.snoc (by omega) (by omega)⟩
  · rintro c st ⟨rfl, rfl, h⟩
    rw [show max a n = n by omega] at h ⊢
    exact q n ha (Nat.le_refl _) h (.inl rfl)
theorem wps_run (hA : Ans (model prog w) A E s kd k G) {xs : Array Keyed} {lo n : Nat} (hG : ∀ y ∈ xs.toList, G y) (hz : lo + n ≤ xs.size) (h1 : 1 ≤ n) {Q : Option Nat → SortSt → Prop}
    (q : ∀ m ys, Kp xs ys lo → 1 ≤ m → m ≤ n → Srt k ys lo m → Q (some m) (SortSt.mk' kd ys ps g none)) : wpS (model prog w) A E s (countRun' lo n) Q (SortSt.mk' kd xs ps g none) := by
  -- what falls, turned round
  have turned : ∀ (ys : Array Keyed) (m : Nat), Kp xs ys lo → m ≤ n → Fal k ys lo m → Kp xs (mirror ys lo (lo + m) ((lo + m - lo) / 2)) lo ∧ Srt k (mirror ys lo (lo + m) ((lo + m - lo) / 2)) lo m := by
    intro ys m K hmn hf
    have hz2 : lo + m ≤ ys.size := by rw [K.size]; omega
    exact ⟨K.trans (kp_mirror (i := lo) (Nat.le_refl lo) hz2), hf.turn hz2⟩
  have falling : ∀ (ys : Array Keyed) (m : Nat), Kp xs ys lo → 1 ≤ m → m + 1 ≤ n → Fal k ys lo (m + 1) → ∀ P : SortSt → Prop, (wpS (model prog w) A E s (forIn [m + 1:n] ((none, m + 1, 0) : Option (Option Nat) × Nat × Nat) fun _ c => do
        let o ← ltAt' (lo + c.2.1) (lo + c.2.1 - 1)
        match o with
        | some b =>
          if b = true then
            if c.2.2 > 0 then do
              let _ ← reverseSlice' (lo + c.2.1 - (c.2.2 + 1)) (lo + c.2.1)
              pure (ForInStep.yield (none, c.2.1 + 1, 0))
            else pure (ForInStep.yield (none, c.2.1 + 1, 0))
          else do
            let o ← ltAt' (lo + c.2.1 - 1) (lo + c.2.1)
            match o with
            | some b => if b = true then pure (ForInStep.done (none, c.2.1, c.2.2)) else pure (ForInStep.yield (none, c.2.1 + 1, c.2.2 + 1))
            | _ => pure (ForInStep.done (some none, c.2.1, c.2.2))
        | _ => pure (ForInStep.done (some none, c.2.1, c.2.2)))
      (fun c st => ∃ zs m' u, c = (none, m', u) ∧ st = SortSt.mk' kd zs ps g none ∧ Kp xs zs lo ∧ 1 ≤ m' ∧ m' ≤ n ∧ Fal k zs lo m' ∧ u + 1 ≤ m' ∧ ∀ i, m' - (u + 1) ≤ i → i < m' → kA k zs (lo + i) = kA k zs (lo + m' - 1)) (SortSt.mk' kd ys ps g none)) := by
    intro ys m K hm hmn hf _
    refine wpS_forRange (I := fun x c st => ∃ zs u, c = (none, x, u) ∧ st = SortSt.mk' kd zs ps g none ∧ Kp xs zs lo ∧ 1 ≤ x ∧ Fal k zs lo x ∧ u + 1 ≤ x ∧ ∀ i, x - (u + 1) ≤ i → i < x → kA k zs (lo + i) = kA k zs (lo + x - 1)) ?_ ?_ ⟨ys, 0, rfl, rfl, K, by omega, hf, by omega, fun i a1 a2 => by congr 1; omega⟩
    · rintro x c st hx hxn ⟨zs, u, rfl, rfl, K, h1x, hf, hu, he⟩
      have hz2 : lo + n ≤ zs.size := by rw [K.size]; omega
      dsimp only
      refine wpS_bind (wps_ltA hA (K.mem hG) (by omega) (by omega) ?_)
      dsimp only
      by_cases cc : kA k zs (lo + x) < kA k zs (lo + x - 1)
      · rw [if_pos (decide_eq_true cc)]
        by_cases cu : u > 0
        · rw [if_pos cu]
          refine wpS_bind (wps_rev (wpS_pure ?_))
          have hm2 : lo + x ≤ zs.size := by omega
          have fl := kA_flat (k := k) (i := lo + x - (u + 1)) hm2 (fun t t1 t2 => by
            have := he (t - lo) (by omega) (by omega)
            rw [show lo + (t - lo) = t by omega] at this
            exact this)
          have K2 := K.trans (kp_mirror (lo := lo) (i := lo + x - (u + 1)) (by omega) hm2)
          generalize mirror zs (lo + x - (u + 1)) (lo + x) ((lo + x - (lo + x - (u + 1))) / 2) = vs at fl K2 ⊢
          refine ⟨vs, 0, rfl, rfl, K2, by omega, ?_, by omega, fun i a1 a2 => by congr 1; omega⟩
          intro i j hij hj
          rw [fl, fl]
          exact hf.snoc h1x (by omega) i j hij hj
        · rw [if_neg cu]
          exact wpS_pure ⟨zs, 0, rfl, rfl, K, by omega, hf.snoc h1x (by omega), by omega, fun i a1 a2 => by congr 1; omega⟩
      · rw [if_neg (by simpa using cc)]
        refine wpS_bind (wps_ltA hA (K.mem hG) (by omega) (by omega) ?_)
        dsimp only
        by_cases cd : kA k zs (lo + x - 1) < kA k zs (lo + x)
        · rw [if_pos (decide_eq_true cd)]
          exact wpS_pure ⟨zs, x, u, rfl, rfl, K, h1x, by omega, hf, hu, he⟩
        · rw [if_neg (by simpa using cd)]
          have eqx : kA k zs (lo + x) = kA k zs (lo + x - 1) := by omega
          refine wpS_pure ⟨zs, u + 1, rfl, rfl, K, by omega, hf.snoc h1x (by omega), by omega, fun i a1 a2 => ?_⟩
          rw [show lo + (x + 1) - 1 = lo + x by omega, eqx]
          by_cases ci : i = x
          · rw [ci, eqx]
          · exact he i (by omega) (by omega)
    · rintro c st ⟨zs, u, rfl, rfl, K, h1x, hf, hu, he⟩
      rw [show max (m + 1) n = n by omega] at hf hu he h1x ⊢
      exact ⟨zs, n, u, rfl, rfl, K, h1x, Nat.le_refl _, hf, hu, he⟩
  refine wpS_bind (wps_asc hA hG hz (Nat.le_refl 1) h1 (Srt.one k xs lo) fun m hm1 hm2 hs hor => ?_)
  dsimp only
  by_cases c1 : m = n
  · rw [if_pos (by rw [c1]; simp)]
    exact wpS_pure (q m xs (Kp.refl _ _) hm1 hm2 hs)
  rw [if_neg (by simpa using c1)]
  have hlt := hor.resolve_left c1
  have tail : ∀ (zs : Array Keyed) (m' u : Nat), Kp xs zs lo → 1 ≤ m' → m' ≤ n → Fal k zs lo m' → u + 1 ≤ m' → (∀ i, m' - (u + 1) ≤ i → i < m' → kA k zs (lo + i) = kA k zs (lo + m' - 1)) → u > 0 → Kp xs (mirror zs (lo + m' - (u + 1)) (lo + m') ((lo + m' - (lo + m' - (u + 1))) / 2)) lo ∧ Fal k (mirror zs (lo + m' - (u + 1)) (lo + m') ((lo + m' - (lo + m' - (u + 1))) / 2)) lo m' := by
    intro zs m' u K h1 h2 hf hu he cu
    have hz2 : lo + n ≤ zs.size := by rw [K.size]; omega
    have hm2 : lo + m' ≤ zs.size := by omega
    have fl := kA_flat (k := k) (i := lo + m' - (u + 1)) hm2 (fun t t1 t2 => by
      have := he (t - lo) (by omega) (by omega)
      rw [show lo + (t - lo) = t by omega] at this
      exact this)
    refine ⟨K.trans (kp_mirror (lo := lo) (i := lo + m' - (u + 1)) (by omega) hm2), fun i j hij hj => ?_⟩
    rw [fl, fl]
    exact hf i j hij hj
  by_cases c2 : m > 1
  · rw [if_pos c2]
    refine wpS_bind (wps_ltA hA hG (by omega) (by omega) ?_)
    dsimp only
    by_cases c3 : kA k xs lo < kA k xs (lo + m - 1)
    · rw [if_pos (decide_eq_true c3)]
      exact wpS_pure (q m xs (Kp.refl _ _) hm1 hm2 hs)
    rw [if_neg (by simpa using c3)]
    refine wpS_bind (wps_rev ?_)
    have hm3 : lo + m ≤ xs.size := by omega
    have all : ∀ t, lo ≤ t → t < lo + m → kA k xs t = kA k xs (lo + m - 1) := by
      intro t t1 t2
      have a1 := hs 0 (t - lo) (by omega) (by omega)
      have a2 := hs (t - lo) (m - 1) (by omega) (by omega)
      rw [show lo + (t - lo) = t by omega] at a1 a2
      rw [show lo + (m - 1) = lo + m - 1 by omega] at a2
      rw [Nat.add_zero] at a1
      omega
    have fl := kA_flat (k := k) (i := lo) hm3 all
    have K2 : Kp xs (mirror xs lo (lo + m) ((lo + m - lo) / 2)) lo := kp_mirror (Nat.le_refl lo) hm3
    generalize mirror xs lo (lo + m) ((lo + m - lo) / 2) = ys at fl K2 ⊢
    have hf : Fal k ys lo (m + 1) := by
      refine Fal.snoc (fun i j hij hj => ?_) hm1 (by rw [fl, fl]; omega)
      rw [fl, fl, all (lo + i) (by omega) (by omega), all (lo + j) (by omega) (by omega)]
      exact Int.le_refl _
    refine wpS_bind (wpS_lift (wpAny_rule ⟨rfl, ?_⟩))
    refine wpS_bind (wpS_mono (falling ys m K2 hm1 (by omega) hf (fun _ => True)) ?_)
    rintro c st ⟨zs, m', u, rfl, rfl, K3, a1, a2, a3, a4, a5⟩
    dsimp only
    by_cases cu : u > 0
    · rw [if_pos cu]
      have := tail zs m' u K3 a1 a2 a3 a4 a5 cu
      obtain ⟨K4, hs4⟩ := turned _ m' this.1 a2 this.2
      refine wpS_bind (wps_rev (wpS_bind (wps_rev (wpS_bind (wps_asc hA (K4.mem hG) (by rw [K4.size]; exact hz) a1 a2 hs4 fun m2 h2 h3 h4 _ => ?_)))))
      exact wpS_pure (q m2 _ K4 (by omega) h3 h4)
    · rw [if_neg cu]
      obtain ⟨K4, hs4⟩ := turned zs m' K3 a2 a3
      refine wpS_bind (wps_rev (wpS_bind (wps_asc hA (K4.mem hG) (by rw [K4.size]; exact hz) a1 a2 hs4 fun m2 h2 h3 h4 _ => ?_)))
      exact wpS_pure (q m2 _ K4 (by omega) h3 h4)
  · rw [if_neg c2]
    obtain rfl : m = 1 := by omega
    have hf : Fal k xs lo (1 + 1) := Fal.snoc (fun i j hij hj => by
      have : i = j := by omega
      subst this; exact Int.le_refl _) (Nat.le_refl 1) (by omega)
    refine wpS_bind (wpS_lift (wpAny_rule ⟨rfl, ?_⟩))
    refine wpS_bind (wpS_mono (falling xs 1 (Kp.refl _ _) hm1 (by omega) hf (fun _ => True)) ?_)
    rintro c st ⟨zs, m', u, rfl, rfl, K3, a1, a2, a3, a4, a5⟩
    dsimp only
    by_cases cu : u > 0
    · rw [if_pos cu]
      have := tail zs m' u K3 a1 a2 a3 a4 a5 cu
      obtain ⟨K4, hs4⟩ := turned _ m' this.1 a2 this.2
      refine wpS_bind (wps_rev (wpS_bind (wps_rev (wpS_bind (wps_asc hA (K4.mem hG) (by rw [K4.size]; exact hz) a1 a2 hs4 fun m2 h2 h3 h4 _ => ?_)))))
      exact wpS_pure (q m2 _ K4 (by omega) h3 h4)
    · rw [if_neg cu]
      obtain ⟨K4, hs4⟩ := turned zs m' K3 a2 a3
      refine wpS_bind (wps_rev (wpS_bind (wps_asc hA (K4.mem hG) (by rw [K4.size]; exact hz) a1 a2 hs4 fun m2 h2 h3 h4 _ => ?_)))
      exact wpS_pure (q m2 _ K4 (by omega) h3 h4)
theorem wps_ins (hA : Ans (model prog w) A E s kd k G) {xs : Array Keyed} {lo n ok : Nat} (hG : ∀ y ∈ xs.toList, G y) (hz : lo + n ≤ xs.size) (hok : ok ≤ n) (hs : Srt k xs lo ok) {Q : Bool → SortSt → Prop}
    (q : ∀ ys, Kp xs ys lo → Srt k ys lo n → Q true (SortSt.mk' kd ys ps g none)) : wpS (model prog w) A E s (binarySort' lo n ok) Q (SortSt.mk' kd xs ps g none) := by
  refine wpS_bind (wpS_mono (wpS_forRange (I := fun x c st => ∃ ys, st = SortSt.mk' kd ys ps g none ∧ c = (none, ()) ∧ Kp xs ys lo ∧ Srt k ys lo (min x n)) (Q := fun c st => ∃ ys, st = SortSt.mk' kd ys ps g none ∧ c = (none, ()) ∧ Kp xs ys lo ∧ Srt k ys lo n) ?_ ?_ ⟨xs, rfl, rfl, Kp.refl _ _, fun i j hij hj => ?_⟩) ?_)
  · rintro x c st hx hxn ⟨ys, rfl, rfl, K, hs⟩
    rw [show min x n = x by omega] at hs
    have hz2 : lo + n ≤ ys.size := by rw [K.size]; omega
    dsimp only
    refine wpS_bind (wpS_mono (wpS_forRange (I := fun t c st => st = SortSt.mk' kd ys ps g none ∧ ∃ l r, c = (none, l, r) ∧ l ≤ r ∧ r ≤ x ∧ r - l ≤ x - t ∧ (∀ i, i < l → kA k ys (lo + i) ≤ kA k ys (lo + x)) ∧ ∀ i, r ≤ i → i < x → kA k ys (lo + x) < kA k ys (lo + i))
      (Q := fun c st => st = SortSt.mk' kd ys ps g none ∧ ∃ l r, c = (none, l, r) ∧ l ≤ x ∧ (∀ i, i < l → kA k ys (lo + i) ≤ kA k ys (lo + x)) ∧ ∀ i, l ≤ i → i < x → kA k ys (lo + x) < kA k ys (lo + i)) ?_ ?_ ⟨rfl, 0, x, rfl, by omega, by omega, by omega, fun i hi => absurd hi (by omega), fun i a1 a2 => absurd a1 (by omega)⟩) ?_)
    · rintro t c st _ ht ⟨rfl, l, r, rfl, hlr, hrx, hm, lo1, hi1⟩
      dsimp only
      by_cases c1 : l ≥ r
      · rw [if_pos c1]
        obtain rfl : l = r := by omega
        exact wpS_pure ⟨rfl, l, l, rfl, hrx, lo1, hi1⟩
      rw [if_neg c1]
      refine wpS_bind (wps_ltA hA (K.mem hG) (by omega) (by omega) ?_)
      dsimp only
      by_cases cc : kA k ys (lo + x) < kA k ys (lo + (l + r) / 2)
      · rw [if_pos (decide_eq_true cc)]
        refine wpS_pure ⟨rfl, l, (l + r) / 2, rfl, by omega, by omega, by omega, lo1, fun i a1 a2 => ?_⟩
        have := hs ((l + r) / 2) i a1 a2
        omega
      · rw [if_neg (by simpa using cc)]
        refine wpS_pure ⟨rfl, (l + r) / 2 + 1, r, rfl, by omega, by omega, by omega, fun i a1 => ?_, hi1⟩
        have := hs i ((l + r) / 2) (by omega) (by omega)
        omega
    · rintro c st ⟨rfl, l, r, rfl, hlr, hrx, hm, lo1, hi1⟩
      obtain rfl : l = r := by omega
      exact ⟨rfl, l, l, rfl, hrx, lo1, hi1⟩
    · rintro c st ⟨rfl, l, r, rfl, hlx, lo1, hi1⟩
      dsimp only
      refine wpS_bind (wpS_modify (wpS_pure ?_))
      have hsx : lo + x < ys.size := by omega
      have hbb := kp_bubble (xs := ys) (lo := lo) (src := lo + x) (d := lo + x - (lo + l)) hsx (by omega) (by omega)
      refine ⟨bubble ys (lo + x) (lo + x - (lo + l)), rfl, rfl, K.trans hbb, ?_⟩
      rw [show min (x + 1) n = x + 1 by omega]
      intro i j hij hj
      rw [kA_bubble hsx (by omega), kA_bubble hsx (by omega)]
      have e1 : ∀ t, lo + t - 1 = lo + (t - 1) ∨ t = 0 := fun t => by omega
      repeat' split
      · exact Int.le_refl _
      · have := hi1 (j - 1) (by omega) (by omega)
        rw [show lo + j - 1 = lo + (j - 1) by omega]
        omega
      · omega
      · have := lo1 i (by omega)
        omega
      · have := hs (i - 1) (j - 1) (by omega) (by omega)
        rw [show lo + j - 1 = lo + (j - 1) by omega, show lo + i - 1 = lo + (i - 1) by omega]
        omega
      · omega
      · have := lo1 i (by omega)
        omega
      · have := hs i (j - 1) (by omega) (by omega)
        rw [show lo + j - 1 = lo + (j - 1) by omega]
        omega
      · exact hs i j hij (by omega)
  · rintro c st ⟨ys, rfl, rfl, K, hs⟩
    refine ⟨ys, rfl, rfl, K, ?_⟩
    rwa [show min (max (max ok 1) n) n = n by omega] at hs
  · by_cases c : ok = 0
    · have : i = j := by omega
      subst this; exact Int.le_refl _
    · exact hs i j hij (by omega)
  · rintro c st ⟨ys, rfl, rfl, K, hs⟩
    exact wpS_pure (q ys K hs)
end
end L2
namespace L2
open PySem PyProof.Rows
noncomputable def Mt : Nat → List (Nat × Nat × Nat) → List (List Keyed) → Prop
  | _, [], [] => True
  | p, (a, n, _) :: r, z :: zs => a = p ∧ n = z.length ∧ 0 < z.length ∧ Mt (p + z.length) r zs
  | _, _, _ => False
theorem Mt.len : ∀ {l : List (Nat × Nat × Nat)} {zs : List (List Keyed)} {p : Nat}, Mt p l zs → l.length = zs.length
  | [], [], _, _ => rfl
  | [], _ :: _, _, h => h.elim
  | _ :: _, [], _, h => h.elim
  | (_, _, _) :: r, z :: zs, p, h => by
    have := Mt.len h.2.2.2
    simp [this]
theorem Mt.split : ∀ {z1 : List (List Keyed)} {l : List (Nat × Nat × Nat)} {z2 : List (List Keyed)} {p : Nat}, Mt p l (z1 ++ z2) → ∃ l1 l2, l = l1 ++ l2 ∧ l1.length = z1.length ∧ Mt p l1 z1 ∧ Mt (p + z1.flatten.length) l2 z2
  | [], l, z2, p, h => ⟨[], l, rfl, rfl, trivial, h⟩
  | z :: z1, [], z2, p, h => h.elim
  | z :: z1, (a, n, u) :: r, z2, p, h => by
    obtain ⟨h1, h2, h3, h4⟩ := h
    obtain ⟨l1, l2, e, el, m1, m2⟩ := Mt.split h4
    refine ⟨(a, n, u) :: l1, l2, by rw [e]; rfl, by simp [el], ⟨h1, h2, h3, m1⟩, ?_⟩
    rw [List.flatten_cons, List.length_append, ← Nat.add_assoc]
    exact m2
theorem Mt.join : ∀ {z1 : List (List Keyed)} {l1 : List (Nat × Nat × Nat)} {l2 : List (Nat × Nat × Nat)} {z2 : List (List Keyed)} {p : Nat}, Mt p l1 z1 → Mt (p + z1.flatten.length) l2 z2 → Mt p (l1 ++ l2) (z1 ++ z2)
  | [], [], l2, z2, p, _, h => h
  | [], _ :: _, _, _, _, h, _ => h.elim
  | _ :: _, [], _, _, _, h, _ => h.elim
  | z :: z1, (a, n, u) :: r, l2, z2, p, h, h' => by
    obtain ⟨h1, h2, h3, h4⟩ := h
    refine ⟨h1, h2, h3, Mt.join h4 ?_⟩
    rw [List.flatten_cons, List.length_append, ← Nat.add_assoc] at h'
    exact h'
theorem Mt.size : ∀ {l : List (Nat × Nat × Nat)} {zs : List (List Keyed)} {p : Nat}, Mt p l zs → zs.length ≤ zs.flatten.length
  | [], [], _, _ => Nat.le_refl _
  | [], _ :: _, _, h => h.elim
  | _ :: _, [], _, h => h.elim
  | (_, _, _) :: r, z :: zs, p, h => by
    have := Mt.size h.2.2.2
    have := h.2.2.1
    rw [List.flatten_cons, List.length_append, List.length_cons]
    omega
theorem Mt.mod (pw : Nat) : ∀ {l : List (Nat × Nat × Nat)} {zs : List (List Keyed)} {p : Nat} (i : Nat), Mt p l zs → Mt p (l.modify i fun x => match x with | (a, n, _) => (a, n, pw)) zs
  | [], [], _, i, _ => by cases i <;> exact trivial
  | [], _ :: _, _, _, h => h.elim
  | _ :: _, [], _, _, h => h.elim
  | (a, n, u) :: r, z :: zs, p, 0, h => by
    rw [List.modify_zero_cons]
    exact h
  | (a, n, u) :: r, z :: zs, p, i + 1, h => by
    rw [List.modify_succ_cons]
    exact ⟨h.1, h.2.1, h.2.2.1, Mt.mod pw i h.2.2.2⟩
structure RI (k : Keyed → Int) (x0 : List Keyed) (xs : Array Keyed) (ps : Array (Nat × Nat × Nat)) (zs : List (List Keyed)) (S : List Keyed) : Prop where
  perm : xs.toList.Perm x0
  cut : xs.toList = zs.flatten ++ S
  told : Mt 0 ps.toList zs
  up : ∀ z ∈ zs, Up k z
section
variable {prog : Program} {w : World} {A : Around} {E : Value → Shared → Prop} {s : Shared} {kd : SortKind} {k : Keyed → Int} {G : Keyed → Prop}
theorem wps_matR (hA : Ans (model prog w) A E s kd k G) {x0 : List Keyed} {xs : Array Keyed} {ps : Array (Nat × Nat × Nat)} {zs : List (List Keyed)} {S : List Keyed} {g i : Nat} {Q : Bool → SortSt → Prop} (hG : ∀ y ∈ x0, G y) (R : RI k x0 xs ps zs S) (hi : i + 1 < zs.length)
    (q : ∀ ys ps' zs' g, RI k x0 ys ps' zs' S → zs'.length + 1 = zs.length → zs'.flatten.length = zs.flatten.length → Q true (SortSt.mk' kd ys ps' g none)) : wpS (model prog w) A E s (mergeAt' i) Q (SortSt.mk' kd xs ps g none) := by
  obtain ⟨z1, X, Y, z2, e, el⟩ : ∃ z1 X Y z2, zs = z1 ++ X :: Y :: z2 ∧ z1.length = i := by
    refine ⟨zs.take i, zs[i], zs[i + 1], zs.drop (i + 1 + 1), ?_, by rw [List.length_take]; omega⟩
    have e1 : zs.drop i = zs[i] :: zs.drop (i + 1) := List.drop_eq_getElem_cons (by omega)
    have e2 : zs.drop (i + 1) = zs[i + 1] :: zs.drop (i + 1 + 1) := List.drop_eq_getElem_cons hi
    rw [← e2, ← e1, List.take_append_drop]
  subst e
  obtain ⟨l1, l2, el1, hl1, m1, m2⟩ := R.told.split
  match l2, m2 with
  | [], m2 => exact m2.elim
  | [_], m2 => exact m2.2.2.2.elim
  | (a, n, p) :: (a2, n2, p2) :: l3, m2 =>
  obtain ⟨a1, a3, a4, b1, b3, b4, m3⟩ := m2
  rw [Nat.zero_add] at a1 b1
  subst a1 a3 b1 b3
  have hix : l1.length = i := by rw [hl1, el]
  have hp1 : ps[i]? = some (z1.flatten.length, X.length, p) := by
    rw [← Array.getElem?_toList, el1, ← hix, List.getElem?_append_right (Nat.le_refl _), Nat.sub_self]
    rfl
  have hp2 : ps[i + 1]? = some (z1.flatten.length + X.length, Y.length, p2) := by
    rw [← Array.getElem?_toList, el1, ← hix, List.getElem?_append_right (by omega), show l1.length + 1 - l1.length = 1 by omega]
    rfl
  have hcut : xs.toList = z1.flatten ++ X ++ (Y ++ (z2.flatten ++ S)) := by
    rw [R.cut]
    simp
  have uX : Up k X := R.up X (by simp)
  have uY : Up k Y := R.up Y (by simp)
  refine wps_mat hA hcut (fun y hy => hG y (R.perm.mem_iff.mp hy)) uX uY a4 b4 hp1 hp2 fun ys C g' e1 e2 e3 => ?_
  refine q ys _ (z1 ++ C :: z2) g' ⟨?_, ?_, ?_, ?_⟩ (by simp; omega) (by simp [e2.length_eq]; omega)
  · rw [e1]
    refine List.Perm.trans ?_ R.perm
    rw [hcut]
    refine (List.Perm.append_right _ (List.Perm.append_left _ e2)).trans ?_
    simp
  · rw [e1]
    simp
  · rw [Array.toList_eraseIdxIfInBounds, Array.toList_setIfInBounds, el1]
    have t1 : (l1 ++ (z1.flatten.length, X.length, p) :: (z1.flatten.length + X.length, Y.length, p2) :: l3).set i (z1.flatten.length, X.length + Y.length, p) = l1 ++ (z1.flatten.length, X.length + Y.length, p) :: (z1.flatten.length + X.length, Y.length, p2) :: l3 := by
      rw [List.set_append_right _ _ (by omega), show i - l1.length = 0 by omega]
      rfl
    rw [t1, List.eraseIdx_append_of_length_le (by omega), show i + 1 - l1.length = 1 by omega]
    refine m1.join ⟨by omega, by rw [e2.length_eq, List.length_append], by rw [e2.length_eq, List.length_append]; omega, ?_⟩
    rw [e2.length_eq, List.length_append, ← Nat.add_assoc]
    exact m3
  · intro z hz
    rcases List.mem_append.mp hz with hz | hz
    · exact R.up z (List.mem_append_left _ hz)
    · rcases List.mem_cons.mp hz with rfl | hz
      · exact e3
      · exact R.up z (List.mem_append_right _ (List.mem_cons_of_mem _ (List.mem_cons_of_mem _ hz)))
theorem cut_at {k : Keyed → Int} {x0 : List Keyed} {xs ys : Array Keyed} {ps : Array (Nat × Nat × Nat)} {zs : List (List Keyed)} {S : List Keyed} {n : Nat} (R : RI k x0 xs ps zs S) (K : Kp xs ys zs.flatten.length) (hn : zs.flatten.length + n ≤ ys.size) (hs : Srt k ys zs.flatten.length n) :
    ∃ Z S', RI k x0 ys ps zs (Z ++ S') ∧ Z.length = n ∧ Up k Z := by
  have hn' : zs.flatten.length + n ≤ ys.toList.length := hn
  have e1 : ys.toList.take zs.flatten.length = zs.flatten := by
    apply List.ext_getElem?
    intro i
    rw [List.getElem?_take]
    by_cases c : i < zs.flatten.length
    · rw [if_pos c, Array.getElem?_toList, K.low i c, ← Array.getElem?_toList, R.cut, List.getElem?_append_left c]
    · rw [if_neg c, List.getElem?_eq_none (by omega)]
  refine ⟨(ys.toList.drop zs.flatten.length).take n, ys.toList.drop (zs.flatten.length + n), ⟨(Array.perm_iff_toList_perm.mp K.perm).trans R.perm, ?_, R.told, R.up⟩, by rw [List.length_take, List.length_drop]; omega, ?_⟩
  · rw [← drop_cut]
    conv => lhs; rw [← List.take_append_drop zs.flatten.length ys.toList, e1]
  · refine List.pairwise_iff_getElem.mpr fun i j hi hj hij => ?_
    rw [List.length_take, List.length_drop] at hi hj
    have := hs i j (by omega) (by omega)
    rw [kA_some (arr_at (show zs.flatten.length + i < ys.toList.length by omega)), kA_some (arr_at (show zs.flatten.length + j < ys.toList.length by omega))] at this
    rw [List.getElem_take, List.getElem_take, List.getElem_drop, List.getElem_drop]
    exact this
theorem wps_sort (hA : Ans (model prog w) A E s kd k G) {x0 : Array Keyed} {g : Nat} {Q : Unit → SortSt → Prop} (hG : ∀ y ∈ x0.toList, G y)
    (q : ∀ ys ps g, ys.toList.Perm x0.toList → Up k ys.toList → Q () (SortSt.mk' kd ys ps g none)) : wpS (model prog w) A E s sortRuns' Q (SortSt.mk' kd x0 #[] g none) := by
  refine wpS_bind (wpS_get ?_)
  refine wpS_bind (wpS_mono (wpS_forRange (I := fun t c st => ∃ xs ps g zs S, st = SortSt.mk' kd xs ps g none ∧ c = (none, zs.flatten.length) ∧ RI k x0.toList xs ps zs S ∧ min t x0.toList.length ≤ zs.flatten.length)
    (Q := fun c st => ∃ xs ps g zs S lo, st = SortSt.mk' kd xs ps g none ∧ c = (none, lo) ∧ RI k x0.toList xs ps zs S ∧ x0.toList.length ≤ zs.flatten.length) ?step ?fin ⟨x0, #[], g, [], x0.toList, rfl, rfl, ⟨List.Perm.refl _, rfl, trivial, fun z hz => by cases hz⟩, Nat.zero_le _⟩) ?post)
  case fin =>
    rintro c st ⟨xs, ps, g, zs, S, rfl, rfl, R, h⟩
    refine ⟨xs, ps, g, zs, S, _, rfl, rfl, R, ?_⟩
    have : (arrOf (SortSt.mk' kd x0 #[] g none)).size = x0.toList.length := rfl
    have h2 : min (max 0 x0.toList.length) x0.toList.length ≤ zs.flatten.length := h
    omega
  case post =>
    rintro c st ⟨xs, ps, g, zs, S, lo, rfl, rfl, R, h⟩
    dsimp only
    have hl : xs.toList.length = x0.toList.length := R.perm.length_eq
    have hS : S = [] := by
      have := congrArg List.length R.cut
      rw [List.length_append] at this
      exact List.length_eq_zero_iff.mp (by omega)
    subst hS
    have hz : zs.length ≤ x0.toList.length := by
      have := R.told.size
      have := congrArg List.length R.cut
      rw [List.length_append, List.length_nil] at this
      omega
    refine wpS_bind (wpS_mono (wpS_forRange (I := fun t c st => ∃ xs ps g zs, st = SortSt.mk' kd xs ps g none ∧ c = (none, ()) ∧ RI k x0.toList xs ps zs [] ∧ (zs.length ≤ 1 ∨ zs.length + t ≤ x0.toList.length))
      (Q := fun c st => ∃ xs ps g zs, st = SortSt.mk' kd xs ps g none ∧ c = (none, ()) ∧ RI k x0.toList xs ps zs [] ∧ zs.length ≤ 1) ?_ ?_ ⟨xs, ps, g, zs, rfl, rfl, R, .inr (by omega)⟩) ?_)
    · clear R h hz hl
      rintro t c st _ ht ⟨xs, ps, g, zs, rfl, rfl, R, hor⟩
      refine wpS_bind (wpS_get ?_)
      dsimp only
      have hps : ps.size = zs.length := R.told.len
      by_cases c1 : ps.size ≤ 1
      · rw [if_pos c1]
        exact wpS_pure ⟨xs, ps, g, zs, rfl, rfl, R, by omega⟩
      rw [if_neg c1]
      have hpick : ∀ b : Bool, (if b = true then ps.size - 2 - 1 else ps.size - 2) + 1 < zs.length := by
        intro b
        split <;> omega
      refine wpS_bind (wps_matR hA hG R (hpick _) fun ys ps' zs' g' R' e1 e2 => ?_)
      exact wpS_pure ⟨ys, ps', g', zs', rfl, rfl, R', by omega⟩
    · rintro c st ⟨xs, ps, g, zs, rfl, rfl, R, hor⟩
      refine ⟨xs, ps, g, zs, rfl, rfl, R, ?_⟩
      rcases hor with h | h
      · exact h
      · have h2 : zs.length + max 0 x0.toList.length ≤ x0.toList.length := h
        omega
    · rintro c st ⟨xs, ps, g, zs, rfl, rfl, R, h1⟩
      refine wpS_pure (q xs ps g R.perm ?_)
      rw [R.cut, List.append_nil]
      match zs, h1, R.up with
      | [], _, _ => exact List.Pairwise.nil
      | [z], _, hu =>
        rw [List.flatten_cons, List.flatten_nil, List.append_nil]
        exact hu z (by simp)
      | _ :: _ :: _, h1, _ => simp at h1
  case step =>
    rintro t c st _ ht ⟨xs, ps, g, zs, S, rfl, rfl, R, hlo⟩
    have hl : xs.toList.length = x0.toList.length := R.perm.length_eq
    have ht' : t < x0.toList.length := ht
    dsimp only
    by_cases c1 : zs.flatten.length ≥ x0.size
    · rw [if_pos c1]
      exact wpS_pure ⟨xs, ps, g, zs, S, _, rfl, rfl, R, c1⟩
    rw [if_neg c1]
    have c1' : zs.flatten.length < x0.toList.length := by
      have : x0.size = x0.toList.length := rfl
      omega
    have hGx : ∀ y ∈ xs.toList, G y := fun y hy => hG y (R.perm.mem_iff.mp hy)
    have szx : xs.size = x0.size := hl
    refine wpS_bind (wps_run hA hGx (by omega) (by omega) fun m ys K hm1 hm2 hs => ?_)
    dsimp only
    -- behind the run, whatever made it
    have rest : ∀ (ys : Array Keyed) (n : Nat), Kp xs ys zs.flatten.length → 1 ≤ n → n ≤ x0.size - zs.flatten.length → Srt k ys zs.flatten.length n → ∃ Z S', RI k x0.toList ys ps zs (Z ++ S') ∧ Z.length = n ∧ Up k Z := fun ys n K h1 h2 hs => cut_at R K (by rw [K.size]; omega) hs
    have push : ∀ (ys : Array Keyed) (ps' : Array (Nat × Nat × Nat)) (zs' : List (List Keyed)) (Z S' : List Keyed), RI k x0.toList ys ps' zs' (Z ++ S') → zs'.flatten.length = zs.flatten.length → 0 < Z.length → Up k Z →
        RI k x0.toList ys (ps'.push (zs.flatten.length, Z.length, 0)) (zs' ++ [Z]) S' ∧ (zs' ++ [Z]).flatten.length = zs.flatten.length + Z.length := by
      intro ys ps' zs' Z S' R' e h0 hu
      refine ⟨⟨R'.perm, by rw [R'.cut]; simp, ?_, fun z hz => ?_⟩, by simp [e]⟩
      · rw [Array.toList_push]
        exact R'.told.join ⟨by rw [e]; omega, rfl, h0, trivial⟩
      · rcases List.mem_append.mp hz with hz | hz
        · exact R'.up z hz
        · obtain rfl := List.mem_singleton.mp hz
          exact hu
    by_cases c2 : m < minRun' x0.size x0.size 0
    all_goals first
      | rw [if_pos (show m < (sortPriv% PySem.Builtin.minRun) x0.size x0.size 0 from c2)]
        refine wpS_bind (wpS_lift (wpAny_rule ⟨rfl, ?_⟩))
        refine wpS_bind (wps_ins hA (n := min (x0.size - zs.flatten.length) (minRun' x0.size x0.size 0)) (K.mem hGx) (by rw [K.size]; omega) (by omega) hs fun vs K2 hs2 => ?_)
        simp only [Bool.not_true, Bool.false_eq_true, if_false]
        obtain ⟨Z, S', R2, hZ, uZ⟩ := rest vs _ (K.trans K2) (by omega) (by omega) hs2
        have hZ0 : 0 < Z.length := by omega
        have hfold : min (x0.size - zs.flatten.length) ((sortPriv% PySem.Builtin.minRun) x0.size x0.size 0) = Z.length := hZ.symm
        rw [hfold]
      | rw [if_neg (show ¬ m < (sortPriv% PySem.Builtin.minRun) x0.size x0.size 0 from c2)]
        obtain ⟨Z, S', R2, hZ, uZ⟩ := rest ys m K hm1 hm2 hs
        have hZ0 : 0 < Z.length := by omega
        rw [← hZ]
    all_goals
      refine wpS_bind (wpS_get ?_)
      dsimp only
      cases hb : ps.back? with
      | none =>
        dsimp only
        have := push _ ps zs Z S' R2 rfl hZ0 uZ
        exact wpS_bind (wpS_modify (wpS_pure ⟨_, _, _, zs ++ [Z], S', rfl, by rw [this.2], this.1, by rw [this.2]; omega⟩))
      | some x =>
        obtain ⟨s1, n1, u1⟩ := x
        dsimp only
        refine wpS_bind (wpS_mono (wpS_forRange (I := fun t c st => ∃ vs ps' g zs', st = SortSt.mk' kd vs ps' g none ∧ c = (none, ()) ∧ RI k x0.toList vs ps' zs' (Z ++ S') ∧ zs'.flatten.length = zs.flatten.length)
          (Q := fun c st => ∃ vs ps' g zs', st = SortSt.mk' kd vs ps' g none ∧ c = (none, ()) ∧ RI k x0.toList vs ps' zs' (Z ++ S') ∧ zs'.flatten.length = zs.flatten.length) ?_ (fun _ _ h => h) ⟨_, ps, g, zs, rfl, rfl, R2, rfl⟩) ?_)
        · rintro t' c st _ _ ⟨vs, ps', g', zs', rfl, rfl, R3, e3⟩
          refine wpS_bind (wpS_get ?_)
          dsimp only
          have hps : ps'.size = zs'.length := R3.told.len
          by_cases c5 : ps'.size > 1
          · rw [if_pos c5]
            cases hg : ps'[ps'.size - 2]? with
            | none =>
              dsimp only
              exact wpS_pure ⟨vs, ps', g', zs', rfl, rfl, R3, e3⟩
            | some y =>
              obtain ⟨f1, f2, older⟩ := y
              dsimp only
              split
              · exact wpS_pure ⟨vs, ps', g', zs', rfl, rfl, R3, e3⟩
              · refine wpS_bind (wps_matR hA hG R3 (by omega) fun us ps'' zs'' g'' R4 e1 e2 => ?_)
                exact wpS_pure ⟨us, ps'', g'', zs'', rfl, rfl, R4, by omega⟩
          · rw [if_neg c5]
            dsimp only
            exact wpS_pure ⟨vs, ps', g', zs', rfl, rfl, R3, e3⟩
        · rintro c st ⟨vs, ps', g', zs', rfl, rfl, R3, e3⟩
          dsimp only
          refine wpS_bind (wpS_modify ?_)
          refine wpS_bind (wpS_modify (wpS_pure ?_))
          have R4 : ∀ pw, RI k x0.toList vs (ps'.modify (ps'.size - 1) fun x => match x with | (a, n, _) => (a, n, pw)) zs' (Z ++ S') := fun pw => ⟨R3.perm, R3.cut, by rw [Array.toList_modify]; exact R3.told.mod pw _, R3.up⟩
          have push2 := fun pw => push vs _ zs' Z S' (R4 pw) e3 hZ0 uZ
          exact ⟨_, _, _, zs' ++ [Z], S', rfl, by rw [(push2 0).2], (push2 _).1, by rw [(push2 0).2]; omega⟩
end
end L2
namespace L2
open PySem PyProof.Rows
theorem pairs_list (vs : List Value) : (pairsOf vs).toList = vs.map fun v => (v, v) := by
  show (vs.toArray.zip vs.toArray).toList = _
  rw [Array.toList_zip]
  show vs.zip vs = _
  induction vs with
  | nil => rfl
  | cons v vs ih => rw [List.zip_cons_cons, List.map_cons, ih]
theorem unpair {k : Keyed → Int} {vs : List Value} {ys : List Keyed} (hp : ys.Perm (pairsOf vs).toList) (hu : Up k ys) : (ys.map (·.2)).Perm vs ∧ (ys.map (·.2)).Pairwise fun u v => k (u, u) ≤ k (v, v) := by
  rw [pairs_list] at hp
  have hm : ∀ y ∈ ys, y = (y.2, y.2) := by
    intro y hy
    obtain ⟨v, _, rfl⟩ := List.mem_map.mp (hp.mem_iff.mp hy)
    rfl
  refine ⟨?_, ?_⟩
  · have := hp.map (·.2)
    rw [List.map_map] at this
    have e : ((fun x : Keyed => x.2) ∘ fun v : Value => (v, v)) = id := rfl
    rwa [e, List.map_id] at this
  · rw [List.pairwise_map]
    refine List.Pairwise.imp_of_mem (fun {x y} hx hy h => ?_) hu
    have e1 := hm x hx
    have e2 := hm y hy
    rw [← e1, ← e2]
    exact h
section
variable {prog : Program} {w : World} {A : Around} {E : Value → Shared → Prop} {s : Shared} {kd : SortKind} {k : Keyed → Int} {G : Keyed → Prop}
noncomputable def Heep (a : Addr) (h h' : Heap) : Prop := ∀ b o, b ≠ a → h.get? b = some o → h'.get? b = some o
theorem sort_any {a : Addr} {vs : List Value} {n : Nat} {P : PySem.Fin → Shared → Prop} (ho : s.heap.get? a = some (seqObj "list" vs.toArray n)) (hz : vs.length ≤ 1000000)
    (hA : ∀ h', Heep a s.heap h' → Ans (model prog w) A E { s with heap := h' } kd k G)
    (hK : ∀ h' (Q : SortKind → Shared → Prop), Heep a s.heap h' → 2 ≤ vs.length → Q kd { s with heap := h' } → wpAny (model prog w) A (keyKind' vs.toArray) Q E { s with heap := h' })
    (hG : ∀ v ∈ vs, G (v, v))
    (h : ∀ out : List Value, out.Perm vs → (out.Pairwise fun u v => k (u, u) ≤ k (v, v)) → P (.done (.ret .none)) { s with heap := sortedHeap s.heap a vs out.toArray }) :
    wpAny (model prog w) A (Builtin.«list.sort» ⟨[.ref a], []⟩) P E s := by
  have hlt : a < s.heap.objs.size := Heap.lt_size ho
  have hsl : vs.length ≤ sizeLine := Nat.le_trans hz (by decide)
  rw [list_sort_plain]
  refine wpAny_bind (listItems_at ho rfl (wpAny_bind (listUpdate_at ho rfl ?_ (by rw [List.size_toArray]; exact hsl) (Nat.zero_le _))))
  have hoe := get?_update_seq ho fun _ => (#[] : Array Value)
  have hke : Heep a s.heap (s.heap.update a (Obj.mapSeq fun _ => (#[] : Array Value))) := fun b o hb e => by rw [Heap.get?_update_ne _ _ _ _ hb]; exact e
  generalize hnn : (if (#[] : Array Value).size == vs.toArray.size then n else n + 1) = ne at hoe
  refine wpAny_bind (seqEpoch_at hoe rfl (wpAny_bind (wpAny_newTuple ?_ (by show vs.length ≤ _; exact hsl))))
  refine wpAny_bind (wpAny_newList ?_ (Nat.zero_le _))
  refine wpAny_holding ?_
  have hsize : (s.heap.update a (Obj.mapSeq fun _ => (#[] : Array Value))).objs.size = s.heap.objs.size := Heap.size_update ..
  have hkp : ∀ b o, (s.heap.update a (Obj.mapSeq fun _ => (#[] : Array Value))).get? b = some o → (((s.heap.update a (Obj.mapSeq fun _ => (#[] : Array Value))).push (seqObj "tuple" vs.toArray 0)).push (seqObj "list" #[] 0)).get? b = some o :=
    fun b o e => Heap.get?_push_of_some _ (Heap.get?_push_of_some _ e)
  have hoz := hkp _ _ hoe
  have hkz : Heep a s.heap (((s.heap.update a (Obj.mapSeq fun _ => (#[] : Array Value))).push (seqObj "tuple" vs.toArray 0)).push (seqObj "list" #[] 0)) := fun b o hb e => hkp _ _ (hke b o hb e)
  generalize hhh : (((s.heap.update a (Obj.mapSeq fun _ => (#[] : Array Value))).push (seqObj "tuple" vs.toArray 0)).push (seqObj "list" #[] 0)) = hp at hoz hkz
  have hlast : ∀ out : List Value, { s with heap := sortedHeap s.heap a vs out.toArray } = { s with heap := hp.update a (Obj.mapSeq fun _ => out.toArray) } := fun out => by rw [← hhh]; rfl
  show wpAny (model prog w) A _ P E { s with heap := hp }
  dsimp only
  -- behind the sort
  have behind : ∀ ys : Array Keyed, ys.toList.Perm (pairsOf vs).toList → Up k ys.toList → P (.done (.ret .none)) { s with heap := hp.update a (Obj.mapSeq fun _ => ys.map (·.2)) } ∧ (ys.map (·.2)).size ≤ sizeLine + 1 := by
    intro ys p1 p2
    have := unpair p1 p2
    have r := h _ this.1 this.2
    rw [hlast] at r
    have e : (ys.toList.map (·.2)).toArray = ys.map (·.2) := by rw [← Array.toList_map]
    rw [e] at r
    refine ⟨r, ?_⟩
    have := this.1.length_eq
    rw [List.length_map] at this
    rw [Array.size_map]
    show ys.toList.length ≤ _
    omega
  by_cases h2 : vs.toArray.size < 2
  · rw [if_pos h2, if_pos h2]
    refine wpAny_bind (wpAny_pure ?_)
    rw [StateT.run_pure]
    refine wpAny_bind (wpAny_pure ?_)
    dsimp only
    have bb := behind (pairsOf vs) (List.Perm.refl _) (by
      rw [pairs_list]
      refine List.pairwise_iff_getElem.mpr fun i j hi hj hij => ?_
      rw [List.size_toArray] at h2
      rw [List.length_map] at hj
      omega)
    refine wpAny_bind (seqEpoch_at hoz rfl (wpAny_bind (listUpdate_at hoz rfl ?_ (Nat.zero_le _) bb.2)))
    simp only [bne_self_eq_false, Bool.false_eq_true, if_false]
    exact wpAny_pure bb.1
  · rw [if_neg h2, if_neg h2]
    rw [List.size_toArray] at h2
    refine wpAny_bind (hK _ _ hkz (by omega) ?_)
    have run := wps_sort (hA _ hkz) (x0 := pairsOf vs) (g := 7) (Q := fun _ st => failedOf st = none ∧ (arrOf st).toList.Perm (pairsOf vs).toList ∧ Up k (arrOf st).toList) (fun y hy => by
      rw [pairs_list] at hy
      obtain ⟨v, hv, rfl⟩ := List.mem_map.mp hy
      exact hG v hv) fun ys ps g p1 p2 => ⟨rfl, p1, p2⟩
    refine wpAny_bind (wpAny_mono run ?_ fun _ _ e => e)
    rintro ⟨⟨⟩, st⟩ s' ⟨rfl, f1, p1, p2⟩
    dsimp only
    have bb := behind (arrOf st) p1 p2
    refine wpAny_bind (seqEpoch_at hoz rfl (wpAny_bind (listUpdate_at hoz rfl ?_ (Nat.zero_le _) bb.2)))
    rw [f1]
    simp only [bne_self_eq_false, Bool.false_eq_true, if_false]
    exact wpAny_pure bb.1
theorem sorted_of {h' : Heap} {tk : Nat} {vs : List Value} {P : PySem.Fin → Shared → Prop} (hz : vs.length ≤ 1000000)
    (hA : ∀ h2, (∀ b o, h'.get? b = some o → h2.get? b = some o) → Ans (model prog w) A E { s with heap := h2, toks := tk } kd k G)
    (hK : ∀ h2 (Q : SortKind → Shared → Prop), (∀ b o, h'.get? b = some o → h2.get? b = some o) → 2 ≤ vs.length → Q kd { s with heap := h2, toks := tk } → wpAny (model prog w) A (keyKind' vs.toArray) Q E { s with heap := h2, toks := tk })
    (hG : ∀ v ∈ vs, G (v, v))
    (h : ∀ (out : List Value) (h2 : Heap), out.Perm vs → (out.Pairwise fun u v => k (u, u) ≤ k (v, v)) → (∀ b o, h'.get? b = some o → h2.get? b = some o) → (∃ e, h2.get? h'.objs.size = some (seqObj "list" out.toArray e)) → P (.done (.ret .none)) { s with heap := h2, toks := tk }) :
    wpAny (model prog w) A (Builtin.«list.sort» ⟨[.ref h'.objs.size], []⟩) P E { s with heap := h'.push (seqObj "list" vs.toArray 0), toks := tk } := by
  have ho : (h'.push (seqObj "list" vs.toArray 0)).get? h'.objs.size = some (seqObj "list" vs.toArray 0) := Heap.get?_push_size _ rfl
  have old : ∀ b o, h'.get? b = some o → (h'.push (seqObj "list" vs.toArray 0)).get? b = some o := fun b o e => Heap.get?_push_of_some _ e
  have ne : ∀ b o, h'.get? b = some o → b ≠ h'.objs.size := fun b o e => Nat.ne_of_lt (Heap.lt_size e)
  refine sort_any (s := { s with heap := h'.push (seqObj "list" vs.toArray 0), toks := tk }) ho hz (fun h2 k2 => hA h2 fun b o e => k2 b o (ne b o e) (old b o e)) (fun h2 Q k2 l2 q2 => hK h2 Q (fun b o e => k2 b o (ne b o e) (old b o e)) l2 q2) hG fun out p1 p2 => ?_
  exact h out _ p1 p2 (fun b o e => by
    rw [sortedHeap_old (ne b o e) (by rw [size_push']; exact Nat.lt_succ_of_lt (Heap.lt_size e))]
    exact old b o e) (sortedHeap_at (out := out.toArray) ho)
end
section
variable {prog : Program} {w : World} {A : Around} {E : Value → Shared → Prop} {s : Shared}
noncomputable def kInt (x : Keyed) : Int := numOf x.1
noncomputable def gInt (x : Keyed) : Prop := ∃ n t, x.1 = .int n t
theorem ans_int : Ans (model prog w) A E s oneType' kInt gInt := by
  rintro ⟨x, x2⟩ ⟨y, y2⟩ st Q ⟨n, t, hx⟩ ⟨m, u, hy⟩ hk q
  dsimp only at hx hy
  subst hx hy
  rw [lt'_eq]
  refine wpS_bind (wpS_get ?_)
  rw [hk, keyLt'_oneType]
  exact wpS_bind (wpS_lift (wpAny_attempt (oneLt_int ⟨rfl, wpS_pure q⟩)))
theorem kind_int {vs : List Value} {ns : List Int} (hI : IntsAre vs ns) (h2 : 2 ≤ vs.length) {Q : SortKind → Shared → Prop} (q : Q oneType' s) : wpAny (model prog w) A (keyKind' vs.toArray) Q E s := by
  match vs, h2, hI with
  | v :: v2 :: r, _, hI =>
    rw [keyKind_ints hI]
    exact wpAny_pure q
theorem ints_of_perm : ∀ {out vs : List Value} {ns : List Int}, IntsAre vs ns → out.Perm vs → IntsAre out (out.map numOf) ∧ (out.map numOf).Perm ns := by
  intro out vs ns hI hp
  have hn : ns = vs.map numOf := by
    clear hp
    induction hI with
    | nil => rfl
    | cons n t h ih => rw [List.map_cons, ← ih]; rfl
  have hall : ∀ v ∈ vs, ∃ n t, v = Value.int n t := by
    clear hp hn
    induction hI with
    | nil => intro v hv; cases hv
    | cons n t h ih =>
      intro v hv
      rcases List.mem_cons.mp hv with rfl | hv
      · exact ⟨n, t, rfl⟩
      · exact ih v hv
  refine ⟨?_, by rw [hn]; exact hp.map _⟩
  have hall2 : ∀ v ∈ out, ∃ n t, v = Value.int n t := fun v hv => hall v (hp.mem_iff.mp hv)
  clear hp
  induction out with
  | nil => exact .nil
  | cons v out ih =>
    obtain ⟨n, t, rfl⟩ := hall2 v (List.mem_cons_self ..)
    exact .cons n t (ih fun v hv => hall2 v (List.mem_cons_of_mem _ hv))
theorem ints_good {vs : List Value} {ns : List Int} (hI : IntsAre vs ns) : ∀ v ∈ vs, gInt (v, v) := by
  induction hI with
  | nil => intro v hv; cases hv
  | cons n t h ih =>
    intro v hv
    rcases List.mem_cons.mp hv with rfl | hv
    · exact ⟨n, t, rfl⟩
    · exact ih v hv
end
section
variable {prog : Program} {w : World} {A : Around} {E : Value → Shared → Prop} {s : Shared}
end
end L2
namespace L2
open PySem PySem.Spec PyProof.Rows
section
variable {X : Cx}
theorem call_sortedDB (hc : X.calm = true) : CallR X (.builtin "sorted") (fun xs H Q => ∃ (a : Addr) (kvs : List (Key × V)) (ns : List Int), xs = [.ref a] ∧ H a = some (.dK kvs) ∧ (kvs.map fun kv => kV kv.1) = ns.map V.int ∧ ns.length ≤ 1000000 ∧ ∀ (l : Addr) (ns' : List Int), H l = none → ns'.Perm ns → ns'.Pairwise (· ≤ ·) → Q (.ref l) (upd H l (.lst (ns'.map V.int)))) := by
  intro pins s σ H xs us Q I r h
  obtain ⟨a, kvs, ns, rfl, ha, hks, h64, q⟩ := h
  obtain ⟨u, rfl, rx⟩ := vals1 r
  cases rx
  obtain ⟨hz, hd, vs, rel, dd⟩ := dk_of I.hok ha
  obtain ⟨ep, dd⟩ := dd.dictAt
  have hl := rel.length
  have hln : kvs.length = ns.length := by
    have := congrArg List.length hks
    rw [List.length_map, List.length_map] at this
    exact this
  have hh : X.A.in1.handled = none := I.ok.hd hc
  refine Calls.call_function_entry kind_sorted plain_sorted entry_sorted (args_sorted1 _) ?_
  unfold Builtin.«sorted»
  refine wpAny_bind (m := checkCount "sorted" 1 1 _) (wpAny_pure ?_)
  refine wpAny_bind (PySem.collect_src (PySem.W.kdl_dict (knd := mixKind X.prog X.w) (kvs := vs) (ep := ep) hd) hh dd (by rw [← hl, hln]; exact Nat.le_trans h64 (by decide)) fun h' tk acc kp hacc => ?_)
  have I1 : Inv X pins σ H { s with heap := h', toks := tk } := I.kept (t' := tk) kp
  have rv : Vals (ns.map V.int) acc.toList := by
    rw [← hks]
    refine pairedGet (by have := hacc.1; simp only [List.length_map, Array.length_toList]; omega) fun i x y e1 e2 => ?_
    obtain ⟨k, z, ek, hk⟩ := hacc.2 i y (by rw [← Array.getElem?_toList]; exact e2)
    have e3 : (kvs.map (·.1))[i]? = some k := by rw [rel.keys, List.getElem?_map, ek]; rfl
    rw [List.getElem?_map] at e1 e3
    cases eq : kvs[i]? with
    | none => rw [eq] at e3; cases e3
    | some kv =>
      rw [eq] at e1 e3
      cases e1
      cases e3
      exact relKey hk
  have hI := intsAre_of rv
  have hal : acc.toList.length = ns.length := by rw [← rv.length, List.length_map]
  have hil : acc.toList.length ≤ sizeLine := by rw [hal]; exact Nat.le_trans h64 (by decide)
  refine wpAny_bind (wpAny_newList ?_ hil)
  show wpAny _ _ _ _ _ { s with heap := h'.push (seqObj "list" acc.toList.toArray 0), toks := tk }
  refine wpAny_bind (wpAny_holding (wpAny_call_entry slot_list_sort ⟨_, Heap.get?_push_size _ rfl, rfl⟩ entry_list_sort (sorted_of (s := s) (kd := oneType') (k := kInt) (G := gInt) (tk := tk) (by omega) (fun h2 _ => ans_int) (fun h2 Q _ l2 q2 => kind_int hI l2 q2) (ints_good hI) fun out h2 p1 p2 k2 e2 => ⟨_, rfl, ?_⟩) (args_list_sort _)))
  refine wpAny_pure ⟨_, rfl, ?_⟩
  obtain ⟨i1, i2⟩ := ints_of_perm hI p1
  obtain ⟨e, he⟩ := e2
  refine ⟨.ref h'.objs.size, _, I1.laid (t' := tk) (fun b o x => k2 b o x) (Nat.le_refl _) (show ObjOk X.prog X.w _ _ _ (.lst ((out.map numOf).map V.int)) from ⟨?_, out, e, vals_of_ints i1, he⟩), rfl, q _ (out.map numOf) (I1.hok.fresh (Nat.le_refl _)) i2 ?_⟩
  · rw [List.length_map, List.length_map, p1.length_eq]; exact hil
  · rw [List.pairwise_map]; exact p2
end
end L2
namespace L2
open PySem PySem.Spec PyProof.Rows
section
variable {X : Cx}
end
end L2
namespace L2
open PySem PySem.Spec PyProof.Rows
section
variable {X : Cx}
end
end L2
namespace L2
open PySem PySem.Spec PyProof.Rows
section
variable {X : Cx}
end
end L2
namespace L2
open PySem PySem.Spec PyProof.Rows
section
variable {X : Cx}
end
end L2
set_option maxHeartbeats 4000000
namespace Lw
open PySem L2
structure PB (X : Cx) (es : List Expr) (t : TA) : Prop where
  go : PA X es t
theorem pb_nil {X : Cx} : PB X [] tNil := ⟨pa_nil⟩
theorem pb_cons {X : Cx} {e : Expr} {es : List Expr} {te : TE} {t : TA} (ha : PE X e te) (hr : PB X es t) (hs : starEach (e :: es) X.env = (false, eval e X.env) :: starEach es X.env := by rfl) : PB X (e :: es) (tCons te t) := ⟨pa_cons ha hr.go hs⟩
noncomputable def top (i : Nat) : Stmt := PySem.Challenge.pw_bitdraws_k14_whole_shares_of_plans.main.body.getD i (.Pass ⟨0, 0, 0, 0⟩)
noncomputable abbrev s_common_divisor : Stmt := top 4
noncomputable abbrev p_common_divisor : List Str := ["one", "other"]
theorem sc_common_divisor : FnScope ["one", "other", "great", "small", "rest"] ["one", "other"] (defScope s_common_divisor) := ⟨rfl, rfl, rfl, by decide +kernel, rfl, by decide +kernel, by decide +kernel⟩
noncomputable abbrev s_fraction : Stmt := top 5
noncomputable abbrev p_fraction : List Str := ["upper", "lower"]
theorem sc_fraction : FnScope ["upper", "lower", "divisor"] ["upper", "lower"] (defScope s_fraction) := ⟨rfl, rfl, rfl, by decide +kernel, rfl, by decide +kernel, by decide +kernel⟩
noncomputable abbrev s_ends_of : Stmt := top 8
noncomputable abbrev p_ends_of : List Str := ["plan", "depth"]
theorem sc_ends_of : FnScope ["plan", "depth"] ["plan", "depth"] (defScope s_ends_of) := ⟨rfl, rfl, rfl, by decide +kernel, rfl, by decide +kernel, by decide +kernel⟩
noncomputable abbrev s_deep : Stmt := top 9
noncomputable abbrev p_deep : List Str := ["plan"]
theorem sc_deep : FnScope ["plan"] ["plan"] (defScope s_deep) := ⟨rfl, rfl, rfl, by decide +kernel, rfl, by decide +kernel, by decide +kernel⟩
noncomputable abbrev s_numbered_ends : Stmt := top 10
noncomputable abbrev p_numbered_ends : List Str := ["plan"]
theorem sc_numbered_ends : FnScope ["plan", "ends"] ["plan"] (defScope s_numbered_ends) := ⟨rfl, rfl, rfl, by decide +kernel, rfl, by decide +kernel, by decide +kernel⟩
noncomputable abbrev s_rows_to : Stmt := top 11
noncomputable abbrev p_rows_to : List Str := ["depth", "deepest"]
theorem sc_rows_to : FnScope ["depth", "deepest"] ["depth", "deepest"] (defScope s_rows_to) := ⟨rfl, rfl, rfl, by decide +kernel, rfl, by decide +kernel, by decide +kernel⟩
noncomputable abbrev s_shares_of : Stmt := top 12
noncomputable abbrev p_shares_of : List Str := ["plan"]
theorem sc_shares_of : FnScope ["plan", "deepest", "rows", "depth", "number", "total"] ["plan"] (defScope s_shares_of) := ⟨rfl, rfl, rfl, by decide +kernel, rfl, by decide +kernel, by decide +kernel⟩
noncomputable abbrev s_mean_of : Stmt := top 13
noncomputable abbrev p_mean_of : List Str := ["plan"]
theorem sc_mean_of : FnScope ["plan", "deepest", "ending", "taken"] ["plan"] (defScope s_mean_of) := ⟨rfl, rfl, rfl, by decide +kernel, rfl, by decide +kernel, by decide +kernel⟩
noncomputable abbrev s__law_same : Stmt := top 15
noncomputable abbrev p__law_same : List Str := ["_law_got", "_law_due_here"]
theorem sc__law_same : FnScope ["_law_got", "_law_due_here"] ["_law_got", "_law_due_here"] (defScope s__law_same) := ⟨rfl, rfl, rfl, by decide +kernel, rfl, by decide +kernel, by decide +kernel⟩
noncomputable abbrev s__law_draw : Stmt := top 16
noncomputable abbrev p__law_draw : List Str := ["_law_script", "_law_town", "_law_many"]
theorem sc__law_draw : FnScope ["_law_script", "_law_town", "_law_many", "_law_k", "_law_cell", "_law_number", "_law_more"] ["_law_script", "_law_town", "_law_many"] (defScope s__law_draw) := ⟨rfl, rfl, rfl, by decide +kernel, rfl, by decide +kernel, by decide +kernel⟩
noncomputable abbrev s__law_one : Stmt := top 17
noncomputable abbrev p__law_one : List Str := ["_law_script", "_law_town", "_law_some"]
theorem sc__law_one : FnScope ["_law_script", "_law_town", "_law_some"] ["_law_script", "_law_town", "_law_some"] (defScope s__law_one) := ⟨rfl, rfl, rfl, by decide +kernel, rfl, by decide +kernel, by decide +kernel⟩
noncomputable abbrev s__law_frac : Stmt := top 18
noncomputable abbrev p__law_frac : List Str := ["_law_upper", "_law_lower"]
theorem sc__law_frac : FnScope ["_law_upper", "_law_lower", "_law_one_here", "_law_other"] ["_law_upper", "_law_lower"] (defScope s__law_frac) := ⟨rfl, rfl, rfl, by decide +kernel, rfl, by decide +kernel, by decide +kernel⟩
noncomputable abbrev s__law_plus : Stmt := top 19
noncomputable abbrev p__law_plus : List Str := ["_law_one_here", "_law_other"]
theorem sc__law_plus : FnScope ["_law_one_here", "_law_other"] ["_law_one_here", "_law_other"] (defScope s__law_plus) := ⟨rfl, rfl, rfl, by decide +kernel, rfl, by decide +kernel, by decide +kernel⟩
noncomputable abbrev s__law_plan : Stmt := top 20
noncomputable abbrev p__law_plan : List Str := ["_law_script", "_law_town", "_law_left"]
theorem sc__law_plan : FnScope ["_law_script", "_law_town", "_law_left", "_law_kind"] ["_law_script", "_law_town", "_law_left"] (defScope s__law_plan) := ⟨rfl, rfl, rfl, by decide +kernel, rfl, by decide +kernel, by decide +kernel⟩
noncomputable abbrev s__law_ends : Stmt := top 21
noncomputable abbrev p__law_ends : List Str := ["_law_plan_here", "_law_size", "_law_high"]
theorem sc__law_ends : FnScope ["_law_plan_here", "_law_size", "_law_high"] ["_law_plan_here", "_law_size", "_law_high"] (defScope s__law_ends) := ⟨rfl, rfl, rfl, by decide +kernel, rfl, by decide +kernel, by decide +kernel⟩
noncomputable abbrev s__law_told : Stmt := top 22
noncomputable abbrev p__law_told : List Str := ["_law_made"]
theorem sc__law_told : FnScope ["_law_made", "_law_shares", "_law_mean"] ["_law_made"] (defScope s__law_told) := ⟨rfl, rfl, rfl, by decide +kernel, rfl, by decide +kernel, by decide +kernel⟩
noncomputable abbrev s__law_due : Stmt := top 23
noncomputable abbrev p__law_due : List Str := ["_law_made"]
theorem sc__law_due : FnScope ["_law_made", "_law_ends_here", "_law_wide", "_law_whole", "_law_numbers", "_law_rows", "_law_one_here", "_law_part"] ["_law_made"] (defScope s__law_due) := ⟨rfl, rfl, rfl, by decide +kernel, rfl, by decide +kernel, by decide +kernel⟩
noncomputable abbrev s_law : Stmt := top 24
noncomputable abbrev p_law : List Str := ["_law_script"]
theorem sc_law : FnScope ["_law_script", "_law_town", "_law_k", "_law_made", "_law_due_here", "_law_total", "_law_number", "_law_share", "_law_other", "_law_both"] ["_law_script"] (defScope s_law) := ⟨rfl, rfl, rfl, by decide +kernel, rfl, by decide +kernel, by decide +kernel⟩
theorem nd_1 : (["_law_got", "_law_due_here", "_law_one_here", "_law_other"] : List Str).Nodup := by decide +kernel
theorem nd_2 : (["plan", "ends", "depth", "end"] : List Str).Nodup := by decide +kernel
theorem nd_3 : (["plan", "depth", "end"] : List Str).Nodup := by decide +kernel
theorem nd_4 : (["plan", "deepest", "rows", "depth", "number", "total"] : List Str).Nodup := by decide +kernel
theorem nd_5 : (["plan", "deepest", "ending", "taken", "depth", "number"] : List Str).Nodup := by decide +kernel
theorem nd_6 : (["plan", "deepest", "ending", "taken", "depth", "end"] : List Str).Nodup := by decide +kernel
theorem nd_7 : (["_law_made", "_law_ends_here", "_law_wide", "_law_whole", "_law_numbers", "_law_rows", "_law_one_here", "_law_part", "_law_number", "_law_size", "_law_high"] : List Str).Nodup := by decide +kernel
theorem nd_8 : (["_law_made", "_law_ends_here", "_law_wide", "_law_whole", "_law_numbers", "_law_rows", "_law_one_here", "_law_part", "_law_number", "_law_size", "_law_high"] : List Str).Nodup := by decide +kernel
theorem nd_9 : (["_law_made", "_law_ends_here", "_law_wide", "_law_whole", "_law_numbers", "_law_rows", "_law_one_here", "_law_part", "_law_number", "_law_size", "_law_high"] : List Str).Nodup := by decide +kernel
theorem nd_10 : (["_law_made", "_law_ends_here", "_law_wide", "_law_whole", "_law_numbers", "_law_rows", "_law_one_here", "_law_part", "_law_number", "_law_size", "_law_high"] : List Str).Nodup := by decide +kernel
theorem nd_11 : (["_law_made", "_law_ends_here", "_law_wide", "_law_whole", "_law_numbers", "_law_rows", "_law_one_here", "_law_part", "_law_number", "_law_size", "_law_high"] : List Str).Nodup := by decide +kernel
theorem nd_12 : (["_law_script", "_law_town", "_law_k", "_law_made", "_law_due_here", "_law_total", "_law_number", "_law_share", "_law_other", "_law_both", "_law_size", "_law_high"] : List Str).Nodup := by decide +kernel
structure Bl (mg : Str → Option Value) : Prop where
  abs_ : mg "abs" = none
  all_ : mg "all" = none
  bool_ : mg "bool" = none
  dict_ : mg "dict" = none
  int_ : mg "int" = none
  isinstance_ : mg "isinstance" = none
  len_ : mg "len" = none
  max_ : mg "max" = none
  range_ : mg "range" = none
  sorted_ : mg "sorted" = none
  str_ : mg "str" = none
  sum_ : mg "sum" = none
  tuple_ : mg "tuple" = none
  zip_ : mg "zip" = none
structure Cn (K : PySem.W.Frag) (mg : Str → Option Value) : Prop where
  AGAIN : ∃ g, mg "AGAIN" = some (.ref g) ∧ ∀ H, SqT K H g [.str "again"]
theorem cell_at {ns : List Int} (h : ns ≠ []) (k : Nat) : atI (ns.map V.int) ((k : Int) % ((ns.map V.int).length : Int)) = some (.int (lcell ns k)) := by
  have hp : 0 < ns.length := List.length_pos_iff.mpr h
  have e : ((k : Int) % ((ns.map V.int).length : Int)) = (((k % ns.length : Nat)) : Int) := by rw [List.length_map]; omega
  have hk : k % ns.length < ns.length := Nat.mod_lt _ hp
  rw [e]
  refine atI_nat ?_
  rw [List.getElem?_map, List.getElem?_eq_getElem hk]
  unfold lcell
  rw [if_neg h, List.getD_eq_getElem?_getD, List.getElem?_eq_getElem hk]
  rfl
theorem emod_bd (i : Int) {m : Int} (h : 0 < m) (h2 : m < 18446744073709551616) : -(2 ^ 64) < i % m ∧ i % m < 2 ^ 64 := by
  have a := Int.emod_nonneg i (show m ≠ 0 by omega)
  have b := Int.emod_lt_of_pos i h
  exact ⟨by omega, by omega⟩
section
variable {P : Program} {w : World} {K : PySem.W.Frag} {mg : Str → Option Value} {base : Heap} {f : Addr} {fd : FuncData}
theorem ok__law_draw (F__law_draw : Fun K "_law_draw" "_law_draw" s__law_draw f fd) (B : Bl mg) : FnOk P w K mg base CX0 1 f fd p__law_draw (spDraw K) := by
  refine F__law_draw.ok sc__law_draw (fun vs H Q E h => ?_) (fun cdv A outer s H vs Q E hr h => ?_)
  · obtain ⟨a, t, ns, k, m, rfl, _⟩ := h
    rfl
  obtain ⟨a, t, ns, k, m, rfl, hS, h63, hT, hk, hm, q⟩ := h
  refine ⟨_, (pss_cons (ps_expr (pe_bm PySem.F.plainAttrs_list PySem.F.slot_list_append PySem.F.type_list_append mt_append (pv 1) (pa_cons pe_int pa_nil)))
      (pss_cons (ps_set (i := 3) sc__law_draw.nd rfl (Or.inl rfl) (pe_callB call_len_seq rfl B.len_ L3.bt_len (pa_cons (pv 1) pa_nil)))
      (pss_cons (ps_set (i := 4) sc__law_draw.nd rfl (Or.inl rfl) pe_int)
      (pss_cons (ps_join (ps_if (pt_truth (pv 0) (fun _ => rfl)) (pss_one (ps_set (i := 4) sc__law_draw.nd rfl (Or.inl rfl) (pe_ix ix_list (pv 0) (pe_op op_mod (pv 3) (pe_callB call_len_seq rfl B.len_ L3.bt_len (pa_cons (pv 0) pa_nil))) (fun _ _ => rfl)))) pss_nil))
      (pss_cons (ps_set (i := 5) sc__law_draw.nd rfl (Or.inl rfl) (pe_op op_mod (pe_op op_add (pv 4) (pe_op op_mul pe_int (pv 3))) pe_int))
      (pss_cons (ps_set (i := 5) sc__law_draw.nd rfl (Or.inl rfl) (pe_op op_mod (pe_op op_mul (pe_op op_mod (pe_op op_mul (pv 5) (pv 5)) pe_int) pe_int) pe_int))
      (pss_cons (ps_set (i := 6) sc__law_draw.nd rfl (Or.inl rfl) (pe_op op_mod (pe_op op_mul (pe_op op_mod (pe_op op_mul (pv 5) (pv 5)) pe_int) pe_int) pe_int))
      (pss_one (ps_ret (pe_op op_mod (pe_op op_add (pe_op op_mul (pe_op op_fdiv (pv 5) pe_int) pe_int) (pe_op op_fdiv (pv 6) pe_int)) (pv 2))))))))))), ?_⟩
  have hT' : H t = some (.lst (zeros k)) := hT
  have g1 : Grow t H (upd H t (.lst (zeros k ++ [V.int 0]))) := Grow.upd _
  have t1 : Twn (upd H t (.lst (zeros k ++ [V.int 0]))) t (k + 1) := by
    unfold Twn
    rw [upd_same]
    show some (HO.lst (List.replicate k (V.int 0) ++ [V.int 0])) = some (HO.lst (List.replicate (k + 1) (V.int 0)))
    rw [List.replicate_succ']
  have s1 := g1.scr hT hS
  have hl : (((zeros k ++ [V.int 0]).length : Nat) : Int) = ((k + 1 : Nat) : Int) := by simp
  refine ⟨_, rfl, .inl ⟨rfl, _, SqL.of hT'⟩, t, _, _, rfl, rfl, hT', (by rw [List.length_replicate]; exact smallL (by omega)), ?_⟩
  refine ⟨_, rfl, t, _, rfl, .inl (SqL.of upd_same), ?_⟩
  rw [hl]
  refine ⟨fun σ' H' => σ' = [some (.ref a), some (.ref t), some (.int m), some (.int ((k + 1 : Nat) : Int)), some (.int (lcell ns (k + 1))), none, none] ∧ H' = upd H t (.lst (zeros k ++ [V.int 0])), ?_, ?_⟩
  · rintro σ' H' ⟨rfl, rfl⟩
    refine ⟨_, rfl, _, rfl, _, _, rfl, rfl, .inl ⟨by decide, by decide⟩, _, _, rfl, rfl, _, _, rfl, rfl, (by show (0 : Int) < 4294967291; decide), ?_⟩
    refine ⟨_, rfl, _, rfl, _, _, rfl, rfl, .inl (emod_bd _ (by decide) (by decide)), _, _, rfl, rfl, (by show (0 : Int) < 4294967279; decide), _, _, rfl, rfl, .inr ⟨by decide, by decide⟩, _, _, rfl, rfl, (by show (0 : Int) < 4294967291; decide), ?_⟩
    refine ⟨_, rfl, _, rfl, _, _, rfl, rfl, .inl (emod_bd _ (by decide) (by decide)), _, _, rfl, rfl, (by show (0 : Int) < 4294967279; decide), _, _, rfl, rfl, .inr ⟨by decide, by decide⟩, _, _, rfl, rfl, (by show (0 : Int) < 4294967291; decide), ?_⟩
    refine ⟨_, rfl, _, _, rfl, rfl, ⟨by decide, by decide⟩, _, _, rfl, rfl, .inr ⟨by decide, by decide⟩, _, rfl, _, _, rfl, rfl, ⟨by decide, by decide⟩, _, _, rfl, rfl, _, rfl, _, _, rfl, rfl, hm, ?_⟩
    exact q _ g1 t1
  · by_cases hn : ns = []
    · refine ⟨_, rfl, false, .inl ⟨_, s1.seq, by rw [hn]; rfl⟩, iteF ⟨?_, rfl⟩⟩
      unfold lcell
      rw [if_pos hn]
      rfl
    · refine ⟨_, rfl, true, .inl ⟨_, s1.seq, by cases ns with | nil => exact absurd rfl hn | cons _ _ => rfl⟩, iteT ?_⟩
      refine ⟨_, rfl, _, rfl, _, rfl, a, _, rfl, .inl s1.seq, _, _, rfl, rfl, ?_, a, _, _, _, rfl, rfl, s1.seq, cell_at hn (k + 1), rfl, rfl⟩
      show (0 : Int) < (((ns.map V.int).length : Nat) : Int)
      rw [List.length_map]
      have := List.length_pos_iff.mpr hn
      omega
end
noncomputable def spOne (K : PySem.W.Frag) : Sp := fun vs H Q _ => ∃ (a t l : Addr) (ns : List Int) (k : Nat) (xs : List V), vs = [.ref a, .ref t, .ref l] ∧ Scr K H a ns ∧ ns.length ≤ 63 ∧ Twn H t k ∧ k ≤ 800000 ∧ H l = some (.lst xs) ∧ l ≠ t ∧ 0 < xs.length ∧ xs.length ≤ 1000 ∧
  ∀ (i : Nat) (v : V) H', i = (drw ns (k + 1) (xs.length : Int)).toNat → xs[i]? = some v → Grow t H H' → Twn H' t (k + 1) → Q v H'
section
variable {P : Program} {w : World} {K : PySem.W.Frag} {mg : Str → Option Value} {base : Heap} {f : Addr} {fd : FuncData}
theorem ok__law_one (F__law_one : Fun K "_law_one" "_law_one" s__law_one f fd) (B : Bl mg) (g__law_draw : Fn P w K mg base "_law_draw" p__law_draw 1 (spDraw K)) : FnOk P w K mg base CX0 2 f fd p__law_one (spOne K) := by
  refine F__law_one.ok sc__law_one (fun vs H Q E h => ?_) (fun cdv A outer s H vs Q E hr h => ?_)
  · obtain ⟨a, t, l, ns, k, xs, rfl, _⟩ := h
    rfl
  obtain ⟨a, t, l, ns, k, xs, rfl, hS, h63, hT, hk, hL, hlt, hx, hx2, q⟩ := h
  refine ⟨_, (pss_one (ps_ret (pe_ix ix_list (pv 2) (pe_fn g__law_draw hr (pa_cons (pv 0) (pa_cons (pv 1) (pa_cons (pe_callB call_len_seq rfl B.len_ L3.bt_len (pa_cons (pv 2) pa_nil)) pa_nil)))) (fun _ _ => rfl)))), ?_⟩
  refine ⟨_, rfl, _, rfl, _, rfl, _, rfl, l, _, rfl, .inl (SqL.of hL), a, t, ns, k, _, rfl, hS, h63, hT, by omega, by omega, fun H1 g1 t1 => ?_⟩
  have n0 := drw_nn ns (k + 1) (show (0 : Int) < (xs.length : Int) by omega)
  have n1 := drw_lt ns (k + 1) (show (0 : Int) < (xs.length : Int) by omega)
  have hi : (drw ns (k + 1) (xs.length : Int)).toNat < xs.length := by omega
  have key : ∀ (d : Int) (i : Nat) (hi : i < xs.length), d = (i : Int) → atI xs d = some xs[i] := fun d i hi e => by
    subst e
    exact atI_nat (List.getElem?_eq_getElem hi)
  have at' := key (drw ns (k + 1) (xs.length : Int)) _ hi (by omega)
  exact ⟨l, _, _, _, rfl, rfl, SqL.of (g1 _ _ hlt hL), at', q _ _ _ rfl (List.getElem?_eq_getElem hi) g1 t1⟩
end
section
variable {P : Program} {w : World} {K : PySem.W.Frag} {mg : Str → Option Value} {base : Heap} {f : Addr} {fd : FuncData}
theorem ko_bb (K : PySem.W.Frag) : PySem.W.kitOne K (.type "bool") (.type "bool") = some true := by kernel_rfl
theorem ko_ib (K : PySem.W.Frag) : PySem.W.kitOne K (.type "int") (.type "bool") = some false := by kernel_rfl
theorem ko_it (K : PySem.W.Frag) : PySem.W.kitOne K (.type "int") (.type "tuple") = some false := by kernel_rfl
theorem ko_is (K : PySem.W.Frag) : PySem.W.kitOne K (.type "int") (.type "str") = some false := by kernel_rfl
theorem ko_ii (K : PySem.W.Frag) : PySem.W.kitOne K (.type "int") (.type "int") = some true := by kernel_rfl
theorem ko_sb (K : PySem.W.Frag) : PySem.W.kitOne K (.type "str") (.type "bool") = some false := by kernel_rfl
theorem ko_st (K : PySem.W.Frag) : PySem.W.kitOne K (.type "str") (.type "tuple") = some false := by kernel_rfl
theorem ko_ss (K : PySem.W.Frag) : PySem.W.kitOne K (.type "str") (.type "str") = some true := by kernel_rfl
theorem ko_tb (K : PySem.W.Frag) : PySem.W.kitOne K (.type "tuple") (.type "bool") = some false := by kernel_rfl
theorem ko_tt (K : PySem.W.Frag) : PySem.W.kitOne K (.type "tuple") (.type "tuple") = some true := by kernel_rfl
theorem paired_at {α β : Type} {F : α → β → Prop} : ∀ {l : List α} {m : List β} {i : Nat} {x : α} {y : β}, Paired F l m → l[i]? = some x → m[i]? = some y → F x y
  | _, _, _, _, _, .nil, h, _ => by simp at h
  | _, _, 0, _, _, .cons r _, h, h' => by
    simp at h h'; subst h; subst h'; exact r
  | _, _, i + 1, _, _, .cons _ t, h, h' => paired_at (i := i) t (by simpa using h) (by simpa using h')
theorem ok__law_same1 {n : Nat} (F__law_same : Fun K "_law_same" "_law_same" s__law_same f fd) (B : Bl mg) (g__law_same : Fn P w K mg base "_law_same" p__law_same n (spSame n)) : FnOk P w K mg base CX0 (n + 1) f fd p__law_same (spSame (n + 1)) := by
  refine F__law_same.ok sc__law_same (fun vs H Q E h => ?_) (fun cdv A outer s H vs Q E hr h => ?_)
  · obtain ⟨x, y, rfl, _⟩ := h
    rfl
  obtain ⟨x, y, rfl, hE, q⟩ := h
  refine ⟨_, (pss_cons (ps_if (pt_cmpR op_isN (pv 1) pe_non (nomark _)) (pss_one (ps_ret (pe_cmpR op_isN (pv 0) pe_non (nomark _)))) pss_nil)
      (pss_cons (ps_if (pt_truth (pe_callB call_isi rfl B.isinstance_ L3.bt_isinstance (pa_cons (pv 1) (pa_cons (pe_bltn (v := .ty "bool") rfl B.bool_ L3.bt_bool rfl) pa_nil))) (fun _ => rfl)) (pss_one (ps_ret (pe_and (pe_callB call_isi rfl B.isinstance_ L3.bt_isinstance (pa_cons (pv 0) (pa_cons (pe_bltn (v := .ty "bool") rfl B.bool_ L3.bt_bool rfl) pa_nil))) (pe_one (pe_cmpR op_eq (pv 0) (pv 1) (nomark _)))))) pss_nil)
      (pss_cons (ps_if (pt_truth (pe_callB call_isi rfl B.isinstance_ L3.bt_isinstance (pa_cons (pv 1) (pa_cons (pe_bltn (v := .ty "tuple") rfl B.tuple_ L3.bt_tuple rfl) pa_nil))) (fun _ => rfl)) (pss_cons (ps_if (PW.pt (pw_or (pt_not (pt_truth (pe_callB call_isi rfl B.isinstance_ L3.bt_isinstance (pa_cons (pv 0) (pa_cons (pe_bltn (v := .ty "tuple") rfl B.tuple_ L3.bt_tuple rfl) pa_nil))) (fun _ => rfl))) (pw_or1 (pt_cmpR op_ne (pe_callB call_len_seq rfl B.len_ L3.bt_len (pa_cons (pv 0) pa_nil)) (pe_callB call_len_seq rfl B.len_ L3.bt_len (pa_cons (pv 1) pa_nil)) (nomark _))))) (pss_one (ps_ret pe_bl)) pss_nil)
      (pss_one (ps_ret (pe_callB (call_allL rfl) rfl B.all_ L3.bt_all (pa_cons (pe_comp [] ["_law_got", "_law_due_here", "_law_one_here", "_law_other"] 2 rfl (pi_zipT rfl B.zip_ (pa_cons (pv 0) (pa_cons (pv 1) pa_nil))) (fun _ _ _ _ _ => (pg_tupK K 2 rfl (pgs_cons (pg_name (i := 2) nd_1 rfl (Or.inl rfl) (Or.inr rfl)) (pgs_cons (pg_name (i := 3) nd_1 rfl (Or.inl rfl) (Or.inr rfl)) pgs_nil)) rfl rfl rfl)) (fun _ _ _ _ _ => pif_nil) (fun _ _ _ _ _ => (pe_fn g__law_same hr (pa_cons (pv 2) (pa_cons (pv 3) pa_nil))))) pa_nil))))) pss_nil)
      (pss_cons (ps_if (pt_truth (pe_callB call_isi rfl B.isinstance_ L3.bt_isinstance (pa_cons (pv 1) (pa_cons (pe_bltn (v := .ty "str") rfl B.str_ L3.bt_str rfl) pa_nil))) (fun _ => rfl)) (pss_one (ps_ret (pe_and (pe_callB call_isi rfl B.isinstance_ L3.bt_isinstance (pa_cons (pv 0) (pa_cons (pe_bltn (v := .ty "str") rfl B.str_ L3.bt_str rfl) pa_nil))) (pe_one (pe_cmpR op_eq (pv 0) (pv 1) (nomark _)))))) pss_nil)
      (pss_one (ps_ret (pe_and (pe_callB call_isi rfl B.isinstance_ L3.bt_isinstance (pa_cons (pv 0) (pa_cons (pe_bltn (v := .ty "int") rfl B.int_ L3.bt_int rfl) pa_nil))) (pe_and (pe_not (pe_callB call_isi rfl B.isinstance_ L3.bt_isinstance (pa_cons (pv 0) (pa_cons (pe_bltn (v := .ty "bool") rfl B.bool_ L3.bt_bool rfl) pa_nil)))) (pe_one (pe_cmpR op_eq (pv 0) (pv 1) (nomark _))))))))))), ?_⟩
  rcases hE with ⟨rfl, hs⟩ | ⟨a, b, xs, ys, rfl, rfl, h1, h2, hz, hp⟩
  · cases x with
    | non =>
      refine ⟨_, rfl, rfl, _, rfl, iteT ?_⟩
      refine ⟨_, rfl, rfl, ?_⟩
      exact q H (Same.refl _)
    | bl c =>
      refine ⟨_, rfl, rfl, _, rfl, iteF ?_⟩
      refine ⟨_, rfl, _, _, _, _, rfl, .bl c, ko_bb _, _, rfl, iteT ?_⟩
      refine ⟨_, rfl, _, _, _, _, rfl, .bl c, ko_bb _, _, rfl, iteT ?_⟩
      refine ⟨_, rfl, _, rfl, rfl, ?_⟩
      rw [decide_eq_true rfl]
      exact q H (Same.refl _)
    | int i =>
      refine ⟨_, rfl, rfl, _, rfl, iteF ?_⟩
      refine ⟨_, rfl, _, _, _, _, rfl, .int i, ko_ib _, _, rfl, iteF ?_⟩
      refine ⟨_, rfl, _, _, _, _, rfl, .int i, ko_it _, _, rfl, iteF ?_⟩
      refine ⟨_, rfl, _, _, _, _, rfl, .int i, ko_is _, _, rfl, iteF ?_⟩
      refine ⟨_, rfl, _, _, _, _, rfl, .int i, ko_ii _, _, rfl, iteT ?_⟩
      refine ⟨_, rfl, _, _, _, _, rfl, .int i, ko_ib _, _, rfl, _, rfl, iteT ?_⟩
      refine ⟨_, rfl, _, rfl, rfl, ?_⟩
      rw [decide_eq_true rfl]
      exact q H (Same.refl _)
    | str z =>
      refine ⟨_, rfl, rfl, _, rfl, iteF ?_⟩
      refine ⟨_, rfl, _, _, _, _, rfl, .str z, ko_sb _, _, rfl, iteF ?_⟩
      refine ⟨_, rfl, _, _, _, _, rfl, .str z, ko_st _, _, rfl, iteF ?_⟩
      refine ⟨_, rfl, _, _, _, _, rfl, .str z, ko_ss _, _, rfl, iteT ?_⟩
      refine ⟨_, rfl, _, _, _, _, rfl, .str z, ko_ss _, _, rfl, iteT ?_⟩
      refine ⟨_, rfl, _, rfl, rfl, ?_⟩
      rw [decide_eq_true rfl]
      exact q H (Same.refl _)
    | byt _ => cases hs
    | flt _ => cases hs
    | ref _ => cases hs
    | ty _ => cases hs
  · have hl : xs.length = ys.length := hp.length
    refine ⟨_, rfl, rfl, _, rfl, iteF ?_⟩
    refine ⟨_, rfl, _, _, _, _, rfl, .tup h2, ko_tb _, _, rfl, iteF ?_⟩
    refine ⟨_, rfl, _, _, _, _, rfl, .tup h2, ko_tt _, _, rfl, iteT ?_⟩
    refine ⟨_, rfl, _, _, _, _, rfl, .tup h1, ko_tt _, _, rfl, iteF ?_⟩
    refine ⟨_, rfl, a, _, rfl, .inr (SqT.of h1), _, rfl, b, _, rfl, .inr (SqT.of h2), rfl, _, rfl, iteNS (by rw [hl]) ?_⟩
    refine ⟨_, rfl, _, rfl, a, b, rfl, ⟨_, SqT.of h1⟩, ⟨_, SqT.of h2⟩, ?_⟩
    refine ⟨fun i m acc σ' H' => m = xs.length - i ∧ i ≤ xs.length ∧ acc = List.replicate i (V.bl true) ∧ Same H H' ∧ σ'.length = 4, ⟨xs.length, rfl, Nat.zero_le _, rfl, Same.refl _, rfl⟩, ?_⟩
    rintro i m acc σ' H' ⟨rfl, hi, rfl, hs, hσ⟩
    by_cases hlt : i < xs.length
    · refine .inr ⟨⟨xs, ys, xs[i], ys[i], SqT.of (hs _ _ h1), SqT.of (hs _ _ h2), List.getElem?_eq_getElem hlt, List.getElem?_eq_getElem (by omega)⟩, ?_, fun acc' σ2 H2 => acc' = List.replicate (i + 1) (V.bl true) ∧ Same H H2 ∧ σ2.length = 4, ?_, ?_⟩
      · rw [List.length_replicate]; exact smallL (by omega)
      · rintro acc' σ2 H2 ⟨rfl, s2, l2⟩
        exact ⟨xs.length - (i + 1), by omega, rfl, hlt, rfl, s2, l2⟩
      · rintro v H2 ⟨p, u, v', fp, rfl, rfl, e1, e2⟩
        have u1 := e1 xs (SqT.of (hs _ _ h1))
        have u2 := e2 ys (SqT.of (hs _ _ h2))
        have s2 : Same H (upd H' p (.tup [u, v'])) := hs.trans (same_new fp _)
        obtain ⟨o1, o2, o3, o4, rfl⟩ : ∃ o1 o2 o3 o4, σ' = [o1, o2, o3, o4] := by
          match σ', hσ with
          | [o1, o2, o3, o4], _ => exact ⟨o1, o2, o3, o4, rfl⟩
        refine ⟨p, _, rfl, SqT.of upd_same, rfl, _, _, rfl, _, _, rfl, rfl, ?_⟩
        refine ⟨_, rfl, _, rfl, u, v', rfl, (paired_at hp u1 u2).same s2, fun H3 s3 => ⟨?_, s2.trans s3, rfl⟩⟩
        rw [List.replicate_succ']
    · have e : i = xs.length := by omega
      refine .inl ⟨⟨xs, ys, SqT.of (hs _ _ h1), SqT.of (hs _ _ h2), .inl (by omega)⟩, ?_, fun D fD => ?_⟩
      · rw [List.length_replicate]; exact small (by omega)
      · refine ⟨D, List.replicate i true, rfl, SqL.of (by rw [upd_same, List.map_replicate]), ?_⟩
        have e2 : (List.replicate i true).all id = true := by simp
        rw [e2]
        exact q _ (hs.trans (same_new fD _))
end
theorem ok__law_same0 {P : Program} {w : World} {K : PySem.W.Frag} {mg : Str → Option Value} {base : Heap} {f : Addr} {fd : FuncData} {ps : List Str} {sp : Sp} (no : ∀ vs H Q E, ¬ sp vs H Q E) : FnOk P w K mg base CX0 0 f fd ps sp :=
  ⟨fun vs H Q E h => absurd h (no vs H Q E), fun A outer s H args us vs Q E _ _ _ _ h => absurd h (no vs H Q E)⟩
theorem sum_nats : ∀ l : List Nat, (l.map fun (n : Nat) => (n : Int)).sum = ((l.sum : Nat) : Int)
  | [] => rfl
  | a :: l => by rw [List.map_cons, List.sum_cons, List.sum_cons, sum_nats l, Int.natCast_add]
theorem nat_of {z : Int} (h : 0 ≤ z) : ∃ n : Nat, z = (n : Int) := ⟨z.toNat, by omega⟩
theorem twn_tup {H : Hp} {t b : Addr} {k : Nat} {xs : List V} (h : Twn H t k) (hb : H b = some (.tup xs)) : b ≠ t := fun e => by
  unfold Twn at h
  rw [e, h] at hb
  cases hb
theorem twn_new {H : Hp} {t p : Addr} {k : Nat} (h : Twn H t k) (hp : H p = none) : p ≠ t := fun y => by
  unfold Twn at h
  rw [← y, hp] at h
  cases h
noncomputable def frU (u l : Nat) : Nat := u / Nat.gcd u l
noncomputable def frL (u l : Nat) : Nat := l / Nat.gcd u l
noncomputable def frV (u l : Nat) : List V := [.int (frU u l : Int), .int (frL u l : Int)]
theorem gcd_pos {u l : Nat} (h : 0 < l) : 0 < Nat.gcd u l := Nat.gcd_pos_of_pos_right _ h
theorem gcd_le {u l : Nat} (h : 0 < l) : Nat.gcd u l ≤ l := Nat.le_of_dvd h (Nat.gcd_dvd_right _ _)
theorem frL_pos {u l : Nat} (h : 0 < l) : 0 < frL u l := Nat.div_pos (gcd_le h) (gcd_pos h)
theorem fr_cop {u l : Nat} (h : 0 < l) : Nat.Coprime (frU u l) (frL u l) := Nat.coprime_div_gcd_div_gcd (gcd_pos h)
theorem frU_mul (u l : Nat) : frU u l * Nat.gcd u l = u := Nat.div_mul_cancel (Nat.gcd_dvd_left _ _)
theorem frL_mul (u l : Nat) : frL u l * Nat.gcd u l = l := Nat.div_mul_cancel (Nat.gcd_dvd_right _ _)
theorem frU_le (u l : Nat) : frU u l ≤ u := Nat.div_le_self _ _
theorem frL_le (u l : Nat) : frL u l ≤ l := Nat.div_le_self _ _
theorem fr_uniq {a b c d : Nat} (h1 : Nat.Coprime a b) (h2 : Nat.Coprime c d) (hb : 0 < b) (e : a * d = c * b) : a = c ∧ b = d := by
  have d1 : b ∣ d := h1.symm.dvd_of_dvd_mul_left (by rw [e]; exact Nat.dvd_mul_left _ _)
  have d2 : d ∣ b := h2.symm.dvd_of_dvd_mul_left (by rw [← e]; exact Nat.dvd_mul_left _ _)
  have ed := Nat.dvd_antisymm d1 d2
  subst ed
  exact ⟨Nat.eq_of_mul_eq_mul_right hb e, rfl⟩
theorem fr_eq {a b c d : Nat} (hb : 0 < b) (hd : 0 < d) (e : a * d = c * b) : frU a b = frU c d ∧ frL a b = frL c d := by
  refine fr_uniq (fr_cop hb) (fr_cop hd) (frL_pos hb) ?_
  have g1 := gcd_pos (u := a) hb
  have g2 := gcd_pos (u := c) hd
  refine Nat.eq_of_mul_eq_mul_right (Nat.mul_pos g1 g2) ?_
  calc frU a b * frL c d * (Nat.gcd a b * Nat.gcd c d) = (frU a b * Nat.gcd a b) * (frL c d * Nat.gcd c d) := by
        rw [Nat.mul_assoc, Nat.mul_assoc, Nat.mul_left_comm (frL c d)]
    _ = a * d := by rw [frU_mul, frL_mul]
    _ = c * b := e
    _ = (frU c d * Nat.gcd c d) * (frL a b * Nat.gcd a b) := by rw [frU_mul, frL_mul]
    _ = frU c d * frL a b * (Nat.gcd a b * Nat.gcd c d) := by
        rw [Nat.mul_assoc, Nat.mul_assoc, Nat.mul_left_comm (Nat.gcd c d), Nat.mul_comm (Nat.gcd c d)]
theorem frV_eq {a b c d : Nat} (hb : 0 < b) (hd : 0 < d) (e : a * d = c * b) : frV a b = frV c d := by
  obtain ⟨h1, h2⟩ := fr_eq hb hd e
  unfold frV
  rw [h1, h2]
theorem fr_add {a c d : Nat} (hd : 0 < d) : frV (frU a d * frL c d + frU c d * frL a d) (frL a d * frL c d) = frV (a + c) d := by
  refine frV_eq (Nat.mul_pos (frL_pos hd) (frL_pos hd)) hd ?_
  have e1 : frU a d * d = a * frL a d := by
    have := frU_mul a d
    have h2 := frL_mul a d
    calc frU a d * d = frU a d * (frL a d * Nat.gcd a d) := by rw [h2]
      _ = (frU a d * Nat.gcd a d) * frL a d := by rw [Nat.mul_assoc, Nat.mul_comm (Nat.gcd a d)]
      _ = a * frL a d := by rw [this]
  have e2 : frU c d * d = c * frL c d := by
    have := frU_mul c d
    have h2 := frL_mul c d
    calc frU c d * d = frU c d * (frL c d * Nat.gcd c d) := by rw [h2]
      _ = (frU c d * Nat.gcd c d) * frL c d := by rw [Nat.mul_assoc, Nat.mul_comm (Nat.gcd c d)]
      _ = c * frL c d := by rw [this]
  calc (frU a d * frL c d + frU c d * frL a d) * d = (frU a d * d) * frL c d + (frU c d * d) * frL a d := by
        rw [Nat.add_mul, Nat.mul_right_comm, Nat.mul_right_comm (frU c d)]
    _ = a * frL a d * frL c d + c * frL c d * frL a d := by rw [e1, e2]
    _ = (a + c) * (frL a d * frL c d) := by rw [Nat.add_mul, Nat.mul_assoc, Nat.mul_assoc, Nat.mul_comm (frL c d)]
theorem fit_gcd {u l : Nat} (h : 0 < l) (f : Fit l) : Fit ((Nat.gcd u l : Nat) : Int).natAbs := by
  rw [Int.natAbs_natCast]
  exact f.le (gcd_le h)
noncomputable def spCD : Sp := fun vs H Q _ => ∃ u l : Nat, vs = [.int (u : Int), .int (l : Int)] ∧ Q (.int ((Nat.gcd u l : Nat) : Int)) H
noncomputable def spFrac : Sp := fun vs H Q _ => ∃ u l : Nat, vs = [.int (u : Int), .int (l : Int)] ∧ 0 < l ∧ Fit l ∧ ∀ p H', Same H H' → H' p = some (.tup (frV u l)) → Q (.ref p) H'
section
variable {P : Program} {w : World} {K : PySem.W.Frag} {mg : Str → Option Value} {base : Heap} {f : Addr} {fd : FuncData}
theorem ok_common_divisor (F_common_divisor : Fun K "common_divisor" "common_divisor" s_common_divisor f fd) (B : Bl mg) : FnOk P w K mg base CX0 1 f fd p_common_divisor spCD := by
  refine F_common_divisor.ok sc_common_divisor (fun vs H Q E h => ?_) (fun cdv A outer s H vs Q E hr h => ?_)
  · obtain ⟨u, l, rfl, _⟩ := h
    rfl
  obtain ⟨u, l, rfl, q⟩ := h
  refine ⟨_, (pss_cons (ps_set (i := 2) sc_common_divisor.nd rfl (Or.inl rfl) (pe_callB call_abs rfl B.abs_ L3.bt_abs (pa_cons (pv 0) pa_nil)))
      (pss_cons (ps_set (i := 3) sc_common_divisor.nd rfl (Or.inl rfl) (pe_callB call_abs rfl B.abs_ L3.bt_abs (pa_cons (pv 1) pa_nil)))
      (pss_cons (ps_while PassesOwn.never (pt_cmpR op_gt (pv 3) pe_int (nomark _)) (pss_cons (ps_set (i := 4) sc_common_divisor.nd rfl (Or.inl rfl) (pe_op op_mod (pv 2) (pv 3)))
      (pss_cons (ps_set (i := 2) sc_common_divisor.nd rfl (Or.inl rfl) (pv 3))
      (pss_one (ps_set (i := 3) sc_common_divisor.nd rfl (Or.inl rfl) (pv 4))))))
      (pss_one (ps_ret (pv 2)))))), ?_⟩
  refine ⟨_, rfl, _, rfl, ?_⟩
  rw [if_neg (by omega)]
  refine ⟨_, rfl, _, rfl, ?_⟩
  rw [if_neg (by omega)]
  refine ⟨fun m σ' H' => ∃ (g : Nat) (o4 : Option V), σ' = [some (.int (u : Int)), some (.int (l : Int)), some (.int (g : Int)), some (.int (m : Int)), o4] ∧ H' = H ∧ Nat.gcd g m = Nat.gcd u l, ⟨l, u, _, rfl, rfl, rfl⟩, ?_⟩
  rintro m σ' H' ⟨g, o4, rfl, rfl, hg⟩
  refine ⟨_, rfl, _, _, rfl, rfl, _, rfl, ite2 (fun c => ?_) (fun c => ?_)⟩
  · have c' : (0 : Int) < (m : Int) := of_decide_eq_true c
    refine ⟨fun σ' H'' => ∃ o4 : Option V, σ' = [some (.int (u : Int)), some (.int (l : Int)), some (.int (m : Int)), some (.int ((g % m : Nat) : Int)), o4] ∧ H'' = H', fun σ' H'' ⟨o, e1, e2⟩ => ⟨g % m, Nat.mod_lt _ (by omega), m, o, e1, e2, ?_⟩, ?_⟩
    · rw [← hg, Nat.gcd_comm m, ← Nat.gcd_rec, Nat.gcd_comm]
    refine ⟨_, rfl, _, rfl, _, _, rfl, rfl, c', ?_⟩
    refine ⟨_, rfl, _, rfl, some (.int ((g % m : Nat) : Int)), ?_, rfl⟩
    rw [Int.natCast_emod]
    rfl
  · have c' : ¬ (0 : Int) < (m : Int) := of_decide_eq_false (Bool.eq_false_iff.mpr c)
    have : m = 0 := by omega
    subst this
    refine ⟨_, rfl, ?_⟩
    rw [Nat.gcd_zero_right] at hg
    rw [← hg] at q
    exact q
theorem ok_fraction (F_fraction : Fun K "fraction" "fraction" s_fraction f fd) (g_common_divisor : Fn P w K mg base "common_divisor" p_common_divisor 1 spCD) : FnOk P w K mg base CX0 2 f fd p_fraction spFrac := by
  refine F_fraction.ok sc_fraction (fun vs H Q E h => ?_) (fun cdv A outer s H vs Q E hr h => ?_)
  · obtain ⟨u, l, rfl, _⟩ := h
    rfl
  obtain ⟨u, l, rfl, hl, hf, q⟩ := h
  refine ⟨_, (pss_cons (ps_if (pt_cmpR op_eq (pv 1) pe_int (nomark _)) (pss_one ps_never) pss_nil)
      (pss_cons (ps_set (i := 2) sc_fraction.nd rfl (Or.inl rfl) (pe_fn g_common_divisor hr (pa_cons (pv 0) (pa_cons (pv 1) pa_nil))))
      (pss_cons (ps_join (ps_if (pt_cmpR op_lt (pv 1) pe_int (nomark _)) (pss_one (ps_set (i := 2) sc_fraction.nd rfl (Or.inl rfl) (pe_un un_neg (pv 2)))) pss_nil))
      (pss_one (ps_ret (pe_tup (pa_cons (pe_op op_fdivB (pv 0) (pv 2)) (pa_cons (pe_op op_fdivB (pv 1) (pv 2)) pa_nil)))))))), ?_⟩
  have hg := gcd_pos (u := u) hl
  refine ⟨_, rfl, rfl, _, rfl, ?_⟩
  rw [show decide (V.int (l : Int) = V.int 0) = false from decide_eq_false (fun z => by injection z with z; omega)]
  refine iteF ⟨_, rfl, _, rfl, u, l, rfl, ?_⟩
  refine ⟨fun σ' H' => σ' = [some (.int (u : Int)), some (.int (l : Int)), some (.int ((Nat.gcd u l : Nat) : Int))] ∧ H' = H, ?_, ?_⟩
  · rintro σ' H' ⟨rfl, rfl⟩
    refine ⟨_, rfl, _, rfl, _, _, rfl, rfl, ⟨by omega, fit_gcd hl hf⟩, _, rfl, _, rfl, _, _, rfl, rfl, ⟨by omega, fit_gcd hl hf⟩, (by show 2 ≤ sizeLine; decide), fun p fp => ?_⟩
    refine q p _ (same_new fp _) ?_
    rw [upd_same]
    show some (HO.tup [V.int ((u : Int) / ((Nat.gcd u l : Nat) : Int)), V.int ((l : Int) / ((Nat.gcd u l : Nat) : Int))]) = _
    rw [← Int.natCast_ediv, ← Int.natCast_ediv]
    rfl
  · refine ⟨_, rfl, _, _, rfl, rfl, _, rfl, ?_⟩
    rw [decide_eq_false (by omega)]
    exact iteF ⟨rfl, rfl⟩
theorem ok__law_frac (F__law_frac : Fun K "_law_frac" "_law_frac" s__law_frac f fd) (B : Bl mg) : FnOk P w K mg base CX0 1 f fd p__law_frac spFrac := by
  refine F__law_frac.ok sc__law_frac (fun vs H Q E h => ?_) (fun cdv A outer s H vs Q E hr h => ?_)
  · obtain ⟨u, l, rfl, _⟩ := h
    rfl
  obtain ⟨u, l, rfl, hl, hf, q⟩ := h
  refine ⟨_, (pss_cons (ps_par (i := 2) (j := 3) rfl sc__law_frac.nd rfl rfl (by decide) rfl rfl (pa_cons (pv 0) (pa_cons (pv 1) pa_nil)) rfl)
      (pss_cons (ps_while PassesOwn.never (pt_cmpR op_ne (pv 3) pe_int (nomark _)) (pss_one (ps_par (i := 2) (j := 3) rfl sc__law_frac.nd rfl rfl (by decide) rfl rfl (pa_cons (pv 3) (pa_cons (pe_op op_mod (pv 2) (pv 3)) pa_nil)) rfl)))
      (pss_cons (ps_set (i := 2) sc__law_frac.nd rfl (Or.inl rfl) (pe_ifExp (pt_cmpR op_gt (pv 1) pe_int (nomark _)) (pe_callB call_abs rfl B.abs_ L3.bt_abs (pa_cons (pv 2) pa_nil)) (pe_un un_neg (pe_callB call_abs rfl B.abs_ L3.bt_abs (pa_cons (pv 2) pa_nil)))))
      (pss_one (ps_ret (pe_tup (pa_cons (pe_op op_fdivB (pv 0) (pv 2)) (pa_cons (pe_op op_fdivB (pv 1) (pv 2)) pa_nil)))))))), ?_⟩
  have hg := gcd_pos (u := u) hl
  refine ⟨_, rfl, _, rfl, _, _, rfl, ?_⟩
  refine ⟨fun m σ' H' => ∃ (g : Nat), σ' = [some (.int (u : Int)), some (.int (l : Int)), some (.int (g : Int)), some (.int (m : Int))] ∧ H' = H ∧ Nat.gcd g m = Nat.gcd u l, ⟨l, u, rfl, rfl, rfl⟩, ?_⟩
  rintro m σ' H' ⟨g, rfl, rfl, hgs⟩
  refine ⟨_, rfl, rfl, _, rfl, ?_⟩
  by_cases c : m = 0
  · subst c
    rw [show (!decide (V.int ((0 : Nat) : Int) = V.int 0)) = false from rfl]
    rw [Nat.gcd_zero_right] at hgs
    subst hgs
    refine iteF ⟨_, rfl, _, _, rfl, rfl, _, rfl, ?_⟩
    rw [decide_eq_true (by omega)]
    refine iteT ⟨_, rfl, _, rfl, ?_⟩
    rw [if_neg (by omega)]
    refine ⟨_, rfl, _, rfl, _, _, rfl, rfl, ⟨by omega, fit_gcd hl hf⟩, _, rfl, _, rfl, _, _, rfl, rfl, ⟨by omega, fit_gcd hl hf⟩, (by show 2 ≤ sizeLine; decide), fun p fp => ?_⟩
    refine q p _ (same_new fp _) ?_
    rw [upd_same]
    show some (HO.tup [V.int ((u : Int) / ((Nat.gcd u l : Nat) : Int)), V.int ((l : Int) / ((Nat.gcd u l : Nat) : Int))]) = _
    rw [← Int.natCast_ediv, ← Int.natCast_ediv]
    rfl
  · rw [show (!decide (V.int (m : Int) = V.int 0)) = true from by rw [decide_eq_false (fun z => by injection z with z; omega)]; rfl]
    refine iteT ⟨fun σ' H'' => σ' = [some (.int (u : Int)), some (.int (l : Int)), some (.int (m : Int)), some (.int ((g % m : Nat) : Int))] ∧ H'' = H', fun σ' H'' ⟨e1, e2⟩ => ⟨g % m, Nat.mod_lt _ (by omega), m, e1, e2, ?_⟩, ?_⟩
    · rw [← hgs, Nat.gcd_comm m, ← Nat.gcd_rec, Nat.gcd_comm]
    refine ⟨_, rfl, _, rfl, _, rfl, _, _, rfl, rfl, (by show (0 : Int) < (m : Int); omega), _, _, rfl, ?_, rfl⟩
    rw [Int.natCast_emod]
    rfl
end
inductive Pn where
  | num (n : Nat)
  | again
  | ask (l r : Pn)
noncomputable def Pn.has : Pn → Bool
  | .num _ => true
  | .again => false
  | .ask l r => l.has || r.has
noncomputable def Pn.dp : Pn → Nat
  | .num _ => 0
  | .again => 0
  | .ask l r => max l.dp r.dp + 1
noncomputable def ends : Pn → Nat → List (Option Nat × Nat)
  | .num n, d => [(some n, d)]
  | .again, d => [(none, d)]
  | .ask l r, d => ends l (d + 1) ++ ends r (d + 1)
theorem has_ends : ∀ (p : Pn) (d : Nat), (ends p d).any (fun e => e.1.isSome) = p.has
  | .num _, _ => rfl
  | .again, _ => rfl
  | .ask l r, d => by rw [ends, List.any_append, has_ends l, has_ends r, Pn.has]
theorem ends_deep : ∀ (p : Pn) (d : Nat), ∀ e ∈ ends p d, d ≤ e.2 ∧ e.2 ≤ d + p.dp
  | .num m, d, e, h => by
    have : e = (some m, d) := by simpa [ends] using h
    rw [this]; exact ⟨Nat.le_refl _, Nat.le_add_right _ _⟩
  | .again, d, e, h => by
    have : e = (none, d) := by simpa [ends] using h
    rw [this]; exact ⟨Nat.le_refl _, Nat.le_add_right _ _⟩
  | .ask l r, d, e, h => by
    rw [Pn.dp]
    rcases List.mem_append.mp h with h | h
    · have := ends_deep l (d + 1) e h
      omega
    · have := ends_deep r (d + 1) e h
      omega
theorem ends_len : ∀ (p : Pn) (d : Nat), (ends p d).length ≤ 2 ^ p.dp
  | .num _, _ => Nat.le_refl _
  | .again, _ => Nat.le_refl _
  | .ask l r, d => by
    rw [ends, List.length_append, Pn.dp, Nat.pow_succ]
    have h1 := ends_len l (d + 1)
    have h2 := ends_len r (d + 1)
    have h3 : 2 ^ l.dp ≤ 2 ^ max l.dp r.dp := Nat.pow_le_pow_right (by decide) (Nat.le_max_left _ _)
    have h4 : 2 ^ r.dp ≤ 2 ^ max l.dp r.dp := Nat.pow_le_pow_right (by decide) (Nat.le_max_right _ _)
    omega
noncomputable def shP (P : Option Nat → Bool) (l : List (Option Nat × Nat)) (D : Nat) : Nat := (l.map fun e => if P e.1 then 2 ^ (D - e.2) else 0).sum
theorem dp_at : ∀ (p : Pn) (d : Nat), ∃ e ∈ ends p d, e.2 = d + p.dp
  | .num m, d => ⟨(some m, d), by simp [ends], rfl⟩
  | .again, d => ⟨(none, d), by simp [ends], rfl⟩
  | .ask l r, d => by
    rw [Pn.dp]
    by_cases c : l.dp ≤ r.dp
    · obtain ⟨e, he, h⟩ := dp_at r (d + 1)
      exact ⟨e, List.mem_append_right _ he, by omega⟩
    · obtain ⟨e, he, h⟩ := dp_at l (d + 1)
      exact ⟨e, List.mem_append_left _ he, by omega⟩
theorem shP_pos {P : Option Nat → Bool} {D : Nat} : ∀ {l : List (Option Nat × Nat)}, 0 < shP P l D → ∃ e ∈ l, P e.1 = true
  | [], h => absurd h (by show ¬ 0 < 0; omega)
  | e :: l, h => by
    by_cases c : P e.1 = true
    · exact ⟨e, List.mem_cons_self, c⟩
    · unfold shP at h
      rw [List.map_cons, List.sum_cons, if_neg c, Nat.zero_add] at h
      obtain ⟨x, hx, h'⟩ := shP_pos (l := l) h
      exact ⟨x, List.mem_cons_of_mem _ hx, h'⟩
theorem shP_mem {P : Option Nat → Bool} {D : Nat} {e : Option Nat × Nat} (hp : P e.1 = true) : ∀ {l : List (Option Nat × Nat)}, e ∈ l → 0 < shP P l D
  | a :: l, h => by
    unfold shP
    rw [List.map_cons, List.sum_cons]
    rcases List.mem_cons.mp h with rfl | h
    · rw [if_pos hp]; have := Nat.two_pow_pos (D - e.2); omega
    · have := shP_mem (D := D) hp h
      unfold shP at this
      omega
noncomputable def AgAt (K : PySem.W.Frag) (H : Hp) (p : Addr) : Prop := H p = some (.tup [.str "again"]) ∨ ∀ H', SqT K H' p [.str "again"]
theorem AgAt.sq {K : PySem.W.Frag} {H : Hp} {p : Addr} (h : AgAt K H p) : SqT K H p [.str "again"] := h.elim SqT.of fun z => z H
noncomputable def PnAt (K : PySem.W.Frag) (H : Hp) : Pn → V → Prop
  | .num n, v => ∃ p, v = .ref p ∧ H p = some (.tup [.str "is", .int (n : Int)])
  | .again, v => ∃ p, v = .ref p ∧ AgAt K H p
  | .ask l r, v => ∃ p y z, v = .ref p ∧ H p = some (.tup [.str "ask", y, z]) ∧ PnAt K H l y ∧ PnAt K H r z
theorem PnAt.keep {K : PySem.W.Frag} {H H' : Hp} (k : ∀ c xs, H c = some (.tup xs) → H' c = some (.tup xs)) : ∀ {p : Pn} {v : V}, PnAt K H p v → PnAt K H' p v
  | .num _, _, ⟨p, e, h⟩ => ⟨p, e, k _ _ h⟩
  | .again, _, ⟨p, e, h⟩ => ⟨p, e, h.imp (k _ _) id⟩
  | .ask _ _, _, ⟨p, y, z, e, h, h1, h2⟩ => ⟨p, y, z, e, k _ _ h, h1.keep k, h2.keep k⟩
theorem PnAt.same {K : PySem.W.Frag} {H H' : Hp} {p : Pn} {v : V} (h : PnAt K H p v) (s : Same H H') : PnAt K H' p v := h.keep fun _ _ e => s _ _ e
theorem PnAt.town {K : PySem.W.Frag} {H H' : Hp} {t : Addr} {k : Nat} {p : Pn} {v : V} (h : PnAt K H p v) (tw : Twn H t k) (g : Grow t H H') : PnAt K H' p v := h.keep fun _ _ e => g _ _ (twn_tup tw e) e
theorem tup_step {xs : List V} {H : Hp} {Q : VK} (hz : xs.length ≤ 1000) (q : ∀ p H', Same H H' → H' p = some (.tup xs) → Q (.ref p) H') : xs.length ≤ sizeLine ∧ ∀ p, H p = none → Q (.ref p) (upd H p (.tup xs)) :=
  ⟨Nat.le_trans hz (by decide), fun p fp => q p _ (same_new fp _) upd_same⟩
noncomputable def LeafV (K : PySem.W.Frag) (H : Hp) (o : Option Nat) (v : V) : Prop := PnAt K H (o.elim .again .num) v
noncomputable def EndsL (K : PySem.W.Frag) (H : Hp) (as : List Addr) (es : List (Option Nat × Nat)) : Prop := as.length = es.length ∧ ∀ (j : Nat) (a : Addr) (e : Option Nat × Nat), as[j]? = some a → es[j]? = some e → ∃ v, H a = some (.tup [.int (e.2 : Int), v]) ∧ LeafV K H e.1 v
theorem EndsL.same {K : PySem.W.Frag} {H H' : Hp} {as : List Addr} {es : List (Option Nat × Nat)} (h : EndsL K H as es) (s : Same H H') : EndsL K H' as es := ⟨h.1, fun j a e e1 e2 => by
  obtain ⟨v, h1, h2⟩ := h.2 j a e e1 e2
  exact ⟨v, s _ _ h1, PnAt.same h2 s⟩⟩
theorem EndsL.app {K : PySem.W.Frag} {H : Hp} {as bs : List Addr} {es fs : List (Option Nat × Nat)} (h : EndsL K H as es) (g : EndsL K H bs fs) : EndsL K H (as ++ bs) (es ++ fs) := by
  refine ⟨by rw [List.length_append, List.length_append, h.1, g.1], fun j a e e1 e2 => ?_⟩
  by_cases c : j < as.length
  · rw [List.getElem?_append_left c] at e1
    rw [List.getElem?_append_left (by rw [← h.1]; exact c)] at e2
    exact h.2 j a e e1 e2
  · rw [List.getElem?_append_right (by omega)] at e1
    rw [List.getElem?_append_right (by rw [← h.1]; omega), ← h.1] at e2
    exact g.2 _ a e e1 e2
noncomputable def spEnds (K : PySem.W.Frag) (n : Nat) : Sp := fun vs H Q _ => ∃ (v : V) (pl : Pn) (d : Nat), vs = [v, .int (d : Int)] ∧ PnAt K H pl v ∧ pl.dp ≤ n ∧ n ≤ 12 ∧ ∀ l as H', H l = none → Same H H' → H' l = some (.lst (as.map V.ref)) → EndsL K H' as (ends pl d) → Q (.ref l) H'
theorem op_neTAK {X : Cx} (K : PySem.W.Frag) (hK : X.K = K) (hu : X.A.units + 64 < cLine) : OpR X (compareOp .NotEq) (rEqTA K true) := by
  subst hK
  exact op_neTA hu
noncomputable def nums (es : List (Option Nat × Nat)) : List (Nat × Nat) := es.filterMap fun e => e.1.map fun n => (n, e.2)
theorem nums_has : ∀ es : List (Option Nat × Nat), decide (0 < (nums es).length) = es.any (fun e => e.1.isSome)
  | [] => rfl
  | (none, d) :: es => by
    have := nums_has es
    rw [List.any_cons]
    exact this
  | (some n, d) :: es => by
    rw [List.any_cons]
    show decide (0 < (nums es).length + 1) = _
    exact decide_eq_true (by omega)
noncomputable def NumL (H : Hp) (as : List Addr) (nd : List (Nat × Nat)) : Prop := as.length = nd.length ∧ ∀ (j : Nat) (a : Addr) (e : Nat × Nat), as[j]? = some a → nd[j]? = some e → H a = some (.tup [.int (e.2 : Int), .int (e.1 : Int)])
theorem NumL.same {H H' : Hp} {as : List Addr} {nd : List (Nat × Nat)} (h : NumL H as nd) (s : Same H H') : NumL H' as nd := ⟨h.1, fun j a e e1 e2 => s _ _ (h.2 j a e e1 e2)⟩
theorem NumL.snoc {H : Hp} {as : List Addr} {nd : List (Nat × Nat)} {p : Addr} {n d : Nat} (h : NumL H as nd) (hp : H p = some (.tup [.int (d : Int), .int (n : Int)])) : NumL H (as ++ [p]) (nd ++ [(n, d)]) := by
  refine ⟨by rw [List.length_append, List.length_append, h.1]; rfl, fun j a e e1 e2 => ?_⟩
  by_cases c : j < as.length
  · rw [List.getElem?_append_left c] at e1
    rw [List.getElem?_append_left (by rw [← h.1]; exact c)] at e2
    exact h.2 j a e e1 e2
  · rw [List.getElem?_append_right (by omega)] at e1
    rw [List.getElem?_append_right (by rw [← h.1]; omega), ← h.1] at e2
    have hj : j - as.length = 0 := by
      have := (List.getElem?_eq_some_iff.mp e1).1
      simpa using this
    rw [hj] at e1 e2
    cases e1
    cases e2
    exact hp
noncomputable def spNE2 (K : PySem.W.Frag) (CS : Addr) : Sp := fun vs H Q E => ∃ (v : V) (pl : Pn), vs = [v] ∧ PnAt K H pl v ∧ pl.dp ≤ 12 ∧ (pl.has = true → ∀ l as H', Same H H' → H' l = some (.lst (as.map V.ref)) → NumL H' as (nums (ends pl 0)) → Q (.ref l) H') ∧ (pl.has = false → ∀ H', Same H H' → E (.ref CS) none H')
section
variable {P : Program} {w : World} {K : PySem.W.Frag} {mg : Str → Option Value} {base : Heap} {f CS : Addr} {fd : FuncData} {mS : List Value}
theorem ok_ends_of {lv n : Nat} {spG : Sp} (F_ends_of : Fun K "ends_of" "ends_of" s_ends_of f fd) (g_ends_of : Fn P w K mg base "ends_of" p_ends_of lv spG) (hg : ∀ m vs H Q E, n = m + 1 → spEnds K m vs H Q E → spG vs H Q E) : FnOk P w K mg base CX0 (lv + 1) f fd p_ends_of (spEnds K n) := by
  refine F_ends_of.ok sc_ends_of (fun vs H Q E h => ?_) (fun cdv A outer s H vs Q E hr h => ?_)
  · obtain ⟨v, pl, d, rfl, _⟩ := h
    rfl
  obtain ⟨v, pl, d, rfl, hP, hd, hn, q⟩ := h
  refine ⟨_, (pss_cons (ps_if (pt_cmpR op_eq (pe_ix ix_tup (pv 0) pe_int (fun _ _ => rfl)) pe_str (nomark _)) (pss_one (ps_ret (pe_op op_cat (pe_fn g_ends_of hr (pa_cons (pe_ix ix_tup (pv 0) pe_int (fun _ _ => rfl)) (pa_cons (pe_op op_add (pv 1) pe_int) pa_nil))) (pe_fn g_ends_of hr (pa_cons (pe_ix ix_tup (pv 0) pe_int (fun _ _ => rfl)) (pa_cons (pe_op op_add (pv 1) pe_int) pa_nil)))))) pss_nil)
      (pss_one (ps_ret (pe_lst (pa_cons (pe_tup (pa_cons (pv 1) (pa_cons (pv 0) pa_nil))) pa_nil))))), ?_⟩
  have leaf : ∀ (o : Option Nat), ends (o.elim .again .num) d = [(o, d)] := fun o => by cases o <;> rfl
  have last : ∀ (o : Option Nat) (v : V) (p l : Addr), LeafV K H o v → pl = o.elim .again .num → H p = none → (upd H p (.tup [V.int (d : Int), v])) l = none → Q (.ref l) (upd (upd H p (.tup [V.int (d : Int), v])) l (.lst [V.ref p])) := fun o v p l hv e fp fl => by
    have y1 := same_new fp (.tup [V.int (d : Int), v])
    have y2 := same_new fl (.lst [V.ref p])
    have nl : H l = none := by
      cases e : H l with
      | none => rfl
      | some o => have := y1 _ _ e; rw [fl] at this; cases this
    refine q l [p] _ nl (y1.trans y2) upd_same ?_
    rw [e, leaf o]
    refine ⟨rfl, fun j a e' h1 h2 => ?_⟩
    have hj : j = 0 := by
      have := (List.getElem?_eq_some_iff.mp h1).1
      simpa using this
    subst hj
    cases h1
    cases h2
    exact ⟨v, y2 _ _ upd_same, PnAt.same hv (y1.trans y2)⟩
  cases pl with
  | num m =>
    obtain ⟨p, rfl, h⟩ := id hP
    refine ⟨_, rfl, p, _, _, _, rfl, rfl, SqT.of h, rfl, rfl, _, rfl, ite2 (fun c => absurd (of_decide_eq_true c) (by decide +kernel)) (fun _ => ?_)⟩
    exact ⟨_, rfl, _, rfl, (by show 2 ≤ sizeLine; decide), fun p' fp => ⟨(by show 1 ≤ sizeLine; decide), fun l fl => last (some m) _ p' l hP rfl fp fl⟩⟩
  | again =>
    obtain ⟨p, rfl, h⟩ := id hP
    refine ⟨_, rfl, p, _, _, _, rfl, rfl, h.sq, rfl, rfl, _, rfl, ite2 (fun c => absurd (of_decide_eq_true c) (by decide +kernel)) (fun _ => ?_)⟩
    exact ⟨_, rfl, _, rfl, (by show 2 ≤ sizeLine; decide), fun p' fp => ⟨(by show 1 ≤ sizeLine; decide), fun l fl => last none _ p' l hP rfl fp fl⟩⟩
  | ask pl1 pl2 =>
    clear last leaf
    obtain ⟨p, y, z, rfl, h, h1, h2⟩ := id hP
    have hd' : max pl1.dp pl2.dp + 1 ≤ n := hd
    obtain ⟨m, rfl⟩ : ∃ m, n = m + 1 := ⟨n - 1, by omega⟩
    refine ⟨_, rfl, p, _, _, _, rfl, rfl, SqT.of h, rfl, rfl, _, rfl, ite2 (fun _ => ?_) (fun c => absurd (by decide +kernel) c)⟩
    refine ⟨_, rfl, p, _, _, _, rfl, rfl, SqT.of h, rfl, _, rfl, _, _, rfl, rfl, hg m _ _ _ _ rfl ⟨y, pl1, d + 1, rfl, h1, by omega, by omega, fun l1 as1 H1 n1 s1 w1 e1 => ?_⟩⟩
    refine ⟨_, rfl, p, _, _, _, rfl, rfl, SqT.of (s1 _ _ h), rfl, _, rfl, _, _, rfl, rfl, hg m _ _ _ _ rfl ⟨z, pl2, d + 1, rfl, h2.same s1, by omega, by omega, fun l2 as2 H2 n2 s2 w2 e2 => ?_⟩⟩
    have e1' := e1.same s2
    have b1 := ends_len pl1 (d + 1)
    have b2 := ends_len pl2 (d + 1)
    have c1 : 2 ^ pl1.dp ≤ 4096 := Nat.le_trans (Nat.pow_le_pow_right (n := 2) (by decide) (show pl1.dp ≤ 12 by omega)) (by decide)
    have c2 : 2 ^ pl2.dp ≤ 4096 := Nat.le_trans (Nat.pow_le_pow_right (n := 2) (by decide) (show pl2.dp ≤ 12 by omega)) (by decide)
    refine ⟨l1, l2, _, _, rfl, rfl, s2 _ _ w1, w2, small (by rw [List.length_map, List.length_map, e1.1, e2.1]; omega), fun l3 f3 => ?_⟩
    have y3 := same_new f3 (.lst (as1.map V.ref ++ as2.map V.ref))
    have n3 : H l3 = none := by
      cases e : H l3 with
      | none => rfl
      | some o => have := s2 _ _ (s1 _ _ e); rw [f3] at this; cases this
    refine q l3 (as1 ++ as2) _ n3 ((s1.trans s2).trans y3) (by rw [upd_same, List.map_append]) ((e1'.app e2).same y3)
theorem ends_all (F : Fun K "ends_of" "ends_of" s_ends_of f fd) (mo : ∀ {k : Nat} {sp : Sp}, FnOk P w K mg base CX0 k f fd p_ends_of sp → Fn P w K mg base "ends_of" p_ends_of k sp) : ∀ n : Nat, FnOk P w K mg base CX0 (n + 1) f fd p_ends_of (spEnds K n)
  | 0 => ok_ends_of (lv := 0) (n := 0) F (mo (ok__law_same0 (sp := fun _ _ _ _ => False) (fun _ _ _ _ h => h))) (fun m vs H Q E e => by cases e)
  | n + 1 => ok_ends_of (lv := n + 1) (n := n + 1) F (mo (ends_all F mo n)) (fun m vs H Q E e h => by cases e; exact h)
theorem ok_numbered_ends (F_numbered_ends : Fun K "numbered_ends" "numbered_ends" s_numbered_ends f fd) (B : Bl mg) (C' : Cn K mg) (X_NoShares : Exc K mg "NoShares" CS mS) (g_ends_of : Fn P w K mg base "ends_of" p_ends_of 13 (spEnds K 12)) : FnOk P w K mg base (CXR P w) 14 f fd p_numbered_ends (spNE2 K CS) := by
  refine F_numbered_ends.okX sc_numbered_ends (fun vs H Q E h => ?_) (fun cdv A outer s H vs Q E hr h => ?_)
  · obtain ⟨v, pl, rfl, _⟩ := h
    rfl
  obtain ⟨v, pl, rfl, hP, hd, q, e⟩ := h
  obtain ⟨A_AGAIN, C_AGAIN, hAg⟩ := C'.AGAIN
  refine ⟨_, (pss_cons (ps_comp 1 [] ["plan", "ends", "depth", "end"] 2 rfl sc_numbered_ends.nd rfl rfl (pi_list (pe_fn g_ends_of hr (pa_cons (pv 0) (pa_cons pe_int pa_nil)))) (fun _ _ _ _ _ => (pg_tupK K 2 rfl (pgs_cons (pg_name (i := 2) nd_2 rfl (Or.inl rfl) (Or.inr rfl)) (pgs_cons (pg_name (i := 3) nd_2 rfl (Or.inl rfl) (Or.inr rfl)) pgs_nil)) rfl rfl rfl)) (fun _ _ _ _ _ => (pif_one (pt_cmpR (op_neTAK K rfl hr.units) (pv 3) (pe_glob (v := .ref A_AGAIN) rfl C_AGAIN rfl) (nomark _)))) (fun _ _ _ _ _ => (pe_tup (pa_cons (pv 2) (pa_cons (pe_ix (ix_tupK K rfl) (pv 3) pe_int (fun _ _ => rfl)) pa_nil)))))
      (pss_cons (ps_if (pt_cmpR op_eq (pe_callB call_len_seq rfl B.len_ L3.bt_len (pa_cons (pv 1) pa_nil)) pe_int (nomark _)) (pss_one (ps_raise X_NoShares (pa_cons pe_str pa_nil))) pss_nil)
      (pss_one (ps_ret (pv 1))))), ?_⟩
  refine ⟨_, rfl, v, pl, 0, rfl, hP, hd, by decide, fun l as H1 nl s1 w1 e1 => ?_⟩
  have b1 := ends_len pl 0
  have c1 : 2 ^ pl.dp ≤ 4096 := Nat.le_trans (Nat.pow_le_pow_right (n := 2) (by decide) hd) (by decide)
  refine ⟨l, rfl, ⟨_, SqL.of w1⟩, comp_list (xs := as.map V.ref) (fun j acc σ' H' => ∃ (bs : List Addr) (o2 o3 : Option V), acc = bs.map V.ref ∧ bs.length ≤ j ∧ NumL H' bs (nums ((ends pl 0).take j)) ∧ Same H1 H' ∧ σ' = [some v, none, o2, o3]) ⟨[], _, _, rfl, Nat.le_refl _, ⟨rfl, fun j a e h => by simp at h⟩, Same.refl _, rfl⟩
    (fun j acc σ' H' hj ⟨bs, _, _, e', hb, _⟩ => by
      rw [e', List.length_map]
      rw [List.length_map, e1.1] at hj
      omega) (fun j acc σ' H' _ ⟨_, _, _, _, _, _, y, _⟩ => SqL.of (y _ _ w1)) ?_ ?_⟩
  · rintro j x acc σ' H' hx ⟨bs, o2, o3, rfl, hb, hN, y, rfl⟩
    obtain ⟨a, hja⟩ : ∃ a, as[j]? = some a := by
      rw [List.getElem?_map] at hx
      cases e : as[j]? with
      | none => rw [e] at hx; cases hx
      | some r => exact ⟨r, rfl⟩
    rw [List.getElem?_map, hja] at hx
    cases hx
    have hj : j < (ends pl 0).length := by rw [← e1.1]; exact (List.getElem?_eq_some_iff.mp hja).1
    obtain ⟨en, hen⟩ : ∃ en, (ends pl 0)[j]? = some en := ⟨_, List.getElem?_eq_getElem hj⟩
    obtain ⟨lv, ha, hleaf⟩ := e1.2 j a en hja hen
    have ha' := y _ _ ha
    have hnext : nums ((ends pl 0).take (j + 1)) = nums ((ends pl 0).take j) ++ nums [en] := by
      rw [List.take_add_one, hen]
      exact List.filterMap_append
    refine ⟨a, _, rfl, SqT.of ha', rfl, _, _, rfl, _, _, rfl, rfl, ?_⟩
    unfold LeafV at hleaf
    obtain ⟨eo, ed⟩ := en
    cases eo with
    | none =>
      obtain ⟨p, rfl, hp⟩ := hleaf
      refine ⟨_, rfl, p, A_AGAIN, _, _, _, rfl, rfl, AgAt.sq (K := K) (H := H') (p := p) (hp.imp (y _ _) id), hAg _, _, rfl, ite2 (fun c => absurd c (by decide +kernel)) (fun _ => ⟨bs, _, _, rfl, by omega, ?_, y, rfl⟩)⟩
      rw [hnext]
      show NumL H' bs (_ ++ [])
      rw [List.append_nil]
      exact hN
    | some n =>
      obtain ⟨p, rfl, hp⟩ := hleaf
      refine ⟨_, rfl, p, A_AGAIN, _, _, _, rfl, rfl, SqT.of (y _ _ hp), hAg _, _, rfl, ite2 (fun _ => ?_) (fun c => absurd (by show (!(decide (("is" : Str) = "again") && false)) = true; rw [Bool.and_false]; rfl) c)⟩
      refine ⟨_, rfl, _, rfl, p, _, _, _, rfl, rfl, SqT.of (y _ _ hp), rfl, (by show 2 ≤ sizeLine; decide), fun p2 fp2 => ?_⟩
      refine ⟨bs ++ [p2], _, _, by rw [List.map_append]; rfl, by rw [List.length_append]; show bs.length + 1 ≤ _; omega, ?_, y.trans (same_new fp2 _), rfl⟩
      rw [hnext]
      exact (hN.same (same_new fp2 _)).snoc upd_same
  rintro acc σ' H2 D ⟨bs, o2, o3, rfl, hb, hN, y, rfl⟩ fD
  rw [List.length_map, e1.1, List.take_length] at hN
  have hany := nums_has (ends pl 0)
  rw [has_ends, ← hN.1] at hany
  have yD := same_new fD (.lst (bs.map V.ref))
  have s12 := (s1.trans y).trans yD
  refine ⟨_, rfl, D, _, rfl, .inl (SqL.of upd_same), rfl, _, rfl, ite2 (fun c => ?_) (fun c => ?_)⟩
  · have c' := of_decide_eq_true c
    rw [List.length_map] at c'
    injection c' with c'
    have : pl.has = false := by rw [← hany]; exact decide_eq_false (by omega)
    exact ⟨(by show 1 ≤ sizeLine; decide), e this _ s12⟩
  · have c' : ¬ bs.length = 0 := fun z => c (decide_eq_true (by rw [List.length_map, z]; rfl))
    have : pl.has = true := by rw [← hany]; exact decide_eq_true (by omega)
    exact ⟨_, rfl, q this D bs _ s12 upd_same (hN.same yD)⟩
end
theorem two_pos (n : Nat) : 4 ≤ 2 ^ (n + 2) := by
  have := Nat.pow_le_pow_right (show 0 < 2 by decide) (show 2 ≤ n + 2 by omega)
  exact this
noncomputable def spMkPn (K : PySem.W.Frag) (n : Nat) : Sp := fun vs H Q _ => ∃ (a t : Addr) (ns : List Int) (k : Nat), vs = [.ref a, .ref t, .int (n : Int)] ∧ Scr K H a ns ∧ ns.length ≤ 63 ∧ Twn H t k ∧ n ≤ 6 ∧ k + 2 ^ (n + 2) ≤ 700000 ∧
  ∀ v pl k' H', Grow t H H' → Twn H' t k' → k' + 1 ≤ k + 2 ^ (n + 2) → PnAt K H' pl v → pl.dp ≤ n → Q v H'
section
variable {P : Program} {w : World} {K : PySem.W.Frag} {mg : Str → Option Value} {base : Heap} {f : Addr} {fd : FuncData}
theorem ok__law_plan {lv n : Nat} {spG : Sp} (F__law_plan : Fun K "_law_plan" "_law_plan" s__law_plan f fd) (B : Bl mg) (g__law_draw : Fn P w K mg base "_law_draw" p__law_draw lv (spDraw K)) (g__law_one : Fn P w K mg base "_law_one" p__law_one lv (spOne K)) (g__law_plan : Fn P w K mg base "_law_plan" p__law_plan lv spG)
    (hg : ∀ m vs H Q E, n = m + 1 → spMkPn K m vs H Q E → spG vs H Q E) : FnOk P w K mg base CX0 (lv + 1) f fd p__law_plan (spMkPn K n) := by
  refine F__law_plan.ok sc__law_plan (fun vs H Q E h => ?_) (fun cdv A outer s H vs Q E hr h => ?_)
  · obtain ⟨a, t, ns, k, rfl, _⟩ := h
    rfl
  obtain ⟨a, t, ns, k, rfl, hS, h63, hT, hn6, hk, q⟩ := h
  refine ⟨_, (pss_cons (ps_set (i := 3) sc__law_plan.nd rfl (Or.inl rfl) (pe_fn g__law_draw hr (pa_cons (pv 0) (pa_cons (pv 1) (pa_cons pe_int pa_nil)))))
      (pss_cons (ps_if (PW.pt (pw_or (pt_cmpR op_eq (pv 2) pe_int (nomark _)) (pw_or1 (pt_cmpR op_eq (pv 3) pe_int (nomark _))))) (pss_one (ps_ret (pe_tup (pa_cons pe_str (pa_cons (pe_fn g__law_draw hr (pa_cons (pv 0) (pa_cons (pv 1) (pa_cons (pe_fn g__law_one hr (PB.go (pb_cons (pv 0) (pb_cons (pv 1) (pb_cons (pe_lst (pa_cons pe_int (pa_cons pe_int pa_nil))) pb_nil se_List) se_Name) se_Name))) pa_nil)))) pa_nil))))) pss_nil)
      (pss_cons (ps_if (pt_cmpR op_eq (pv 3) pe_int (nomark _)) (pss_one (ps_ret (pe_tup (pa_cons pe_str pa_nil)))) pss_nil)
      (pss_one (ps_ret (pe_tup (pa_cons pe_str (pa_cons (pe_fn g__law_plan hr (pa_cons (pv 0) (pa_cons (pv 1) (pa_cons (pe_op op_sub (pv 2) pe_int) pa_nil)))) (pa_cons (pe_fn g__law_plan hr (pa_cons (pv 0) (pa_cons (pv 1) (pa_cons (pe_op op_sub (pv 2) pe_int) pa_nil)))) pa_nil))))))))), ?_⟩
  have tp := two_pos n
  refine ⟨_, rfl, _, rfl, a, t, ns, k, 6, rfl, hS, h63, hT, by omega, by decide, fun H1 g1 t1 => ?_⟩
  have hS1 := g1.scr hT hS
  generalize drw ns (k + 1) 6 = kind
  refine ⟨_, rfl, rfl, _, rfl, ?_⟩
  by_cases hn : n = 0
  · rw [show decide (V.int (n : Int) = V.int 0) = true from decide_eq_true (by rw [hn]; rfl)]
    refine iteT (iteT ?_)
    refine ⟨_, rfl, _, rfl, _, rfl, _, rfl, (by show 2 ≤ sizeLine; decide), fun l fl => ?_⟩
    have yl := same_new fl (.lst [V.int 3, V.int 100])
    have wl : (upd H1 l (.lst [V.int 3, V.int 100])) l = some (.lst [V.int 3, V.int 100]) := upd_same
    generalize upd H1 l (.lst [V.int 3, V.int 100]) = H2 at yl wl ⊢
    have y2 := yl
    have w2 := wl
    have t2 := y2.twn t1
    have hS2 := y2.scr hS1
    refine ⟨a, t, l, ns, k + 1, _, rfl, hS2, h63, t2, by omega, w2, twn_new t1 fl, (by show 0 < 2; decide), (by show 2 ≤ 1000; decide), fun jj v H3 _ hv g3 t3 => ?_⟩
    obtain ⟨m0, rfl, hm0⟩ : ∃ m0 : Int, v = .int m0 ∧ 0 < m0 := by
      match jj, hv with
      | 0, hv => exact ⟨3, (Option.some.inj hv).symm, by decide⟩
      | 1, hv => exact ⟨100, (Option.some.inj hv).symm, by decide⟩
    have hS3 := g3.scr t2 hS2
    refine ⟨a, t, ns, k + 1 + 1, m0, rfl, hS3, h63, t3, by omega, hm0, fun H4 g4 t4 => ?_⟩
    have d0 := drw_nn ns (k + 1 + 1 + 1) hm0
    generalize drw ns (k + 1 + 1 + 1) m0 = dd at d0
    obtain ⟨nn, rfl⟩ := nat_of d0
    refine tup_step (by show 2 ≤ 1000; decide) fun p H5 y5 w5 => ?_
    have G := ((g1.trans (.same y2)).trans g3).trans (g4.trans (.same y5))
    exact q (.ref p) (.num nn) _ H5 G (y5.twn t4) (by have := two_pos n; omega) ⟨p, rfl, w5⟩ (Nat.zero_le _)
  rw [show decide (V.int (n : Int) = V.int 0) = false from decide_eq_false (fun e => hn (by injection e with e; omega))]
  refine iteF ⟨_, rfl, rfl, _, rfl, ite2 (fun _ => ?_) (fun _ => ?_)⟩
  · refine ⟨_, rfl, _, rfl, _, rfl, _, rfl, (by show 2 ≤ sizeLine; decide), fun l fl => ?_⟩
    have yl := same_new fl (.lst [V.int 3, V.int 100])
    have wl : (upd H1 l (.lst [V.int 3, V.int 100])) l = some (.lst [V.int 3, V.int 100]) := upd_same
    generalize upd H1 l (.lst [V.int 3, V.int 100]) = H2 at yl wl ⊢
    have y2 := yl
    have w2 := wl
    have t2 := y2.twn t1
    have hS2 := y2.scr hS1
    refine ⟨a, t, l, ns, k + 1, _, rfl, hS2, h63, t2, by omega, w2, twn_new t1 fl, (by show 0 < 2; decide), (by show 2 ≤ 1000; decide), fun jj v H3 _ hv g3 t3 => ?_⟩
    obtain ⟨m0, rfl, hm0⟩ : ∃ m0 : Int, v = .int m0 ∧ 0 < m0 := by
      match jj, hv with
      | 0, hv => exact ⟨3, (Option.some.inj hv).symm, by decide⟩
      | 1, hv => exact ⟨100, (Option.some.inj hv).symm, by decide⟩
    have hS3 := g3.scr t2 hS2
    refine ⟨a, t, ns, k + 1 + 1, m0, rfl, hS3, h63, t3, by omega, hm0, fun H4 g4 t4 => ?_⟩
    have d0 := drw_nn ns (k + 1 + 1 + 1) hm0
    generalize drw ns (k + 1 + 1 + 1) m0 = dd at d0
    obtain ⟨nn, rfl⟩ := nat_of d0
    refine tup_step (by show 2 ≤ 1000; decide) fun p H5 y5 w5 => ?_
    have G := ((g1.trans (.same y2)).trans g3).trans (g4.trans (.same y5))
    exact q (.ref p) (.num nn) _ H5 G (y5.twn t4) (by have := two_pos n; omega) ⟨p, rfl, w5⟩ (Nat.zero_le _)
  refine ⟨_, rfl, rfl, _, rfl, ite2 (fun _ => ?_) (fun _ => ?_)⟩
  · refine tup_step (by show 1 ≤ 1000; decide) fun p H5 y5 w5 => ?_
    exact q (.ref p) .again _ H5 (g1.trans (.same y5)) (y5.twn t1) (by omega) ⟨p, rfl, .inl w5⟩ (Nat.zero_le _)
  obtain ⟨m, rfl⟩ : ∃ m, n = m + 1 := ⟨n - 1, by omega⟩
  have em : (((m + 1 : Nat) : Int)) - 1 = (m : Int) := by omega
  have e2 : 2 ^ (m + 1 + 2) = 2 * 2 ^ (m + 2) := by rw [Nat.pow_succ 2 (m + 2), Nat.mul_comm]
  have tp2 := two_pos m
  refine ⟨_, rfl, _, rfl, _, rfl, _, _, rfl, rfl, hg m _ _ _ _ rfl ⟨a, t, ns, k + 1, by rw [← em]; rfl, hS1, h63, t1, by omega, by omega, fun v1 pl1 k1 H2 g2 t2 hk2 hv1 hd1 => ?_⟩⟩
  have hS2 := g2.scr t1 hS1
  refine ⟨_, rfl, _, rfl, _, rfl, _, _, rfl, rfl, hg m _ _ _ _ rfl ⟨a, t, ns, k1, by rw [← em]; rfl, hS2, h63, t2, by omega, by omega, fun v2 pl2 k2 H3 g3 t3 hk3 hv2 hd2 => ?_⟩⟩
  refine tup_step (by show 3 ≤ 1000; decide) fun p H5 y5 w5 => ?_
  exact q (.ref p) (.ask pl1 pl2) k2 H5 ((g1.trans g2).trans (g3.trans (.same y5))) (y5.twn t3) (by omega) ⟨p, v1, v2, rfl, w5, (hv1.town t2 g3).same y5, hv2.same y5⟩ (by show max pl1.dp pl2.dp + 1 ≤ m + 1; omega)
end
noncomputable def vopN : Option Nat → V
  | none => .non
  | some n => .int (n : Int)
noncomputable def LEnds (H : Hp) (as : List Addr) (es : List (Option Nat × Nat)) : Prop := as.length = es.length ∧ ∀ (j : Nat) (a : Addr) (e : Option Nat × Nat), as[j]? = some a → es[j]? = some e → H a = some (.tup [vopN e.1, .int ((2 ^ e.2 : Nat) : Int), .int (e.2 : Int)])
theorem LEnds.same {H H' : Hp} {as : List Addr} {es : List (Option Nat × Nat)} (h : LEnds H as es) (s : Same H H') : LEnds H' as es := ⟨h.1, fun j a e e1 e2 => s _ _ (h.2 j a e e1 e2)⟩
theorem LEnds.app {H : Hp} {as bs : List Addr} {es fs : List (Option Nat × Nat)} (h : LEnds H as es) (g : LEnds H bs fs) : LEnds H (as ++ bs) (es ++ fs) := by
  refine ⟨by rw [List.length_append, List.length_append, h.1, g.1], fun j a e e1 e2 => ?_⟩
  by_cases c : j < as.length
  · rw [List.getElem?_append_left c] at e1
    rw [List.getElem?_append_left (by rw [← h.1]; exact c)] at e2
    exact h.2 j a e e1 e2
  · rw [List.getElem?_append_right (by omega)] at e1
    rw [List.getElem?_append_right (by rw [← h.1]; omega), ← h.1] at e2
    exact g.2 _ a e e1 e2
noncomputable def spLEnds (K : PySem.W.Frag) (n : Nat) : Sp := fun vs H Q _ => ∃ (v : V) (pl : Pn) (d : Nat), vs = [v, .int ((2 ^ d : Nat) : Int), .int (d : Int)] ∧ PnAt K H pl v ∧ pl.dp ≤ n ∧ n ≤ 12 ∧ ∀ l as H', H l = none → Same H H' → H' l = some (.lst (as.map V.ref)) → LEnds H' as (ends pl d) → Q (.ref l) H'
section
variable {P : Program} {w : World} {K : PySem.W.Frag} {mg : Str → Option Value} {base : Heap} {f : Addr} {fd : FuncData}
theorem ok__law_ends {lv n : Nat} {spG : Sp} (F__law_ends : Fun K "_law_ends" "_law_ends" s__law_ends f fd) (g__law_ends : Fn P w K mg base "_law_ends" p__law_ends lv spG) (hg : ∀ m vs H Q E, n = m + 1 → spLEnds K m vs H Q E → spG vs H Q E) : FnOk P w K mg base CX0 (lv + 1) f fd p__law_ends (spLEnds K n) := by
  refine F__law_ends.ok sc__law_ends (fun vs H Q E h => ?_) (fun cdv A outer s H vs Q E hr h => ?_)
  · obtain ⟨v, pl, d, rfl, _⟩ := h
    rfl
  obtain ⟨v, pl, d, rfl, hP, hd, hn, q⟩ := h
  refine ⟨_, (pss_cons (ps_if (pt_cmpR op_eq (pe_ix ix_tup (pv 0) pe_int (fun _ _ => rfl)) pe_str (nomark _)) (pss_one (ps_ret (pe_lst (pa_cons (pe_tup (pa_cons (pe_ix ix_tup (pv 0) pe_int (fun _ _ => rfl)) (pa_cons (pv 1) (pa_cons (pv 2) pa_nil)))) pa_nil)))) pss_nil)
      (pss_cons (ps_if (pt_cmpR op_eq (pe_ix ix_tup (pv 0) pe_int (fun _ _ => rfl)) pe_str (nomark _)) (pss_one (ps_ret (pe_lst (pa_cons (pe_tup (pa_cons pe_non (pa_cons (pv 1) (pa_cons (pv 2) pa_nil)))) pa_nil)))) pss_nil)
      (pss_one (ps_ret (pe_op op_cat (pe_fn g__law_ends hr (pa_cons (pe_ix ix_tup (pv 0) pe_int (fun _ _ => rfl)) (pa_cons (pe_op op_mul (pv 1) pe_int) (pa_cons (pe_op op_add (pv 2) pe_int) pa_nil)))) (pe_fn g__law_ends hr (pa_cons (pe_ix ix_tup (pv 0) pe_int (fun _ _ => rfl)) (pa_cons (pe_op op_mul (pv 1) pe_int) (pa_cons (pe_op op_add (pv 2) pe_int) pa_nil))))))))), ?_⟩
  have leaf : ∀ (o : Option Nat), ends (o.elim .again .num) d = [(o, d)] := fun o => by cases o <;> rfl
  have last : ∀ (o : Option Nat) (p l : Addr), pl = o.elim .again .num → H p = none → (upd H p (.tup [vopN o, V.int ((2 ^ d : Nat) : Int), V.int (d : Int)])) l = none → Q (.ref l) (upd (upd H p (.tup [vopN o, V.int ((2 ^ d : Nat) : Int), V.int (d : Int)])) l (.lst [V.ref p])) := fun o p l e fp fl => by
    have y1 := same_new fp (.tup [vopN o, V.int ((2 ^ d : Nat) : Int), V.int (d : Int)])
    have y2 := same_new fl (.lst [V.ref p])
    have nl : H l = none := by
      cases e : H l with
      | none => rfl
      | some o => have := y1 _ _ e; rw [fl] at this; cases this
    refine q l [p] _ nl (y1.trans y2) upd_same ?_
    rw [e, leaf o]
    refine ⟨rfl, fun j a e' h1 h2 => ?_⟩
    have hj : j = 0 := by
      have := (List.getElem?_eq_some_iff.mp h1).1
      simpa using this
    subst hj
    cases h1
    cases h2
    exact y2 _ _ upd_same
  cases pl with
  | num m =>
    obtain ⟨p, rfl, h⟩ := id hP
    refine ⟨_, rfl, p, _, _, _, rfl, rfl, SqT.of h, rfl, rfl, _, rfl, ite2 (fun _ => ?_) (fun c => absurd (by decide +kernel) c)⟩
    exact ⟨_, rfl, p, _, _, _, rfl, rfl, SqT.of h, rfl, _, rfl, _, rfl, (by show 3 ≤ sizeLine; decide), fun p' fp => ⟨(by show 1 ≤ sizeLine; decide), fun l fl => last (some m) p' l rfl fp fl⟩⟩
  | again =>
    obtain ⟨p, rfl, h⟩ := id hP
    refine ⟨_, rfl, p, _, _, _, rfl, rfl, h.sq, rfl, rfl, _, rfl, ite2 (fun c => absurd (of_decide_eq_true c) (by decide +kernel)) (fun _ => ?_)⟩
    refine ⟨_, rfl, p, _, _, _, rfl, rfl, h.sq, rfl, rfl, _, rfl, ite2 (fun _ => ?_) (fun c => absurd (by decide +kernel) c)⟩
    exact ⟨_, rfl, _, rfl, (by show 3 ≤ sizeLine; decide), fun p' fp => ⟨(by show 1 ≤ sizeLine; decide), fun l fl => last none p' l rfl fp fl⟩⟩
  | ask pl1 pl2 =>
    clear last leaf
    obtain ⟨p, y, z, rfl, h, h1, h2⟩ := id hP
    have hd' : max pl1.dp pl2.dp + 1 ≤ n := hd
    obtain ⟨m, rfl⟩ : ∃ m, n = m + 1 := ⟨n - 1, by omega⟩
    have e2p : ((2 ^ d : Nat) : Int) * 2 = ((2 ^ (d + 1) : Nat) : Int) := by rw [Nat.pow_succ]; omega
    refine ⟨_, rfl, p, _, _, _, rfl, rfl, SqT.of h, rfl, rfl, _, rfl, ite2 (fun c => absurd (of_decide_eq_true c) (by decide +kernel)) (fun _ => ?_)⟩
    refine ⟨_, rfl, p, _, _, _, rfl, rfl, SqT.of h, rfl, rfl, _, rfl, ite2 (fun c => absurd (of_decide_eq_true c) (by decide +kernel)) (fun _ => ?_)⟩
    refine ⟨_, rfl, p, _, _, _, rfl, rfl, SqT.of h, rfl, _, rfl, _, _, rfl, rfl, .inr ⟨by decide, by decide⟩, _, rfl, _, _, rfl, rfl, hg m _ _ _ _ rfl ⟨y, pl1, d + 1, by rw [← e2p]; rfl, h1, by omega, by omega, fun l1 as1 H1 n1 s1 w1 e1 => ?_⟩⟩
    refine ⟨_, rfl, p, _, _, _, rfl, rfl, SqT.of (s1 _ _ h), rfl, _, rfl, _, _, rfl, rfl, .inr ⟨by decide, by decide⟩, _, rfl, _, _, rfl, rfl, hg m _ _ _ _ rfl ⟨z, pl2, d + 1, by rw [← e2p]; rfl, h2.same s1, by omega, by omega, fun l2 as2 H2 n2 s2 w2 e2 => ?_⟩⟩
    have e1' := e1.same s2
    have b1 := ends_len pl1 (d + 1)
    have b2 := ends_len pl2 (d + 1)
    have c1 : 2 ^ pl1.dp ≤ 4096 := Nat.le_trans (Nat.pow_le_pow_right (n := 2) (by decide) (show pl1.dp ≤ 12 by omega)) (by decide)
    have c2 : 2 ^ pl2.dp ≤ 4096 := Nat.le_trans (Nat.pow_le_pow_right (n := 2) (by decide) (show pl2.dp ≤ 12 by omega)) (by decide)
    refine ⟨l1, l2, _, _, rfl, rfl, s2 _ _ w1, w2, small (by rw [List.length_map, List.length_map, e1.1, e2.1]; omega), fun l3 f3 => ?_⟩
    have y3 := same_new f3 (.lst (as1.map V.ref ++ as2.map V.ref))
    have n3 : H l3 = none := by
      cases e : H l3 with
      | none => rfl
      | some o => have := s2 _ _ (s1 _ _ e); rw [f3] at this; cases this
    refine q l3 (as1 ++ as2) _ n3 ((s1.trans s2).trans y3) (by rw [upd_same, List.map_append]) ((e1'.app e2).same y3)
theorem lends_all (F : Fun K "_law_ends" "_law_ends" s__law_ends f fd) (mo : ∀ {k : Nat} {sp : Sp}, FnOk P w K mg base CX0 k f fd p__law_ends sp → Fn P w K mg base "_law_ends" p__law_ends k sp) : ∀ n : Nat, FnOk P w K mg base CX0 (n + 1) f fd p__law_ends (spLEnds K n)
  | 0 => ok__law_ends (lv := 0) (n := 0) F (mo (ok__law_same0 (sp := fun _ _ _ _ => False) (fun _ _ _ _ h => h))) (fun m vs H Q E e => by cases e)
  | n + 1 => ok__law_ends (lv := n + 1) (n := n + 1) F (mo (lends_all F mo n)) (fun m vs H Q E e h => by cases e; exact h)
end
noncomputable def spDeep (K : PySem.W.Frag) : Sp := fun vs H Q _ => ∃ (v : V) (pl : Pn), vs = [v] ∧ PnAt K H pl v ∧ pl.dp ≤ 12 ∧ ∀ H', Same H H' → Q (.int (pl.dp : Int)) H'
noncomputable def spRowsTo : Sp := fun vs H Q _ => ∃ (d D : Nat), vs = [.int (d : Int), .int (D : Int)] ∧ d ≤ D ∧ D ≤ 12 ∧ Q (.int ((2 ^ (D - d) : Nat) : Int)) H
section
variable {P : Program} {w : World} {K : PySem.W.Frag} {mg : Str → Option Value} {base : Heap} {f : Addr} {fd : FuncData}
theorem ok_rows_to (F_rows_to : Fun K "rows_to" "rows_to" s_rows_to f fd) : FnOk P w K mg base CX0 1 f fd p_rows_to spRowsTo := by
  refine F_rows_to.ok sc_rows_to (fun vs H Q E h => ?_) (fun cdv A outer s H vs Q E hr h => ?_)
  · obtain ⟨d, D, rfl, _⟩ := h
    rfl
  obtain ⟨d, D, rfl, hd, hD, q⟩ := h
  refine ⟨_, (pss_one (ps_ret (pe_op op_shl pe_int (pe_op op_sub (pv 1) (pv 0))))), ?_⟩
  refine ⟨_, rfl, _, rfl, _, _, rfl, rfl, _, _, rfl, rfl, ⟨by omega, by omega, by decide⟩, ?_⟩
  show Q (V.int (1 * 2 ^ ((D : Int) - (d : Int)).toNat)) H
  rw [show ((D : Int) - (d : Int)).toNat = D - d by omega, Int.one_mul]
  rw [Int.natCast_pow] at q
  exact q
theorem ok_deep (F_deep : Fun K "deep" "deep" s_deep f fd) (B : Bl mg) (g_ends_of : Fn P w K mg base "ends_of" p_ends_of 13 (spEnds K 12)) : FnOk P w K mg base CX0 14 f fd p_deep (spDeep K) := by
  refine F_deep.ok sc_deep (fun vs H Q E h => ?_) (fun cdv A outer s H vs Q E hr h => ?_)
  · obtain ⟨v, pl, rfl, _⟩ := h
    rfl
  obtain ⟨v, pl, rfl, hP, hd, q⟩ := h
  refine ⟨_, (pss_one (ps_ret (pe_callB (call_maxL rfl) rfl B.max_ L3.bt_max (pa_cons (pe_comp [] ["plan", "depth", "end"] 2 rfl (pi_list (pe_fn g_ends_of hr (pa_cons (pv 0) (pa_cons pe_int pa_nil)))) (fun _ _ _ _ _ => (pg_tupK K 2 rfl (pgs_cons (pg_name (i := 1) nd_3 rfl (Or.inl rfl) (Or.inr rfl)) (pgs_cons (pg_name (i := 2) nd_3 rfl (Or.inl rfl) (Or.inr rfl)) pgs_nil)) rfl rfl rfl)) (fun _ _ _ _ _ => pif_nil) (fun _ _ _ _ _ => (pv 1))) pa_nil)))), ?_⟩
  refine ⟨_, rfl, v, pl, 0, rfl, hP, hd, by decide, fun l as H1 nl s1 w1 e1 => ?_⟩
  have b1 := ends_len pl 0
  have c1 : 2 ^ pl.dp ≤ 4096 := Nat.le_trans (Nat.pow_le_pow_right (n := 2) (by decide) hd) (by decide)
  refine ⟨l, rfl, ⟨_, SqL.of w1⟩, comp_list (xs := as.map V.ref) (fun j acc σ' H' => ∃ (o2 o3 : Option V), acc = ((((ends pl 0).take j).map fun e => (e.2 : Int))).map V.int ∧ H' = H1 ∧ σ' = [some v, o2, o3]) ⟨_, _, rfl, rfl, rfl⟩
    (fun j acc σ' H' hj ⟨_, _, e', _⟩ => by
      rw [e', List.length_map, List.length_map, List.length_take]
      omega) (fun j acc σ' H' _ ⟨_, _, _, y, _⟩ => SqL.of (by rw [y]; exact w1)) ?_ ?_⟩
  · rintro j x acc σ' H' hx ⟨o2, o3, rfl, rfl, rfl⟩
    obtain ⟨a, hja⟩ : ∃ a, as[j]? = some a := by
      rw [List.getElem?_map] at hx
      cases e : as[j]? with
      | none => rw [e] at hx; cases hx
      | some r => exact ⟨r, rfl⟩
    rw [List.getElem?_map, hja] at hx
    cases hx
    have hj : j < (ends pl 0).length := by rw [← e1.1]; exact (List.getElem?_eq_some_iff.mp hja).1
    obtain ⟨en, hen⟩ : ∃ en, (ends pl 0)[j]? = some en := ⟨_, List.getElem?_eq_getElem hj⟩
    obtain ⟨lv, ha, hleaf⟩ := e1.2 j a en hja hen
    refine ⟨a, _, rfl, SqT.of ha, rfl, _, _, rfl, _, _, rfl, rfl, _, rfl, _, _, ?_, rfl, rfl⟩
    rw [List.take_add_one, hen, List.map_append, List.map_append]
    rfl
  rintro acc σ' H2 D ⟨o2, o3, rfl, rfl, rfl⟩ fD
  rw [List.length_map, e1.1, List.take_length]
  have yD := same_new fD (.lst (((ends pl 0).map fun e => (e.2 : Int)).map V.int))
  refine ⟨D, _, rfl, SqL.of upd_same, ?_, fun M hM hle => ?_⟩
  · obtain ⟨e, he, _⟩ := dp_at pl 0
    rw [List.length_map]
    exact List.length_pos_of_mem he
  · have : M = (pl.dp : Int) := by
      obtain ⟨e, he, hd⟩ := dp_at pl 0
      have h1 := hle _ (List.mem_map.mpr ⟨e, he, rfl⟩)
      obtain ⟨e', he', rfl⟩ := List.mem_map.mp hM
      have := ends_deep pl 0 e' he'
      omega
    rw [this]
    exact q _ (s1.trans yD)
end
noncomputable def bump : List (Nat × Nat) → Nat → Nat → List (Nat × Nat)
  | [], n, c => [(n, c)]
  | (m, d) :: l, n, c => if m = n then (m, d + c) :: l else (m, d) :: bump l n c
noncomputable def getc : List (Nat × Nat) → Nat → Nat
  | [], _ => 0
  | (m, d) :: l, n => if m = n then d else getc l n
noncomputable def toK (cs : List (Nat × Nat)) : List (Key × V) := cs.map fun e => (.inl (e.1 : Int), .int (e.2 : Int))
theorem bump_sum : ∀ (cs : List (Nat × Nat)) (n c : Nat), ((bump cs n c).map (·.2)).sum = (cs.map (·.2)).sum + c
  | [], n, c => by show c + 0 = 0 + c; omega
  | (m, d) :: l, n, c => by
    rw [bump]
    split
    · rw [List.map_cons, List.sum_cons, List.map_cons, List.sum_cons]; dsimp only; omega
    · rw [List.map_cons, List.sum_cons, List.map_cons, List.sum_cons, bump_sum l n c]; omega
theorem bump_keys : ∀ (cs : List (Nat × Nat)) (n c x : Nat), x ∈ (bump cs n c).map (·.1) ↔ x = n ∨ x ∈ cs.map (·.1)
  | [], n, c, x => by simp [bump]
  | (m, d) :: l, n, c, x => by
    rw [bump]
    by_cases h : m = n
    · rw [if_pos h]; subst h; simp
    · rw [if_neg h, List.map_cons, List.mem_cons, bump_keys l n c x, List.map_cons, List.mem_cons]
      constructor
      · rintro (h | h | h)
        · exact .inr (.inl h)
        · exact .inl h
        · exact .inr (.inr h)
      · rintro (h | h | h)
        · exact .inr (.inl h)
        · exact .inl h
        · exact .inr (.inr h)
theorem bump_nodup : ∀ (cs : List (Nat × Nat)) (n c : Nat), (cs.map (·.1)).Nodup → ((bump cs n c).map (·.1)).Nodup
  | [], n, c, _ => by simp [bump]
  | (m, d) :: l, n, c, h => by
    rw [List.map_cons, List.nodup_cons] at h
    rw [bump]
    by_cases e : m = n
    · rw [if_pos e, List.map_cons, List.nodup_cons]; exact h
    · rw [if_neg e, List.map_cons, List.nodup_cons]
      refine ⟨fun z => ?_, bump_nodup l n c h.2⟩
      rcases (bump_keys l n c m).mp z with y | y
      · exact e y
      · exact h.1 y
theorem getc_bump : ∀ (cs : List (Nat × Nat)) (n c x : Nat), getc (bump cs n c) x = getc cs x + if x = n then c else 0
  | [], n, c, x => by
    show (if n = x then c else 0) = 0 + _
    by_cases h : n = x
    · rw [if_pos h, if_pos h.symm]; omega
    · rw [if_neg h, if_neg (Ne.symm h)]
  | (m, d) :: l, n, c, x => by
    rw [bump]
    by_cases e : m = n
    · rw [if_pos e, getc, getc]
      by_cases h : m = x
      · rw [if_pos h, if_pos h, if_pos (by omega)]
      · rw [if_neg h, if_neg h, if_neg (by omega)]; rfl
    · rw [if_neg e, getc, getc]
      by_cases h : m = x
      · rw [if_pos h, if_pos h, if_neg (by omega)]; rfl
      · rw [if_neg h, if_neg h, getc_bump l n c x]
theorem toK_any : ∀ (cs : List (Nat × Nat)) (n : Nat), ((toK cs).any fun kv => decide (kv.1 = (Sum.inl (n : Int) : Key))) = decide (n ∈ cs.map (·.1))
  | [], n => rfl
  | (m, d) :: l, n => by
    have ih := toK_any l n
    unfold toK at ih ⊢
    rw [List.map_cons, List.any_cons, ih]
    by_cases h : m = n
    · subst h; simp
    · have : ¬ ((Sum.inl (m : Int) : Key) = Sum.inl (n : Int)) := fun z => h (by injection z with z; omega)
      simp only [decide_eq_false this, Bool.false_or]
      rw [decide_eq_decide, List.map_cons, List.mem_cons]
      exact ⟨fun z => .inr z, fun z => z.resolve_left (Ne.symm h)⟩
theorem toK_same : ∀ (cs : List (Nat × Nat)) (n : Nat) (v : V), n ∉ cs.map (·.1) → (toK cs).map (fun kv => if kv.1 = (Sum.inl (n : Int) : Key) then (kv.1, v) else kv) = toK cs
  | [], n, v, _ => rfl
  | (m, d) :: l, n, v, h => by
    rw [List.map_cons, List.mem_cons, not_or] at h
    have ih := toK_same l n v h.2
    unfold toK at ih ⊢
    have : ¬ ((Sum.inl (m : Int) : Key) = Sum.inl (n : Int)) := fun z => h.1 (by injection z with z; omega)
    rw [List.map_cons, List.map_cons, ih, if_neg this]
theorem toK_map : ∀ (cs : List (Nat × Nat)) (n c : Nat), (cs.map (·.1)).Nodup → n ∈ cs.map (·.1) → (toK cs).map (fun kv => if kv.1 = (Sum.inl (n : Int) : Key) then (kv.1, V.int ((getc cs n + c : Nat) : Int)) else kv) = toK (bump cs n c)
  | [], n, c, _, h => by cases h
  | (m, d) :: l, n, c, nd, h => by
    rw [List.map_cons, List.nodup_cons] at nd
    by_cases e : m = n
    · subst e
      have := toK_same l m (V.int ((getc ((m, d) :: l) m + c : Nat) : Int)) nd.1
      have e2 : getc ((m, d) :: l) m = d := if_pos rfl
      rw [bump, if_pos rfl]
      show (if (Sum.inl (m : Int) : Key) = Sum.inl (m : Int) then _ else _) :: (toK l).map _ = _ :: toK l
      rw [if_pos rfl, this, e2]
    · have h' : n ∈ l.map (·.1) := by
        rw [List.map_cons, List.mem_cons] at h
        exact h.resolve_left (Ne.symm e)
      have ih := toK_map l n c nd.2 h'
      have e2 : getc ((m, d) :: l) n = getc l n := if_neg e
      have : ¬ ((Sum.inl (m : Int) : Key) = Sum.inl (n : Int)) := fun z => e (by injection z with z; omega)
      rw [bump, if_neg e, e2]
      show (if (Sum.inl (m : Int) : Key) = Sum.inl (n : Int) then _ else _) :: (toK l).map _ = _ :: toK (bump l n c)
      rw [if_neg this, ih]
theorem bump_new : ∀ (cs : List (Nat × Nat)) (n c : Nat), n ∉ cs.map (·.1) → bump cs n c = cs ++ [(n, c)] ∧ getc cs n = 0
  | [], n, c, _ => ⟨rfl, rfl⟩
  | (m, d) :: l, n, c, h => by
    rw [List.map_cons, List.mem_cons, not_or] at h
    obtain ⟨h1, h2⟩ := bump_new l n c h.2
    rw [bump, if_neg (Ne.symm h.1), h1, getc, if_neg (Ne.symm h.1)]
    exact ⟨rfl, h2⟩
theorem toK_put {cs : List (Nat × Nat)} {n c : Nat} (nd : (cs.map (·.1)).Nodup) : putK (toK cs) (Sum.inl (n : Int) : Key) (V.int ((getc cs n + c : Nat) : Int)) = toK (bump cs n c) := by
  unfold putK
  rw [toK_any]
  by_cases h : n ∈ cs.map (·.1)
  · rw [if_pos (decide_eq_true h), toK_map cs n c nd h]
  · rw [if_neg (by rw [decide_eq_false h]; decide)]
    obtain ⟨h1, h2⟩ := bump_new cs n c h
    rw [h1, h2, Nat.zero_add]
    unfold toK
    rw [List.map_append]
    rfl
theorem toK_get : ∀ (cs : List (Nat × Nat)) (n : Nat), valV (toK cs) (Sum.inl (n : Int) : Key) = if n ∈ cs.map (·.1) then some (V.int (getc cs n : Int)) else none
  | [], n => rfl
  | (m, d) :: l, n => by
    have ih := toK_get l n
    unfold toK at ih ⊢
    by_cases e : m = n
    · subst e
      rw [List.map_cons, valV_pos rfl, if_pos (by simp), getc, if_pos rfl]
    · have : ¬ ((Sum.inl (m : Int) : Key) = Sum.inl (n : Int)) := fun z => e (by injection z with z; omega)
      rw [List.map_cons, valV_neg this, ih, getc, if_neg e]
      by_cases h : n ∈ l.map (·.1)
      · rw [if_pos h, if_pos (by rw [List.map_cons, List.mem_cons]; exact .inr h)]
      · rw [if_neg h, if_neg (by rw [List.map_cons, List.mem_cons]; rintro (z | z); exact e z.symm; exact h z)]
theorem toK_getD (cs : List (Nat × Nat)) (n : Nat) : (valV (toK cs) (Sum.inl (n : Int) : Key)).getD (.int 0) = V.int (getc cs n : Int) := by
  rw [toK_get]
  by_cases h : n ∈ cs.map (·.1)
  · rw [if_pos h]; rfl
  · rw [if_neg h, (bump_new cs n 0 h).2]; rfl
noncomputable def cts (nd : List (Nat × Nat)) (D : Nat) : List (Nat × Nat) := nd.foldl (fun cs e => bump cs e.1 (2 ^ (D - e.2))) []
theorem cts_snoc (nd : List (Nat × Nat)) (e : Nat × Nat) (D : Nat) : cts (nd ++ [e]) D = bump (cts nd D) e.1 (2 ^ (D - e.2)) := by
  unfold cts
  rw [List.foldl_append]
  rfl
theorem bump_len : ∀ (cs : List (Nat × Nat)) (n c : Nat), (bump cs n c).length ≤ cs.length + 1
  | [], n, c => by show 1 ≤ 0 + 1; omega
  | (m, d) :: l, n, c => by
    rw [bump]
    have := bump_len l n c
    split
    · simp
    · simp; omega
theorem fold_len (D : Nat) : ∀ (nd cs : List (Nat × Nat)), (nd.foldl (fun cs e => bump cs e.1 (2 ^ (D - e.2))) cs).length ≤ cs.length + nd.length
  | [], cs => Nat.le_refl _
  | e :: nd, cs => by
    have h := fold_len D nd (bump cs e.1 (2 ^ (D - e.2)))
    have := bump_len cs e.1 (2 ^ (D - e.2))
    rw [List.foldl_cons, List.length_cons]
    omega
theorem cts_len (nd : List (Nat × Nat)) (D : Nat) : (cts nd D).length ≤ nd.length := by
  have := fold_len D nd []
  unfold cts
  simpa using this
theorem fold_nodup (D : Nat) : ∀ (nd cs : List (Nat × Nat)), (cs.map (·.1)).Nodup → ((nd.foldl (fun cs e => bump cs e.1 (2 ^ (D - e.2))) cs).map (·.1)).Nodup
  | [], cs, h => h
  | e :: l, cs, h => fold_nodup D l _ (bump_nodup cs e.1 _ h)
theorem cts_nodup (nd : List (Nat × Nat)) (D : Nat) : ((cts nd D).map (·.1)).Nodup := fold_nodup D nd [] List.nodup_nil
theorem fold_keys (D x : Nat) : ∀ (nd cs : List (Nat × Nat)), x ∈ (nd.foldl (fun cs e => bump cs e.1 (2 ^ (D - e.2))) cs).map (·.1) ↔ x ∈ cs.map (·.1) ∨ x ∈ nd.map (·.1)
  | [], cs => by simp
  | e :: l, cs => by
    rw [List.foldl_cons, fold_keys D x l, bump_keys, List.map_cons, List.mem_cons]
    constructor
    · rintro ((h | h) | h)
      · exact .inr (.inl h)
      · exact .inl h
      · exact .inr (.inr h)
    · rintro (h | h | h)
      · exact .inl (.inr h)
      · exact .inl (.inl h)
      · exact .inr h
theorem cts_keys (nd : List (Nat × Nat)) (D x : Nat) : x ∈ (cts nd D).map (·.1) ↔ x ∈ nd.map (·.1) := by
  unfold cts
  rw [fold_keys]
  simp
theorem fold_sum (D : Nat) : ∀ (nd cs : List (Nat × Nat)), ((nd.foldl (fun cs e => bump cs e.1 (2 ^ (D - e.2))) cs).map (·.2)).sum = (cs.map (·.2)).sum + (nd.map fun e => 2 ^ (D - e.2)).sum
  | [], cs => rfl
  | e :: l, cs => by rw [List.foldl_cons, fold_sum D l, bump_sum, List.map_cons, List.sum_cons]; omega
theorem fold_get (D x : Nat) : ∀ (nd cs : List (Nat × Nat)), getc (nd.foldl (fun cs e => bump cs e.1 (2 ^ (D - e.2))) cs) x = getc cs x + (nd.map fun e => if x = e.1 then 2 ^ (D - e.2) else 0).sum
  | [], cs => rfl
  | e :: l, cs => by rw [List.foldl_cons, fold_get D x l, getc_bump, List.map_cons, List.sum_cons]; omega
theorem nums_sum (D : Nat) : ∀ es : List (Option Nat × Nat), ((nums es).map fun e => 2 ^ (D - e.2)).sum = shP (·.isSome) es D
  | [] => rfl
  | (none, d) :: l => by
    have := nums_sum D l
    unfold shP at this ⊢
    rw [List.map_cons, List.sum_cons, if_neg (by show ¬ false = true; decide), Nat.zero_add]
    exact this
  | (some n, d) :: l => by
    have := nums_sum D l
    unfold shP at this ⊢
    rw [List.map_cons, List.sum_cons, if_pos (by rfl), ← this]
    rfl
theorem nums_get (D x : Nat) : ∀ es : List (Option Nat × Nat), ((nums es).map fun e => if x = e.1 then 2 ^ (D - e.2) else 0).sum = shP (· == some x) es D
  | [] => rfl
  | (none, d) :: l => by
    have := nums_get D x l
    unfold shP at this ⊢
    rw [List.map_cons, List.sum_cons, if_neg (by simp), Nat.zero_add]
    exact this
  | (some n, d) :: l => by
    have := nums_get D x l
    unfold shP at this ⊢
    rw [List.map_cons, List.sum_cons, ← this]
    show (if x = n then 2 ^ (D - d) else 0) + _ = _
    congr 1
    by_cases h : x = n
    · rw [if_pos h, if_pos (by simpa using h.symm)]
    · rw [if_neg h, if_neg (by simpa using Ne.symm h)]
theorem cts_sum (es : List (Option Nat × Nat)) (D : Nat) : ((cts (nums es) D).map (·.2)).sum = shP (·.isSome) es D := by
  unfold cts
  rw [fold_sum, nums_sum]
  show 0 + _ = _
  rw [Nat.zero_add]
theorem cts_get (es : List (Option Nat × Nat)) (D x : Nat) : getc (cts (nums es) D) x = shP (· == some x) es D := by
  unfold cts
  rw [fold_get, nums_get]
  show 0 + _ = _
  rw [Nat.zero_add]
theorem nums_mem (es : List (Option Nat × Nat)) (x : Nat) : x ∈ (nums es).map (·.1) ↔ ∃ d, (some x, d) ∈ es := by
  unfold nums
  rw [List.mem_map]
  constructor
  · rintro ⟨e, he, rfl⟩
    obtain ⟨e', he', h⟩ := List.mem_filterMap.mp he
    obtain ⟨o, d⟩ := e'
    cases o with
    | none => cases h
    | some n => cases h; exact ⟨d, he'⟩
  · rintro ⟨d, h⟩
    exact ⟨(x, d), List.mem_filterMap.mpr ⟨_, h, rfl⟩, rfl⟩
theorem sorted_nats {ks : List Nat} {ns : List Int} (nd : ks.Nodup) (hp : ns.Perm (ks.map fun (n : Nat) => (n : Int))) (ho : ns.Pairwise (· ≤ ·)) : ∃ ms : List Nat, ns = ms.map (fun (n : Nat) => (n : Int)) ∧ ms.Pairwise (· < ·) ∧ ∀ n, n ∈ ms ↔ n ∈ ks := by
  have hnn : ∀ z ∈ ns, 0 ≤ z := fun z hz => by
    obtain ⟨n, _, rfl⟩ := List.mem_map.mp (hp.mem_iff.mp hz)
    omega
  have e1 : ns = (ns.map Int.toNat).map (fun (n : Nat) => (n : Int)) := by
    rw [List.map_map]
    conv => lhs; rw [← List.map_id ns]
    refine List.map_congr_left fun z hz => ?_
    have := hnn z hz
    show z = ((z.toNat : Nat) : Int)
    omega
  have hnd : ns.Nodup := by
    rw [hp.nodup_iff]
    exact List.Pairwise.map _ (fun a b h e => h (by omega)) nd
  have hlt : ns.Pairwise (· < ·) := by
    have := List.Pairwise.and ho hnd
    exact this.imp fun {a b} ⟨h1, h2⟩ => by omega
  refine ⟨ns.map Int.toNat, e1, ?_, fun n => ?_⟩
  · rw [e1] at hlt
    rw [List.pairwise_map] at hlt
    exact hlt.imp fun {a b} h => by omega
  · constructor
    · intro h
      have : (n : Int) ∈ ns := by
        rw [e1]
        exact List.mem_map.mpr ⟨n, h, rfl⟩
      obtain ⟨m, hm, e⟩ := List.mem_map.mp (hp.mem_iff.mp this)
      have : m = n := by omega
      rw [← this]; exact hm
    · intro h
      have : (n : Int) ∈ ns := hp.mem_iff.mpr (List.mem_map.mpr ⟨n, h, rfl⟩)
      exact List.mem_map.mpr ⟨_, this, by omega⟩
theorem shP_le (P : Option Nat → Bool) : ∀ (l : List (Option Nat × Nat)) (D : Nat), shP P l D ≤ l.length * 2 ^ D
  | [], D => Nat.zero_le _
  | e :: l, D => by
    have ih := shP_le P l D
    unfold shP at ih ⊢
    rw [List.map_cons, List.sum_cons, List.length_cons, Nat.succ_mul]
    have : 2 ^ (D - e.2) ≤ 2 ^ D := Nat.pow_le_pow_right (by decide) (by omega)
    have h3 := Nat.two_pow_pos D
    split <;> omega
noncomputable def spSh (K : PySem.W.Frag) (CS : Addr) : Sp := fun vs H Q E => ∃ (v : V) (pl : Pn), vs = [v] ∧ PnAt K H pl v ∧ pl.dp ≤ 12 ∧
  (pl.has = true → ∀ p (rs : List Addr) (ms : List Nat) H', Same H H' → H' p = some (.tup (rs.map V.ref)) → ms.Pairwise (· < ·) → (∀ (n : Nat), n ∈ ms ↔ ∃ d, (some n, d) ∈ ends pl 0) → rs.length = ms.length → ms.length ≤ 4096 →
    (∀ (j : Nat) (r : Addr) (n : Nat), rs[j]? = some r → ms[j]? = some n → ∃ fp, H' r = some (.tup [.int (n : Int), .ref fp]) ∧ H' fp = some (.tup (frV (shP (· == some n) (ends pl 0) pl.dp) (shP (·.isSome) (ends pl 0) pl.dp)))) → Q (.ref p) H') ∧
  (pl.has = false → ∀ H', Same H H' → E (.ref CS) none H')
section
variable {P : Program} {w : World} {K : PySem.W.Frag} {mg : Str → Option Value} {base : Heap} {f CS : Addr} {fd : FuncData}
theorem ok_shares_of (F_shares_of : Fun K "shares_of" "shares_of" s_shares_of f fd) (B : Bl mg) {fN : Addr} {dN : FuncData} (g_numbered_ends : FnX P w K mg base "numbered_ends" fN dN p_numbered_ends 14 (spNE2 K CS)) (g_deep : Fn P w K mg base "deep" p_deep 14 (spDeep K)) (g_rows_to : Fn P w K mg base "rows_to" p_rows_to 14 spRowsTo) (g_fraction : Fn P w K mg base "fraction" p_fraction 14 spFrac) : FnOk P w K mg base (CXR P w) 15 f fd p_shares_of (spSh K CS) := by
  refine F_shares_of.okX sc_shares_of (fun vs H Q E h => ?_) (fun cdv A outer s H vs Q E hr h => ?_)
  · obtain ⟨v, pl, rfl, _⟩ := h
    rfl
  obtain ⟨v, pl, rfl, hP, hd, q, ee⟩ := h
  refine ⟨_, (pss_cons (ps_set (i := 1) sc_shares_of.nd rfl (Or.inl rfl) (pe_fn g_deep hr (pa_cons (pv 0) pa_nil)))
      (pss_cons (ps_set (i := 2) sc_shares_of.nd rfl (Or.inr rfl) pe_dnewK)
      (pss_cons (ps_for (PassesOwn.leaving (M := model P w)) rfl (pi_list (pe_fnX g_numbered_ends hr (pa_cons (pv 0) pa_nil))) (pg_tup rfl (pgs_cons (pg_name (i := 3) sc_shares_of.nd rfl (Or.inl rfl)) (pgs_cons (pg_name (i := 4) sc_shares_of.nd rfl (Or.inl rfl)) pgs_nil))) (pss_one (ps_dput hr.units1 (pv 2) (pv 4) (pe_op op_add (pe_dget2 hr.units1 (pv 2) (pv 4) pe_int ⟨rfl, rfl, rfl, rfl⟩) (pe_fn g_rows_to hr (pa_cons (pv 3) (pa_cons (pv 1) pa_nil)))) rfl)))
      (pss_cons (ps_set (i := 5) sc_shares_of.nd rfl (Or.inr rfl) (pe_sumVals rfl rfl B.sum_ (pv 2)))
      (pss_one (ps_ret (pe_callTy call_tuple_of rfl B.tuple_ L3.bt_tuple (pa_cons (pe_comp [4] ["plan", "deepest", "rows", "depth", "number", "total"] 0 rfl (pi_list (pe_callB (call_sortedDB rfl) rfl B.sorted_ L3.bt_sorted (pa_cons (pv 2) pa_nil))) (fun _ _ _ _ _ => (pg_name (i := 4) nd_4 rfl (Or.inl rfl) (Or.inr rfl))) (fun _ _ _ _ _ => pif_nil) (fun _ _ _ _ _ => (pe_tup (pa_cons (pv 4) (pa_cons (pe_fn g_fraction hr (pa_cons (pe_dget hr.units1 (pv 2) (pv 4) (fun _ _ => rfl)) (pa_cons (pv 5) pa_nil))) pa_nil))))) pa_nil)))))))), ?_⟩
  refine ⟨_, rfl, v, pl, rfl, hP, hd, fun H1 s1 => ?_⟩
  refine fun d fd' => ?_
  have yd := same_new fd' (.dK [])
  have wd : (upd H1 d (.dK [])) d = some (.dK []) := upd_same
  generalize upd H1 d (.dK []) = H2 at yd wd ⊢
  have s2 := s1.trans yd
  refine ⟨_, rfl, v, pl, rfl, hP.same s2, hd, fun hh l as H3 s3 w3 e3 => ?_, fun c H3 s3 => ee c H3 (s2.trans s3)⟩
  have b1 := ends_len pl 0
  have c1 : 2 ^ pl.dp ≤ 4096 := Nat.le_trans (Nat.pow_le_pow_right (n := 2) (by decide) hd) (by decide)
  have hdl : ∀ e ∈ nums (ends pl 0), e.2 ≤ pl.dp := fun e he => by
    obtain ⟨e', he', h⟩ := List.mem_filterMap.mp he
    have := (ends_deep pl 0 e' he').2
    obtain ⟨o, d⟩ := e'
    cases o with
    | none => cases h
    | some n => cases h; show d ≤ _; omega
  have fdH : ∀ c o, H c = some o → c ≠ d := fun c o e z => by rw [z] at e; have := s1 _ _ e; rw [fd'] at this; cases this
  have hnl : (nums (ends pl 0)).length ≤ 4096 := Nat.le_trans (List.length_filterMap_le _ _) (by omega)
  refine ⟨l, rfl, ⟨_, SqL.of w3⟩, for_list (xs := as.map V.ref) (fun j σ' H' => ∃ (o3 o4 : Option V), σ' = [some v, some (.int (pl.dp : Int)), some (.ref d), o3, o4, none] ∧ (∀ c o, c ≠ d → H3 c = some o → H' c = some o) ∧ H' d = some (.dK (toK (cts ((nums (ends pl 0)).take j) pl.dp))))
    ⟨_, _, rfl, fun c o _ e => e, s3 _ _ wd⟩ (fun j σ' H' _ ⟨_, _, _, y, _⟩ => SqL.of (y _ _ (fun z => by rw [z, s3 _ _ wd] at w3; cases w3) w3)) ?_ ?_⟩
  · rintro j x σ' H4 hx ⟨o3, o4, rfl, y, hD⟩
    obtain ⟨a, hja⟩ : ∃ a, as[j]? = some a := by
      rw [List.getElem?_map] at hx
      cases e : as[j]? with
      | none => rw [e] at hx; cases hx
      | some r => exact ⟨r, rfl⟩
    rw [List.getElem?_map, hja] at hx
    cases hx
    have hj : j < (nums (ends pl 0)).length := by rw [← e3.1]; exact (List.getElem?_eq_some_iff.mp hja).1
    obtain ⟨en, hen⟩ : ∃ en, (nums (ends pl 0))[j]? = some en := ⟨_, List.getElem?_eq_getElem hj⟩
    have ha := e3.2 j a en hja hen
    have ha' := y a _ (fun z => by rw [z, s3 _ _ wd] at ha; cases ha) ha
    have hle := hdl en (List.mem_of_getElem? hen)
    have hnext : cts ((nums (ends pl 0)).take (j + 1)) pl.dp = bump (cts ((nums (ends pl 0)).take j) pl.dp) en.1 (2 ^ (pl.dp - en.2)) := by
      rw [List.take_add_one, hen]
      exact cts_snoc _ _ _
    have hlen : (cts ((nums (ends pl 0)).take j) pl.dp).length ≤ 4096 := by
      have := cts_len ((nums (ends pl 0)).take j) pl.dp
      rw [List.length_take] at this
      omega
    have hnd := cts_nodup ((nums (ends pl 0)).take j) pl.dp
    generalize cts ((nums (ends pl 0)).take j) pl.dp = cs at hD hnext hlen hnd
    refine ⟨a, _, rfl, SqT.of ha', rfl, _, _, rfl, _, _, rfl, rfl, ?_⟩
    refine ⟨_, rfl, d, rfl, .inl ⟨_, .inl hD⟩, _, rfl, _, DGet.k (k := .inl (en.1 : Int)) hD, _, rfl, _, rfl, en.2, pl.dp, rfl, hle, hd, _, _, toK_getD cs en.1, rfl, ?_⟩
    refine ⟨_, rfl, _, rfl, d, _, rfl, DPut.k (k := .inl (en.1 : Int)) hD (smallL (by unfold toK; rw [List.length_map]; omega)), ?_⟩
    refine ⟨_, _, rfl, fun c o hc e => by rw [upd_ne hc]; exact y c o hc e, ?_⟩
    rw [upd_same, hnext, ← toK_put hnd]
    rfl
  rintro σ' H4 ⟨o3, o4, rfl, y, hD⟩
  rw [List.length_map, e3.1, List.take_length] at hD
  have hnd := cts_nodup (nums (ends pl 0)) pl.dp
  have hlen : (cts (nums (ends pl 0)) pl.dp).length ≤ 4096 := by
    have := cts_len (nums (ends pl 0)) pl.dp
    omega
  have hsum := cts_sum (ends pl 0) pl.dp
  have hget := cts_get (ends pl 0) pl.dp
  have hkey : ∀ x, x ∈ (cts (nums (ends pl 0)) pl.dp).map (·.1) ↔ ∃ d, (some x, d) ∈ ends pl 0 := fun x => by rw [cts_keys]; exact nums_mem _ x
  generalize cts (nums (ends pl 0)) pl.dp = cs at hD hnd hlen hsum hget hkey
  have hpos : 0 < shP (fun o => o.isSome) (ends pl 0) pl.dp := by
    have hh2 := hh
    rw [← has_ends pl 0, List.any_eq_true] at hh2
    obtain ⟨e, he, hs⟩ := hh2
    exact shP_mem (P := fun o => o.isSome) (e := e) hs he
  generalize hT : shP (fun o => o.isSome) (ends pl 0) pl.dp = T at hpos hsum q
  refine ⟨_, rfl, d, _, (cs.map fun e => (e.2 : Int)), rfl, hD, by unfold toK; rw [List.map_map, List.map_map]; rfl, ?_⟩
  have es : (cs.map fun e => (e.2 : Int)).sum = (T : Int) := by
    rw [← hsum, ← sum_nats, List.map_map]
    rfl
  rw [es]
  refine ⟨_, rfl, d, _, (cs.map (·.1)).map (fun (n : Nat) => (n : Int)), rfl, hD, by unfold toK; rw [List.map_map, List.map_map, List.map_map]; rfl, by rw [List.length_map, List.length_map]; omega, fun L ns' fL hp ho => ?_⟩
  obtain ⟨ms, rfl, hms, hmem⟩ := sorted_nats hnd hp ho
  have yL := same_new fL (.lst ((ms.map fun (n : Nat) => (n : Int)).map V.int))
  have wL : (upd H4 L (.lst ((ms.map fun (n : Nat) => (n : Int)).map V.int))) L = some (.lst ((ms.map fun (n : Nat) => (n : Int)).map V.int)) := upd_same
  generalize upd H4 L (.lst ((ms.map fun (n : Nat) => (n : Int)).map V.int)) = H5 at yL wL ⊢
  have hD5 := yL _ _ hD
  have hml : ms.length ≤ 4096 := by
    have := hp.length_eq
    rw [List.length_map, List.length_map, List.length_map] at this
    omega
  have hTf : Fit T := by
    refine Fit.of ?_
    have h1 := shP_le (fun o => o.isSome) (ends pl 0) pl.dp
    rw [hT] at h1
    have h2 : (ends pl 0).length * 2 ^ pl.dp ≤ 4096 * 4096 := Nat.mul_le_mul (by omega) c1
    omega
  refine ⟨L, rfl, ⟨_, SqL.of wL⟩, comp_list (xs := (ms.map fun (n : Nat) => (n : Int)).map V.int) (fun j acc σ' H' => ∃ (rs : List Addr) (o3 o4 : Option V), acc = rs.map V.ref ∧ rs.length = j ∧ σ' = [some v, some (.int (pl.dp : Int)), some (.ref d), o3, o4, some (.int (T : Int))] ∧ Same H5 H' ∧ ∀ (i : Nat) (r : Addr) (n : Nat), rs[i]? = some r → ms[i]? = some n → ∃ fp, H' r = some (.tup [.int (n : Int), .ref fp]) ∧ H' fp = some (.tup (frV (getc cs n) T)))
    ⟨[], _, _, rfl, rfl, rfl, Same.refl _, fun i r n e => by simp at e⟩
    (fun j acc σ' H' hj ⟨rs, _, _, e', hb, _⟩ => by
      rw [e', List.length_map]
      rw [List.length_map, List.length_map] at hj
      omega) (fun j acc σ' H' _ ⟨_, _, _, _, _, _, y', _⟩ => SqL.of (y' _ _ wL)) ?_ ?_⟩
  · rintro j x acc σ' H6 hx ⟨rs, o3, o4, rfl, hrl, rfl, y6, hr6⟩
    rw [List.getElem?_map, List.getElem?_map] at hx
    obtain ⟨n, hn⟩ : ∃ n, ms[j]? = some n := by
      cases e : ms[j]? with
      | none => rw [e] at hx; cases hx
      | some r => exact ⟨r, rfl⟩
    rw [hn] at hx
    obtain rfl : V.int (n : Int) = x := Option.some.inj hx
    have hin : n ∈ cs.map (·.1) := (hmem n).mp (List.mem_of_getElem? hn)
    have hg := DGet.k (k := .inl (n : Int)) (y6 _ _ hD5)
    rw [toK_get, if_pos hin] at hg
    refine ⟨_, rfl, _, rfl, _, rfl, d, _, rfl, hg, _, rfl, getc cs n, T, rfl, hpos, hTf, fun fp H7 y7 w7 => ?_⟩
    refine ⟨(by show 2 ≤ sizeLine; decide), fun p fp' => ?_⟩
    have y8 := same_new fp' (.tup [V.int (n : Int), V.ref fp])
    have w8 : (upd H7 p (.tup [V.int (n : Int), V.ref fp])) p = some (.tup [V.int (n : Int), V.ref fp]) := upd_same
    generalize upd H7 p (.tup [V.int (n : Int), V.ref fp]) = H8 at y8 w8 ⊢
    refine ⟨rs ++ [p], _, _, by rw [List.map_append]; rfl, by rw [List.length_append, hrl]; rfl, rfl, (y6.trans y7).trans y8, fun i r n' e1 e2 => ?_⟩
    by_cases c : i < rs.length
    · rw [List.getElem?_append_left c] at e1
      obtain ⟨fp2, z1, z2⟩ := hr6 i r n' e1 e2
      exact ⟨fp2, y8 _ _ (y7 _ _ z1), y8 _ _ (y7 _ _ z2)⟩
    · rw [List.getElem?_append_right (by omega)] at e1
      have hi : i - rs.length = 0 := by
        have := (List.getElem?_eq_some_iff.mp e1).1
        simpa using this
      rw [hi] at e1
      cases e1
      have hi2 : i = j := by omega
      subst hi2
      rw [hn] at e2
      cases e2
      exact ⟨fp, w8, y8 _ _ w7⟩
  rintro acc σ' H6 D ⟨rs, o3, o4, rfl, hrl, rfl, y6, hr6⟩ fD
  rw [List.length_map, List.length_map] at hrl
  have yD := same_new fD (.lst (rs.map V.ref))
  refine ⟨D, _, rfl, .inl ⟨SqL.of upd_same, fun p fp => ?_⟩⟩
  have yp := same_new fp (.tup (rs.map V.ref))
  refine q hh p rs ms _ (fun c o e => ?_) upd_same hms (fun n => ?_) hrl hml (fun i r n e1 e2 => ?_)
  · have e3 := s3 _ _ (s2 _ _ e)
    exact yp _ _ (yD _ _ (y6 _ _ (yL _ _ (y c o (fdH c o e) e3))))
  · rw [hmem, hkey]
  · obtain ⟨fp2, z1, z2⟩ := hr6 i r n e1 e2
    rw [hget] at z2
    exact ⟨fp2, yp _ _ (yD _ _ z1), yp _ _ (yD _ _ z2)⟩
end
theorem cat34 {K : PySem.W.Frag} {H : Hp} {a b : Addr} {xs ys : List V} {Q : VK} (ha : H a = some (.tup xs)) (hb : H b = some (.tup ys)) (hz : xs.length + ys.length ≤ 300000) (q : ∀ p H', Same H H' → H' p = some (.tup (xs ++ ys)) → Q (.ref p) H') : rCat0 K (.ref a) (.ref b) H Q := by
  refine ⟨a, b, xs, ys, rfl, rfl, SqT.of ha, SqT.of hb, small (by omega), fun e => ?_, fun _ e => ?_, fun _ _ p fp => q p _ (same_new fp _) upd_same⟩
  · subst e
    exact q b H (Same.refl _) hb
  · subst e
    refine q a H (Same.refl _) ?_
    rw [List.append_nil]
    exact ha
theorem sorted_uniq : ∀ {a b : List Nat}, a.Pairwise (· < ·) → b.Pairwise (· < ·) → (∀ n, n ∈ a ↔ n ∈ b) → a = b
  | [], [], _, _, _ => rfl
  | [], y :: b, _, _, h => absurd ((h y).mpr List.mem_cons_self) (by simp)
  | x :: a, [], _, _, h => absurd ((h x).mp List.mem_cons_self) (by simp)
  | x :: a, y :: b, ha, hb, h => by
    rw [List.pairwise_cons] at ha hb
    have hxy : x = y := by
      have h1 := (h x).mp List.mem_cons_self
      have h2 := (h y).mpr List.mem_cons_self
      rcases List.mem_cons.mp h1 with e | e
      · exact e
      · rcases List.mem_cons.mp h2 with e' | e'
        · exact e'.symm
        · have := hb.1 x e
          have := ha.1 y e'
          omega
    subst hxy
    congr 1
    refine sorted_uniq ha.2 hb.2 fun n => ?_
    constructor
    · intro hn
      have := ha.1 n hn
      rcases List.mem_cons.mp ((h n).mp (List.mem_cons_of_mem _ hn)) with e | e
      · omega
      · exact e
    · intro hn
      have := hb.1 n hn
      rcases List.mem_cons.mp ((h n).mpr (List.mem_cons_of_mem _ hn)) with e | e
      · omega
      · exact e
noncomputable def ShL (H : Hp) (rs : List Addr) (ms : List Nat) (F : Nat → List V) : Prop := rs.length = ms.length ∧ ∀ (j : Nat) (r : Addr) (n : Nat), rs[j]? = some r → ms[j]? = some n → ∃ fp, H r = some (.tup [.int (n : Int), .ref fp]) ∧ H fp = some (.tup (F n))
theorem ShL.same {H H' : Hp} {rs : List Addr} {ms : List Nat} {F : Nat → List V} (h : ShL H rs ms F) (s : Same H H') : ShL H' rs ms F := ⟨h.1, fun j r n e1 e2 => by
  obtain ⟨fp, z1, z2⟩ := h.2 j r n e1 e2
  exact ⟨fp, s _ _ z1, s _ _ z2⟩⟩
theorem ShL.snoc {H : Hp} {rs : List Addr} {ms : List Nat} {F : Nat → List V} {p fp : Addr} {n : Nat} (h : ShL H rs ms F) (hp : H p = some (.tup [.int (n : Int), .ref fp])) (hf : H fp = some (.tup (F n))) : ShL H (rs ++ [p]) (ms ++ [n]) F := by
  refine ⟨by rw [List.length_append, List.length_append, h.1]; rfl, fun j a e e1 e2 => ?_⟩
  by_cases c : j < rs.length
  · rw [List.getElem?_append_left c] at e1
    rw [List.getElem?_append_left (by rw [← h.1]; exact c)] at e2
    exact h.2 j a e e1 e2
  · rw [List.getElem?_append_right (by omega)] at e1
    rw [List.getElem?_append_right (by rw [← h.1]; omega), ← h.1] at e2
    have hj : j - rs.length = 0 := by
      have := (List.getElem?_eq_some_iff.mp e1).1
      simpa using this
    rw [hj] at e1 e2
    cases e1
    cases e2
    exact ⟨fp, hp, hf⟩
theorem sh_eqv {H : Hp} {a b : Addr} {rs qs : List Addr} {ms : List Nat} {F : Nat → List V} {n : Nat} (ha : H a = some (.tup (rs.map V.ref))) (hb : H b = some (.tup (qs.map V.ref))) (h1 : ShL H rs ms F) (h2 : ShL H qs ms F) (hF : ∀ n, ∃ u l : Int, F n = [.int u, .int l]) (hz : ms.length ≤ 4096) : Eqv H (n + 4) (.ref a) (.ref b) := by
  refine .inr ⟨a, b, _, _, rfl, rfl, ha, hb, by rw [List.length_map, h1.1]; omega, ?_⟩
  refine pairedGet (by rw [List.length_map, List.length_map, h1.1, h2.1]) fun i x y e1 e2 => ?_
  rw [List.getElem?_map] at e1 e2
  cases f1 : rs[i]? with
  | none => rw [f1] at e1; cases e1
  | some r1 =>
    cases f2 : qs[i]? with
    | none => rw [f2] at e2; cases e2
    | some r2 =>
      rw [f1] at e1
      rw [f2] at e2
      cases e1
      cases e2
      have hi : i < ms.length := by rw [← h1.1]; exact (List.getElem?_eq_some_iff.mp f1).1
      obtain ⟨g1, z1, w1⟩ := h1.2 i r1 _ f1 (List.getElem?_eq_getElem hi)
      obtain ⟨g2, z2, w2⟩ := h2.2 i r2 _ f2 (List.getElem?_eq_getElem hi)
      obtain ⟨u, l, e⟩ := hF ms[i]
      rw [e] at w1 w2
      exact .inr ⟨r1, r2, _, _, rfl, rfl, z1, z2, (by show 2 ≤ 1000000; decide), .cons (.inl ⟨rfl, rfl⟩) (.cons (.inr ⟨g1, g2, _, _, rfl, rfl, w1, w2, (by show 2 ≤ 1000000; decide), .cons (.inl ⟨rfl, rfl⟩) (.cons (.inl ⟨rfl, rfl⟩) .nil)⟩) .nil)⟩
noncomputable def tkS (es : List (Option Nat × Nat)) (D : Nat) : Nat := (es.map fun e => e.2 * 2 ^ (D - e.2)).sum
noncomputable def Srt (pl : Pn) (ms : List Nat) : Prop := ms.Pairwise (· < ·) ∧ (∀ n : Nat, n ∈ ms ↔ ∃ d, (some n, d) ∈ ends pl 0) ∧ ms.length ≤ 4096
noncomputable def shF (pl : Pn) (n : Nat) : List V := frV (shP (· == some n) (ends pl 0) pl.dp) (shP (·.isSome) (ends pl 0) pl.dp)
theorem has_pos {pl : Pn} (hh : pl.has = true) : 0 < shP (fun o => o.isSome) (ends pl 0) pl.dp := by
  have hh2 := hh
  rw [← has_ends pl 0, List.any_eq_true] at hh2
  obtain ⟨e, he, hs⟩ := hh2
  exact shP_mem (P := fun o => o.isSome) (e := e) hs he
theorem pow_dp {pl : Pn} (hd : pl.dp ≤ 12) : 2 ^ pl.dp ≤ 4096 := Nat.le_trans (Nat.pow_le_pow_right (n := 2) (by decide) hd) (by decide)
theorem ends_4096 {pl : Pn} (hd : pl.dp ≤ 12) (d : Nat) : (ends pl d).length ≤ 4096 := Nat.le_trans (ends_len pl d) (pow_dp hd)
theorem shP_fit {P : Option Nat → Bool} {pl : Pn} (hd : pl.dp ≤ 12) : shP P (ends pl 0) pl.dp ≤ 16777216 := by
  have h1 := shP_le P (ends pl 0) pl.dp
  have h2 : (ends pl 0).length * 2 ^ pl.dp ≤ 4096 * 4096 := Nat.mul_le_mul (ends_4096 hd 0) (pow_dp hd)
  omega
noncomputable def spMean (K : PySem.W.Frag) (CS : Addr) : Sp := fun vs H Q E => ∃ (v : V) (pl : Pn), vs = [v] ∧ PnAt K H pl v ∧ pl.dp ≤ 12 ∧
  (pl.has = true → ∀ p H', Same H H' → H' p = some (.tup (frV (tkS (ends pl 0) pl.dp) (shP (·.isSome) (ends pl 0) pl.dp))) → Q (.ref p) H') ∧
  (pl.has = false → ∀ H', Same H H' → E (.ref CS) none H')
noncomputable def spTD (K : PySem.W.Frag) : Sp := fun vs H Q _ => ∃ (v : V) (pl : Pn), vs = [v] ∧ PnAt K H pl v ∧ pl.dp ≤ 12 ∧
  (pl.has = true → ∀ p ps pm (rs : List Addr) (ms : List Nat) H', Same H H' → H' p = some (.tup [.ref ps, .ref pm]) → H' ps = some (.tup (rs.map V.ref)) → Srt pl ms → ShL H' rs ms (shF pl) → H' pm = some (.tup (frV (tkS (ends pl 0) pl.dp) (shP (·.isSome) (ends pl 0) pl.dp))) → Q (.ref p) H') ∧
  (pl.has = false → ∀ p H', Same H H' → H' p = some (.tup [.str "NoShares", .str "NoShares"]) → Q (.ref p) H')
section
variable {P : Program} {w : World} {K : PySem.W.Frag} {mg : Str → Option Value} {base : Heap} {f CS : Addr} {fd : FuncData} {mS : List Value}
theorem ok_mean_of (F_mean_of : Fun K "mean_of" "mean_of" s_mean_of f fd) (B : Bl mg) {fN : Addr} {dN : FuncData} (g_numbered_ends : FnX P w K mg base "numbered_ends" fN dN p_numbered_ends 14 (spNE2 K CS)) (g_deep : Fn P w K mg base "deep" p_deep 14 (spDeep K)) (g_ends_of : Fn P w K mg base "ends_of" p_ends_of 14 (spEnds K 12)) (g_rows_to : Fn P w K mg base "rows_to" p_rows_to 14 spRowsTo) (g_fraction : Fn P w K mg base "fraction" p_fraction 14 spFrac) : FnOk P w K mg base (CXR P w) 15 f fd p_mean_of (spMean K CS) := by
  refine F_mean_of.okX sc_mean_of (fun vs H Q E h => ?_) (fun cdv A outer s H vs Q E hr h => ?_)
  · obtain ⟨v, pl, rfl, _⟩ := h
    rfl
  obtain ⟨v, pl, rfl, hP, hd, q, ee⟩ := h
  refine ⟨_, (pss_cons (ps_set (i := 1) sc_mean_of.nd rfl (Or.inr rfl) (pe_fn g_deep hr (pa_cons (pv 0) pa_nil)))
      (pss_cons (ps_set (i := 2) sc_mean_of.nd rfl (Or.inl rfl) (pe_callB (call_sumL rfl) rfl B.sum_ L3.bt_sum (pa_cons (pe_comp [] ["plan", "deepest", "ending", "taken", "depth", "number"] 2 rfl (pi_list (pe_fnX g_numbered_ends hr (pa_cons (pv 0) pa_nil))) (fun _ _ _ _ _ => (pg_tupK K 2 rfl (pgs_cons (pg_name (i := 4) nd_5 rfl (Or.inl rfl) (Or.inr rfl)) (pgs_cons (pg_name (i := 5) nd_5 rfl (Or.inl rfl) (Or.inr rfl)) pgs_nil)) rfl rfl rfl)) (fun _ _ _ _ _ => pif_nil) (fun _ _ _ _ _ => (pe_fn g_rows_to hr (pa_cons (pv 4) (pa_cons (pv 1) pa_nil))))) pa_nil)))
      (pss_cons (ps_set (i := 3) sc_mean_of.nd rfl (Or.inl rfl) (pe_callB (call_sumL rfl) rfl B.sum_ L3.bt_sum (pa_cons (pe_comp [] ["plan", "deepest", "ending", "taken", "depth", "end"] 2 rfl (pi_list (pe_fn g_ends_of hr (pa_cons (pv 0) (pa_cons pe_int pa_nil)))) (fun _ _ _ _ _ => (pg_tupK K 2 rfl (pgs_cons (pg_name (i := 4) nd_6 rfl (Or.inl rfl) (Or.inr rfl)) (pgs_cons (pg_name (i := 5) nd_6 rfl (Or.inl rfl) (Or.inr rfl)) pgs_nil)) rfl rfl rfl)) (fun _ _ _ _ _ => pif_nil) (fun _ _ _ _ _ => (pe_op op_mul (pv 4) (pe_fn g_rows_to hr (pa_cons (pv 4) (pa_cons (pv 1) pa_nil)))))) pa_nil)))
      (pss_one (ps_ret (pe_fn g_fraction hr (pa_cons (pv 3) (pa_cons (pv 2) pa_nil)))))))), ?_⟩
  refine ⟨_, rfl, v, pl, rfl, hP, hd, fun H1 s1 => ?_⟩
  refine ⟨_, rfl, v, pl, rfl, hP.same s1, hd, fun hh l as H2 s2 w2 e2 => ?_, fun hh H2 s2 => ee hh H2 (s1.trans s2)⟩
  have b1 := ends_4096 hd 0
  have hdl : ∀ e ∈ nums (ends pl 0), e.2 ≤ pl.dp := fun e he => by
    obtain ⟨e', he', h⟩ := List.mem_filterMap.mp he
    have := (ends_deep pl 0 e' he').2
    obtain ⟨o, d⟩ := e'
    cases o with
    | none => cases h
    | some n => cases h; show d ≤ _; omega
  have hnl : (nums (ends pl 0)).length ≤ 4096 := Nat.le_trans (List.length_filterMap_le _ _) (by omega)
  refine ⟨l, rfl, ⟨_, SqL.of w2⟩, comp_list (xs := as.map V.ref) (fun j acc σ' H' => ∃ (o4 o5 : Option V), acc = ((((nums (ends pl 0)).take j).map fun e => 2 ^ (pl.dp - e.2)).map fun (n : Nat) => (n : Int)).map V.int ∧ H' = H2 ∧ σ' = [some v, some (.int (pl.dp : Int)), none, none, o4, o5]) ⟨_, _, rfl, rfl, rfl⟩
    (fun j acc σ' H' hj ⟨_, _, e', _⟩ => by
      rw [e', List.length_map, List.length_map, List.length_map, List.length_take]
      omega) (fun j acc σ' H' _ ⟨_, _, _, y, _⟩ => SqL.of (by rw [y]; exact w2)) ?_ ?_⟩
  · rintro j x acc σ' H' hx ⟨o2, o3, rfl, rfl, rfl⟩
    obtain ⟨a, hja⟩ : ∃ a, as[j]? = some a := by
      rw [List.getElem?_map] at hx
      cases e : as[j]? with
      | none => rw [e] at hx; cases hx
      | some r => exact ⟨r, rfl⟩
    rw [List.getElem?_map, hja] at hx
    cases hx
    have hj : j < (nums (ends pl 0)).length := by rw [← e2.1]; exact (List.getElem?_eq_some_iff.mp hja).1
    obtain ⟨en, hen⟩ : ∃ en, (nums (ends pl 0))[j]? = some en := ⟨_, List.getElem?_eq_getElem hj⟩
    have ha := e2.2 j a en hja hen
    refine ⟨a, _, rfl, SqT.of ha, rfl, _, _, rfl, _, _, rfl, rfl, _, rfl, _, rfl, en.2, pl.dp, rfl, hdl en (List.mem_of_getElem? hen), hd, _, _, ?_, rfl, rfl⟩
    rw [List.take_add_one, hen, List.map_append, List.map_append, List.map_append]
    rfl
  rintro acc σ' H3 D ⟨o4, o5, rfl, e3, rfl⟩ fD
  obtain rfl : H3 = H2 := e3
  rw [List.length_map, e2.1, List.take_length]
  have yD := same_new fD (.lst ((((nums (ends pl 0)).map fun e => 2 ^ (pl.dp - e.2)).map fun (n : Nat) => (n : Int)).map V.int))
  have wD : (upd H3 D (.lst ((((nums (ends pl 0)).map fun e => 2 ^ (pl.dp - e.2)).map fun (n : Nat) => (n : Int)).map V.int))) D = some (.lst ((((nums (ends pl 0)).map fun e => 2 ^ (pl.dp - e.2)).map fun (n : Nat) => (n : Int)).map V.int)) := upd_same
  generalize upd H3 D (.lst ((((nums (ends pl 0)).map fun e => 2 ^ (pl.dp - e.2)).map fun (n : Nat) => (n : Int)).map V.int)) = H4 at yD wD ⊢
  refine ⟨D, _, rfl, SqL.of wD, ?_⟩
  rw [sum_nats, nums_sum]
  have hpos := has_pos hh
  have hfit := shP_fit (P := fun o => o.isSome) hd
  have q' := q hh
  clear q
  generalize shP (fun o => o.isSome) (ends pl 0) pl.dp = T at hpos hfit q' ⊢
  have s4 := (s1.trans s2).trans yD
  refine ⟨_, rfl, v, pl, 0, rfl, hP.same s4, hd, by decide, fun l2 as2 H5 nl2 s5 w5 e5 => ?_⟩
  refine ⟨l2, rfl, ⟨_, SqL.of w5⟩, comp_list (xs := as2.map V.ref) (fun j acc σ' H' => ∃ (o4 o5 : Option V), acc = ((((ends pl 0).take j).map fun e => e.2 * 2 ^ (pl.dp - e.2)).map fun (n : Nat) => (n : Int)).map V.int ∧ H' = H5 ∧ σ' = [some v, some (.int (pl.dp : Int)), some (.int (T : Int)), none, o4, o5]) ⟨_, _, rfl, rfl, rfl⟩
    (fun j acc σ' H' hj ⟨_, _, e', _⟩ => by
      rw [e', List.length_map, List.length_map, List.length_map, List.length_take]
      omega) (fun j acc σ' H' _ ⟨_, _, _, y, _⟩ => SqL.of (by rw [y]; exact w5)) ?_ ?_⟩
  · rintro j x acc σ' H' hx ⟨o2, o3, rfl, rfl, rfl⟩
    obtain ⟨a, hja⟩ : ∃ a, as2[j]? = some a := by
      rw [List.getElem?_map] at hx
      cases e : as2[j]? with
      | none => rw [e] at hx; cases hx
      | some r => exact ⟨r, rfl⟩
    rw [List.getElem?_map, hja] at hx
    cases hx
    have hj : j < (ends pl 0).length := by rw [← e5.1]; exact (List.getElem?_eq_some_iff.mp hja).1
    obtain ⟨en, hen⟩ : ∃ en, (ends pl 0)[j]? = some en := ⟨_, List.getElem?_eq_getElem hj⟩
    obtain ⟨lv, ha, hleaf⟩ := e5.2 j a en hja hen
    have hle := (ends_deep pl 0 en (List.mem_of_getElem? hen)).2
    refine ⟨a, _, rfl, SqT.of ha, rfl, _, _, rfl, _, _, rfl, rfl, _, rfl, _, rfl, _, rfl, en.2, pl.dp, rfl, by omega, hd, _, _, rfl, rfl, .inl ⟨by omega, by omega⟩, _, _, ?_, rfl, rfl⟩
    rw [List.take_add_one, hen, List.map_append, List.map_append, List.map_append]
    show _ = _ ++ [V.int ((en.2 * 2 ^ (pl.dp - en.2) : Nat) : Int)]
    rw [Int.natCast_mul]
  rintro acc σ' H6 D2 ⟨o4', o5', rfl, e6, rfl⟩ fD2
  obtain rfl : H6 = H5 := e6
  rw [List.length_map, e5.1, List.take_length]
  refine ⟨D2, _, rfl, SqL.of upd_same, ?_⟩
  have y6 := same_new fD2 (.lst ((((ends pl 0).map fun e => e.2 * 2 ^ (pl.dp - e.2)).map fun (n : Nat) => (n : Int)).map V.int))
  rw [sum_nats]
  refine ⟨_, rfl, _, rfl, tkS (ends pl 0) pl.dp, T, rfl, hpos, Fit.of (by omega), fun p H7 s7 w7 => ?_⟩
  exact q' p H7 (((s4.trans s5).trans y6).trans s7) w7
theorem ok__law_told (F__law_told : Fun K "_law_told" "_law_told" s__law_told f fd) (X_NoShares : Exc K mg "NoShares" CS mS) (hSS : mS.contains (.ref CS) = true) {fS fM : Addr} {dS dM : FuncData} (g_shares_of : FnX P w K mg base "shares_of" fS dS p_shares_of 15 (spSh K CS)) (g_mean_of : FnX P w K mg base "mean_of" fM dM p_mean_of 15 (spMean K CS)) :
    FnOk P w K mg base CX0 16 f fd p__law_told (spTD K) := by
  refine F__law_told.ok sc__law_told (fun vs H Q E h => ?_) (fun cdv A outer s H vs Q E hr h => ?_)
  · obtain ⟨v, pl, rfl, _⟩ := h
    rfl
  obtain ⟨v, pl, rfl, hP, hd, q, q2⟩ := h
  refine ⟨_, (pss_cons (ps_asg (pe_tup (pa_cons pe_non (pa_cons pe_non pa_nil))) (pg_tup rfl (pgs_cons (pg_name (i := 1) sc__law_told.nd rfl (Or.inl rfl)) (pgs_cons (pg_name (i := 2) sc__law_told.nd rfl (Or.inl rfl)) pgs_nil))))
      (pss_cons (ps_try (psx_set (i := 1) sc__law_told.nd rfl rfl (px_fn g_shares_of hr (pa_cons (pv 0) pa_nil))) (Hs.cons X_NoShares rfl (by decide) (fun y ps ok hd => (pss_one (ps_set (i := 1) sc__law_told.nd rfl (Or.inl rfl) pe_str))) .nil) rfl rfl (fun _ => PassesOwnAt.never))
      (pss_cons (ps_try (psx_set (i := 2) sc__law_told.nd rfl rfl (px_fn g_mean_of hr (pa_cons (pv 0) pa_nil))) (Hs.cons X_NoShares rfl (by decide) (fun y ps ok hd => (pss_one (ps_set (i := 2) sc__law_told.nd rfl (Or.inl rfl) pe_str))) .nil) rfl rfl (fun _ => PassesOwnAt.never))
      (pss_one (ps_ret (pe_tup (pa_cons (pv 1) (pa_cons (pv 2) pa_nil)))))))), ?_⟩
  refine ⟨(by show 2 ≤ sizeLine; decide), fun p0 fp0 => ⟨p0, _, rfl, SqT.of upd_same, rfl, _, _, rfl, _, _, rfl, rfl, ?_⟩⟩
  have y0 := same_new fp0 (.tup [V.non, V.non])
  generalize upd H p0 (.tup [V.non, V.non]) = H0 at y0 ⊢
  refine ⟨_, rfl, v, pl, rfl, hP.same y0, hd, fun hh ps rs ms H1 s1 w1 h1 h2 h3 h4 h5 => ?_, fun hh H1 s1 => ⟨"NoShares", CS, mS, _, rfl, X_NoShares, if_pos hSS, ?_⟩⟩
  · refine ⟨_, rfl, v, pl, rfl, (hP.same y0).same s1, hd, fun _ pm H2 s2 w2 => ?_, fun hn => by rw [hh] at hn; cases hn⟩
    refine ⟨_, rfl, _, rfl, (by show 2 ≤ sizeLine; decide), fun p fp => ?_⟩
    have y3 := same_new fp (.tup [V.ref ps, V.ref pm])
    have s13 := s2.trans y3
    exact q hh p ps pm rs ms _ ((y0.trans s1).trans s13) upd_same (s13 _ _ w1) ⟨h1, h2, h4⟩ (ShL.same ⟨h3, h5⟩ s13) (y3 _ _ w2)
  · refine ⟨_, rfl, v, pl, rfl, (hP.same y0).same s1, hd, (fun hn => by rw [hh] at hn; cases hn), fun _ H2 s2 => ⟨"NoShares", CS, mS, _, rfl, X_NoShares, if_pos hSS, ?_⟩⟩
    refine ⟨_, rfl, _, rfl, (by show 2 ≤ sizeLine; decide), fun p fp => ?_⟩
    exact q2 hh p _ (((y0.trans s1).trans s2).trans (same_new fp _)) upd_same
end
noncomputable def gl (P : Option Nat × Nat → Bool) (g : Option Nat × Nat → Nat) (es : List (Option Nat × Nat)) : List Int := ((es.filter P).map g).map fun (n : Nat) => (n : Int)
theorem gl_len (P : Option Nat × Nat → Bool) (g : Option Nat × Nat → Nat) (es : List (Option Nat × Nat)) : (gl P g es).length ≤ es.length := by
  unfold gl
  rw [List.length_map, List.length_map]
  exact List.length_filter_le _ _
theorem gl_take (P : Option Nat × Nat → Bool) (g : Option Nat × Nat → Nat) (es : List (Option Nat × Nat)) (j : Nat) : ((gl P g (es.take j)).map V.int).length ≤ es.length := by
  rw [List.length_map]
  refine Nat.le_trans (gl_len _ _ _) ?_
  rw [List.length_take]
  omega
theorem gl_t {P : Option Nat × Nat → Bool} {g : Option Nat × Nat → Nat} {es : List (Option Nat × Nat)} {j : Nat} {en : Option Nat × Nat} (h : es[j]? = some en) (hp : P en = true) : (gl P g (es.take (j + 1))).map V.int = (gl P g (es.take j)).map V.int ++ [V.int ((g en : Nat) : Int)] := by
  unfold gl
  rw [List.take_add_one, h, List.filter_append, List.map_append, List.map_append, List.map_append]
  congr 1
  show List.map V.int (List.map _ (List.map g (List.filter P [en]))) = _
  rw [List.filter_cons, if_pos hp]
  rfl
theorem gl_f {P : Option Nat × Nat → Bool} {g : Option Nat × Nat → Nat} {es : List (Option Nat × Nat)} {j : Nat} {en : Option Nat × Nat} (h : es[j]? = some en) (hp : P en = false) : (gl P g (es.take (j + 1))).map V.int = (gl P g (es.take j)).map V.int := by
  unfold gl
  rw [List.take_add_one, h, List.filter_append, List.map_append, List.map_append, List.map_append]
  show _ ++ List.map V.int (List.map _ (List.map g (List.filter P [en]))) = _
  rw [List.filter_cons, if_neg (by rw [hp]; decide)]
  exact List.append_nil _
theorem gl_sum (P : Option Nat → Bool) (es : List (Option Nat × Nat)) (D : Nat) : (gl (fun e => P e.1) (fun e => 2 ^ (D - e.2)) es).sum = ((shP P es D : Nat) : Int) := by
  unfold gl
  rw [sum_nats]
  congr 1
  unfold shP
  induction es with
  | nil => rfl
  | cons e es ih =>
    rw [List.map_cons, List.sum_cons, ← ih, List.filter_cons]
    by_cases c : P e.1 = true
    · rw [if_pos c, if_pos c, List.map_cons, List.sum_cons]
    · rw [if_neg c, if_neg c, Nat.zero_add]
theorem gl_tk (es : List (Option Nat × Nat)) (D : Nat) : (gl (fun _ => true) (fun e => e.2 * 2 ^ (D - e.2)) es).sum = ((tkS es D : Nat) : Int) := by
  unfold gl tkS
  rw [sum_nats, List.filter_eq_self.mpr (fun _ _ => rfl)]
theorem LEnds.at {H : Hp} {as : List Addr} {es : List (Option Nat × Nat)} {j : Nat} {x : V} (h : LEnds H as es) (hx : (as.map V.ref)[j]? = some x) : ∃ a en, x = V.ref a ∧ es[j]? = some en ∧ H a = some (.tup [vopN en.1, .int ((2 ^ en.2 : Nat) : Int), .int (en.2 : Int)]) := by
  obtain ⟨a, hja⟩ : ∃ a, as[j]? = some a := by
    rw [List.getElem?_map] at hx
    cases e : as[j]? with
    | none => rw [e] at hx; cases hx
    | some r => exact ⟨r, rfl⟩
  rw [List.getElem?_map, hja] at hx
  have hj : j < es.length := by rw [← h.1]; exact (List.getElem?_eq_some_iff.mp hja).1
  exact ⟨a, _, (Option.some.inj hx).symm, List.getElem?_eq_getElem hj, h.2 j a _ hja (List.getElem?_eq_getElem hj)⟩
theorem div_p {d D : Nat} (h : d ≤ D) : ((2 ^ D : Nat) : Int) / ((2 ^ d : Nat) : Int) = ((2 ^ (D - d) : Nat) : Int) := by
  rw [← Int.natCast_ediv, Nat.pow_div h (by decide)]
theorem div_q {d D : Nat} (h : d ≤ D) : (d : Int) * ((2 ^ D : Nat) : Int) / ((2 ^ d : Nat) : Int) = ((d * 2 ^ (D - d) : Nat) : Int) := by
  rw [← Int.natCast_mul, ← Int.natCast_ediv, Nat.mul_div_assoc _ (Nat.pow_dvd_pow 2 h), Nat.pow_div h (by decide)]
theorem cdiv_p {d : Nat} (i : Int) (h : d ≤ 12) : CDiv i ((2 ^ d : Nat) : Int) := by
  have h1 : 2 ^ d ≤ 4096 := Nat.le_trans (Nat.pow_le_pow_right (n := 2) (by decide) h) (by decide)
  have h2 := Nat.two_pow_pos d
  refine ⟨?_, ?_⟩
  · exact Int.natCast_pos.mpr h2
  · exact Int.lt_of_le_of_lt (Int.ofNat_le.mpr h1) (by decide)
noncomputable def NumZ (H : Hp) (bs : List Addr) (ks : List Nat) : Prop := bs.length = ks.length ∧ ∀ (j : Nat) (b : Addr) (n : Nat), bs[j]? = some b → ks[j]? = some n → H b = some (.tup [.int (n : Int), .int 0])
theorem NumZ.same {H H' : Hp} {as : List Addr} {nd : List Nat} (h : NumZ H as nd) (s : Same H H') : NumZ H' as nd := ⟨h.1, fun j a e e1 e2 => s _ _ (h.2 j a e e1 e2)⟩
theorem NumZ.snoc {H : Hp} {as : List Addr} {nd : List Nat} {p : Addr} {n : Nat} (h : NumZ H as nd) (hp : H p = some (.tup [.int (n : Int), .int 0])) : NumZ H (as ++ [p]) (nd ++ [n]) := by
  refine ⟨by rw [List.length_append, List.length_append, h.1]; rfl, fun j a e e1 e2 => ?_⟩
  by_cases c : j < as.length
  · rw [List.getElem?_append_left c] at e1
    rw [List.getElem?_append_left (by rw [← h.1]; exact c)] at e2
    exact h.2 j a e e1 e2
  · rw [List.getElem?_append_right (by omega)] at e1
    rw [List.getElem?_append_right (by rw [← h.1]; omega), ← h.1] at e2
    have hj : j - as.length = 0 := by
      have := (List.getElem?_eq_some_iff.mp e1).1
      simpa using this
    rw [hj] at e1 e2
    cases e1
    cases e2
    exact hp
noncomputable def numK (es : List (Option Nat × Nat)) : List Nat := es.filterMap (·.1)
theorem numK_mem (es : List (Option Nat × Nat)) (n : Nat) : n ∈ numK es ↔ ∃ d, (some n, d) ∈ es := by
  unfold numK
  rw [List.mem_filterMap]
  constructor
  · rintro ⟨⟨o, d⟩, h, e⟩
    exact ⟨d, by rw [← show o = some n from e]; exact h⟩
  · rintro ⟨d, h⟩
    exact ⟨_, h, rfl⟩
theorem puts_z : ∀ (l : List Nat) (cs : List (Nat × Nat)), (cs.map (·.1)).Nodup → (∀ x, getc cs x = 0) → ∃ cs', putsK (l.map fun (n : Nat) => ((Sum.inl (n : Int) : Key), V.int 0)) (toK cs) = toK cs' ∧ (cs'.map (·.1)).Nodup ∧ (∀ x, x ∈ cs'.map (·.1) ↔ x ∈ cs.map (·.1) ∨ x ∈ l) ∧ cs'.length ≤ cs.length + l.length
  | [], cs, nd, _ => ⟨cs, rfl, nd, fun x => by simp, Nat.le_refl _⟩
  | n :: l, cs, nd, z => by
    obtain ⟨cs', e, nd', hm, hl⟩ := puts_z l (bump cs n 0) (bump_nodup cs n 0 nd) (fun x => by rw [getc_bump, z]; split <;> rfl)
    refine ⟨cs', ?_, nd', fun x => ?_, ?_⟩
    · rw [← e, ← toK_put nd, z n]
      rfl
    · rw [hm, bump_keys, List.mem_cons]
      constructor
      · rintro ((h | h) | h)
        · exact .inr (.inl h)
        · exact .inl h
        · exact .inr (.inr h)
      · rintro (h | (h | h))
        · exact .inl (.inr h)
        · exact .inl (.inl h)
        · exact .inr h
    · have := bump_len cs n 0
      rw [List.length_cons]
      omega
section
variable {P : Program} {w : World} {K : PySem.W.Frag} {mg : Str → Option Value} {base : Heap} {f : Addr} {fd : FuncData}
theorem ok__law_due (F__law_due : Fun K "_law_due" "_law_due" s__law_due f fd) (B : Bl mg) (g__law_ends : Fn P w K mg base "_law_ends" p__law_ends 15 (spLEnds K 12)) (g__law_frac : Fn P w K mg base "_law_frac" p__law_frac 15 spFrac) : FnOk P w K mg base CX0 16 f fd p__law_due (spTD K) := by
  refine F__law_due.ok sc__law_due (fun vs H Q E h => ?_) (fun cdv A outer s H vs Q E hr h => ?_)
  · obtain ⟨v, pl, rfl, _⟩ := h
    rfl
  obtain ⟨v, pl, rfl, hP, hd, q, q2⟩ := h
  refine ⟨_, (pss_cons (ps_set (i := 1) sc__law_due.nd rfl (Or.inl rfl) (pe_fn g__law_ends hr (pa_cons (pv 0) (pa_cons pe_int (pa_cons pe_int pa_nil)))))
      (pss_cons (ps_set (i := 2) sc__law_due.nd rfl (Or.inr rfl) (pe_callB (call_maxL rfl) rfl B.max_ L3.bt_max (pa_cons (pe_comp [] ["_law_made", "_law_ends_here", "_law_wide", "_law_whole", "_law_numbers", "_law_rows", "_law_one_here", "_law_part", "_law_number", "_law_size", "_law_high"] 3 rfl (pi_list (pv 1)) (fun _ _ _ _ _ => (pg_tupK K 3 rfl (pgs_cons (pg_name (i := 8) nd_7 rfl (Or.inl rfl) (Or.inr rfl)) (pgs_cons (pg_name (i := 9) nd_7 rfl (Or.inl rfl) (Or.inr rfl)) (pgs_cons (pg_name (i := 10) nd_7 rfl (Or.inl rfl) (Or.inr rfl)) pgs_nil))) rfl rfl rfl)) (fun _ _ _ _ _ => pif_nil) (fun _ _ _ _ _ => (pv 9))) pa_nil)))
      (pss_cons (ps_set (i := 3) sc__law_due.nd rfl (Or.inl rfl) (pe_callB (call_sumL rfl) rfl B.sum_ L3.bt_sum (pa_cons (pe_comp [] ["_law_made", "_law_ends_here", "_law_wide", "_law_whole", "_law_numbers", "_law_rows", "_law_one_here", "_law_part", "_law_number", "_law_size", "_law_high"] 3 rfl (pi_list (pv 1)) (fun _ _ _ _ _ => (pg_tupK K 3 rfl (pgs_cons (pg_name (i := 8) nd_8 rfl (Or.inl rfl) (Or.inr rfl)) (pgs_cons (pg_name (i := 9) nd_8 rfl (Or.inl rfl) (Or.inr rfl)) (pgs_cons (pg_name (i := 10) nd_8 rfl (Or.inl rfl) (Or.inr rfl)) pgs_nil))) rfl rfl rfl)) (fun _ _ _ _ _ => (pif_one (pt_cmpR op_notN (pv 8) pe_non (nomark _)))) (fun _ _ _ _ _ => (pe_op op_fdiv (pv 2) (pv 9)))) pa_nil)))
      (pss_cons (ps_if (pt_cmpR op_eq (pv 3) pe_int (nomark _)) (pss_one (ps_ret (pe_tup (pa_cons pe_str (pa_cons pe_str pa_nil))))) pss_nil)
      (pss_cons (ps_set (i := 4) sc__law_due.nd rfl (Or.inl rfl) (pe_callB (call_sortedDB rfl) rfl B.sorted_ L3.bt_sorted (pa_cons (pe_callTy (call_dictL rfl) rfl B.dict_ L3.bt_dict (pa_cons (pe_comp [] ["_law_made", "_law_ends_here", "_law_wide", "_law_whole", "_law_numbers", "_law_rows", "_law_one_here", "_law_part", "_law_number", "_law_size", "_law_high"] 3 rfl (pi_list (pv 1)) (fun _ _ _ _ _ => (pg_tupK K 3 rfl (pgs_cons (pg_name (i := 8) nd_9 rfl (Or.inl rfl) (Or.inr rfl)) (pgs_cons (pg_name (i := 9) nd_9 rfl (Or.inl rfl) (Or.inr rfl)) (pgs_cons (pg_name (i := 10) nd_9 rfl (Or.inl rfl) (Or.inr rfl)) pgs_nil))) rfl rfl rfl)) (fun _ _ _ _ _ => (pif_one (pt_cmpR op_notN (pv 8) pe_non (nomark _)))) (fun _ _ _ _ _ => (pe_tup (pa_cons (pv 8) (pa_cons pe_int pa_nil))))) pa_nil)) pa_nil)))
      (pss_cons (ps_set (i := 5) sc__law_due.nd rfl (Or.inl rfl) (pe_tup pa_nil))
      (pss_cons (ps_for PassesOwn.never rfl (pi_list (pv 4)) (pg_name (i := 6) sc__law_due.nd rfl (Or.inr rfl)) (pss_cons (ps_set (i := 7) sc__law_due.nd rfl (Or.inl rfl) (pe_callB (call_sumL rfl) rfl B.sum_ L3.bt_sum (pa_cons (pe_comp [] ["_law_made", "_law_ends_here", "_law_wide", "_law_whole", "_law_numbers", "_law_rows", "_law_one_here", "_law_part", "_law_number", "_law_size", "_law_high"] 3 rfl (pi_list (pv 1)) (fun _ _ _ _ _ => (pg_tupK K 3 rfl (pgs_cons (pg_name (i := 8) nd_10 rfl (Or.inl rfl) (Or.inr rfl)) (pgs_cons (pg_name (i := 9) nd_10 rfl (Or.inl rfl) (Or.inr rfl)) (pgs_cons (pg_name (i := 10) nd_10 rfl (Or.inl rfl) (Or.inr rfl)) pgs_nil))) rfl rfl rfl)) (fun _ _ _ _ _ => (pif_one (pt_cmpR op_eq (pv 8) (pv 6) (nomark _)))) (fun _ _ _ _ _ => (pe_op op_fdiv (pv 2) (pv 9)))) pa_nil)))
      (pss_one (ps_set (i := 5) sc__law_due.nd rfl (Or.inl rfl) (pe_op op_cat0 (pv 5) (pe_tup (pa_cons (pe_tup (pa_cons (pv 6) (pa_cons (pe_fn g__law_frac hr (pa_cons (pv 7) (pa_cons (pv 3) pa_nil))) pa_nil))) pa_nil)))))))
      (pss_one (ps_ret (pe_tup (pa_cons (pv 5) (pa_cons (pe_fn g__law_frac hr (pa_cons (pe_callB (call_sumL rfl) rfl B.sum_ L3.bt_sum (pa_cons (pe_comp [] ["_law_made", "_law_ends_here", "_law_wide", "_law_whole", "_law_numbers", "_law_rows", "_law_one_here", "_law_part", "_law_number", "_law_size", "_law_high"] 3 rfl (pi_list (pv 1)) (fun _ _ _ _ _ => (pg_tupK K 3 rfl (pgs_cons (pg_name (i := 8) nd_11 rfl (Or.inl rfl) (Or.inr rfl)) (pgs_cons (pg_name (i := 9) nd_11 rfl (Or.inl rfl) (Or.inr rfl)) (pgs_cons (pg_name (i := 10) nd_11 rfl (Or.inl rfl) (Or.inr rfl)) pgs_nil))) rfl rfl rfl)) (fun _ _ _ _ _ => pif_nil) (fun _ _ _ _ _ => (pe_op op_fdiv (pe_op op_mul (pv 10) (pv 2)) (pv 9)))) pa_nil)) (pa_cons (pv 3) pa_nil))) pa_nil)))))))))))), ?_⟩
  refine ⟨_, rfl, v, pl, 0, rfl, hP, hd, by decide, fun l as H1 nl s1 w1 e1 => ?_⟩
  have b1 := ends_4096 hd 0
  have hdl : ∀ e ∈ ends pl 0, e.2 ≤ pl.dp := fun e he => by have := (ends_deep pl 0 e he).2; omega
  have hl1 := e1.1
  -- wide
  refine ⟨_, rfl, l, rfl, ⟨_, SqL.of w1⟩, comp_list (xs := as.map V.ref) (fun j acc σ' H' => ∃ (o8 o9 o10 : Option V), acc = (gl (fun _ => true) (fun e => 2 ^ e.2) ((ends pl 0).take j)).map V.int ∧ H' = H1 ∧ σ' = [some v, some (.ref l), none, none, none, none, none, none, o8, o9, o10]) ⟨_, _, _, rfl, rfl, rfl⟩
    (fun j acc σ' H' hj ⟨_, _, _, e', _⟩ => by
      have := gl_take (fun _ => true) (fun e => 2 ^ e.2) (ends pl 0) j
      rw [e']
      omega) (fun j acc σ' H' _ ⟨_, _, _, _, y, _⟩ => SqL.of (by rw [y]; exact w1)) ?_ ?_⟩
  · rintro j x acc σ' H' hx ⟨o8, o9, o10, rfl, rfl, rfl⟩
    obtain ⟨a, en, rfl, hen, ha⟩ := e1.at hx
    refine ⟨a, _, rfl, SqT.of ha, rfl, _, _, rfl, _, _, rfl, _, _, rfl, rfl, _, rfl, _, _, _, ?_, rfl, rfl⟩
    rw [gl_t hen rfl]
  rintro acc σ' H2 D2 ⟨o8, o9, o10, rfl, e2, rfl⟩ fD2
  obtain rfl : H2 = H1 := e2
  rw [List.length_map, hl1, List.take_length]
  have y2 := same_new fD2 (.lst ((gl (fun _ => true) (fun e => 2 ^ e.2) (ends pl 0)).map V.int))
  have w2 : (upd H2 D2 (.lst ((gl (fun _ => true) (fun e => 2 ^ e.2) (ends pl 0)).map V.int))) D2 = some (.lst ((gl (fun _ => true) (fun e => 2 ^ e.2) (ends pl 0)).map V.int)) := upd_same
  generalize upd H2 D2 (.lst ((gl (fun _ => true) (fun e => 2 ^ e.2) (ends pl 0)).map V.int)) = H3 at y2 w2 ⊢
  have egl : gl (fun _ => true) (fun e => 2 ^ e.2) (ends pl 0) = ((ends pl 0).map fun e => 2 ^ e.2).map fun (n : Nat) => (n : Int) := by
    unfold gl
    rw [List.filter_eq_self.mpr (fun _ _ => rfl)]
  obtain ⟨et, het, hdt⟩ := dp_at pl 0
  refine ⟨D2, _, rfl, SqL.of w2, ?_, fun M hM hle => ?_⟩
  · rw [egl, List.length_map, List.length_map]
    exact List.length_pos_of_mem het
  have eM : M = ((2 ^ pl.dp : Nat) : Int) := by
    rw [egl] at hM hle
    have h1 := hle _ (List.mem_map.mpr ⟨_, List.mem_map.mpr ⟨et, het, rfl⟩, rfl⟩)
    obtain ⟨m, hm, rfl⟩ := List.mem_map.mp hM
    obtain ⟨e', he', rfl⟩ := List.mem_map.mp hm
    have h2 : 2 ^ e'.2 ≤ 2 ^ pl.dp := Nat.pow_le_pow_right (by decide) (hdl e' he')
    rw [hdt, Nat.zero_add] at h1
    omega
  subst eM
  clear egl hM hle
  have e3 := e1.same y2
  have w3 := y2 _ _ w1
  have s3 := s1.trans y2
  clear e1 w1 s1 y2 w2 fD2 nl het hdt
  -- whole
  refine ⟨_, rfl, l, rfl, ⟨_, SqL.of w3⟩, comp_list (xs := as.map V.ref) (fun j acc σ' H' => ∃ (o8 o9 o10 : Option V), acc = (gl (fun e => e.1.isSome) (fun e => 2 ^ (pl.dp - e.2)) ((ends pl 0).take j)).map V.int ∧ H' = H3 ∧ σ' = [some v, some (.ref l), some (.int ((2 ^ pl.dp : Nat) : Int)), none, none, none, none, none, o8, o9, o10]) ⟨_, _, _, rfl, rfl, rfl⟩
    (fun j acc σ' H' hj ⟨_, _, _, e', _⟩ => by
      have := gl_take (fun e => e.1.isSome) (fun e => 2 ^ (pl.dp - e.2)) (ends pl 0) j
      rw [e']
      omega) (fun j acc σ' H' _ ⟨_, _, _, _, y, _⟩ => SqL.of (by rw [y]; exact w3)) ?_ ?_⟩
  · rintro j x acc σ' H' hx ⟨o8, o9, o10, rfl, rfl, rfl⟩
    obtain ⟨a, en, rfl, hen, ha⟩ := e3.at hx
    have hle := hdl en (List.mem_of_getElem? hen)
    refine ⟨a, _, rfl, SqT.of ha, rfl, _, _, rfl, _, _, rfl, _, _, rfl, rfl, ?_⟩
    obtain ⟨eo, ed⟩ := en
    cases eo with
    | none =>
      refine ⟨_, rfl, rfl, _, rfl, ite2 (fun c => absurd c (by show ¬ (!decide (V.non = V.non)) = true; decide +kernel)) (fun _ => ⟨_, _, _, ?_, rfl, rfl⟩)⟩
      rw [gl_f hen rfl]
    | some n =>
      refine ⟨_, rfl, rfl, _, rfl, ite2 (fun _ => ?_) (fun c => absurd (show (!decide (V.int (n : Int) = V.non)) = true from by rw [decide_eq_false (fun z => by cases z)]; rfl) c)⟩
      refine ⟨_, rfl, _, rfl, _, _, rfl, rfl, cdiv_p _ (Nat.le_trans hle hd), _, _, _, ?_, rfl, rfl⟩
      rw [gl_t hen rfl]
      show _ ++ [V.int (((2 ^ pl.dp : Nat) : Int) / ((2 ^ ed : Nat) : Int))] = _
      rw [div_p hle]
  rintro acc σ' H4 D4 ⟨o8', o9', o10', rfl, e4, rfl⟩ fD4
  obtain rfl : H4 = H3 := e4
  rw [List.length_map, hl1, List.take_length]
  have y4 := same_new fD4 (.lst ((gl (fun e => e.1.isSome) (fun e => 2 ^ (pl.dp - e.2)) (ends pl 0)).map V.int))
  have w4 : (upd H4 D4 (.lst ((gl (fun e => e.1.isSome) (fun e => 2 ^ (pl.dp - e.2)) (ends pl 0)).map V.int))) D4 = some (.lst ((gl (fun e => e.1.isSome) (fun e => 2 ^ (pl.dp - e.2)) (ends pl 0)).map V.int)) := upd_same
  generalize upd H4 D4 (.lst ((gl (fun e => e.1.isSome) (fun e => 2 ^ (pl.dp - e.2)) (ends pl 0)).map V.int)) = H5 at y4 w4 ⊢
  refine ⟨D4, _, rfl, SqL.of w4, ?_⟩
  rw [gl_sum (fun o => o.isSome)]
  have e5 := e3.same y4
  have w5 := y4 _ _ w3
  have s5 := s3.trans y4
  clear e3 w3 s3 y4 w4 fD4
  refine ⟨_, rfl, rfl, _, rfl, ite2 (fun c => ?_) (fun c => ?_)⟩
  · have c' := of_decide_eq_true c
    injection c' with c'
    have hh : pl.has = false := by
      rcases Bool.eq_false_or_eq_true pl.has with h | h
      · have := has_pos h
        omega
      · exact h
    exact ⟨(by show 2 ≤ sizeLine; decide), fun p fp => q2 hh p _ (s5.trans (same_new fp _)) upd_same⟩
  have hT0 : 0 < shP (fun o => o.isSome) (ends pl 0) pl.dp := by
    rcases Nat.eq_zero_or_pos (shP (fun o => o.isSome) (ends pl 0) pl.dp) with h | h
    · exact absurd (decide_eq_true (by rw [h]; rfl)) c
    · exact h
  have hh : pl.has = true := by
    obtain ⟨e, he, hs⟩ := shP_pos hT0
    rw [← has_ends pl 0, List.any_eq_true]
    exact ⟨e, he, hs⟩
  have q' := q hh
  clear c q q2
  -- numbers
  refine ⟨_, rfl, l, rfl, ⟨_, SqL.of w5⟩, comp_list (xs := as.map V.ref) (fun j acc σ' H' => ∃ (bs : List Addr) (o8 o9 o10 : Option V), acc = bs.map V.ref ∧ bs.length ≤ j ∧ NumZ H' bs (numK ((ends pl 0).take j)) ∧ Same H5 H' ∧ σ' = [some v, some (.ref l), some (.int ((2 ^ pl.dp : Nat) : Int)), some (.int ((shP (fun o => o.isSome) (ends pl 0) pl.dp : Nat) : Int)), none, none, none, none, o8, o9, o10]) ⟨[], _, _, _, rfl, Nat.le_refl _, ⟨rfl, fun j a e h => by simp at h⟩, Same.refl _, rfl⟩
    (fun j acc σ' H' hj ⟨bs, _, _, _, e', hb, _⟩ => by
      rw [e', List.length_map]
      rw [List.length_map, hl1] at hj
      omega) (fun j acc σ' H' _ ⟨_, _, _, _, _, _, _, y, _⟩ => SqL.of (y _ _ w5)) ?_ ?_⟩
  · rintro j x acc σ' H' hx ⟨bs, o8, o9, o10, rfl, hb, hN, y, rfl⟩
    obtain ⟨a, en, rfl, hen, ha⟩ := e5.at hx
    have ha' := y _ _ ha
    have hnext : numK ((ends pl 0).take (j + 1)) = numK ((ends pl 0).take j) ++ numK [en] := by
      rw [List.take_add_one, hen]
      exact List.filterMap_append
    refine ⟨a, _, rfl, SqT.of ha', rfl, _, _, rfl, _, _, rfl, _, _, rfl, rfl, ?_⟩
    obtain ⟨eo, ed⟩ := en
    cases eo with
    | none =>
      refine ⟨_, rfl, rfl, _, rfl, ite2 (fun c => absurd c (by show ¬ (!decide (V.non = V.non)) = true; decide +kernel)) (fun _ => ⟨bs, _, _, _, rfl, by omega, ?_, y, rfl⟩)⟩
      rw [hnext]
      show NumZ H' bs (_ ++ [])
      rw [List.append_nil]
      exact hN
    | some n =>
      refine ⟨_, rfl, rfl, _, rfl, ite2 (fun _ => ?_) (fun c => absurd (show (!decide (V.int (n : Int) = V.non)) = true from by rw [decide_eq_false (fun z => by cases z)]; rfl) c)⟩
      refine ⟨_, rfl, (by show 2 ≤ sizeLine; decide), fun p2 fp2 => ?_⟩
      refine ⟨bs ++ [p2], _, _, _, by rw [List.map_append]; rfl, by rw [List.length_append]; show bs.length + 1 ≤ _; omega, ?_, y.trans (same_new fp2 _), rfl⟩
      rw [hnext]
      exact (hN.same (same_new fp2 _)).snoc upd_same
  rintro acc σ' H6 D6 ⟨bs, o8'', o9'', o10'', rfl, hb, hN, y6, rfl⟩ fD6
  rw [List.length_map, hl1, List.take_length] at hN
  rw [List.length_map, hl1] at hb
  have y7 := same_new fD6 (.lst (bs.map V.ref))
  have w7 : (upd H6 D6 (.lst (bs.map V.ref))) D6 = some (.lst (bs.map V.ref)) := upd_same
  generalize upd H6 D6 (.lst (bs.map V.ref)) = H7 at y7 w7 ⊢
  have hN7 := hN.same y7
  have hkl : (numK (ends pl 0)).length ≤ 4096 := by rw [← hN.1]; omega
  refine ⟨D6, bs, (numK (ends pl 0)).map (fun (n : Nat) => ((Sum.inl (n : Int) : Key), V.int 0)), rfl, w7, by rw [List.length_map]; exact hN.1, by rw [List.length_map]; omega, fun j a kv z1 z2 => ?_, fun d fd8 => ?_⟩
  · rw [List.getElem?_map] at z2
    cases ek : (numK (ends pl 0))[j]? with
    | none => rw [ek] at z2; cases z2
    | some n =>
      rw [ek] at z2
      cases z2
      exact hN7.2 j a n z1 ek
  obtain ⟨cs, ecs, hnd, hmem, hcl⟩ := puts_z (numK (ends pl 0)) [] List.nodup_nil (fun x => rfl)
  have ecs' : putsK ((numK (ends pl 0)).map (fun (n : Nat) => ((Sum.inl (n : Int) : Key), V.int 0))) [] = toK cs := ecs
  rw [ecs']
  have y8 := same_new fd8 (.dK (toK cs))
  have w8 : (upd H7 d (.dK (toK cs))) d = some (.dK (toK cs)) := upd_same
  generalize upd H7 d (.dK (toK cs)) = H8 at y8 w8 ⊢
  have hcl' : cs.length ≤ 4096 := by
    have : cs.length ≤ 0 + (numK (ends pl 0)).length := hcl
    omega
  refine ⟨d, _, (cs.map (·.1)).map (fun (n : Nat) => (n : Int)), rfl, w8, by unfold toK; rw [List.map_map, List.map_map, List.map_map]; rfl, by rw [List.length_map, List.length_map]; omega, fun L ns' fL hp ho => ?_⟩
  obtain ⟨ms, rfl, hms, hmm⟩ := sorted_nats hnd hp ho
  have hml : ms.length ≤ 4096 := by
    have := hp.length_eq
    rw [List.length_map, List.length_map, List.length_map] at this
    omega
  have hS : Srt pl ms := ⟨hms, fun n => by
    rw [hmm, hmem, ← numK_mem]
    exact ⟨fun h => h.elim (fun z => by cases z) id, .inr⟩, hml⟩
  have y9 := same_new fL (.lst ((ms.map fun (n : Nat) => (n : Int)).map V.int))
  have w9 : (upd H8 L (.lst ((ms.map fun (n : Nat) => (n : Int)).map V.int))) L = some (.lst ((ms.map fun (n : Nat) => (n : Int)).map V.int)) := upd_same
  generalize upd H8 L (.lst ((ms.map fun (n : Nat) => (n : Int)).map V.int)) = H9 at y9 w9 ⊢
  have s59 := ((y6.trans y7).trans y8).trans y9
  have e9 := e5.same s59
  have v9 := s59 _ _ w5
  have s9 := s5.trans s59
  clear e5 w5 s5 s59 y6 y7 y8 y9 w7 w8 hN hN7 fD6 fd8 fL hp ho hmem hmm ecs ecs' hcl hnd
  -- rows
  refine ⟨(by show 0 ≤ sizeLine; decide), fun d0 fd0 => ?_⟩
  have y10 := same_new fd0 (.tup ([] : List V))
  have w10 : (upd H9 d0 (.tup ([] : List V))) d0 = some (.tup []) := upd_same
  generalize upd H9 d0 (.tup ([] : List V)) = H10 at y10 w10 ⊢
  have e10 := e9.same y10
  have v10 := y10 _ _ v9
  have u10 := y10 _ _ w9
  have s10 := s9.trans y10
  clear e9 v9 w9 s9 y10 fd0
  have hfit := shP_fit (P := fun o => o.isSome) hd
  refine ⟨_, rfl, L, rfl, ⟨_, SqL.of u10⟩, for_list (xs := (ms.map fun (n : Nat) => (n : Int)).map V.int) (fun j σ' H' => ∃ (pp : Addr) (rs : List Addr) (o6 o7 : Option V), σ' = [some v, some (.ref l), some (.int ((2 ^ pl.dp : Nat) : Int)), some (.int ((shP (fun o => o.isSome) (ends pl 0) pl.dp : Nat) : Int)), some (.ref L), some (.ref pp), o6, o7] ∧ Same H10 H' ∧ H' pp = some (.tup (rs.map V.ref)) ∧ ShL H' rs (ms.take j) (shF pl))
    ⟨d0, [], _, _, rfl, Same.refl _, w10, rfl, fun j r n e => by simp at e⟩ (fun j σ' H' _ ⟨_, _, _, _, _, y, _⟩ => SqL.of (y _ _ u10)) ?_ ?_⟩
  · rintro j x σ' H11 hx ⟨pp, rs, o6, o7, rfl, y11, w11, hR⟩
    rw [List.getElem?_map, List.getElem?_map] at hx
    obtain ⟨n, hn⟩ : ∃ n, ms[j]? = some n := by
      cases e : ms[j]? with
      | none => rw [e] at hx; cases hx
      | some r => exact ⟨r, rfl⟩
    rw [hn] at hx
    obtain rfl : V.int (n : Int) = x := Option.some.inj hx
    have e11 := e10.same y11
    have v11 := y11 _ _ v10
    refine ⟨_, rfl, l, rfl, ⟨_, SqL.of v11⟩, comp_list (xs := as.map V.ref) (fun j acc σ' H' => ∃ (o8 o9 o10 : Option V), acc = (gl (fun e => e.1 == some n) (fun e => 2 ^ (pl.dp - e.2)) ((ends pl 0).take j)).map V.int ∧ H' = H11 ∧ σ' = [some v, some (.ref l), some (.int ((2 ^ pl.dp : Nat) : Int)), some (.int ((shP (fun o => o.isSome) (ends pl 0) pl.dp : Nat) : Int)), some (.ref L), some (.ref pp), some (.int (n : Int)), o7, o8, o9, o10]) ⟨_, _, _, rfl, rfl, rfl⟩
      (fun j acc σ' H' hj ⟨_, _, _, e', _⟩ => by
        have := gl_take (fun e => e.1 == some n) (fun e => 2 ^ (pl.dp - e.2)) (ends pl 0) j
        rw [e']
        omega) (fun j acc σ' H' _ ⟨_, _, _, _, y, _⟩ => SqL.of (by rw [y]; exact v11)) ?_ ?_⟩
    · rintro j x acc σ' H' hx ⟨o8, o9, o10, rfl, rfl, rfl⟩
      obtain ⟨a, en, rfl, hen, ha⟩ := e11.at hx
      have hle := hdl en (List.mem_of_getElem? hen)
      refine ⟨a, _, rfl, SqT.of ha, rfl, _, _, rfl, _, _, rfl, _, _, rfl, rfl, ?_⟩
      obtain ⟨eo, ed⟩ := en
      cases eo with
      | none =>
        refine ⟨_, rfl, _, rfl, rfl, _, rfl, ite2 (fun c => absurd (of_decide_eq_true c) (fun z => by cases z)) (fun _ => ⟨_, _, _, ?_, rfl, rfl⟩)⟩
        rw [gl_f hen rfl]
      | some m =>
        refine ⟨_, rfl, _, rfl, rfl, _, rfl, ite2 (fun c => ?_) (fun c => ⟨_, _, _, ?_, rfl, rfl⟩)⟩
        · have c' : V.int (m : Int) = V.int (n : Int) := of_decide_eq_true c
          injection c' with c'
          have emn : m = n := by omega
          refine ⟨_, rfl, _, rfl, _, _, rfl, rfl, cdiv_p _ (Nat.le_trans hle hd), _, _, _, ?_, rfl, rfl⟩
          rw [gl_t hen (by show (some m == some n) = true; rw [emn]; exact beq_self_eq_true _)]
          show _ ++ [V.int (((2 ^ pl.dp : Nat) : Int) / ((2 ^ ed : Nat) : Int))] = _
          rw [div_p hle]
        · rw [gl_f hen (by
            show (some m == some n) = false
            rw [beq_eq_false_iff_ne]
            intro z
            injection z with z
            exact c (decide_eq_true (by rw [z]; rfl)))]
    rintro acc σ' H12 D12 ⟨o8, o9, o10, rfl, e12, rfl⟩ fD12
    obtain rfl : H12 = H11 := e12
    rw [List.length_map, hl1, List.take_length]
    have y12 := same_new fD12 (.lst ((gl (fun e => e.1 == some n) (fun e => 2 ^ (pl.dp - e.2)) (ends pl 0)).map V.int))
    have w12 : (upd H12 D12 (.lst ((gl (fun e => e.1 == some n) (fun e => 2 ^ (pl.dp - e.2)) (ends pl 0)).map V.int))) D12 = some (.lst ((gl (fun e => e.1 == some n) (fun e => 2 ^ (pl.dp - e.2)) (ends pl 0)).map V.int)) := upd_same
    generalize upd H12 D12 (.lst ((gl (fun e => e.1 == some n) (fun e => 2 ^ (pl.dp - e.2)) (ends pl 0)).map V.int)) = H13 at y12 w12 ⊢
    refine ⟨D12, _, rfl, SqL.of w12, ?_⟩
    rw [gl_sum (fun o => o == some n)]
    refine ⟨_, rfl, _, rfl, _, rfl, _, rfl, _, _, rfl, hT0, Fit.of (by omega), fun fp H14 s14 w14 => ?_⟩
    refine ⟨(by show 2 ≤ sizeLine; decide), fun p15 fp15 => ?_⟩
    have y15 := same_new fp15 (.tup [V.int (n : Int), V.ref fp])
    have w15 : (upd H14 p15 (.tup [V.int (n : Int), V.ref fp])) p15 = some (.tup [V.int (n : Int), V.ref fp]) := upd_same
    generalize upd H14 p15 (.tup [V.int (n : Int), V.ref fp]) = H15 at y15 w15 ⊢
    refine ⟨(by show 1 ≤ sizeLine; decide), fun p16 fp16 => ?_⟩
    have y16 := same_new fp16 (.tup [V.ref p15])
    have w16 : (upd H15 p16 (.tup [V.ref p15])) p16 = some (.tup [V.ref p15]) := upd_same
    generalize upd H15 p16 (.tup [V.ref p15]) = H16 at y16 w16 ⊢
    have s1216 := ((y12.trans s14).trans y15).trans y16
    have hrl : rs.length ≤ 4096 := by
      rw [hR.1, List.length_take]
      omega
    refine cat34 (s1216 _ _ w11) w16 (by rw [List.length_map]; show rs.length + 1 ≤ 300000; omega) fun pn H17 s17 w17 => ?_
    refine ⟨pn, rs ++ [p15], _, _, rfl, (y11.trans s1216).trans s17, by rw [w17, List.map_append]; rfl, ?_⟩
    rw [List.take_add_one, hn]
    exact ((hR.same s1216).same s17).snoc (s17 _ _ (y16 _ _ w15)) (s17 _ _ (y16 _ _ (y15 _ _ w14)))
  rintro σ' H11 ⟨pp, rs, o6, o7, rfl, y11, w11, hR⟩
  rw [List.length_map, List.length_map, List.take_length] at hR
  have e11 := e10.same y11
  have v11 := y11 _ _ v10
  have s11 := s10.trans y11
  -- the mean
  refine ⟨_, rfl, _, rfl, l, rfl, ⟨_, SqL.of v11⟩, comp_list (xs := as.map V.ref) (fun j acc σ' H' => ∃ (o8 o9 o10 : Option V), acc = (gl (fun _ => true) (fun e => e.2 * 2 ^ (pl.dp - e.2)) ((ends pl 0).take j)).map V.int ∧ H' = H11 ∧ σ' = [some v, some (.ref l), some (.int ((2 ^ pl.dp : Nat) : Int)), some (.int ((shP (fun o => o.isSome) (ends pl 0) pl.dp : Nat) : Int)), some (.ref L), some (.ref pp), o6, o7, o8, o9, o10]) ⟨_, _, _, rfl, rfl, rfl⟩
    (fun j acc σ' H' hj ⟨_, _, _, e', _⟩ => by
      have := gl_take (fun _ => true) (fun e => e.2 * 2 ^ (pl.dp - e.2)) (ends pl 0) j
      rw [e']
      omega) (fun j acc σ' H' _ ⟨_, _, _, _, y, _⟩ => SqL.of (by rw [y]; exact v11)) ?_ ?_⟩
  · rintro j x acc σ' H' hx ⟨o8, o9, o10, rfl, rfl, rfl⟩
    obtain ⟨a, en, rfl, hen, ha⟩ := e11.at hx
    have hle := hdl en (List.mem_of_getElem? hen)
    refine ⟨a, _, rfl, SqT.of ha, rfl, _, _, rfl, _, _, rfl, _, _, rfl, rfl, _, rfl, _, rfl, _, _, rfl, rfl, .inl ⟨by omega, by omega⟩, _, rfl, _, _, rfl, rfl, cdiv_p _ (Nat.le_trans hle hd), _, _, _, ?_, rfl, rfl⟩
    rw [gl_t hen rfl]
    show _ ++ [V.int ((en.2 : Int) * ((2 ^ pl.dp : Nat) : Int) / ((2 ^ en.2 : Nat) : Int))] = _
    rw [div_q hle]
  rintro acc σ' H12 D12 ⟨o8, o9, o10, rfl, e12, rfl⟩ fD12
  obtain rfl : H12 = H11 := e12
  rw [List.length_map, hl1, List.take_length]
  have y12 := same_new fD12 (.lst ((gl (fun _ => true) (fun e => e.2 * 2 ^ (pl.dp - e.2)) (ends pl 0)).map V.int))
  have w12 : (upd H12 D12 (.lst ((gl (fun _ => true) (fun e => e.2 * 2 ^ (pl.dp - e.2)) (ends pl 0)).map V.int))) D12 = some (.lst ((gl (fun _ => true) (fun e => e.2 * 2 ^ (pl.dp - e.2)) (ends pl 0)).map V.int)) := upd_same
  generalize upd H12 D12 (.lst ((gl (fun _ => true) (fun e => e.2 * 2 ^ (pl.dp - e.2)) (ends pl 0)).map V.int)) = H13 at y12 w12 ⊢
  refine ⟨D12, _, rfl, SqL.of w12, ?_⟩
  rw [gl_tk]
  refine ⟨_, rfl, _, _, rfl, hT0, Fit.of (by omega), fun pm H14 s14 w14 => ?_⟩
  refine ⟨(by show 2 ≤ sizeLine; decide), fun p fp => ?_⟩
  have y15 := same_new fp (.tup [V.ref pp, V.ref pm])
  have s1215 := (y12.trans s14).trans y15
  exact q' p pp pm rs ms _ (s11.trans s1215) upd_same (s1215 _ _ w11) hS (hR.same s1215) (y15 _ _ w14)
end
noncomputable def spPlus : Sp := fun vs H Q _ => ∃ (a b : Addr) (x y z v : Nat), vs = [.ref a, .ref b] ∧ H a = some (.tup [.int (x : Int), .int (y : Int)]) ∧ H b = some (.tup [.int (z : Int), .int (v : Int)]) ∧ 0 < y ∧ 0 < v ∧ Fit x ∧ Fit y ∧ Fit z ∧ Fit v ∧ Fit (y * v) ∧ ∀ p H', Same H H' → H' p = some (.tup (frV (x * v + z * y) (y * v))) → Q (.ref p) H'
section
variable {P : Program} {w : World} {K : PySem.W.Frag} {mg : Str → Option Value} {base : Heap} {f : Addr} {fd : FuncData}
theorem ok__law_plus (F__law_plus : Fun K "_law_plus" "_law_plus" s__law_plus f fd) (g__law_frac : Fn P w K mg base "_law_frac" p__law_frac 1 spFrac) : FnOk P w K mg base CX0 2 f fd p__law_plus spPlus := by
  refine F__law_plus.ok sc__law_plus (fun vs H Q E h => ?_) (fun cdv A outer s H vs Q E hr h => ?_)
  · obtain ⟨a, b, x, y, z, v, rfl, _⟩ := h
    rfl
  obtain ⟨a, b, x, y, z, v, rfl, ha, hb, hy, hv, fx, fy, fz, fv, fm, q⟩ := h
  refine ⟨_, (pss_one (ps_ret (pe_fn g__law_frac hr (pa_cons (pe_op op_add (pe_op op_mulB (pe_ix ix_tup (pv 0) pe_int (fun _ _ => rfl)) (pe_ix ix_tup (pv 1) pe_int (fun _ _ => rfl))) (pe_op op_mulB (pe_ix ix_tup (pv 1) pe_int (fun _ _ => rfl)) (pe_ix ix_tup (pv 0) pe_int (fun _ _ => rfl)))) (pa_cons (pe_op op_mulB (pe_ix ix_tup (pv 0) pe_int (fun _ _ => rfl)) (pe_ix ix_tup (pv 1) pe_int (fun _ _ => rfl))) pa_nil))))), ?_⟩
  refine ⟨_, rfl, a, _, _, _, rfl, rfl, SqT.of ha, rfl, _, rfl, b, _, _, _, rfl, rfl, SqT.of hb, rfl, _, _, rfl, rfl, ⟨fx, fv⟩, _, rfl, b, _, _, _, rfl, rfl, SqT.of hb, rfl, _, rfl, a, _, _, _, rfl, rfl, SqT.of ha, rfl, _, _, rfl, rfl, ⟨fz, fy⟩, _, _, rfl, rfl, ?_⟩
  refine ⟨_, rfl, a, _, _, _, rfl, rfl, SqT.of ha, rfl, _, rfl, b, _, _, _, rfl, rfl, SqT.of hb, rfl, _, _, rfl, rfl, ⟨fy, fv⟩, ?_⟩
  exact ⟨x * v + z * y, y * v, by rw [Int.natCast_add, Int.natCast_mul, Int.natCast_mul, Int.natCast_mul]; rfl, Nat.mul_pos hy hv, fm, q⟩
end
structure PEW (X : Cx) (e : Expr) (t : TE) : Prop where
  go : PE X e t
structure PSW (X : Cx) (st : Stmt) (t : TS) : Prop where
  go : PS X st t
structure PSsW (X : Cx) (l : List Stmt) (t : TS) : Prop where
  go : PSs X l t
theorem pbW {X : Cx} {e : Expr} {es : List Expr} {te : TE} {t : TA} (ha : PEW X e te) (hr : PB X es t) (hs : starEach (e :: es) X.env = (false, eval e X.env) :: starEach es X.env) : PB X (e :: es) (tCons te t) := ⟨pa_cons ha.go hr.go hs⟩
theorem peW {X : Cx} {es : List Expr} {t : TA} {k : Nat} {pos : Pos} (h : PB X es t) : PEW X (.Tuple es k pos) (tTup t) := ⟨pe_tup h.go⟩
theorem psW {X : Cx} {i : Nat} {x : Str} {e : Expr} {te : TE} {pos' pos : Pos} (hN : X.N.Nodup) (hi : X.N[i]? = some x) (hx : Loc X.env.scope x) (he : PEW X e te) (hs : swapsWith e (some (.Name x pos')) pos.line X.env = pure false := by rfl) (hf : X.fn x = true ∨ X.env.scope.names.lookup x = some .local := by first | exact .inl rfl | exact .inr rfl | assumption) :
    PSW X (.Assign [.Name x pos'] e pos) (tAsg te (gName i)) := ⟨ps_set hN hi hx he.go hs hf⟩
theorem pssW {X : Cx} {st : Stmt} {t : TS} (h : PSW X st t) : PSsW X [st] t := ⟨pss_one h.go⟩
theorem ps_ifW {X : Cx} {c : Expr} {a b : List Stmt} {tc : TT} {t u : TS} {pos : Pos} (hc : PT X c tc) (ha : PSsW X a t) (hb : PSs X b u) : PS X (.If c a b pos) (tIfS tc t u) := ps_if hc ha.go hb
noncomputable def spMkT (K : PySem.W.Frag) : Sp := fun vs H Q E => ∃ n, n ≤ 6 ∧ spMkPn K n vs H Q E
noncomputable def DueAt (H : Hp) (pl : Pn) (p : Addr) : Prop := (pl.has = true ∧ ∃ (ps pm : Addr) (rs : List Addr) (ms : List Nat), H p = some (.tup [.ref ps, .ref pm]) ∧ H ps = some (.tup (rs.map V.ref)) ∧ Srt pl ms ∧ ShL H rs ms (shF pl) ∧ H pm = some (.tup (frV (tkS (ends pl 0) pl.dp) (shP (·.isSome) (ends pl 0) pl.dp)))) ∨ (pl.has = false ∧ H p = some (.tup [.str "NoShares", .str "NoShares"]))
theorem DueAt.same {H H' : Hp} {pl : Pn} {p : Addr} (h : DueAt H pl p) (s : Same H H') : DueAt H' pl p := by
  rcases h with ⟨hh, ps, pm, rs, ms, h1, h2, h3, h4, h5⟩ | ⟨hh, h1⟩
  · exact .inl ⟨hh, ps, pm, rs, ms, s _ _ h1, s _ _ h2, h3, h4.same s, s _ _ h5⟩
  · exact .inr ⟨hh, s _ _ h1⟩
theorem due_eqv {H : Hp} {pl : Pn} {p p' : Addr} {n : Nat} (h : DueAt H pl p) (h' : DueAt H pl p') : Eqv H (n + 5) (.ref p) (.ref p') := by
  rcases h with ⟨hh, ps, pm, rs, ms, h1, h2, h3, h4, h5⟩ | ⟨hh, h1⟩
  · rcases h' with ⟨_, ps', pm', rs', ms', g1, g2, g3, g4, g5⟩ | ⟨z, _⟩
    · have em : ms = ms' := sorted_uniq h3.1 g3.1 fun n => by rw [h3.2.1, g3.2.1]
      subst em
      refine .inr ⟨p, p', _, _, rfl, rfl, h1, g1, (by show 2 ≤ 1000000; decide), .cons ?_ (.cons ?_ .nil)⟩
      · exact sh_eqv (n := n) h2 g2 h4 g4 (fun m => ⟨_, _, rfl⟩) h3.2.2
      · exact .inr ⟨pm, pm', _, _, rfl, rfl, h5, g5, (by show 2 ≤ 1000000; decide), .cons (.inl ⟨rfl, rfl⟩) (.cons (.inl ⟨rfl, rfl⟩) .nil)⟩
    · rw [hh] at z; cases z
  · rcases h' with ⟨z, _⟩ | ⟨_, g1⟩
    · rw [hh] at z; cases z
    · exact .inr ⟨p, p', _, _, rfl, rfl, h1, g1, (by show 2 ≤ 1000000; decide), .cons (.inl ⟨rfl, rfl⟩) (.cons (.inl ⟨rfl, rfl⟩) .nil)⟩
noncomputable def spTD2 (K : PySem.W.Frag) : Sp := fun vs H Q _ => ∃ (v : V) (pl : Pn), vs = [v] ∧ PnAt K H pl v ∧ pl.dp ≤ 12 ∧ ∀ p H', Same H H' → DueAt H' pl p → Q (.ref p) H'
theorem td_imp {K : PySem.W.Frag} : ∀ vs H Q E, spTD2 K vs H Q E → spTD K vs H Q E := by
  rintro vs H Q E ⟨v, pl, e, hP, hd, q⟩
  exact ⟨v, pl, e, hP, hd, fun hh p ps pm rs ms H' s h1 h2 h3 h4 h5 => q p H' s (.inl ⟨hh, ps, pm, rs, ms, h1, h2, h3, h4, h5⟩), fun hh p H' s h1 => q p H' s (.inr ⟨hh, h1⟩)⟩
theorem sum_ind (m c : Nat) : ∀ {ms : List Nat}, ms.Pairwise (· < ·) → m ∈ ms → (ms.map fun n => if (some m == some n) = true then c else 0).sum = c
  | [], _, h => by cases h
  | x :: ms, hp, h => by
    rw [List.pairwise_cons] at hp
    rw [List.map_cons, List.sum_cons]
    have zero : ∀ l : List Nat, (∀ y ∈ l, y ≠ m) → (l.map fun n => if (some m == some n) = true then c else 0).sum = 0 := fun l => by
      induction l with
      | nil => intro _; rfl
      | cons y l ih =>
        intro hl
        rw [List.map_cons, List.sum_cons, ih (fun z hz => hl z (List.mem_cons_of_mem _ hz)), if_neg (fun z => hl y List.mem_cons_self (Option.some.inj (eq_of_beq z)).symm)]
    rcases List.mem_cons.mp h with e | h
    · subst e
      rw [if_pos (beq_self_eq_true _), zero ms (fun y hy z => by have := hp.1 y hy; omega)]
      rfl
    · have := hp.1 m h
      rw [if_neg (fun z => by have := Option.some.inj (eq_of_beq z); omega), sum_ind m c hp.2 h, Nat.zero_add]
theorem sum_add (f g : Nat → Nat) : ∀ ms : List Nat, (ms.map fun n => f n + g n).sum = (ms.map f).sum + (ms.map g).sum
  | [] => rfl
  | x :: ms => by
    rw [List.map_cons, List.map_cons, List.map_cons, List.sum_cons, List.sum_cons, List.sum_cons, sum_add f g ms]
    omega
theorem sum_all {ms : List Nat} (hp : ms.Pairwise (· < ·)) (D : Nat) : ∀ {es : List (Option Nat × Nat)}, (∀ n d, (some n, d) ∈ es → n ∈ ms) → (ms.map fun n => shP (· == some n) es D).sum = shP (·.isSome) es D
  | [], _ => by
    clear hp
    induction ms with
    | nil => rfl
    | cons x ms ih =>
      rw [List.map_cons, List.sum_cons, ih (fun n d h => by cases h)]
      rfl
  | (o, d) :: es, h => by
    have ih := sum_all hp D (es := es) fun n d hn => h n d (List.mem_cons_of_mem _ hn)
    have e1 : ∀ P : Option Nat → Bool, shP P ((o, d) :: es) D = (if P o = true then 2 ^ (D - d) else 0) + shP P es D := fun P => by
      unfold shP
      rw [List.map_cons, List.sum_cons]
    rw [e1, ← ih, show (fun n : Nat => shP (· == some n) ((o, d) :: es) D) = (fun n : Nat => (if (o == some n) = true then 2 ^ (D - d) else 0) + shP (· == some n) es D) from funext fun n => e1 _, sum_add]
    congr 1
    cases o with
    | none =>
      rw [if_neg (by decide)]
      clear h ih e1 hp
      induction ms with
      | nil => rfl
      | cons x ms ih2 =>
        rw [List.map_cons, List.sum_cons, ih2]
        rfl
    | some m =>
      rw [show (some m).isSome = true from rfl, if_pos rfl]
      exact sum_ind m _ hp (h m d List.mem_cons_self)
theorem sum_take_le (l : List Nat) (j : Nat) : (l.take j).sum ≤ l.sum := by
  have := congrArg List.sum (List.take_append_drop j l)
  rw [List.sum_append] at this
  omega
theorem frV_zero {T : Nat} (h : 0 < T) : frV 0 T = [.int 0, .int 1] := by
  unfold frV frU frL
  rw [Nat.gcd_zero_left, Nat.div_self h, Nat.zero_div]
  rfl
theorem frV_one {T : Nat} (h : 0 < T) : frV T T = ([1, 1] : List Int).map V.int := by
  unfold frV frU frL
  rw [Nat.gcd_self, Nat.div_self h]
  rfl
section
variable {P : Program} {w : World} {K : PySem.W.Frag} {mg : Str → Option Value} {base : Heap} {f CS : Addr} {fd : FuncData}
theorem plan_all (F : Fun K "_law_plan" "_law_plan" s__law_plan f fd) (B : Bl mg) (gd : ∀ k, 2 ≤ k → Fn P w K mg base "_law_draw" p__law_draw k (spDraw K)) (go : ∀ k, 2 ≤ k → Fn P w K mg base "_law_one" p__law_one k (spOne K)) (mo : ∀ {k : Nat} {sp : Sp}, FnOk P w K mg base CX0 k f fd p__law_plan sp → Fn P w K mg base "_law_plan" p__law_plan k sp) : ∀ n : Nat, FnOk P w K mg base CX0 (n + 3) f fd p__law_plan (spMkPn K n)
  | 0 => ok__law_plan (lv := 2) (n := 0) F B (gd 2 (by decide)) (go 2 (by decide)) (mo ((ok__law_same0 (sp := fun _ _ _ _ => False) (fun _ _ _ _ h => h)).mono (show 0 ≤ 2 by decide))) (fun m vs H Q E e => by cases e)
  | n + 1 => ok__law_plan (lv := n + 3) (n := n + 1) F B (gd _ (by omega)) (go _ (by omega)) (mo (plan_all F B gd go mo n)) (fun m vs H Q E e h => by cases e; exact h)
theorem plan_to (h : ∀ n, n ≤ 6 → FnOk P w K mg base CX0 16 f fd p__law_plan (spMkPn K n)) : FnOk P w K mg base CX0 16 f fd p__law_plan (spMkT K) :=
  ⟨fun vs H Q E ⟨n, hn, z⟩ => (h n hn).len vs H Q E z, fun A outer s H args us vs Q E hr e0 b v ⟨n, hn, z⟩ => (h n hn).run A outer s H args us vs Q E hr e0 b v z⟩
theorem ok_law (F_law : Fun K "law" "law" s_law f fd) (B : Bl mg) (g__law_plan : Fn P w K mg base "_law_plan" p__law_plan 16 (spMkT K)) (g__law_due : Fn P w K mg base "_law_due" p__law_due 16 (spTD2 K)) (g__law_told : Fn P w K mg base "_law_told" p__law_told 16 (spTD2 K)) (g__law_same : Fn P w K mg base "_law_same" p__law_same 16 (spSame 8)) (g_deep : Fn P w K mg base "deep" p_deep 16 (spDeep K)) (g__law_ends : Fn P w K mg base "_law_ends" p__law_ends 16 (spLEnds K 12))
    {fS : Addr} {dS : FuncData} (g_shares_of : FnX P w K mg base "shares_of" fS dS p_shares_of 16 (spSh K CS)) (g__law_plus : Fn P w K mg base "_law_plus" p__law_plus 16 spPlus) : FnOk P w K mg base CX0 17 f fd p_law (spLaw K) := by
  refine F_law.ok sc_law (fun vs H Q E h => ?_) (fun cdv A outer s H vs Q E hr h => ?_)
  · obtain ⟨a, ns, rfl, _⟩ := h
    rfl
  obtain ⟨a, ns, rfl, hS, h63, q⟩ := h
  refine ⟨_, (pss_cons (ps_set (i := 1) sc_law.nd rfl (Or.inl rfl) (pe_lst pa_nil))
      (pss_cons (ps_for PassesOwn.never rfl (pi_range1 rfl B.range_ (pa_cons pe_int pa_nil)) (pg_name (i := 2) sc_law.nd rfl (Or.inl rfl)) (pss_cons (ps_set (i := 3) sc_law.nd rfl (Or.inl rfl) (pe_fn g__law_plan hr (pa_cons (pv 0) (pa_cons (pv 1) (pa_cons pe_int pa_nil)))))
      (pss_cons (ps_join (ps_ifW (pt_cmpR op_eq (pv 2) pe_int (nomark _)) (pssW (psW (i := 3) sc_law.nd rfl (Or.inl rfl) (peW (pbW (PEW.mk pe_str) (pbW (peW (pbW (PEW.mk pe_str) pb_nil se_Constant)) (pbW (peW (pbW (PEW.mk pe_str) (pbW (peW (pbW (PEW.mk pe_str) pb_nil se_Constant)) (pbW (peW (pbW (PEW.mk pe_str) pb_nil se_Constant)) pb_nil se_Tuple) se_Tuple) se_Constant)) pb_nil se_Tuple) se_Tuple) se_Constant)))) pss_nil))
      (pss_cons (ps_set (i := 4) sc_law.nd rfl (Or.inl rfl) (pe_fn g__law_due hr (pa_cons (pv 3) pa_nil)))
      (pss_cons (ps_if (pt_not (pt_truth (pe_fn g__law_same hr (pa_cons (pe_fn g__law_told hr (pa_cons (pv 3) pa_nil)) (pa_cons (pv 4) pa_nil))) (fun _ => rfl))) (pss_one (ps_ret pe_bl)) pss_nil)
      (pss_cons (ps_if (pt_not (pt_truth (pe_fn g__law_same hr (pa_cons (pe_fn g_deep hr (pa_cons (pv 3) pa_nil)) (pa_cons (pe_callB (call_maxL rfl) rfl B.max_ L3.bt_max (pa_cons (pe_comp [6] ["_law_script", "_law_town", "_law_k", "_law_made", "_law_due_here", "_law_total", "_law_number", "_law_share", "_law_other", "_law_both", "_law_size", "_law_high"] 2 rfl (pi_list (pe_fn g__law_ends hr (pa_cons (pv 3) (pa_cons pe_int (pa_cons pe_int pa_nil))))) (fun _ _ _ _ _ => (pg_tupK K 3 rfl (pgs_cons (pg_name (i := 6) nd_12 rfl (Or.inl rfl) (Or.inr rfl)) (pgs_cons (pg_name (i := 10) nd_12 rfl (Or.inl rfl) (Or.inr rfl)) (pgs_cons (pg_name (i := 11) nd_12 rfl (Or.inl rfl) (Or.inr rfl)) pgs_nil))) rfl rfl rfl)) (fun _ _ _ _ _ => pif_nil) (fun _ _ _ _ _ => (pv 11))) pa_nil)) pa_nil))) (fun _ => rfl))) (pss_one (ps_ret pe_bl)) pss_nil)
      (pss_cons (ps_join (ps_if (pt_cmpR (op_neTS hr.units0) (pe_ix ix_tup (pv 4) pe_int (fun _ _ => rfl)) pe_str (nomark _)) (pss_cons (ps_set (i := 5) sc_law.nd rfl (Or.inl rfl) (pe_tup (pa_cons pe_int (pa_cons pe_int pa_nil))))
      (pss_cons (ps_for PassesOwn.never rfl (pi_tup (pe_calm (px_fn g_shares_of hr (pa_cons (pv 3) pa_nil)))) (pg_tup rfl (pgs_cons (pg_name (i := 6) sc_law.nd rfl (Or.inl rfl)) (pgs_cons (pg_name (i := 7) sc_law.nd rfl (Or.inl rfl)) pgs_nil))) (pss_one (ps_set (i := 5) sc_law.nd rfl (Or.inl rfl) (pe_fn g__law_plus hr (pa_cons (pv 5) (pa_cons (pv 7) pa_nil))))))
      (pss_one (ps_if (pt_cmpR (op_neTI hr.units0) (pv 5) (pe_tup (pa_cons pe_int (pa_cons pe_int pa_nil))) (nomark _)) (pss_one (ps_ret pe_bl)) pss_nil)))) pss_nil))
      (pss_cons (ps_set (i := 8) sc_law.nd rfl (Or.inl rfl) (pe_fn g__law_plan hr (pa_cons (pv 0) (pa_cons (pv 1) (pa_cons pe_int pa_nil)))))
      (pss_cons (ps_set (i := 9) sc_law.nd rfl (Or.inl rfl) (pe_tup (pa_cons pe_str (pa_cons (pv 3) (pa_cons (pv 8) pa_nil)))))
      (pss_one (ps_if (pt_not (pt_truth (pe_fn g__law_same hr (pa_cons (pe_fn g__law_told hr (pa_cons (pv 9) pa_nil)) (pa_cons (pe_fn g__law_due hr (pa_cons (pv 9) pa_nil)) pa_nil))) (fun _ => rfl))) (pss_one (ps_ret pe_bl)) pss_nil)))))))))))
      (pss_one (ps_ret pe_bl)))), ?_⟩
  refine ⟨(by show 0 ≤ sizeLine; decide), fun t ft => ?_⟩
  have sT := same_new ft (.lst ([] : List V))
  have hT : Twn (upd H t (.lst [])) t 0 := upd_same
  replace hS := sT.scr hS
  generalize upd H t (.lst []) = H0 at hS hT
  refine ⟨8, rfl, by decide, by decide, for_range (lo := 0) (n := 8) (fun i σ' H' => ∃ (k : Nat) (o2 o3 o4 o5 o6 o7 o8 o9 : Option V), σ' = [some (.ref a), some (.ref t), o2, o3, o4, o5, o6, o7, o8, o9] ∧ Scr K H' a ns ∧ Twn H' t k ∧ k ≤ 1000 * i)
    ⟨0, _, _, _, _, _, _, _, _, rfl, hS, hT, by omega⟩ ?_ ?_⟩
  rotate_left
  · rintro σ H1 ⟨k, o2, o3, o4, o5, o6, o7, o8, o9, rfl, hS1, hT1, hk1⟩
    exact q H1
  rintro i σ H1 hi ⟨k, o2, o3, o4, o5, o6, o7, o8, o9, rfl, hS1, hT1, hk1⟩
  refine ⟨_, rfl, _, rfl, 6, Nat.le_refl _, a, t, ns, k, rfl, hS1, h63, hT1, by decide, (by show k + 256 ≤ 700000; omega), fun v0 pl0 k2 H2 g2 t2 hk2 hP0 hd0 => ?_⟩
  have hk2' : k2 + 1 ≤ k + 256 := hk2
  have hS2 := g2.scr hT1 hS1
  clear hS1 hT1 g2 hk2
  refine ⟨fun σ' H' => ∃ (v : V) (pl : Pn), σ' = [some (.ref a), some (.ref t), some (.int (0 + (i : Int))), some v, o4, o5, o6, o7, o8, o9] ∧ Same H2 H' ∧ PnAt K H' pl v ∧ pl.dp ≤ 6, ?_, ?_⟩
  rotate_left
  · refine ⟨_, rfl, rfl, _, rfl, ite2 (fun _ => ?_) (fun _ => ⟨v0, pl0, rfl, Same.refl _, hP0, hd0⟩)⟩
    refine ⟨(by show 1 ≤ sizeLine; decide), fun p1 f1 => ?_⟩
    have y1 := same_new f1 (.tup [V.str "again"])
    have w1 : (upd H2 p1 (.tup [V.str "again"])) p1 = some (.tup [V.str "again"]) := upd_same
    generalize upd H2 p1 (.tup [V.str "again"]) = h1 at y1 w1 ⊢
    refine ⟨(by show 1 ≤ sizeLine; decide), fun p2 f2 => ?_⟩
    have y2 := same_new f2 (.tup [V.str "again"])
    have w2 : (upd h1 p2 (.tup [V.str "again"])) p2 = some (.tup [V.str "again"]) := upd_same
    generalize upd h1 p2 (.tup [V.str "again"]) = h2 at y2 w2 ⊢
    refine ⟨(by show 1 ≤ sizeLine; decide), fun p3 f3 => ?_⟩
    have y3 := same_new f3 (.tup [V.str "again"])
    have w3 : (upd h2 p3 (.tup [V.str "again"])) p3 = some (.tup [V.str "again"]) := upd_same
    generalize upd h2 p3 (.tup [V.str "again"]) = h3 at y3 w3 ⊢
    refine ⟨(by show 3 ≤ sizeLine; decide), fun p4 f4 => ?_⟩
    have y4 := same_new f4 (.tup [V.str "ask", V.ref p2, V.ref p3])
    have w4 : (upd h3 p4 (.tup [V.str "ask", V.ref p2, V.ref p3])) p4 = some (.tup [V.str "ask", V.ref p2, V.ref p3]) := upd_same
    generalize upd h3 p4 (.tup [V.str "ask", V.ref p2, V.ref p3]) = h4 at y4 w4 ⊢
    refine ⟨(by show 3 ≤ sizeLine; decide), fun p5 f5 => ?_⟩
    have y5 := same_new f5 (.tup [V.str "ask", V.ref p1, V.ref p4])
    have w5 : (upd h4 p5 (.tup [V.str "ask", V.ref p1, V.ref p4])) p5 = some (.tup [V.str "ask", V.ref p1, V.ref p4]) := upd_same
    generalize upd h4 p5 (.tup [V.str "ask", V.ref p1, V.ref p4]) = h5 at y5 w5 ⊢
    exact ⟨.ref p5, .ask .again (.ask .again .again), rfl, (((y1.trans y2).trans y3).trans y4).trans y5, ⟨p5, _, _, rfl, w5, ⟨p1, rfl, .inl (y5 _ _ (y4 _ _ (y3 _ _ (y2 _ _ w1))))⟩, ⟨p4, _, _, rfl, y5 _ _ w4, ⟨p2, rfl, .inl (y5 _ _ (y4 _ _ (y3 _ _ w2)))⟩, ⟨p3, rfl, .inl (y5 _ _ (y4 _ _ w3))⟩⟩⟩, by decide⟩
  rintro σ' H3 ⟨v, pl, rfl, s3, hP3, hd6⟩
  have hS3 := s3.scr hS2
  have t3 := s3.twn t2
  have hd : pl.dp ≤ 12 := by omega
  clear hS2 t2 s3 hP0
  -- due and told
  refine ⟨_, rfl, v, pl, rfl, hP3, hd, fun pd H4 s4 d4 => ?_⟩
  refine ⟨_, rfl, v, pl, rfl, hP3.same s4, hd, fun pt H5 s5 d5 => ⟨_, rfl, _, _, rfl, due_eqv (n := 3) d5 (d4.same s5), fun H6 s6 => ⟨_, rfl, iteF ?_⟩⟩⟩
  have s36 := (s4.trans s5).trans s6
  have hP6 := hP3.same s36
  have hS6 := s36.scr hS3
  have t6 := s36.twn t3
  have d6 := (d4.same s5).same s6
  clear hP3 hS3 t3 d4 d5 s4 s5 s6 s36
  -- deep
  refine ⟨_, rfl, v, pl, rfl, hP6, hd, fun H7 s7 => ?_⟩
  refine ⟨_, rfl, v, pl, 0, rfl, hP6.same s7, hd, by decide, fun l as H8 nl s8 w8 e8 => ?_⟩
  have b1 := ends_4096 hd 0
  have hl8 := e8.1
  refine ⟨l, rfl, ⟨_, SqL.of w8⟩, comp_list (xs := as.map V.ref) (fun j acc σ' H' => ∃ (o6 o10 o11 : Option V), acc = (gl (fun _ => true) (fun e => e.2) ((ends pl 0).take j)).map V.int ∧ H' = H8 ∧ σ' = [some (.ref a), some (.ref t), some (.int (0 + (i : Int))), some v, some (.ref pd), o5, o6, o7, o8, o9, o10, o11]) ⟨_, _, _, rfl, rfl, rfl⟩
    (fun j acc σ' H' hj ⟨_, _, _, e', _⟩ => by
      have := gl_take (fun _ => true) (fun e => e.2) (ends pl 0) j
      rw [e']
      omega) (fun j acc σ' H' _ ⟨_, _, _, _, y, _⟩ => SqL.of (by rw [y]; exact w8)) ?_ ?_⟩
  · rintro j x acc σ' H' hx ⟨q6, q10, q11, rfl, rfl, rfl⟩
    obtain ⟨a', en, rfl, hen, ha⟩ := e8.at hx
    refine ⟨a', _, rfl, SqT.of ha, rfl, _, _, rfl, _, _, rfl, _, _, rfl, rfl, _, rfl, _, _, _, ?_, rfl, rfl⟩
    rw [gl_t hen rfl]
  rintro acc σ' H9 D9 ⟨q6, q10, q11, rfl, e9, rfl⟩ fD9
  obtain rfl : H9 = H8 := e9
  rw [List.length_map, hl8, List.take_length]
  have y9 := same_new fD9 (.lst ((gl (fun _ => true) (fun e => e.2) (ends pl 0)).map V.int))
  have w9 : (upd H9 D9 (.lst ((gl (fun _ => true) (fun e => e.2) (ends pl 0)).map V.int))) D9 = some (.lst ((gl (fun _ => true) (fun e => e.2) (ends pl 0)).map V.int)) := upd_same
  generalize upd H9 D9 (.lst ((gl (fun _ => true) (fun e => e.2) (ends pl 0)).map V.int)) = H10 at y9 w9 ⊢
  have egl : gl (fun _ => true) (fun e => e.2) (ends pl 0) = ((ends pl 0).map fun e => e.2).map fun (n : Nat) => (n : Int) := by
    unfold gl
    rw [List.filter_eq_self.mpr (fun _ _ => rfl)]
  obtain ⟨et, het, hdt⟩ := dp_at pl 0
  refine ⟨D9, _, rfl, SqL.of w9, ?_, fun M hM hle => ?_⟩
  · rw [egl, List.length_map, List.length_map]
    exact List.length_pos_of_mem het
  have eM : M = (pl.dp : Int) := by
    rw [egl] at hM hle
    have h1 := hle _ (List.mem_map.mpr ⟨_, List.mem_map.mpr ⟨et, het, rfl⟩, rfl⟩)
    obtain ⟨m, hm, rfl⟩ := List.mem_map.mp hM
    obtain ⟨e', he', rfl⟩ := List.mem_map.mp hm
    have h2 := (ends_deep pl 0 e' he').2
    omega
  subst eM
  refine ⟨_, _, rfl, .inl ⟨rfl, rfl⟩, fun H11 s11 => ⟨_, rfl, iteF ?_⟩⟩
  have s611 := ((s7.trans s8).trans y9).trans s11
  have hP11 := hP6.same s611
  have hS11 := s611.scr hS6
  have t11 := s611.twn t6
  have d11 := d6.same s611
  clear hP6 hS6 t6 d6 s7 s8 y9 w9 s11 s611 egl hM hle w8 e8 nl fD9 het hdt
  -- shares together
  refine ⟨fun σ' H' => ∃ (o5 o6 o7 : Option V), σ' = [some (.ref a), some (.ref t), some (.int (0 + (i : Int))), some v, some (.ref pd), o5, o6, o7, o8, o9] ∧ Same H11 H', ?_, ?_⟩
  rotate_left
  · rcases d11 with ⟨hh, ps, pm, rs0, ms0, h1, h2, h3, h4, h5⟩ | ⟨hh, h1⟩
    · refine ⟨_, rfl, pd, _, _, _, rfl, rfl, SqT.of h1, rfl, _, rfl, .inr ⟨ps, _, rfl, SqT.of h2, _, rfl, iteT ?_⟩⟩
      clear h3 h4 h5 h1 h2 rs0 ms0
      refine ⟨(by show 2 ≤ sizeLine; decide), fun tp0 ftp => ?_⟩
      have s12 := same_new ftp (.tup [V.int 0, V.int 1])
      have w12 : (upd H11 tp0 (.tup [V.int 0, V.int 1])) tp0 = some (.tup [V.int 0, V.int 1]) := upd_same
      generalize upd H11 tp0 (.tup [V.int 0, V.int 1]) = H12 at s12 w12 ⊢
      refine ⟨_, rfl, v, pl, rfl, hP11.same s12, hd, fun _ pp rs ms H13 s13 w13 hms hmem hrl hml hsh => ?_, fun hn => by rw [hh] at hn; cases hn⟩
      have hpos := has_pos hh
      have hfit := shP_fit (P := fun o => o.isSome) hd
      have hall : (ms.map fun n => shP (· == some n) (ends pl 0) pl.dp).sum = shP (·.isSome) (ends pl 0) pl.dp := sum_all hms pl.dp fun n d h => (hmem n).mpr ⟨d, h⟩
      have hfn : ∀ n, shP (· == some n) (ends pl 0) pl.dp ≤ 16777216 := fun n => shP_fit hd
      generalize shP (fun o => o.isSome) (ends pl 0) pl.dp = T at hpos hfit hall hsh
      generalize hf : (fun n : Nat => shP (· == some n) (ends pl 0) pl.dp) = F at hall
      have hF : ∀ n, shP (· == some n) (ends pl 0) pl.dp = F n := fun n => by rw [← hf]
      refine ⟨pp, rfl, ⟨_, SqT.of w13⟩, for_tup (xs := rs.map V.ref) (fun j σ' H' => ∃ (tp : Addr) (o6 o7 : Option V), σ' = [some (.ref a), some (.ref t), some (.int (0 + (i : Int))), some v, some (.ref pd), some (.ref tp), o6, o7, o8, o9] ∧ Same H13 H' ∧ H' tp = some (.tup (frV ((ms.map F).take j).sum T)))
        ⟨tp0, _, _, rfl, Same.refl _, by rw [s13 _ _ w12]; show _ = some (HO.tup (frV 0 T)); rw [frV_zero hpos]⟩ (fun j σ' H' _ ⟨_, _, _, _, y, _⟩ => SqT.of (y _ _ w13)) ?_ ?_⟩
      · rintro j x σ' H14 hx ⟨tp, o6', o7', rfl, y14, w14⟩
        obtain ⟨r, hjr⟩ : ∃ r, rs[j]? = some r := by
          rw [List.getElem?_map] at hx
          cases e : rs[j]? with
          | none => rw [e] at hx; cases hx
          | some r => exact ⟨r, rfl⟩
        rw [List.getElem?_map, hjr] at hx
        cases hx
        have hj : j < ms.length := by rw [← hrl]; exact (List.getElem?_eq_some_iff.mp hjr).1
        obtain ⟨n, hn⟩ : ∃ n, ms[j]? = some n := ⟨_, List.getElem?_eq_getElem hj⟩
        obtain ⟨fp, z1, z2⟩ := hsh j r n hjr hn
        rw [hF n] at z2
        have hFn := hfn n
        rw [hF n] at hFn
        have hnext : ((ms.map F).take (j + 1)).sum = ((ms.map F).take j).sum + F n := by
          rw [List.take_add_one, List.getElem?_map, hn, List.sum_append]
          show _ + (F n + 0) = _
          rw [Nat.add_zero]
        have hcum : ((ms.map F).take j).sum ≤ T := by rw [← hall]; exact sum_take_le _ _
        generalize ((ms.map F).take j).sum = c at w14 hnext hcum
        rw [hnext]
        have l1 := frL_le c T
        have l2 := frL_le (F n) T
        have u1 := frU_le c T
        have u2 := frU_le (F n) T
        have hm : frL c T * frL (F n) T ≤ 16777216 * 16777216 := Nat.mul_le_mul (by omega) (by omega)
        refine ⟨r, _, rfl, SqT.of (y14 _ _ z1), rfl, _, _, rfl, _, _, rfl, rfl, ?_⟩
        refine ⟨_, rfl, _, rfl, tp, fp, frU c T, frL c T, frU (F n) T, frL (F n) T, rfl, w14, y14 _ _ z2, frL_pos hpos, frL_pos hpos, Fit.of (by omega), Fit.of (by omega), Fit.of (by omega), Fit.of (by omega), Fit.of (by omega), fun p H15 s15 w15 => ?_⟩
        rw [fr_add hpos] at w15
        exact ⟨p, _, _, rfl, y14.trans s15, w15⟩
      rintro σ' H14 ⟨tp, o6', o7', rfl, y14, w14⟩
      rw [List.length_map, hrl, ← List.length_map (f := F), List.take_length, hall, frV_one hpos] at w14
      refine ⟨_, rfl, ?_⟩
      refine ⟨(by show 2 ≤ sizeLine; decide), fun p1 fp1 => ?_⟩
      have s15 := same_new fp1 (.tup [V.int 1, V.int 1])
      have w15 : (upd H14 p1 (.tup [V.int 1, V.int 1])) p1 = some (.tup [V.int 1, V.int 1]) := upd_same
      generalize upd H14 p1 (.tup [V.int 1, V.int 1]) = H15 at s15 w15 ⊢
      refine ⟨tp, p1, [1, 1], [1, 1], rfl, rfl, SqT.of (s15 _ _ w14), SqT.of w15, _, rfl, ite2 (fun c => absurd c (by decide)) (fun _ => ?_)⟩
      exact ⟨_, _, _, rfl, ((s12.trans s13).trans y14).trans s15⟩
    · refine ⟨_, rfl, pd, _, _, _, rfl, rfl, SqT.of h1, rfl, _, rfl, .inl ⟨_, rfl, _, rfl, ite2 (fun c => absurd c (by decide +kernel)) (fun _ => ?_)⟩⟩
      exact ⟨_, _, _, rfl, Same.refl _⟩
  rintro σ' H12 ⟨o5', o6', o7', rfl, s12⟩
  have hP12 := hP11.same s12
  have hS12 := s12.scr hS11
  have t12 := s12.twn t11
  clear hP11 hS11 t11 d11 s12
  -- the other
  refine ⟨_, rfl, _, rfl, 3, by decide, a, t, ns, k2, rfl, hS12, h63, t12, by decide, (by show k2 + 32 ≤ 700000; omega), fun vo plo k3 H13 g13 t13 hk3 hPo hdo => ?_⟩
  have hk3' : k3 + 1 ≤ k2 + 32 := hk3
  have hS13 := g13.scr t12 hS12
  have hP13 := hP12.town t12 g13
  clear hP12 hS12 t12 g13 hk3
  refine ⟨_, rfl, _, rfl, ?_⟩
  refine ⟨(by show 3 ≤ sizeLine; decide), fun pb fpb => ?_⟩
  have s14 := same_new fpb (.tup [V.str "ask", v, vo])
  have w14 : (upd H13 pb (.tup [V.str "ask", v, vo])) pb = some (.tup [V.str "ask", v, vo]) := upd_same
  generalize upd H13 pb (.tup [V.str "ask", v, vo]) = H14 at s14 w14 ⊢
  have hPb : PnAt K H14 (.ask pl plo) (.ref pb) := ⟨pb, v, vo, rfl, w14, hP13.same s14, hPo.same s14⟩
  have hdb : (Pn.ask pl plo).dp ≤ 12 := by show max pl.dp plo.dp + 1 ≤ 12; omega
  refine ⟨_, rfl, _, _, rfl, hPb, hdb, fun pt H15 s15 d15 => ?_⟩
  refine ⟨_, rfl, _, _, rfl, hPb.same s15, hdb, fun pu H16 s16 d16 => ⟨_, _, rfl, due_eqv (n := 3) (d15.same s16) d16, fun H17 s17 => ⟨_, rfl, iteF ?_⟩⟩⟩
  have sz := ((s14.trans s15).trans s16).trans s17
  exact ⟨k3, _, _, _, _, _, _, _, _, rfl, sz.scr hS13, sz.twn t13, by omega⟩
end
theorem lenS {us : List Value} {n : Nat} (h : us.length = n + 1) : ∃ a t, us = a :: t ∧ t.length = n := by
  cases us with
  | nil => cases h
  | cons a t => exact ⟨a, t, rfl, Nat.succ.inj h⟩
theorem lenU0 {us : List Value} (h : us.length = 0) : us = [] := List.eq_nil_of_length_eq_zero h
theorem lenU1 {us : List Value} (h : us.length = 1) : ∃ a0, us = [a0] := by
  obtain ⟨a0, t, rfl, h2⟩ := lenS h
  obtain ⟨rfl⟩ := lenU0 h2
  exact ⟨a0, rfl⟩
theorem lenU2 {us : List Value} (h : us.length = 2) : ∃ a0 a1, us = [a0, a1] := by
  obtain ⟨a0, t, rfl, h2⟩ := lenS h
  obtain ⟨a1, rfl⟩ := lenU1 h2
  exact ⟨a0, a1, rfl⟩
theorem lenU3 {us : List Value} (h : us.length = 3) : ∃ a0 a1 a2, us = [a0, a1, a2] := by
  obtain ⟨a0, t, rfl, h2⟩ := lenS h
  obtain ⟨a1, a2, rfl⟩ := lenU2 h2
  exact ⟨a0, a1, a2, rfl⟩
theorem all_mk {l : PySem.W.OpenLaw} {w : World} {K : PySem.W.Frag} {h : Heap} {mg : Str → Option Value} {fa f1 f2 f3 f4 f5 f6 f7 f8 f9 f10 f11 f12 f13 f14 f15 f16 f17 f18 gt1 e_NoShares : Addr} (X : K.In h) (G : h.Ns mainGlobals mg) (hfa : mg "law" = some (.ref fa))
    {od1 an1 od2 an2 od3 an3 od4 an4 od5 an5 od6 an6 od7 an7 od8 an8 od9 an9 od10 an10 od11 an11 od12 an12 od13 an13 od14 an14 od15 an15 od16 an16 od17 an17 od18 an18 gd1 xo_NoShares : Option Addr} {sl1 sl2 sl3 sl4 sl5 sl6 sl7 sl8 sl9 sl10 sl11 sl12 sl13 sl14 sl15 sl16 sl17 sl18 gs1 xs_NoShares : Array (Option Value)} {oc1 kV1 dc1 pm1 cd1 ct1 oc2 kV2 dc2 pm2 cd2 ct2 oc3 kV3 dc3 pm3 cd3 ct3 oc4 kV4 dc4 pm4 cd4 ct4 oc5 kV5 dc5 pm5 cd5 ct5 oc6 kV6 dc6 pm6 cd6 ct6 oc7 kV7 dc7 pm7 cd7 ct7 oc8 kV8 dc8 pm8 cd8 ct8 oc9 kV9 dc9 pm9 cd9 ct9 oc10 kV10 dc10 pm10 cd10 ct10 oc11 kV11 dc11 pm11 cd11 ct11 oc12 kV12 dc12 pm12 cd12 ct12 oc13 kV13 dc13 pm13 cd13 ct13 oc14 kV14 dc14 pm14 cd14 ct14 oc15 kV15 dc15 pm15 cd15 ct15 oc16 kV16 dc16 pm16 cd16 ct16 oc17 kV17 dc17 pm17 cd17 ct17 oc18 kV18 dc18 pm18 cd18 ct18 xc_NoShares : Value} {ed_NoShares : ClassData} {tk1_0 : Tok} {gn1 : Nat}
    (a1 : PySem.W.nsIn K mainGlobals "common_divisor" = some (some (.ref f1))) (l1 : K.lookup f1 = some ⟨oc1, od1, .func (PySem.W.fnOf "common_divisor" "common_divisor" (defArgs s_common_divisor) (defBody s_common_divisor) (defScope s_common_divisor) .none kV1 dc1 pm1 an1 cd1 ct1), sl1⟩) (c1 : PySem.W.codeIn K cd1 "common_divisor" = true) (k1 : PySem.W.keepIn K (.ref f1) = true)
    (a2 : PySem.W.nsIn K mainGlobals "fraction" = some (some (.ref f2))) (l2 : K.lookup f2 = some ⟨oc2, od2, .func (PySem.W.fnOf "fraction" "fraction" (defArgs s_fraction) (defBody s_fraction) (defScope s_fraction) .none kV2 dc2 pm2 an2 cd2 ct2), sl2⟩) (c2 : PySem.W.codeIn K cd2 "fraction" = true) (k2 : PySem.W.keepIn K (.ref f2) = true)
    (a3 : PySem.W.nsIn K mainGlobals "ends_of" = some (some (.ref f3))) (l3 : K.lookup f3 = some ⟨oc3, od3, .func (PySem.W.fnOf "ends_of" "ends_of" (defArgs s_ends_of) (defBody s_ends_of) (defScope s_ends_of) .none kV3 dc3 pm3 an3 cd3 ct3), sl3⟩) (c3 : PySem.W.codeIn K cd3 "ends_of" = true) (k3 : PySem.W.keepIn K (.ref f3) = true)
    (a4 : PySem.W.nsIn K mainGlobals "deep" = some (some (.ref f4))) (l4 : K.lookup f4 = some ⟨oc4, od4, .func (PySem.W.fnOf "deep" "deep" (defArgs s_deep) (defBody s_deep) (defScope s_deep) .none kV4 dc4 pm4 an4 cd4 ct4), sl4⟩) (c4 : PySem.W.codeIn K cd4 "deep" = true) (k4 : PySem.W.keepIn K (.ref f4) = true)
    (a5 : PySem.W.nsIn K mainGlobals "numbered_ends" = some (some (.ref f5))) (l5 : K.lookup f5 = some ⟨oc5, od5, .func (PySem.W.fnOf "numbered_ends" "numbered_ends" (defArgs s_numbered_ends) (defBody s_numbered_ends) (defScope s_numbered_ends) .none kV5 dc5 pm5 an5 cd5 ct5), sl5⟩) (c5 : PySem.W.codeIn K cd5 "numbered_ends" = true) (k5 : PySem.W.keepIn K (.ref f5) = true)
    (a6 : PySem.W.nsIn K mainGlobals "rows_to" = some (some (.ref f6))) (l6 : K.lookup f6 = some ⟨oc6, od6, .func (PySem.W.fnOf "rows_to" "rows_to" (defArgs s_rows_to) (defBody s_rows_to) (defScope s_rows_to) .none kV6 dc6 pm6 an6 cd6 ct6), sl6⟩) (c6 : PySem.W.codeIn K cd6 "rows_to" = true) (k6 : PySem.W.keepIn K (.ref f6) = true)
    (a7 : PySem.W.nsIn K mainGlobals "shares_of" = some (some (.ref f7))) (l7 : K.lookup f7 = some ⟨oc7, od7, .func (PySem.W.fnOf "shares_of" "shares_of" (defArgs s_shares_of) (defBody s_shares_of) (defScope s_shares_of) .none kV7 dc7 pm7 an7 cd7 ct7), sl7⟩) (c7 : PySem.W.codeIn K cd7 "shares_of" = true) (k7 : PySem.W.keepIn K (.ref f7) = true)
    (a8 : PySem.W.nsIn K mainGlobals "mean_of" = some (some (.ref f8))) (l8 : K.lookup f8 = some ⟨oc8, od8, .func (PySem.W.fnOf "mean_of" "mean_of" (defArgs s_mean_of) (defBody s_mean_of) (defScope s_mean_of) .none kV8 dc8 pm8 an8 cd8 ct8), sl8⟩) (c8 : PySem.W.codeIn K cd8 "mean_of" = true) (k8 : PySem.W.keepIn K (.ref f8) = true)
    (a9 : PySem.W.nsIn K mainGlobals "_law_same" = some (some (.ref f9))) (l9 : K.lookup f9 = some ⟨oc9, od9, .func (PySem.W.fnOf "_law_same" "_law_same" (defArgs s__law_same) (defBody s__law_same) (defScope s__law_same) .none kV9 dc9 pm9 an9 cd9 ct9), sl9⟩) (c9 : PySem.W.codeIn K cd9 "_law_same" = true) (k9 : PySem.W.keepIn K (.ref f9) = true)
    (a10 : PySem.W.nsIn K mainGlobals "_law_draw" = some (some (.ref f10))) (l10 : K.lookup f10 = some ⟨oc10, od10, .func (PySem.W.fnOf "_law_draw" "_law_draw" (defArgs s__law_draw) (defBody s__law_draw) (defScope s__law_draw) .none kV10 dc10 pm10 an10 cd10 ct10), sl10⟩) (c10 : PySem.W.codeIn K cd10 "_law_draw" = true) (k10 : PySem.W.keepIn K (.ref f10) = true)
    (a11 : PySem.W.nsIn K mainGlobals "_law_one" = some (some (.ref f11))) (l11 : K.lookup f11 = some ⟨oc11, od11, .func (PySem.W.fnOf "_law_one" "_law_one" (defArgs s__law_one) (defBody s__law_one) (defScope s__law_one) .none kV11 dc11 pm11 an11 cd11 ct11), sl11⟩) (c11 : PySem.W.codeIn K cd11 "_law_one" = true) (k11 : PySem.W.keepIn K (.ref f11) = true)
    (a12 : PySem.W.nsIn K mainGlobals "_law_frac" = some (some (.ref f12))) (l12 : K.lookup f12 = some ⟨oc12, od12, .func (PySem.W.fnOf "_law_frac" "_law_frac" (defArgs s__law_frac) (defBody s__law_frac) (defScope s__law_frac) .none kV12 dc12 pm12 an12 cd12 ct12), sl12⟩) (c12 : PySem.W.codeIn K cd12 "_law_frac" = true) (k12 : PySem.W.keepIn K (.ref f12) = true)
    (a13 : PySem.W.nsIn K mainGlobals "_law_plus" = some (some (.ref f13))) (l13 : K.lookup f13 = some ⟨oc13, od13, .func (PySem.W.fnOf "_law_plus" "_law_plus" (defArgs s__law_plus) (defBody s__law_plus) (defScope s__law_plus) .none kV13 dc13 pm13 an13 cd13 ct13), sl13⟩) (c13 : PySem.W.codeIn K cd13 "_law_plus" = true) (k13 : PySem.W.keepIn K (.ref f13) = true)
    (a14 : PySem.W.nsIn K mainGlobals "_law_plan" = some (some (.ref f14))) (l14 : K.lookup f14 = some ⟨oc14, od14, .func (PySem.W.fnOf "_law_plan" "_law_plan" (defArgs s__law_plan) (defBody s__law_plan) (defScope s__law_plan) .none kV14 dc14 pm14 an14 cd14 ct14), sl14⟩) (c14 : PySem.W.codeIn K cd14 "_law_plan" = true) (k14 : PySem.W.keepIn K (.ref f14) = true)
    (a15 : PySem.W.nsIn K mainGlobals "_law_ends" = some (some (.ref f15))) (l15 : K.lookup f15 = some ⟨oc15, od15, .func (PySem.W.fnOf "_law_ends" "_law_ends" (defArgs s__law_ends) (defBody s__law_ends) (defScope s__law_ends) .none kV15 dc15 pm15 an15 cd15 ct15), sl15⟩) (c15 : PySem.W.codeIn K cd15 "_law_ends" = true) (k15 : PySem.W.keepIn K (.ref f15) = true)
    (a16 : PySem.W.nsIn K mainGlobals "_law_told" = some (some (.ref f16))) (l16 : K.lookup f16 = some ⟨oc16, od16, .func (PySem.W.fnOf "_law_told" "_law_told" (defArgs s__law_told) (defBody s__law_told) (defScope s__law_told) .none kV16 dc16 pm16 an16 cd16 ct16), sl16⟩) (c16 : PySem.W.codeIn K cd16 "_law_told" = true) (k16 : PySem.W.keepIn K (.ref f16) = true)
    (a17 : PySem.W.nsIn K mainGlobals "_law_due" = some (some (.ref f17))) (l17 : K.lookup f17 = some ⟨oc17, od17, .func (PySem.W.fnOf "_law_due" "_law_due" (defArgs s__law_due) (defBody s__law_due) (defScope s__law_due) .none kV17 dc17 pm17 an17 cd17 ct17), sl17⟩) (c17 : PySem.W.codeIn K cd17 "_law_due" = true) (k17 : PySem.W.keepIn K (.ref f17) = true)
    (a18 : PySem.W.nsIn K mainGlobals "law" = some (some (.ref f18))) (l18 : K.lookup f18 = some ⟨oc18, od18, .func (PySem.W.fnOf "law" "law" (defArgs s_law) (defBody s_law) (defScope s_law) .none kV18 dc18 pm18 an18 cd18 ct18), sl18⟩) (c18 : PySem.W.codeIn K cd18 "law" = true) (k18 : PySem.W.keepIn K (.ref f18) = true)
    (z1 : PySem.W.nsIn K mainGlobals "abs" = some none)
    (z2 : PySem.W.nsIn K mainGlobals "all" = some none)
    (z3 : PySem.W.nsIn K mainGlobals "bool" = some none)
    (z4 : PySem.W.nsIn K mainGlobals "dict" = some none)
    (z5 : PySem.W.nsIn K mainGlobals "int" = some none)
    (z6 : PySem.W.nsIn K mainGlobals "isinstance" = some none)
    (z7 : PySem.W.nsIn K mainGlobals "len" = some none)
    (z8 : PySem.W.nsIn K mainGlobals "max" = some none)
    (z9 : PySem.W.nsIn K mainGlobals "range" = some none)
    (z10 : PySem.W.nsIn K mainGlobals "sorted" = some none)
    (z11 : PySem.W.nsIn K mainGlobals "str" = some none)
    (z12 : PySem.W.nsIn K mainGlobals "sum" = some none)
    (z13 : PySem.W.nsIn K mainGlobals "tuple" = some none)
    (z14 : PySem.W.nsIn K mainGlobals "zip" = some none)
    (v1 : PySem.W.nsIn K mainGlobals "AGAIN" = some (some (.ref gt1))) (u1 : K.lookup gt1 = some ⟨.type "tuple", gd1, .seq #[.str "again" tk1_0] gn1, gs1⟩)
    (xa_NoShares : PySem.W.nsIn K mainGlobals "NoShares" = some (some (.ref e_NoShares))) (xl_NoShares : K.lookup e_NoShares = some ⟨xc_NoShares, xo_NoShares, .cls ed_NoShares, xs_NoShares⟩) (xi_NoShares : PySem.W.excIn K e_NoShares [.type "ValueError", .type "Exception", .type "BaseException", .type "object"] "ValueError.__new__" = true)
    (xm_NoShares_NoShares : ed_NoShares.mro.contains (.ref e_NoShares) = true) :
    ∃ fd : FuncData, (∀ (s : Shared) (v : Value), BindsTo s fd ⟨[v], []⟩ [("_law_script", v)]) ∧ ∀ base : Heap, K.In base → base.Ns mainGlobals mg → FnOk l.prog w K mg base CX0 17 fa fd ["_law_script"] (spLaw K) := by
  have e := hfa.symm.trans (PySem.W.mg_of X G a18)
  cases e
  have B : Bl mg := ⟨PySem.W.mg_none_of X G z1, PySem.W.mg_none_of X G z2, PySem.W.mg_none_of X G z3, PySem.W.mg_none_of X G z4, PySem.W.mg_none_of X G z5, PySem.W.mg_none_of X G z6, PySem.W.mg_none_of X G z7, PySem.W.mg_none_of X G z8, PySem.W.mg_none_of X G z9, PySem.W.mg_none_of X G z10, PySem.W.mg_none_of X G z11, PySem.W.mg_none_of X G z12, PySem.W.mg_none_of X G z13, PySem.W.mg_none_of X G z14⟩
  have C : Cn K mg := ⟨⟨_, PySem.W.mg_of X G v1, fun _ => .inr ⟨_, _, _, u1, rfl, rfl, by show 1 ≤ sizeLine; decide, .cons ⟨_, rfl⟩ (.nil)⟩⟩⟩
  have F_common_divisor := fun_mk (st := s_common_divisor) l1 c1 k1
  have F_fraction := fun_mk (st := s_fraction) l2 c2 k2
  have F_ends_of := fun_mk (st := s_ends_of) l3 c3 k3
  have F_deep := fun_mk (st := s_deep) l4 c4 k4
  have F_numbered_ends := fun_mk (st := s_numbered_ends) l5 c5 k5
  have F_rows_to := fun_mk (st := s_rows_to) l6 c6 k6
  have F_shares_of := fun_mk (st := s_shares_of) l7 c7 k7
  have F_mean_of := fun_mk (st := s_mean_of) l8 c8 k8
  have F__law_same := fun_mk (st := s__law_same) l9 c9 k9
  have F__law_draw := fun_mk (st := s__law_draw) l10 c10 k10
  have F__law_one := fun_mk (st := s__law_one) l11 c11 k11
  have F__law_frac := fun_mk (st := s__law_frac) l12 c12 k12
  have F__law_plus := fun_mk (st := s__law_plus) l13 c13 k13
  have F__law_plan := fun_mk (st := s__law_plan) l14 c14 k14
  have F__law_ends := fun_mk (st := s__law_ends) l15 c15 k15
  have F__law_told := fun_mk (st := s__law_told) l16 c16 k16
  have F__law_due := fun_mk (st := s__law_due) l17 c17 k17
  have F_law := fun_mk (st := s_law) l18 c18 k18
  have X_NoShares : Exc K mg "NoShares" e_NoShares ed_NoShares.mro := ⟨PySem.W.mg_of X G xa_NoShares, xi_NoShares, _, _, _, _, xl_NoShares, rfl⟩
  have b_common_divisor := F_common_divisor.binds (ps := p_common_divisor) fun _ _ _ _ _ _ us hl => (by obtain ⟨_, _, rfl⟩ := lenU2 hl; rfl)
  have b_fraction := F_fraction.binds (ps := p_fraction) fun _ _ _ _ _ _ us hl => (by obtain ⟨_, _, rfl⟩ := lenU2 hl; rfl)
  have b_ends_of := F_ends_of.binds (ps := p_ends_of) fun _ _ _ _ _ _ us hl => (by obtain ⟨_, _, rfl⟩ := lenU2 hl; rfl)
  have b_deep := F_deep.binds (ps := p_deep) fun _ _ _ _ _ _ us hl => (by obtain ⟨_, rfl⟩ := lenU1 hl; rfl)
  have b_numbered_ends := F_numbered_ends.binds (ps := p_numbered_ends) fun _ _ _ _ _ _ us hl => (by obtain ⟨_, rfl⟩ := lenU1 hl; rfl)
  have b_rows_to := F_rows_to.binds (ps := p_rows_to) fun _ _ _ _ _ _ us hl => (by obtain ⟨_, _, rfl⟩ := lenU2 hl; rfl)
  have b_shares_of := F_shares_of.binds (ps := p_shares_of) fun _ _ _ _ _ _ us hl => (by obtain ⟨_, rfl⟩ := lenU1 hl; rfl)
  have b_mean_of := F_mean_of.binds (ps := p_mean_of) fun _ _ _ _ _ _ us hl => (by obtain ⟨_, rfl⟩ := lenU1 hl; rfl)
  have b__law_same := F__law_same.binds (ps := p__law_same) fun _ _ _ _ _ _ us hl => (by obtain ⟨_, _, rfl⟩ := lenU2 hl; rfl)
  have b__law_draw := F__law_draw.binds (ps := p__law_draw) fun _ _ _ _ _ _ us hl => (by obtain ⟨_, _, _, rfl⟩ := lenU3 hl; rfl)
  have b__law_one := F__law_one.binds (ps := p__law_one) fun _ _ _ _ _ _ us hl => (by obtain ⟨_, _, _, rfl⟩ := lenU3 hl; rfl)
  have b__law_frac := F__law_frac.binds (ps := p__law_frac) fun _ _ _ _ _ _ us hl => (by obtain ⟨_, _, rfl⟩ := lenU2 hl; rfl)
  have b__law_plus := F__law_plus.binds (ps := p__law_plus) fun _ _ _ _ _ _ us hl => (by obtain ⟨_, _, rfl⟩ := lenU2 hl; rfl)
  have b__law_plan := F__law_plan.binds (ps := p__law_plan) fun _ _ _ _ _ _ us hl => (by obtain ⟨_, _, _, rfl⟩ := lenU3 hl; rfl)
  have b__law_ends := F__law_ends.binds (ps := p__law_ends) fun _ _ _ _ _ _ us hl => (by obtain ⟨_, _, _, rfl⟩ := lenU3 hl; rfl)
  have b__law_told := F__law_told.binds (ps := p__law_told) fun _ _ _ _ _ _ us hl => (by obtain ⟨_, rfl⟩ := lenU1 hl; rfl)
  have b__law_due := F__law_due.binds (ps := p__law_due) fun _ _ _ _ _ _ us hl => (by obtain ⟨_, rfl⟩ := lenU1 hl; rfl)
  have b_law := F_law.binds (ps := p_law) fun _ _ _ _ _ _ us hl => (by obtain ⟨_, rfl⟩ := lenU1 hl; rfl)
  refine ⟨PySem.W.fnOf "law" "law" (defArgs s_law) (defBody s_law) (defScope s_law) .none kV18 dc18 pm18 an18 cd18 ct18, fun s v => .of_eq rfl, fun base _ _ => ?_⟩
  have m_common_divisor := fun {sp : Sp} {j : Nat} (O : FnOk l.prog w K mg base CX0 j f1 _ p_common_divisor sp) => Fn.of (x := "common_divisor") O (PySem.W.mg_of X G a1) k1 b_common_divisor
  have m_fraction := fun {sp : Sp} {j : Nat} (O : FnOk l.prog w K mg base CX0 j f2 _ p_fraction sp) => Fn.of (x := "fraction") O (PySem.W.mg_of X G a2) k2 b_fraction
  have m_ends_of := fun {sp : Sp} {j : Nat} (O : FnOk l.prog w K mg base CX0 j f3 _ p_ends_of sp) => Fn.of (x := "ends_of") O (PySem.W.mg_of X G a3) k3 b_ends_of
  have m_deep := fun {sp : Sp} {j : Nat} (O : FnOk l.prog w K mg base CX0 j f4 _ p_deep sp) => Fn.of (x := "deep") O (PySem.W.mg_of X G a4) k4 b_deep
  have m_numbered_ends := fun {sp : Sp} {j : Nat} (O : FnOk l.prog w K mg base (CXR l.prog w) j f5 _ p_numbered_ends sp) => FnX.mk (x := "numbered_ends") O (PySem.W.mg_of X G a5) k5 b_numbered_ends
  have m_rows_to := fun {sp : Sp} {j : Nat} (O : FnOk l.prog w K mg base CX0 j f6 _ p_rows_to sp) => Fn.of (x := "rows_to") O (PySem.W.mg_of X G a6) k6 b_rows_to
  have m_shares_of := fun {sp : Sp} {j : Nat} (O : FnOk l.prog w K mg base (CXR l.prog w) j f7 _ p_shares_of sp) => FnX.mk (x := "shares_of") O (PySem.W.mg_of X G a7) k7 b_shares_of
  have m_mean_of := fun {sp : Sp} {j : Nat} (O : FnOk l.prog w K mg base (CXR l.prog w) j f8 _ p_mean_of sp) => FnX.mk (x := "mean_of") O (PySem.W.mg_of X G a8) k8 b_mean_of
  have m__law_same := fun {sp : Sp} {j : Nat} (O : FnOk l.prog w K mg base CX0 j f9 _ p__law_same sp) => Fn.of (x := "_law_same") O (PySem.W.mg_of X G a9) k9 b__law_same
  have m__law_draw := fun {sp : Sp} {j : Nat} (O : FnOk l.prog w K mg base CX0 j f10 _ p__law_draw sp) => Fn.of (x := "_law_draw") O (PySem.W.mg_of X G a10) k10 b__law_draw
  have m__law_one := fun {sp : Sp} {j : Nat} (O : FnOk l.prog w K mg base CX0 j f11 _ p__law_one sp) => Fn.of (x := "_law_one") O (PySem.W.mg_of X G a11) k11 b__law_one
  have m__law_frac := fun {sp : Sp} {j : Nat} (O : FnOk l.prog w K mg base CX0 j f12 _ p__law_frac sp) => Fn.of (x := "_law_frac") O (PySem.W.mg_of X G a12) k12 b__law_frac
  have m__law_plus := fun {sp : Sp} {j : Nat} (O : FnOk l.prog w K mg base CX0 j f13 _ p__law_plus sp) => Fn.of (x := "_law_plus") O (PySem.W.mg_of X G a13) k13 b__law_plus
  have m__law_plan := fun {sp : Sp} {j : Nat} (O : FnOk l.prog w K mg base CX0 j f14 _ p__law_plan sp) => Fn.of (x := "_law_plan") O (PySem.W.mg_of X G a14) k14 b__law_plan
  have m__law_ends := fun {sp : Sp} {j : Nat} (O : FnOk l.prog w K mg base CX0 j f15 _ p__law_ends sp) => Fn.of (x := "_law_ends") O (PySem.W.mg_of X G a15) k15 b__law_ends
  have m__law_told := fun {sp : Sp} {j : Nat} (O : FnOk l.prog w K mg base CX0 j f16 _ p__law_told sp) => Fn.of (x := "_law_told") O (PySem.W.mg_of X G a16) k16 b__law_told
  have m__law_due := fun {sp : Sp} {j : Nat} (O : FnOk l.prog w K mg base CX0 j f17 _ p__law_due sp) => Fn.of (x := "_law_due") O (PySem.W.mg_of X G a17) k17 b__law_due
  have o_d := ok__law_draw (P := l.prog) (w := w) (base := base) F__law_draw B
  have q_draw := m__law_draw o_d
  have o_o := ok__law_one F__law_one B q_draw
  have dr : ∀ k, 2 ≤ k → _ := fun k h => m__law_draw (o_d.mono (show 1 ≤ k by omega))
  have on : ∀ k, 2 ≤ k → _ := fun k h => m__law_one (o_o.mono h)
  have q_s0 := m__law_same (ok__law_same0 (sp := spSame 0) (fun _ _ _ _ ⟨_, _, _, h, _⟩ => h))
  have q_s1 := m__law_same (ok__law_same1 F__law_same B q_s0)
  have q_s2 := m__law_same (ok__law_same1 F__law_same B q_s1)
  have q_s3 := m__law_same (ok__law_same1 F__law_same B q_s2)
  have q_s4 := m__law_same (ok__law_same1 F__law_same B q_s3)
  have q_s5 := m__law_same (ok__law_same1 F__law_same B q_s4)
  have q_s6 := m__law_same (ok__law_same1 F__law_same B q_s5)
  have q_s7 := m__law_same (ok__law_same1 F__law_same B q_s6)
  have q_s := m__law_same ((ok__law_same1 F__law_same B q_s7).mono (show 8 ≤ 16 by decide))
  have o_p := plan_all (P := l.prog) (w := w) (base := base) F__law_plan B dr on m__law_plan
  have q_pl := m__law_plan (plan_to fun n hn => (o_p n).mono (by omega))
  have o_e := ends_all (P := l.prog) (w := w) (base := base) F_ends_of m_ends_of
  have q_ne := m_numbered_ends (ok_numbered_ends F_numbered_ends B C X_NoShares (m_ends_of (o_e 12)))
  have q_cd := m_common_divisor (ok_common_divisor (P := l.prog) (w := w) (base := base) F_common_divisor B)
  have q_fr := m_fraction ((ok_fraction F_fraction q_cd).mono (show 2 ≤ 14 by decide))
  have o_lf := ok__law_frac (P := l.prog) (w := w) (base := base) F__law_frac B
  have o_dp := ok_deep F_deep B (m_ends_of (o_e 12))
  have q_dp := m_deep o_dp
  have q_rt := m_rows_to ((ok_rows_to (P := l.prog) (w := w) (base := base) F_rows_to).mono (show 1 ≤ 14 by decide))
  have o_sh := ok_shares_of F_shares_of B q_ne q_dp q_rt q_fr
  have q_mn := m_mean_of (ok_mean_of F_mean_of B q_ne q_dp (m_ends_of ((o_e 12).mono (show 13 ≤ 14 by decide))) q_rt q_fr)
  have q_to := m__law_told ((ok__law_told F__law_told X_NoShares xm_NoShares_NoShares (m_shares_of o_sh) q_mn).imp td_imp)
  have o_le := lends_all (P := l.prog) (w := w) (base := base) F__law_ends m__law_ends 12
  have q_du := m__law_due ((ok__law_due F__law_due B (m__law_ends (o_le.mono (show 13 ≤ 15 by decide))) (m__law_frac (o_lf.mono (show 1 ≤ 15 by decide)))).imp td_imp)
  have q_lp := m__law_plus ((ok__law_plus F__law_plus (m__law_frac o_lf)).mono (show 2 ≤ 16 by decide))
  exact ok_law F_law B q_pl q_du q_to q_s (m_deep (o_dp.mono (show 14 ≤ 16 by decide))) (m__law_ends (o_le.mono (show 13 ≤ 16 by decide))) (m_shares_of (o_sh.mono (show 15 ≤ 16 by decide))) q_lp
theorem walk {l : PySem.W.OpenLaw} {q : Program} {loose : List Str} {XP : (Str → Option Value) → Heap → Prop} {YP : World → Heap → Prop} {d : DefRec} {K : Params → PySem.W.Frag} (hn : l.most = some 63) (hdf : d.params.defaults = [])
    (hY : ∀ (w : World) (h : Heap), YP w h → (K w.params).In h)
    (F : ∀ (w : World) (mg : Str → Option Value) (fa : Addr) (h : Heap), (K w.params).In h → h.Ns mainGlobals mg → mg d.name = some (.ref fa) →
      ∃ fd : FuncData, (∀ (s : Shared) (u : Value), BindsTo s fd ⟨[u], []⟩ [("_law_script", u)]) ∧ ∀ base : Heap, (K w.params).In base → base.Ns mainGlobals mg → FnOk l.prog w (K w.params) mg base CX0 17 fa fd ["_law_script"] (spLaw (K w.params))) :
    PySem.W.WalkO q loose XP YP l.row.toRowW d [] (fun f vs => PySem.call f vs) :=
  L2.walk_of (n := 63) (k := 17) (x := "_law_script") (CX := fun _ => CX0) (sp := fun w => spLaw (K w.params)) hn (by decide) hdf ⟨rfl, by decide, by decide⟩ hY F (fun _ _ a ns hl hO hS => ⟨a, ns, rfl, Scr.of hS hO, hl, fun _ => rfl⟩) fun _ _ _ _ _ z => z
end Lw
open PySem PySem.W PyProof.Rows
set_option maxRecDepth 100000 in
set_option maxHeartbeats 0 in
theorem PySem.Challenge.cw_bitdraws_k14_whole_shares_of_plans_holds : PySem.Challenge.rw_bitdraws_k14_whole_shares_of_plans.Holds := by
  w_on; o_law; k_head; (case hw => w_witness2)
  k_fill
  refine Lw.walk (l := PySem.Challenge.rw_bitdraws_k14_whole_shares_of_plans) rfl rfl (fun w h Y => PySem.W.kIn_of Y) ?F
  case F =>
    intro w mg fa h KX G hmg
    refine' Lw.all_mk KX G hmg ?a1 ?l1 ?c1 ?k1 ?a2 ?l2 ?c2 ?k2 ?a3 ?l3 ?c3 ?k3 ?a4 ?l4 ?c4 ?k4 ?a5 ?l5 ?c5 ?k5 ?a6 ?l6 ?c6 ?k6 ?a7 ?l7 ?c7 ?k7 ?a8 ?l8 ?c8 ?k8 ?a9 ?l9 ?c9 ?k9 ?a10 ?l10 ?c10 ?k10 ?a11 ?l11 ?c11 ?k11 ?a12 ?l12 ?c12 ?k12 ?a13 ?l13 ?c13 ?k13 ?a14 ?l14 ?c14 ?k14 ?a15 ?l15 ?c15 ?k15 ?a16 ?l16 ?c16 ?k16 ?a17 ?l17 ?c17 ?k17 ?a18 ?l18 ?c18 ?k18 ?z1 ?z2 ?z3 ?z4 ?z5 ?z6 ?z7 ?z8 ?z9 ?z10 ?z11 ?z12 ?z13 ?z14 ?v1 ?u1 ?xa_NoShares ?xl_NoShares ?xi_NoShares ?xm_NoShares_NoShares
    (case a1 => k_is)
    (case l1 => k_is)
    (case c1 => k_is)
    (case k1 => k_is)
    (case a2 => k_is)
    (case l2 => k_is)
    (case c2 => k_is)
    (case k2 => k_is)
    (case a3 => k_is)
    (case l3 => k_is)
    (case c3 => k_is)
    (case k3 => k_is)
    (case a4 => k_is)
    (case l4 => k_is)
    (case c4 => k_is)
    (case k4 => k_is)
    (case a5 => k_is)
    (case l5 => k_is)
    (case c5 => k_is)
    (case k5 => k_is)
    (case a6 => k_is)
    (case l6 => k_is)
    (case c6 => k_is)
    (case k6 => k_is)
    (case a7 => k_is)
    (case l7 => k_is)
    (case c7 => k_is)
    (case k7 => k_is)
    (case a8 => k_is)
    (case l8 => k_is)
    (case c8 => k_is)
    (case k8 => k_is)
    (case a9 => k_is)
    (case l9 => k_is)
    (case c9 => k_is)
    (case k9 => k_is)
    (case a10 => k_is)
    (case l10 => k_is)
    (case c10 => k_is)
    (case k10 => k_is)
    (case a11 => k_is)
    (case l11 => k_is)
    (case c11 => k_is)
    (case k11 => k_is)
    (case a12 => k_is)
    (case l12 => k_is)
    (case c12 => k_is)
    (case k12 => k_is)
    (case a13 => k_is)
    (case l13 => k_is)
    (case c13 => k_is)
    (case k13 => k_is)
    (case a14 => k_is)
    (case l14 => k_is)
    (case c14 => k_is)
    (case k14 => k_is)
    (case a15 => k_is)
    (case l15 => k_is)
    (case c15 => k_is)
    (case k15 => k_is)
    (case a16 => k_is)
    (case l16 => k_is)
    (case c16 => k_is)
    (case k16 => k_is)
    (case a17 => k_is)
    (case l17 => k_is)
    (case c17 => k_is)
    (case k17 => k_is)
    (case a18 => k_is)
    (case l18 => k_is)
    (case c18 => k_is)
    (case k18 => k_is)
    (case z1 => k_is)
    (case z2 => k_is)
    (case z3 => k_is)
    (case z4 => k_is)
    (case z5 => k_is)
    (case z6 => k_is)
    (case z7 => k_is)
    (case z8 => k_is)
    (case z9 => k_is)
    (case z10 => k_is)
    (case z11 => k_is)
    (case z12 => k_is)
    (case z13 => k_is)
    (case z14 => k_is)
    (case v1 => k_is)
    (case u1 => k_is)
    (case xa_NoShares => k_is)
    (case xl_NoShares => k_is)
    (case xi_NoShares => first | kernel_rfl | rfl | decide +kernel | k_is)
    (case xm_NoShares_NoShares => first | kernel_rfl | rfl | decide +kernel | k_is)
