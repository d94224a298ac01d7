import PyProof.Rows.All
import Wide.All
import OpenK.AllK
import Wide.FinOn
import Lean
import PyProof.EqAt
import PyProof.EqKinds
import PyProof.TupleCall
import PyProof.EnumMake
import PyProof.ZipIter
import PyProof.NeKinds
import PyProof.Rows.SortWalk
import PyProof.AttrMiss
import PyProof.IsiH_list
import KE.KDictOf
import PyProof.Draws
import PyProof.StrCalls
import PyProof.StrCalls2
import PyProof.FString5
import PyProof.DictWalks
import PyProof.MeetsDict
import PyProof.EqAt
import PyProof.Rows.RuleM_int
import KE.KEqDict
import KE.KDictSum
import PyProof.WalkInts
import PyProof.FactsAll.dict_4
import PyProof.StrBlockI
import PyProof.StrBlock2
import PyProof.StrCalls3
import KE.KIntText
import PyProof.ListStr
import PyProof.Rows.StrNews2
import PyProof.SliceStr2
import PyProof.StrLawsFrom
import PyProof.StrLawsIn
import KE.KSortTup
import PyProof.P3Eq
import PyProof.Rows.TupDisplay
import PySem.Challenge.RW_bitdraws_k37_whole_drawers
set_option Elab.async false
set_option linter.all false
set_option maxRecDepth 100000
namespace L2
open PySem PySem.Spec PyProof.Rows
noncomputable abbrev Key := Sum Int Str
noncomputable def keyIs : Key → Value → Bool
  | .inl k, v => Value.isInt k v
  | .inr x, v => Value.isStrOf x v
noncomputable def keyH (w : World) : Key → Int
  | .inl k => hashInt k
  | .inr x => hashStr w x
theorem keyIs_shape : ∀ {k : Key} {v : Value}, keyIs k v = true → (∃ i t, k = Sum.inl i ∧ v = Value.int i t) ∨ (∃ x t, k = Sum.inr x ∧ v = Value.str x t)
  | .inl i, v, h => by
    obtain ⟨t, e⟩ := Value.isInt_shape (k := i) (v := v) h
    exact .inl ⟨i, t, rfl, e⟩
  | .inr x, v, h => by
    obtain ⟨t, e⟩ := Value.isStrOf_shape (x := x) (v := v) h
    exact .inr ⟨x, t, rfl, e⟩
theorem key_ll (a b : Int) : decide ((Sum.inl a : Key) = Sum.inl b) = (a == b) := by
  by_cases e : a = b
  · subst e; simp
  · have h : ¬ (Sum.inl a : Key) = Sum.inl b := fun q => e (Sum.inl.inj q)
    rw [decide_eq_false h]
    exact (beq_eq_false_iff_ne.mpr e).symm
theorem key_rr (a b : Str) : decide ((Sum.inr a : Key) = Sum.inr b) = decide (a = b) := by
  by_cases e : a = b
  · subst e; simp
  · have h : ¬ (Sum.inr a : Key) = Sum.inr b := fun q => e (Sum.inr.inj q)
    rw [decide_eq_false h, decide_eq_false e]
theorem key_lr (a : Int) (b : Str) : decide ((Sum.inl a : Key) = Sum.inr b) = false := decide_eq_false (fun q => nomatch q)
theorem key_rl (a : Str) (b : Int) : decide ((Sum.inr a : Key) = Sum.inl b) = false := decide_eq_false (fun q => nomatch q)
noncomputable def mixKind (prog : Program) (w : World) : PySem.KeyKind prog w Key where
  is := keyIs
  hash := keyH w
  inj := fun v a b ha hb => by
    rcases keyIs_shape ha with ⟨i, t, rfl, rfl⟩ | ⟨x, t, rfl, rfl⟩
    · rcases keyIs_shape hb with ⟨j, u, rfl, e⟩ | ⟨y, u, rfl, e⟩
      · injection e with e1 _; rw [e1]
      · exact nomatch e
    · rcases keyIs_shape hb with ⟨j, u, rfl, e⟩ | ⟨y, u, rfl, e⟩
      · exact nomatch e
      · injection e with e1 _; rw [e1]
  byValue := fun k v h => by
    rcases keyIs_shape h with ⟨i, t, rfl, rfl⟩ | ⟨x, t, rfl, rfl⟩ <;> rfl
  pyHash := fun hv h => by
    rcases keyIs_shape hv with ⟨i, t, rfl, rfl⟩ | ⟨x, t, rfl, rfl⟩
    · exact wpAny_pyHash_int h
    · exact wpAny_pyHash_str h
  eqBool := fun hu hv h => by
    rcases keyIs_shape hu with ⟨i, t, rfl, rfl⟩ | ⟨x, t, rfl, rfl⟩
    · rcases keyIs_shape hv with ⟨j, u, rfl, rfl⟩ | ⟨y, u, rfl, rfl⟩
      · rw [key_ll] at h; exact wpAny_eqBool_int h
      · rw [key_lr] at h; exact SeqAt.EqAt.int_str i t y u _ _ _ _ h
    · rcases keyIs_shape hv with ⟨j, u, rfl, rfl⟩ | ⟨y, u, rfl, rfl⟩
      · rw [key_rl] at h; exact SeqAt.EqAt.str_int x t j u _ _ _ _ h
      · rw [key_rr] at h; exact wpAny_eqBool_str h
  «strs» := fun k x t v h => by
    rcases keyIs_shape h with ⟨i, u, rfl, e⟩ | ⟨y, u, rfl, e⟩
    · exact nomatch e
    · injection e with e1 _
      subst e1
      cases v <;> rfl
end L2
namespace L2
open PySem PySem.Spec PyProof.Rows
inductive V where
  | non | bl (b : Bool) | int (i : Int) | str (x : Str) | byt (b : Array UInt8) | flt (b : UInt64) | ref (a : Addr) | ty (n : String)
  deriving DecidableEq
noncomputable def RelV : V → Value → Prop
  | .non, u => u = Value.none
  | .bl b, u => u = Value.bool b
  | .int i, u => ∃ t, u = Value.int i t
  | .str x, u => ∃ t, u = Value.str x t
  | .byt b, u => ∃ t, u = Value.bytes b t
  | .flt b, u => ∃ t, u = Value.float b t
  | .ref a, u => u = Value.ref a
  | .ty n, u => u = Value.type n
noncomputable abbrev Vals : List V → List Value → Prop := Paired RelV
theorem Vals.length {xs : List V} {us : List Value} (r : Vals xs us) : xs.length = us.length := Paired.length r
theorem Vals.get : ∀ {xs : List V} {us : List Value} {i : Nat} {x : V}, Vals xs us → xs[i]? = some x → ∃ u, us[i]? = some u ∧ RelV x u
  | _, _, _, _, .nil, e => by simp at e
  | _, _, 0, _, .cons r _, e => by simp at e; subst e; exact ⟨_, rfl, r⟩
  | _, _, i + 1, x, .cons _ t, e => by
    obtain ⟨u, h1, h2⟩ := Vals.get (i := i) (x := x) t (by simpa using e)
    exact ⟨u, by simpa using h1, h2⟩
theorem Vals.set {x : V} {u : Value} (r : RelV x u) : ∀ {xs : List V} {us : List Value} (i : Nat), Vals xs us → Vals (xs.set i x) (us.set i u)
  | _, _, _, .nil => .nil
  | _, _, 0, .cons _ t => .cons r t
  | _, _, i + 1, .cons q t => .cons q (Vals.set r i t)
theorem Vals.append : ∀ {xs ys : List V} {us ws : List Value}, Vals xs us → Vals ys ws → Vals (xs ++ ys) (us ++ ws)
  | _, _, _, _, .nil, s => s
  | _, _, _, _, .cons r t, s => .cons r (Vals.append t s)
noncomputable def RelO : Option V → Option Value → Prop
  | some v, some u => RelV v u
  | none, none => True
  | _, _ => False
noncomputable def KV {κ : Type} : List (κ × V) → List (κ × Value) → Prop := Paired fun (p : κ × V) (q : κ × Value) => p.1 = q.1 ∧ RelV p.2 q.2
noncomputable def kV : Key → V
  | .inl i => .int i
  | .inr x => .str x
inductive HO where
  /-- a list -/
  | lst (xs : List V)
  /-- a tuple (never changes) -/
  | tup (xs : List V)
  /-- a dict whose keys are ints and texts; one whose keys are tuples of ints and texts (the empty one is both) -/
  | dK (kvs : List (Key × V)) | dT (kvs : List (List Key × V))
  /-- a set of ints: its members, its size -/
  | set (S : Int → Bool) (n : Nat)
  /-- an instance of the class at C, its dict at dx, its attributes -/
  | ins (C dx : Addr) (fs : List (Str × V))
  /-- the dict of the instance at x -/
  | own (x : Addr)
  /-- the dict of an exception -/
  | xd (fs : List (Str × V))
  /-- a bound method, f of x -/
  | met (f x : Addr)
  /-- a range object lo, lo + 1, .. below hi -/
  | rng (lo hi : Int)
  /-- a thing that is known to the object (the script; a dict while a loop walks it): read, never written while it is so -/
  | frz (o : Obj) (u : HO)
  /-- a code object's table -/
  | tbl (ps : Array Value)
  /-- any other thing, by what is true of its one object (a def of one's own: SetO a S n := HO.ext fun h => ..) -/
  | ext (φ : Heap → Prop)
noncomputable abbrev Hp := Addr → Option HO
noncomputable def upd (H : Hp) (a : Addr) (o : HO) : Hp := fun b => if b = a then some o else H b
theorem upd_same {H : Hp} {a : Addr} {o : HO} : upd H a o a = some o := by unfold upd; rw [if_pos rfl]
theorem upd_ne {H : Hp} {a b : Addr} {o : HO} (h : b ≠ a) : upd H a o b = H b := by unfold upd; rw [if_neg h]
theorem upd_upd {H : Hp} {a : Addr} {o u : HO} : upd (upd H a o) a u = upd H a u := by
  funext b; unfold upd; split <;> rfl
theorem ne_of {H : Hp} {a b : Addr} {o u : HO} (h : H a = some o) (h' : H b = some u) (d : o ≠ u) : a ≠ b := by
  intro e; subst e; rw [h] at h'; exact d (Option.some.inj h')
theorem ne_of_none {H : Hp} {a b : Addr} {o : HO} (h : H a = some o) (h' : H b = none) : a ≠ b := by
  intro e; subst e; rw [h] at h'; cases h'
section
variable (P : Program) (w : World)
noncomputable def ObjOk (H : Hp) (h : Heap) (a : Addr) : HO → Prop
  | .lst xs => xs.length ≤ sizeLine ∧ ∃ (its : List Value) (n : Nat), Vals xs its ∧ h.get? a = some { cls := .type "list", data := .seq its.toArray n }
  | .tup xs => xs.length ≤ sizeLine ∧ ∃ its : List Value, Vals xs its ∧ IsTup h a its.toArray ∧ ∃ ob, h.get? a = some ob ∧ ob.dict = none
  | .dK kvs => kvs.length ≤ sizeLine ∧ (a == sysModules) = false ∧ ∃ vs, KV kvs vs ∧ h.DictOf (mixKind P w) a vs
  | .dT kvs => kvs.length ≤ sizeLine ∧ (a == sysModules) = false ∧ ∃ xs : List (List Key × Addr × Value),
      Paired (fun (p : List Key × V) (q : List Key × Addr × Value) => p.1 = q.1 ∧ H q.2.1 = some (.tup (p.1.map kV)) ∧ RelV p.2 q.2.2) kvs xs ∧
      ∃ o es ep, h.get? a = some o ∧ o.ExactDict ∧ o.data = .dict es ep ∧ es.toList = xs.map (entryOfKey (tupleKind (mixKind P w))) ∧ (xs.map (·.1)).Nodup
  | .set S n => h.SetOf (intKind P w) a S n
  | .ins C dx fs => H dx = some (.own a) ∧ fs.length ≤ 1000 ∧ dx ≠ a ∧ h.get? a = some (PySem.W.instObj C dx) ∧
      ∃ mA, h.Ns1 dx mA ∧ (∀ f, RelO (fs.lookup f) (mA f)) ∧ PySem.Within mA (fs.map (·.1))
  | .own _ => ∃ o, h.get? a = some o
  | .xd fs => ∃ mA, h.Ns1 a mA ∧ ∀ f, RelO (fs.lookup f) (mA f)
  | .rng lo hi => ∃ t u v, h.get? a = some { cls := .type "range", data := .fields #[.int lo t, .int hi u, .int 1 v] }
  | .frz o u => h.get? a = some o ∧ ObjOk H h a u
  | .tbl ps => h.get? a = some { cls := .none, data := .fields ps }
  | .met f x => h.get? a = some (PySem.W.methodObj (.ref f) (.ref x))
  | .ext φ => φ h ∧ (∃ o, h.get? a = some o) ∧ ∀ h1 h2 : Heap, φ h1 → (∀ o, h1.get? a = some o → h2.get? a = some o) → φ h2
noncomputable def HOk (H : Hp) (h : Heap) : Prop := ∀ a o, H a = some o → ObjOk P w H h a o
end
section
variable {P : Program} {w : World} {H H' : Hp} {h h' : Heap} {a : Addr} {o : HO}
theorem ObjOk.lt (x : ObjOk P w H h a o) : a < h.objs.size := by
  cases o with
  | lst xs => obtain ⟨_, _, _, _, e⟩ := x; exact Heap.lt_size e
  | tup xs => obtain ⟨_, _, _, p, _⟩ := x; exact p.lt
  | dK kvs => obtain ⟨_, _, _, _, o, _, _, e, _⟩ := x; exact Heap.lt_size e
  | dT kvs => obtain ⟨_, _, _, _, o, _, _, e, _⟩ := x; exact Heap.lt_size e
  | set S n => obtain ⟨o, _, _, _, e, _⟩ := x; exact Heap.lt_size e
  | ins C dx fs => obtain ⟨_, _, _, e, _⟩ := x; exact Heap.lt_size e
  | own y => obtain ⟨_, e⟩ := x; exact Heap.lt_size e
  | xd fs => obtain ⟨_, ⟨_, _, _, e, _⟩, _⟩ := x; exact Heap.lt_size e
  | rng lo hi => obtain ⟨_, _, _, e⟩ := x; exact Heap.lt_size e
  | frz ob u => obtain ⟨e, _⟩ := x; exact Heap.lt_size e
  | tbl ps => exact Heap.lt_size (show h.get? a = some _ from x)
  | met f y => exact Heap.lt_size (show h.get? a = some _ from x)
  | ext φ => obtain ⟨_, ⟨_, e⟩, _⟩ := x; exact Heap.lt_size e
theorem Paired.mapP {α β : Type} {F G : α → β → Prop} : ∀ {l₁ : List α} {l₂ : List β}, Paired F l₁ l₂ → (∀ a b, F a b → G a b) → Paired G l₁ l₂
  | _, _, .nil, _ => .nil
  | _, _, .cons r t, f => .cons (f _ _ r) (Paired.mapP t f)
theorem ObjOk.stay (x : ObjOk P w H h a o) (k : ∀ b u, (b = a ∨ H b = some (.own a)) → h.get? b = some u → h'.get? b = some u)
    (ho : ∀ b, H b = some (.own a) → H' b = some (.own a)) (ht : ∀ b xs, H b = some (.tup xs) → H' b = some (.tup xs)) : ObjOk P w H' h' a o := by
  induction o with
  | lst xs => obtain ⟨z, its, n, r, e⟩ := x; exact ⟨z, its, n, r, k _ _ (.inl rfl) e⟩
  | tup xs => obtain ⟨z, its, r, ⟨ob, e, c⟩, od, ed, dd⟩ := x; exact ⟨z, its, r, ⟨ob, k _ _ (.inl rfl) e, c⟩, od, k _ _ (.inl rfl) ed, dd⟩
  | dK kvs => obtain ⟨z, y, vs, r, ob, es, ep, e, c⟩ := x; exact ⟨z, y, vs, r, ob, es, ep, k _ _ (.inl rfl) e, c⟩
  | dT kvs =>
    obtain ⟨z, y, xs, r, ob, es, ep, e, c⟩ := x
    exact ⟨z, y, xs, Paired.mapP r fun p q z => ⟨z.1, ht _ _ z.2.1, z.2.2⟩, ob, es, ep, k _ _ (.inl rfl) e, c⟩
  | set S n => obtain ⟨ob, es, ep, t, e, c⟩ := x; exact ⟨ob, es, ep, t, k _ _ (.inl rfl) e, c⟩
  | ins C dx fs =>
    obtain ⟨d, z, ne, e, mA, ⟨od, es, ep, e2, c⟩, r⟩ := x
    exact ⟨ho _ d, z, ne, k _ _ (.inl rfl) e, mA, ⟨od, es, ep, k _ _ (.inr d) e2, c⟩, r⟩
  | own y => obtain ⟨ob, e⟩ := x; exact ⟨ob, k _ _ (.inl rfl) e⟩
  | xd fs => obtain ⟨mA, ⟨od, es, ep, e, c⟩, r⟩ := x; exact ⟨mA, ⟨od, es, ep, k _ _ (.inl rfl) e, c⟩, r⟩
  | rng lo hi => obtain ⟨t, u, v, e⟩ := x; exact ⟨t, u, v, k _ _ (.inl rfl) e⟩
  | frz ob u ih => obtain ⟨e, q⟩ := x; exact ⟨k _ _ (.inl rfl) e, ih q⟩
  | tbl ps =>
    have e : h.get? a = some { cls := .none, data := .fields ps } := x
    show h'.get? a = some { cls := .none, data := .fields ps }
    exact k a _ (.inl rfl) e
  | met f y =>
    have e : h.get? a = some (PySem.W.methodObj (.ref f) (.ref y)) := x
    show h'.get? a = some (PySem.W.methodObj (.ref f) (.ref y))
    exact k a _ (.inl rfl) e
  | ext φ => obtain ⟨p, ⟨o, e⟩, st⟩ := x; exact ⟨st _ _ p fun o q => k _ _ (.inl rfl) q, ⟨o, k _ _ (.inl rfl) e⟩, st⟩
theorem HOk.lt (x : HOk P w H h) (e : H a = some o) : a < h.objs.size := (x a o e).lt
theorem HOk.fresh (x : HOk P w H h) (e : h.objs.size ≤ a) : H a = none := by
  cases q : H a with
  | none => rfl
  | some u => exact absurd (Nat.lt_of_lt_of_le (x.lt q) e) (Nat.lt_irrefl _)
theorem HOk.kept (x : HOk P w H h) (k : ∀ b u, h.get? b = some u → h'.get? b = some u) : HOk P w H h' := fun a o e =>
  (x a o e).stay (fun b u _ q => k b u q) (fun _ q => q) fun _ _ q => q
theorem HOk.laid (x : HOk P w H h) (k : ∀ b u, h.get? b = some u → h'.get? b = some u) (hp : h.objs.size ≤ a) (new : ObjOk P w (upd H a o) h' a o) : HOk P w (upd H a o) h' := fun b u e => by
  have hn := x.fresh hp
  by_cases hb : b = a
  · subst hb; rw [upd_same] at e; cases e; exact new
  · rw [upd_ne hb] at e
    exact (x b u e).stay (fun c v _ q => k c v q) (fun c q => by rw [upd_ne (ne_of_none q hn)]; exact q) fun c xs q => by rw [upd_ne (ne_of_none q hn)]; exact q
end
noncomputable def Rd (H : Hp) (a : Addr) (u : HO) : Prop := H a = some u ∨ ∃ o, H a = some (.frz o u)
theorem Rd.of {H : Hp} {a : Addr} {u : HO} (h : H a = some u) : Rd H a u := .inl h
theorem Rd.ok {P : Program} {w : World} {H : Hp} {h : Heap} {a : Addr} {u : HO} (r : Rd H a u) (x : HOk P w H h) : ObjOk P w H h a u := by
  rcases r with r | ⟨o, r⟩
  · exact x a u r
  · obtain ⟨_, q⟩ := x a _ r
    exact q
noncomputable def Mut : Option HO → Prop
  | some (.lst _) => True
  | some (.dK _) => True
  | some (.dT _) => True
  | some (.set _ _) => True
  | some (.ins _ _ _) => True
  | some (.ext _) => True
  | _ => False
section
variable {P : Program} {w : World} {H : Hp} {h h' : Heap} {x e : Addr} {o' : HO}
theorem HOk.write (ok : HOk P w H h) (mu : Mut (H x)) (he : e = x ∨ H e = some (.own x)) (k : ∀ b u, b ≠ e → h.get? b = some u → h'.get? b = some u) (heo : ∃ u, h'.get? e = some u)
    (new : ObjOk P w (upd H x o') h' x o') : HOk P w (upd H x o') h' := fun b u q => by
  have nown : ∀ c y, H c = some (.own y) → c ≠ x := fun c y r z => by subst z; rw [r] at mu; exact mu
  have ntup : ∀ c xs, H c = some (.tup xs) → c ≠ x := fun c xs r z => by subst z; rw [r] at mu; exact mu
  by_cases hb : b = x
  · subst hb; rw [upd_same] at q; cases q; exact new
  · rw [upd_ne hb] at q
    by_cases hbe : b = e
    · have q' : H b = some (.own x) := by
        rcases he with z | z
        · exact absurd (hbe.trans z) hb
        · rw [hbe]; exact z
      rw [q] at q'; cases q'
      obtain ⟨v, hv⟩ := heo
      exact ⟨v, by rw [hbe]; exact hv⟩
    · refine (ok b u q).stay (fun c v hc r => k c v ?_ r) (fun c r => by rw [upd_ne (nown c b r)]; exact r) fun c xs r => by rw [upd_ne (ntup c xs r)]; exact r
      rcases hc with rfl | hc
      · exact hbe
      · rintro rfl
        rcases he with z | z
        · exact nown c b hc z
        · rw [hc] at z; cases z; exact hb rfl
end
structure Un (fs ex : List Addr) (H H' : Hp) (h h' : Heap) : Prop where
  keep : ∀ b o, h.get? b = some o → H b = none → b ∉ fs → b ∉ ex → h'.get? b = some o
  slot : ∀ b o, h.get? b = some o → H b = none → b ∈ fs → b ∉ ex → ∃ sl, h'.get? b = some { o with slots := sl }
  free : ∀ b o, h.get? b = some o → H b = none → b ∉ ex → H' b = none
  there : ∀ b o, h.get? b = some o → b ∉ ex → ∃ o', h'.get? b = some o'
  tups : ∀ b xs, H b = some (.tup xs) → H' b = some (.tup xs)
  frzs : ∀ b o u, H b = some (.frz o u) → H' b = some (.frz o u)
  tbls : ∀ b ps, H b = some (.tbl ps) → ∃ more, H' b = some (.tbl (ps ++ more))
section
variable {fs fs' ex ex' : List Addr} {H H1 H2 : Hp} {h h1 h2 h' : Heap} {a x e : Addr} {o : HO}
theorem Un.any (u : Un fs ex H H1 h h1) {b : Addr} {ob : Obj} (q : h.get? b = some ob) (n : H b = none) (hx : b ∉ ex) : ∃ sl, h1.get? b = some { ob with slots := sl } := by
  by_cases hb : b ∈ fs
  · exact u.slot b ob q n hb hx
  · exact ⟨ob.slots, u.keep b ob q n hb hx⟩
theorem Un.kept (k : ∀ b u, h.get? b = some u → h'.get? b = some u) : Un fs ex H H h h' :=
  ⟨fun b ob q _ _ _ => k b ob q, fun b ob q _ _ _ => ⟨ob.slots, k b ob q⟩, fun _ _ _ n _ => n, fun b ob q _ => ⟨ob, k b ob q⟩, fun _ _ q => q, fun _ _ _ q => q, fun _ ps q => ⟨#[], by rw [q]; simp⟩⟩
theorem Un.refl : Un fs ex H H h h := Un.kept fun _ _ q => q
theorem Un.laid (k : ∀ b u, h.get? b = some u → h'.get? b = some u) (hp : h.objs.size ≤ a) (hn : H a = none) : Un fs ex H (upd H a o) h h' where
  keep := fun b u q _ _ _ => k b u q
  slot := fun b u q _ _ _ => ⟨u.slots, k b u q⟩
  free := fun b u q n _ => by rw [upd_ne (Nat.ne_of_lt (Nat.lt_of_lt_of_le (Heap.lt_size q) hp))]; exact n
  there := fun b u q _ => ⟨u, k b u q⟩
  tups := fun b xs q => by rw [upd_ne (ne_of_none q hn)]; exact q
  frzs := fun b u xs q => by rw [upd_ne (ne_of_none q hn)]; exact q
  tbls := fun b ps q => ⟨#[], by rw [upd_ne (ne_of_none q hn), q]; simp⟩
theorem Un.write (mu : Mut (H x)) (he : e = x ∨ H e = some (.own x)) (k : ∀ b u, b ≠ e → h.get? b = some u → h'.get? b = some u) (heo : ∃ u, h'.get? e = some u) : Un fs ex H (upd H x o) h h' := by
  have hx : ∀ b, H b = none → b ≠ x := fun b n z => by subst z; rw [n] at mu; exact mu
  have hb : ∀ b, H b = none → b ≠ e := fun b n z => by
    subst z
    rcases he with r | r
    · exact hx b n r
    · rw [n] at r; cases r
  have hm : ∀ b u, H b = some u → ¬ Mut (some u) → b ≠ x := fun b u q nm z => by subst z; rw [q] at mu; exact nm mu
  refine ⟨fun b u q n _ _ => k b u (hb b n) q, fun b u q n _ _ => ⟨u.slots, k b u (hb b n) q⟩, fun b u q n _ => by rw [upd_ne (hx b n)]; exact n, fun b u q _ => ?_,
    fun b xs q => by rw [upd_ne (hm b _ q fun z => z)]; exact q, fun b u xs q => by rw [upd_ne (hm b _ q fun z => z)]; exact q, fun b ps q => ⟨#[], by rw [upd_ne (hm b _ q fun z => z), q]; simp⟩⟩
  by_cases hbe : b = e
  · subst hbe; exact heo
  · exact ⟨u, k b u hbe q⟩
end
noncomputable def trk (h : Heap) (H : Hp) : List Addr := (List.range h.objs.size).filter fun a => (H a).isSome
noncomputable def hidT (h : Heap) (H : Hp) : Heap := PySem.W.hideAll h (trk h H)
theorem hidT_size (h : Heap) (H : Hp) : (hidT h H).objs.size = h.objs.size := PySem.W.hideAll_size _ _
theorem hidT_get {h : Heap} {H : Hp} {b : Addr} {o : Obj} (e : h.get? b = some o) (n : H b = none) : (hidT h H).get? b = some o :=
  PySem.W.hideAll_get _ e fun hm => by
    have q : (H b).isSome = true := (List.mem_filter.mp hm).2
    rw [n] at q; simp at q
theorem of_hidT {h : Heap} {H : Hp} {b : Addr} {o : Obj} (e : (hidT h H).get? b = some o) : h.get? b = some o ∧ H b = none := by
  have e' : h.get? b = some o := PySem.W.of_hideAll (trk h H) e
  refine ⟨e', ?_⟩
  cases q : H b with
  | none => rfl
  | some x =>
    have hm : b ∈ trk h H := List.mem_filter.mpr ⟨List.mem_range.mpr (Heap.lt_size e'), by simp [q]⟩
    have z : (hidT h H).get? b = none := PySem.W.hideAll_none (trk h H) hm
    rw [z] at e; cases e
end L2
namespace L2
open PySem PySem.Spec PyProof.Rows
structure Mod (K : PySem.W.Frag) (mg : Str → Option Value) (base : Heap) : Prop where
  kin : K.In base
  glob : base.Ns mainGlobals mg
  blt : ∃ mb, base.Ns builtinsNs mb ∧ ∀ x : Str, x ≠ "__name__" → mb x = bootBuiltins x
  nolimit : base.NoLimit
structure Cx where
  prog : Program
  w : World
  K : PySem.W.Frag
  mg : Str → Option Value
  base : Heap
  A : Around
  N : List Str
  s₀ : Shared
  H₀ : Hp
  env : Env
  outer : List Env
  stack : List Env
  ex : List Addr
  fn : Str → Bool
  calm : Bool
  pn : List (Addr × Obj)
  xe : Value → Shared → Prop
noncomputable def frs (l : List Env) : List Addr := l.filterMap (·.frame)
noncomputable abbrev Cx.fs (X : Cx) : List Addr := frs X.outer
noncomputable def Vis (sc : Scope) (x : Str) : Prop := sc.names.lookup x = some .local ∨ sc.names.lookup x = some .cell ∨ sc.names.lookup x = some .free
noncomputable def Loc (sc : Scope) (x : Str) : Prop := sc.names.lookup x = some .local ∨ sc.names.lookup x = some .cell
noncomputable def Look (env : Env) (h : Heap) (m : Str → Option Value) (x : Str) (u : Value) : Prop :=
  (env.kindOf x = some .local ∧ m x = some u) ∨ ((env.kindOf x = some .cell ∨ env.kindOf x = some .free) ∧ ∃ c, env.cells.lookup x = some c ∧ h.IsCell c (some u))
structure Cx.Ok (X : Cx) : Prop where
  mod : Mod X.K X.mg X.base
  kind : X.env.scope.kind = .function
  glob : X.env.globals = mainGlobals
  blt : X.env.builtins = builtinsNs
  above : X.s₀.heap.objs.size ≤ X.env.locals
  inj : ∀ x y c, X.env.cells.lookup x = some c → X.env.cells.lookup y = some c → x = y
  has : ∀ x, (X.env.kindOf x = some .cell ∨ X.env.kindOf x = some .free) → ∃ c, X.env.cells.lookup x = some c
  cab : ∀ x c, X.fn x = true → X.env.cells.lookup x = some c → X.s₀.heap.objs.size ≤ c
  hd : X.calm = true → X.A.handled = none
  frames : X.A.frames = some X.stack
  stk : X.stack = X.outer ∨ (X.stack = X.env :: X.outer ∧ X.env.frame = some X.env.locals)
  exf : ∀ b ∈ X.ex, b ≠ X.env.locals ∧ ∀ x c, X.env.cells.lookup x = some c → c ≠ b
  bs : ∀ b o, X.base.get? b = some o → X.s₀.heap.get? b = some o ∧ X.H₀ b = none
  bsz : X.base.objs.size ≤ X.s₀.heap.objs.size
  noex : ∀ b o, X.base.get? b = some o → b ∉ X.ex
  exfs : ∀ b ∈ X.ex, b ∉ X.fs
  funs : X.s₀.heap.FunFrames X.base X.outer
  frf : ∀ b ∈ X.fs, X.H₀ b = none
structure Inv (X : Cx) (pins : List (Addr × Obj)) (σ : List (Option V)) (H : Hp) (s : Shared) : Prop where
  ok : X.Ok
  os : s.os = X.s₀.os
  bare : AllBare s.gens
  base : Un X.fs X.ex X.H₀ H X.s₀.heap s.heap
  loc : ∃ m, s.heap.Ns X.env.locals m ∧ ∀ (i : Nat) (x : Str) (v : V), X.N[i]? = some x → σ[i]? = some (some v) → Vis X.env.scope x → ∃ u, RelV v u ∧ Look X.env s.heap m x u
  cell : ∀ x c, X.env.cells.lookup x = some c → ∃ v, s.heap.IsCell c v
  free : H X.env.locals = none
  freeC : ∀ x c, X.env.cells.lookup x = some c → H c = none
  pin : ∀ p ∈ X.pn ++ pins, s.heap.get? p.1 = some p.2 ∧ H p.1 = none ∧ p.1 ≠ X.env.locals ∧ p.1 ∉ X.fs ∧ ∀ v, p.2.data ≠ .cell v
  hok : HOk X.prog X.w H s.heap
  len : σ.length = X.N.length
section
variable {X : Cx} {pins : List (Addr × Obj)} {σ : List (Option V)} {H H' : Hp} {s : Shared} {h' : Heap}
theorem Cx.Ok.nofr (ok : X.Ok) {b : Addr} {o : Obj} (e : X.base.get? b = some o) : b ∉ X.fs := fun hb => by
  have := (ok.funs.mem hb).1
  rw [e] at this; cases this
theorem Inv.bs (I : Inv X pins σ H s) : ∀ b o, X.base.get? b = some o → s.heap.get? b = some o ∧ H b = none := fun b o e =>
  ⟨I.base.keep b o (I.ok.bs b o e).1 (I.ok.bs b o e).2 (I.ok.nofr e) (I.ok.noex b o e), I.base.free b o (I.ok.bs b o e).1 (I.ok.bs b o e).2 (I.ok.noex b o e)⟩
theorem Inv.bk (I : Inv X pins σ H s) : ∀ b o, X.base.get? b = some o → s.heap.get? b = some o := fun b o e => (I.bs b o e).1
theorem Inv.mod (I : Inv X pins σ H s) : Mod X.K X.mg X.base := I.ok.mod
theorem Inv.kIn (I : Inv X pins σ H s) : X.K.In s.heap := I.ok.mod.kin.keeps I.bk
theorem Inv.lt (I : Inv X pins σ H s) : X.env.locals < s.heap.objs.size := let ⟨_, hn, _⟩ := I.loc; hn.lt
theorem Inv.sz (I : Inv X pins σ H s) : X.s₀.heap.objs.size ≤ s.heap.objs.size := Nat.le_trans I.ok.above (Nat.le_of_lt I.lt)
theorem Inv.nofs (I : Inv X pins σ H s) {a : Addr} (h : s.heap.objs.size ≤ a) : a ∉ X.fs := fun hb => by
  obtain ⟨_, o, ho, _⟩ := I.ok.funs.mem hb
  exact absurd (Nat.lt_of_lt_of_le (Heap.lt_size ho) (Nat.le_trans I.sz h)) (Nat.lt_irrefl _)
theorem Inv.cne (I : Inv X pins σ H s) : ∀ x c, X.env.cells.lookup x = some c → c ≠ X.env.locals := fun x c e z => by
  obtain ⟨v, o, ho, hd⟩ := I.cell x c e
  obtain ⟨m, ⟨o', es, ep, ho', hd', _⟩, _⟩ := I.loc
  rw [z, ho'] at ho; cases ho; rw [hd'] at hd; cases hd
theorem Inv.funs (I : Inv X pins σ H s) : s.heap.FunFrames X.base X.outer := by
  have all : ∀ (l : List Env), (∀ b ∈ frs l, b ∈ X.fs) → X.s₀.heap.FunFrames X.base l → s.heap.FunFrames X.base l := by
    intro l
    induction l with
    | nil => intro _ _; trivial
    | cons env r ih =>
      intro hs hl
      obtain ⟨hk, ⟨L, o, hf, hn, ho, hd⟩, hr⟩ := hl
      have hL : L ∈ X.fs := hs L (by unfold frs; rw [List.filterMap_cons, hf]; exact List.mem_cons_self)
      obtain ⟨sl, e⟩ := I.base.slot L o ho (I.ok.frf L hL) hL fun z => I.ok.exfs L z hL
      exact ⟨hk, ⟨L, _, hf, hn, e, hd⟩, ih (fun b hb => hs b (by unfold frs; rw [List.filterMap_cons, hf]; exact List.mem_cons_of_mem _ hb)) hr⟩
  exact all X.outer (fun _ hb => hb) I.ok.funs
theorem Inv.stack (I : Inv X pins σ H s) : s.heap.FunFrames X.base X.stack := by
  rcases I.ok.stk with e | ⟨e, hf⟩
  · rw [e]; exact I.funs
  · rw [e]
    obtain ⟨m, hn, _⟩ := I.loc
    refine .cons (by rw [I.ok.kind]; decide) hf hn ?_ I.funs
    exact Heap.get?_none_of_le (Nat.le_trans I.ok.bsz I.ok.above)
theorem Inv.stkSub (I : Inv X pins σ H s) : ∀ b ∈ frs X.stack, b ∈ X.env.locals :: X.fs := fun b hb => by
  rcases I.ok.stk with e | ⟨e, hf⟩
  · rw [e] at hb; exact List.mem_cons_of_mem _ hb
  · rw [e] at hb
    unfold frs at hb
    rw [List.filterMap_cons, hf] at hb
    exact hb
theorem Inv.stkFree (I : Inv X pins σ H s) : ∀ b ∈ frs X.stack, H b = none := fun b hb => by
  rcases List.mem_cons.mp (I.stkSub b hb) with e | hb
  · rw [e]; exact I.free
  · obtain ⟨_, o, ho, _⟩ := I.ok.funs.mem hb
    exact I.base.free b o ho (I.ok.frf b hb) fun z => I.ok.exfs b z hb
theorem Inv.step {g' : Array GenState} {t' : Nat} {d' : Drawn} {ch : List Addr} (I : Inv X pins σ H s)
    (hch : ∀ b ∈ ch, (b ∈ X.ex ∨ X.s₀.heap.objs.size ≤ b) ∧ b ≠ X.env.locals ∧ (∀ x c, X.env.cells.lookup x = some c → c ≠ b) ∧ ∀ p ∈ X.pn ++ pins, p.1 ≠ b)
    (keep : ∀ b o, b ≠ X.env.locals → b ∉ X.fs → b ∉ ch → s.heap.get? b = some o → H b = none → h'.get? b = some o)
    (slot : ∀ b o, b ≠ X.env.locals → b ∈ X.fs → b ∉ ch → s.heap.get? b = some o → H b = none → ∃ sl, h'.get? b = some { o with slots := sl }) (free : ∀ b o, b ∉ ch → s.heap.get? b = some o → H b = none → H' b = none)
    (there : ∀ b o, b ∉ ch → s.heap.get? b = some o → ∃ o', h'.get? b = some o')
    (tups : ∀ b xs, H b = some (.tup xs) → H' b = some (.tup xs)) (frzs : ∀ b o u, H b = some (.frz o u) → H' b = some (.frz o u)) (tbls : ∀ b ps, H b = some (.tbl ps) → ∃ more, H' b = some (.tbl (ps ++ more)))
    (ns : ∀ m, s.heap.Ns X.env.locals m → h'.Ns X.env.locals m) (hok : HOk X.prog X.w H' h') (hg : AllBare g') :
    Inv X pins σ H' { s with heap := h', gens := g', drawn := d', toks := t' } := by
  have neL : ∀ b o, X.s₀.heap.get? b = some o → b ≠ X.env.locals := fun b o e => Nat.ne_of_lt (Nat.lt_of_lt_of_le (Heap.lt_size e) I.ok.above)
  have neC : ∀ b o, X.s₀.heap.get? b = some o → b ∉ X.ex → b ∉ ch := fun b o e hx hb => by
    rcases (hch b hb).1 with z | z
    · exact hx z
    · exact absurd (Nat.lt_of_lt_of_le (Heap.lt_size e) z) (Nat.lt_irrefl _)
  have cellK : ∀ x c, X.env.cells.lookup x = some c → ∀ v, s.heap.IsCell c v → h'.IsCell c v := fun x c e v ⟨o, ho, hd⟩ => by
    have nch : c ∉ ch := fun z => (hch c z).2.2.1 x c e rfl
    by_cases hc : c ∈ X.fs
    · obtain ⟨sl, q⟩ := slot c o (I.cne x c e) hc nch ho (I.freeC x c e)
      exact ⟨_, q, hd⟩
    · exact ⟨o, keep c o (I.cne x c e) hc nch ho (I.freeC x c e), hd⟩
  refine ⟨I.ok, I.os, hg, ⟨fun b o e n hb hx => ?_, fun b o e n hb hx => ?_, fun b o e n hx => ?_, fun b o e hx => ?_, fun b xs e => tups b xs (I.base.tups b xs e), fun b o xs e => frzs b o xs (I.base.frzs b o xs e), fun b ps e => ?_⟩, ?_, fun x c e => ?_, ?_, fun x c e => ?_, fun p hp => ?_, hok, I.len⟩
  · exact keep b o (neL b o e) hb (neC b o e hx) (I.base.keep b o e n hb hx) (I.base.free b o e n hx)
  · obtain ⟨sl, e1⟩ := I.base.slot b o e n hb hx
    obtain ⟨sl', e2⟩ := slot b _ (neL b o e) hb (neC b o e hx) e1 (I.base.free b o e n hx)
    exact ⟨sl', e2⟩
  · obtain ⟨o', e1⟩ := I.base.there b o e hx
    exact free b o' (neC b o e hx) e1 (I.base.free b o e n hx)
  · obtain ⟨o', e1⟩ := I.base.there b o e hx
    exact there b o' (neC b o e hx) e1
  · obtain ⟨m1, e1⟩ := I.base.tbls b ps e
    obtain ⟨m2, e2⟩ := tbls b _ e1
    exact ⟨m1 ++ m2, by rw [e2, Array.append_assoc]⟩
  · obtain ⟨m, hn, hl⟩ := I.loc
    refine ⟨m, ns m hn, fun i x v e1 e2 e3 => ?_⟩
    obtain ⟨u, r, l⟩ := hl i x v e1 e2 e3
    refine ⟨u, r, ?_⟩
    rcases l with l | ⟨k, c, e, z⟩
    · exact .inl l
    · exact .inr ⟨k, c, e, cellK x c e _ z⟩
  · obtain ⟨v, z⟩ := I.cell x c e
    exact ⟨v, cellK x c e v z⟩
  · obtain ⟨m, ⟨o, _, _, ho, _⟩, _⟩ := I.loc
    exact free _ o (fun z => (hch _ z).2.1 rfl) ho I.free
  · obtain ⟨v, o, ho, hd⟩ := I.cell x c e
    exact free c o (fun z => (hch c z).2.2.1 x c e rfl) ho (I.freeC x c e)
  · obtain ⟨e, n, ne, nf, d⟩ := I.pin p hp
    have nch : p.1 ∉ ch := fun z => (hch p.1 z).2.2.2 p hp rfl
    exact ⟨keep p.1 p.2 ne nf nch e n, free p.1 p.2 nch e n, ne, nf, d⟩
theorem Inv.un {t' : Nat} (I : Inv X pins σ H s) (u : Un X.fs [] H H' s.heap h') (hok : HOk X.prog X.w H' h') : Inv X pins σ H' { s with heap := h', toks := t' } := by
  obtain ⟨m, ⟨o, es, ep, ho, r⟩, _⟩ := id I.loc
  obtain ⟨sl, hL⟩ := u.any ho I.free (by simp)
  exact I.step (g' := s.gens) (d' := s.drawn) (ch := []) (fun _ z => nomatch z) (fun b o _ hb _ e n => u.keep b o e n hb (by simp)) (fun b o _ hb _ e n => u.slot b o e n hb (by simp)) (fun b o _ e n => u.free b o e n (by simp)) (fun b o _ e => u.there b o e (by simp)) u.tups u.frzs u.tbls (fun m' hm => by
    obtain ⟨o', es', ep', ho', r'⟩ := hm
    rw [ho] at ho'; cases ho'
    exact ⟨_, es', ep', hL, r'⟩) hok I.bare
theorem Inv.call {g' : Array GenState} {t' : Nat} {d' : Drawn} {ch : List Addr} (I : Inv X pins σ H s) (u : Un (frs X.stack) ch H H' s.heap h') (hok : HOk X.prog X.w H' h') (hg : AllBare g')
    (hch : ∀ b ∈ ch, (b ∈ X.ex ∨ X.s₀.heap.objs.size ≤ b) ∧ b ≠ X.env.locals ∧ (∀ x c, X.env.cells.lookup x = some c → c ≠ b) ∧ ∀ p ∈ X.pn ++ pins, p.1 ≠ b) :
    Inv X pins σ H' { s with heap := h', gens := g', drawn := d', toks := t' } := by
  obtain ⟨m, ⟨o, es, ep, ho, r⟩, _⟩ := id I.loc
  obtain ⟨sl, hL⟩ := u.any ho I.free fun z => (hch _ z).2.1 rfl
  exact I.step (ch := ch) hch (fun b o hL hb hc e n => u.keep b o e n (fun z => (List.mem_cons.mp (I.stkSub b z)).elim hL hb) hc) (fun b o _ _ hc e n => u.any e n hc) (fun b o hc e n => u.free b o e n hc) (fun b o hc e => u.there b o e hc) u.tups u.frzs u.tbls (fun m' hm => by
    obtain ⟨o', es', ep', ho', r'⟩ := hm
    rw [ho] at ho'; cases ho'
    exact ⟨_, es', ep', hL, r'⟩) hok hg
theorem Inv.turned {t' : Nat} {it : Addr} (I : Inv X pins σ H s) (k : ∀ b o, b ≠ it → s.heap.get? b = some o → h'.get? b = some o) (hn : H it = none) (hL : it ≠ X.env.locals)
    (h1 : it ∈ X.ex ∨ X.s₀.heap.objs.size ≤ it) (h2 : ∀ x c, X.env.cells.lookup x = some c → c ≠ it) (h3 : ∀ p ∈ X.pn ++ pins, p.1 ≠ it) : Inv X pins σ H { s with heap := h', toks := t' } := by
  have nit : ∀ b u, H b = some u → b ≠ it := fun b u e z => by rw [z, hn] at e; cases e
  refine I.step (g' := s.gens) (d' := s.drawn) (ch := [it]) (fun b hb => ?_) (fun b o _ _ hc e _ => k b o (fun z => hc (by simp [z])) e) (fun b o _ _ hc e _ => ⟨o.slots, k b o (fun z => hc (by simp [z])) e⟩) (fun _ _ _ _ n => n)
    (fun b o hc e => ⟨o, k b o (fun z => hc (by simp [z])) e⟩) (fun _ _ e => e) (fun _ _ _ e => e) (fun b ps e => ⟨#[], by rw [e]; simp⟩) (fun m hm => ?_) (fun b u e => ?_) I.bare
  · have e : b = it := by simpa using hb
    subst e
    exact ⟨h1, hL, h2, h3⟩
  · obtain ⟨o, es, ep, ho, r⟩ := hm
    exact ⟨o, es, ep, k _ o (Ne.symm hL) ho, r⟩
  · refine (I.hok b u e).stay (fun c v hc q => k c v ?_ q) (fun _ q => q) fun _ _ q => q
    rcases hc with z | z
    · rw [z]; exact nit b u e
    · exact nit c _ z
theorem Inv.tok (I : Inv X pins σ H s) (t : Nat) : Inv X pins σ H { s with toks := t } := I.un (h' := s.heap) (t' := t) Un.refl I.hok
theorem Inv.kept {t' : Nat} (I : Inv X pins σ H s) (k : ∀ b u, s.heap.get? b = some u → h'.get? b = some u) : Inv X pins σ H { s with heap := h', toks := t' } := I.un (Un.kept k) (I.hok.kept k)
theorem Inv.laid {a : Addr} {o : HO} {t' : Nat} (I : Inv X pins σ H s) (k : ∀ b u, s.heap.get? b = some u → h'.get? b = some u) (hp : s.heap.objs.size ≤ a) (new : ObjOk X.prog X.w (upd H a o) h' a o) :
    Inv X pins σ (upd H a o) { s with heap := h', toks := t' } := I.un (Un.laid k hp (I.hok.fresh hp)) (I.hok.laid k hp new)
theorem Inv.write {x e : Addr} {o : HO} {t' : Nat} (I : Inv X pins σ H s) (mu : Mut (H x)) (he : e = x ∨ H e = some (.own x)) (k : ∀ b u, b ≠ e → s.heap.get? b = some u → h'.get? b = some u) (heo : ∃ u, h'.get? e = some u)
    (new : ObjOk X.prog X.w (upd H x o) h' x o) : Inv X pins σ (upd H x o) { s with heap := h', toks := t' } := I.un (Un.write mu he k heo) (I.hok.write mu he k heo new)
theorem Inv.pins_of {pins' : List (Addr × Obj)} (I : Inv X pins σ H s) (h : ∀ p ∈ pins', s.heap.get? p.1 = some p.2 ∧ H p.1 = none ∧ p.1 ≠ X.env.locals ∧ p.1 ∉ X.fs ∧ ∀ v, p.2.data ≠ .cell v) : Inv X pins' σ H s :=
  ⟨I.ok, I.os, I.bare, I.base, I.loc, I.cell, I.free, I.freeC, fun p hp => (List.mem_append.mp hp).elim (fun z => I.pin p (List.mem_append_left _ z)) (h p), I.hok, I.len⟩
theorem nodup_ix {N : List Str} (hN : N.Nodup) {i j : Nat} {x : Str} (a : N[i]? = some x) (b : N[j]? = some x) : i = j := by
  obtain ⟨h1, e1⟩ := List.getElem?_eq_some_iff.mp a
  obtain ⟨h2, e2⟩ := List.getElem?_eq_some_iff.mp b
  exact (List.getElem_inj hN).mp (e1.trans e2.symm)
theorem store_ok2 {M : Model} {A : Around} {E : Value → Shared → Prop} {i : Nat} {x : Str} {v : V} {u : Value} {Q : Unit → Shared → Prop} (I : Inv X pins σ H s) (hN : X.N.Nodup) (hi : X.N[i]? = some x) (hx : Loc X.env.scope x) (r : RelV v u)
    (h : ∀ s', Inv X pins (σ.set i (some v)) H s' → (∃ a, Heap.SameBut a s.heap s'.heap ∧ (a = X.env.locals ∨ X.env.cells.lookup x = some a)) → Q () s') (hf : X.fn x = true ∨ X.env.scope.names.lookup x = some .local := by first | exact .inl rfl | exact .inr rfl | assumption) : wpAny M A (storeName X.env x u) Q E s := by
  obtain ⟨m, hn, hl⟩ := id I.loc
  have hcls : (X.env.scope.kind == .class || (X.env.scope.kind == .module && X.env.locals != X.env.globals)) = false := by rw [I.ok.kind]; rfl
  have hiσ : i < σ.length := by rw [I.len]; exact (List.getElem?_eq_some_iff.mp hi).1
  have cne := I.cne
  have tracked : ∀ {a : Addr} {h' : Heap}, (∃ o, s.heap.get? a = some o ∧ H a = none) → Heap.SameBut a s.heap h' → HOk X.prog X.w H h' := fun {a h'} ha hs b ob e => by
    obtain ⟨_, _, hfree⟩ := ha
    refine (I.hok b ob e).stay (fun c w' hc q => (hs.2 c ?_).trans q) (fun _ q => q) fun _ _ q => q
    rintro rfl
    rcases hc with rfl | hc
    · rw [hfree] at e; cases e
    · rw [hfree] at hc; cases hc
  rcases hx with hk | hk
  · refine wpAny_storeName_local hk hn (fun h' hn' hs => ?_) hcls
    obtain ⟨oL, _, _, hoL, _⟩ := id hn
    refine h _ ⟨I.ok, I.os, I.bare, ⟨fun b o e n hb hx => ?_, fun b o e n hb hx => ?_, I.base.free, fun b o e hx => ?_, I.base.tups, I.base.frzs, I.base.tbls⟩, ⟨_, hn', fun j y v' e1 e2 e3 => ?_⟩, fun y c e => ?_, I.free, I.freeC, fun p hp => ?_, tracked ⟨oL, hoL, I.free⟩ hs, by simpa using I.len⟩ ⟨_, hs, .inl rfl⟩
    · exact (hs.2 b (Nat.ne_of_lt (Nat.lt_of_lt_of_le (Heap.lt_size e) I.ok.above))).trans (I.base.keep b o e n hb hx)
    · obtain ⟨sl, e1⟩ := I.base.slot b o e n hb hx
      exact ⟨sl, (hs.2 b (Nat.ne_of_lt (Nat.lt_of_lt_of_le (Heap.lt_size e) I.ok.above))).trans e1⟩
    · obtain ⟨o', e1⟩ := I.base.there b o e hx
      exact ⟨o', (hs.2 b (Nat.ne_of_lt (Nat.lt_of_lt_of_le (Heap.lt_size e) I.ok.above))).trans e1⟩
    · by_cases hj : j = i
      · subst hj
        rw [hi] at e1; cases e1
        rw [List.getElem?_set_self hiσ] at e2
        cases e2
        exact ⟨u, r, .inl ⟨hk, by simp⟩⟩
      · rw [List.getElem?_set_ne (Ne.symm hj)] at e2
        obtain ⟨u', r', q⟩ := hl j y v' e1 e2 e3
        refine ⟨u', r', ?_⟩
        rcases q with ⟨k, e⟩ | ⟨k, c, e, z⟩
        · refine .inl ⟨k, ?_⟩
          have : y ≠ x := fun e => hj (nodup_ix hN e1 (e ▸ hi))
          simp [this, e]
        · exact .inr ⟨k, c, e, z.sameBut hs (cne y c e)⟩
    · obtain ⟨w', z⟩ := I.cell y c e
      exact ⟨w', z.sameBut hs (cne y c e)⟩
    · obtain ⟨e, n, ne, nf, d⟩ := I.pin p hp
      exact ⟨(hs.2 p.1 ne).trans e, n, ne, nf, d⟩
  · have hfn : X.fn x = true := by
      rcases hf with z | z
      · exact z
      · rw [z] at hk; cases hk
    obtain ⟨c, hc⟩ := I.ok.has x (.inl hk)
    obtain ⟨w', z⟩ := I.cell x c hc
    refine wpAny_storeName_cell I.ok.kind hk hc z (fun h' hc' hs => ?_)
    obtain ⟨oc, hoc, hocd⟩ := id z
    refine h { s with heap := h' } ⟨I.ok, I.os, I.bare, ⟨fun b o e n hb hx => ?_, fun b o e n hb hx => ?_, I.base.free, fun b o e hx => ?_, I.base.tups, I.base.frzs, I.base.tbls⟩, ⟨m, hn.sameBut hs (Ne.symm (cne x c hc)), fun j y v' e1 e2 e3 => ?_⟩, fun y c' e => ?_, I.free, I.freeC, fun p hp => ?_, tracked ⟨oc, hoc, I.freeC x c hc⟩ hs, by simpa using I.len⟩ ⟨c, hs, .inr hc⟩
    · exact (hs.2 b (Nat.ne_of_lt (Nat.lt_of_lt_of_le (Heap.lt_size e) (I.ok.cab x c hfn hc)))).trans (I.base.keep b o e n hb hx)
    · obtain ⟨sl, e1⟩ := I.base.slot b o e n hb hx
      exact ⟨sl, (hs.2 b (Nat.ne_of_lt (Nat.lt_of_lt_of_le (Heap.lt_size e) (I.ok.cab x c hfn hc)))).trans e1⟩
    · obtain ⟨o', e1⟩ := I.base.there b o e hx
      exact ⟨o', (hs.2 b (Nat.ne_of_lt (Nat.lt_of_lt_of_le (Heap.lt_size e) (I.ok.cab x c hfn hc)))).trans e1⟩
    · by_cases hj : j = i
      · subst hj
        rw [hi] at e1; cases e1
        rw [List.getElem?_set_self hiσ] at e2
        cases e2
        exact ⟨u, r, .inr ⟨.inl hk, c, hc, hc'⟩⟩
      · rw [List.getElem?_set_ne (Ne.symm hj)] at e2
        obtain ⟨u', r', q⟩ := hl j y v' e1 e2 e3
        refine ⟨u', r', ?_⟩
        rcases q with q | ⟨k, c', e, z'⟩
        · exact .inl q
        · refine .inr ⟨k, c', e, z'.sameBut hs ?_⟩
          rintro rfl
          exact hj (nodup_ix hN e1 (I.ok.inj _ _ _ e hc ▸ hi))
    · by_cases hcc : c' = c
      · subst hcc; exact ⟨_, hc'⟩
      · obtain ⟨w2, z2⟩ := I.cell y c' e
        exact ⟨w2, z2.sameBut hs hcc⟩
    · obtain ⟨e, n, ne, nf, d⟩ := I.pin p hp
      refine ⟨(hs.2 p.1 ?_).trans e, n, ne, nf, d⟩
      intro q
      rw [q, hoc] at e
      have q' : oc = p.2 := Option.some.inj e
      exact d w' (by rw [← q']; exact hocd)
theorem store_ok {M : Model} {A : Around} {E : Value → Shared → Prop} {i : Nat} {x : Str} {v : V} {u : Value} {Q : Unit → Shared → Prop} (I : Inv X pins σ H s) (hN : X.N.Nodup) (hi : X.N[i]? = some x) (hx : Loc X.env.scope x) (r : RelV v u)
    (h : ∀ s', Inv X pins (σ.set i (some v)) H s' → Q () s') (hf : X.fn x = true ∨ X.env.scope.names.lookup x = some .local := by first | exact .inl rfl | exact .inr rfl | assumption) : wpAny M A (storeName X.env x u) Q E s :=
  store_ok2 I hN hi hx r (fun s' I' _ => h s' I') hf
theorem Inv.call' {s' : Shared} {ch : List Addr} (I : Inv X pins σ H s) (ho : s'.os = s.os) (u : Un (frs X.stack) ch H H' s.heap s'.heap) (hok : HOk X.prog X.w H' s'.heap) (hg : AllBare s'.gens)
    (hch : ∀ b ∈ ch, (b ∈ X.ex ∨ X.s₀.heap.objs.size ≤ b) ∧ b ≠ X.env.locals ∧ (∀ x c, X.env.cells.lookup x = some c → c ≠ b) ∧ ∀ p ∈ X.pn ++ pins, p.1 ≠ b) : Inv X pins σ H' s' := by
  obtain ⟨h', g', d', t', o'⟩ := s'
  have e : o' = s.os := ho
  subst e
  exact I.call (g' := g') (t' := t') (d' := d') u hok hg hch
end
noncomputable abbrev XK := Value → Option Addr → Hp → Prop
noncomputable abbrev St := List (Option V)
noncomputable abbrev VK := V → Hp → Prop
noncomputable abbrev TE := St → Hp → VK → Prop
noncomputable abbrev TT := St → Hp → (Bool → Hp → Prop) → Prop
noncomputable abbrev TA := St → Hp → (List V → Hp → Prop) → Prop
structure Ends where
  nx : St → Hp → Prop
  rt : VK
  bk : St → Hp → Prop := fun _ _ => False
  ct : St → Hp → Prop := fun _ _ => False
noncomputable abbrev TS := Ends → St → Hp → Prop
noncomputable def EP (X : Cx) (pins : List (Addr × Obj)) (σ : St) (Q : VK) (u : Value) (s' : Shared) : Prop := ∃ v H', Inv X pins σ H' s' ∧ RelV v u ∧ Q v H'
noncomputable def TP (X : Cx) (pins : List (Addr × Obj)) (σ : St) (Q : Bool → Hp → Prop) (b : Bool) (s' : Shared) : Prop := ∃ H', Inv X pins σ H' s' ∧ Q b H'
noncomputable def AP (X : Cx) (pins : List (Addr × Obj)) (σ : St) (Q : List V → Hp → Prop) (us : List Value) (s' : Shared) : Prop := ∃ vs H', Inv X pins σ H' s' ∧ Vals vs us ∧ Q vs H'
noncomputable def SP (X : Cx) (pins : List (Addr × Obj)) (D : Ends) (f : Flow) (s' : Shared) : Prop :=
  match f with
  | .next => ∃ σ' H', Inv X pins σ' H' s' ∧ D.nx σ' H'
  | .brk => ∃ σ' H', Inv X pins σ' H' s' ∧ D.bk σ' H'
  | .cont => ∃ σ' H', Inv X pins σ' H' s' ∧ D.ct σ' H'
  | .ret u => ∃ v σ' H', Inv X pins σ' H' s' ∧ RelV v u ∧ D.rt v H'
noncomputable def PE (X : Cx) (e : Expr) (t : TE) : Prop :=
  ∀ (pins : List (Addr × Obj)) (s : Shared) (σ : St) (H : Hp) (Q : VK), Inv X pins σ H s → t σ H Q → wpAny (model X.prog X.w) X.A (eval e X.env) (EP X pins σ Q) X.xe s
noncomputable def PT (X : Cx) (e : Expr) (t : TT) : Prop :=
  ∀ (pins : List (Addr × Obj)) (s : Shared) (σ : St) (H : Hp) (Q : Bool → Hp → Prop), Inv X pins σ H s → t σ H Q → wpAny (model X.prog X.w) X.A (isTrue e X.env (eval e X.env)) (TP X pins σ Q) X.xe s
noncomputable def PW (X : Cx) (e : Expr) (t : TT) : Prop :=
  ∀ (whole : Sem Value) (pins : List (Addr × Obj)) (s : Shared) (σ : St) (H : Hp) (Q : Bool → Hp → Prop), Inv X pins σ H s → t σ H Q → wpAny (model X.prog X.w) X.A (isTrue e X.env whole) (TP X pins σ Q) X.xe s
theorem PW.pt {X : Cx} {e : Expr} {t : TT} (h : PW X e t) : PT X e t := h _
noncomputable def PA (X : Cx) (es : List Expr) (t : TA) : Prop :=
  ∀ (pos : Pos) (pins : List (Addr × Obj)) (s : Shared) (σ : St) (H : Hp) (Q : List V → Hp → Prop), Inv X pins σ H s → t σ H Q → wpAny (model X.prog X.w) X.A (spliced (backTo pos (starEach es X.env))) (AP X pins σ Q) X.xe s
noncomputable def PS (X : Cx) (st : Stmt) (t : TS) : Prop :=
  ∀ (pins : List (Addr × Obj)) (s : Shared) (σ : St) (H : Hp) (D : Ends), Inv X pins σ H s → t D σ H → wpAny (model X.prog X.w) X.A (exec st X.env) (SP X pins D) X.xe s
noncomputable def PSs (X : Cx) (st : List Stmt) (t : TS) : Prop :=
  ∀ (pins : List (Addr × Obj)) (s : Shared) (σ : St) (H : Hp) (D : Ends), Inv X pins σ H s → t D σ H → wpAny (model X.prog X.w) X.A (execs st X.env) (SP X pins D) X.xe s
theorem thn {α : Type} {t : Sem α} {Q Q' : α → Shared → Prop} {M : Model} {A : Around} {E : Value → Shared → Prop} {s : Shared} (h : wpAny M A t Q E s) (hQ : ∀ a s, Q a s → Q' a s) : wpAny M A t Q' E s := wpAny_mono h hQ fun _ _ x => x
end L2
namespace L2
open PySem PySem.Spec PyProof.Rows
section
variable {X : Cx}
noncomputable def tVar (i : Nat) : TE := fun σ H Q => ∃ v, σ[i]? = some (some v) ∧ Q v H
noncomputable def tC (v : V) : TE := fun _ H Q => Q v H
theorem pe_var {i : Nat} {x : Str} {pos : Pos} (hN : X.N[i]? = some x) (hv : Vis X.env.scope x) (hd : (x == ("__debug__" : Str)) = false := by decide) (hcd : (x == ("__classdict__" : Str)) = false := by decide) : PE X (.Name x pos) (tVar i) := by
  intro pins s σ H Q I h
  obtain ⟨v, e, h⟩ := h
  obtain ⟨m, hn, hl⟩ := I.loc
  obtain ⟨u, r, l⟩ := hl i x v hN e hv
  have fin : EP X pins σ Q u s := ⟨v, H, I, r, h⟩
  rcases l with ⟨hk, hm⟩ | ⟨hk, c, hc, hcell⟩
  · exact wpAny_Name (wpAny_loadName_local I.ok.kind hk hn hm fin) hd
  · rcases hk with hk | hk
    · exact wpAny_Name (wpAny_loadName_cell I.ok.kind hk hc hcell fin) hd
    · exact wpAny_Name (wpAny_loadName_free I.ok.kind hk hc hcell fin hcd) hd
theorem pe_int {i j pos} : PE X (.Constant (.int i) j pos) (tC (.int i)) := fun _ _ _ H _ I h => wpAny_Constant_int ⟨.int i, H, I.tok _, ⟨_, rfl⟩, h⟩
theorem pe_bl {b j pos} : PE X (.Constant (.bool b) j pos) (tC (.bl b)) := fun _ _ _ H _ I h => Constant_bool ⟨.bl b, H, I, rfl, h⟩
theorem pe_non {j pos} : PE X (.Constant .none j pos) (tC .non) := fun _ _ _ H _ I h => Constant_none ⟨.non, H, I, rfl, h⟩
theorem pe_str {x j pos} : PE X (.Constant (.str x) j pos) (tC (.str x)) := fun _ _ _ H _ I h => Calls.Constant_str ⟨.str x, H, I.tok _, ⟨_, rfl⟩, h⟩
noncomputable def Gl (X : Cx) (x : Str) : Prop := X.env.kindOf x = some .globalImplicit
theorem ld_glob {E : Value → Shared → Prop} {pins : List (Addr × Obj)} {s : Shared} {σ : St} {H : Hp} {x : Str} {u : Value} {pos : Pos} {Q : Value → Shared → Prop} (I : Inv X pins σ H s) (hg : Gl X x) (hm : X.mg x = some u) (h : Q u s)
    (hd : (x == ("__debug__" : Str)) = false := by decide) : wpAny (model X.prog X.w) X.A (eval (.Name x pos) X.env) Q E s :=
  Calls.Name_function_global I.ok.kind hg (Calls.loadGlobal_global (by rw [I.ok.glob]; exact I.mod.glob.keeps I.bk) hm h) hd
theorem ld_blt {E : Value → Shared → Prop} {pins : List (Addr × Obj)} {s : Shared} {σ : St} {H : Hp} {x : Str} {u : Value} {pos : Pos} {Q : Value → Shared → Prop} (I : Inv X pins σ H s) (hg : Gl X x) (hm : X.mg x = none) (hv : bootBuiltins x = some u) (h : Q u s)
    (hn : x ≠ "__name__" := by decide) (hd : (x == ("__debug__" : Str)) = false := by decide) : wpAny (model X.prog X.w) X.A (eval (.Name x pos) X.env) Q E s := by
  obtain ⟨mb, h1, h2⟩ := I.mod.blt
  exact Calls.Name_function_global I.ok.kind hg (Calls.loadGlobal_builtin (by rw [I.ok.glob]; exact I.mod.glob.keeps I.bk) hm (by rw [I.ok.blt]; exact h1.keeps I.bk) ((h2 x hn).trans hv) h) hd
theorem pe_glob {x : Str} {v : V} {u : Value} {pos : Pos} (hg : Gl X x) (hm : X.mg x = some u) (r : RelV v u) (hd : (x == ("__debug__" : Str)) = false := by decide) : PE X (.Name x pos) (tC v) :=
  fun _ _ _ H _ I h => ld_glob I hg hm ⟨v, H, I, r, h⟩ hd
theorem pe_bltn {x : Str} {v : V} {u : Value} {pos : Pos} (hg : Gl X x) (hm : X.mg x = none) (hv : bootBuiltins x = some u) (r : RelV v u) (hn : x ≠ "__name__" := by decide) (hd : (x == ("__debug__" : Str)) = false := by decide) : PE X (.Name x pos) (tC v) :=
  fun _ _ _ H _ I h => ld_blt I hg hm hv ⟨v, H, I, r, h⟩ hn hd
variable {a b : Expr} {ta tb : TE} {pos : Pos}
variable {tA tB' : TT} {rest : List Expr}
noncomputable def tAnd (t u : TT) : TT := fun σ H Q => t σ H fun c H1 => if c = true then u σ H1 Q else Q false H1
noncomputable def tOr (t u : TT) : TT := fun σ H Q => t σ H fun c H1 => if c = true then Q true H1 else u σ H1 Q
noncomputable def tNot (t : TT) : TT := fun σ H Q => t σ H fun c H1 => Q (!c) H1
theorem pw_and1 (ha : PT X a tA) : PW X (.BoolOp .And [a] pos) tA := by
  intro wh pins s σ H Q I h
  refine isTrue_and (thn (ha pins s σ H Q I h) fun c s1 e => ?_)
  cases c with
  | true => exact isTrue_and_nil e
  | false => exact e
theorem pw_or1 (ha : PT X a tA) : PW X (.BoolOp .Or [a] pos) tA := by
  intro wh pins s σ H Q I h
  refine isTrue_or (thn (ha pins s σ H Q I h) fun c s1 e => ?_)
  cases c with
  | false => exact isTrue_or_nil e
  | true => exact e
theorem pw_and (ha : PT X a tA) (hb : PW X (.BoolOp .And (b :: rest) pos) tB') : PW X (.BoolOp .And (a :: b :: rest) pos) (tAnd tA tB') := by
  intro wh pins s σ H Q I h
  refine isTrue_and (thn (ha pins s σ H _ I h) fun c s1 ⟨H1, I1, q1⟩ => ?_)
  cases c with
  | true => exact hb wh pins s1 σ H1 Q I1 q1
  | false => exact ⟨H1, I1, q1⟩
theorem pw_or (ha : PT X a tA) (hb : PW X (.BoolOp .Or (b :: rest) pos) tB') : PW X (.BoolOp .Or (a :: b :: rest) pos) (tOr tA tB') := by
  intro wh pins s σ H Q I h
  refine isTrue_or (thn (ha pins s σ H _ I h) fun c s1 ⟨H1, I1, q1⟩ => ?_)
  cases c with
  | true => exact ⟨H1, I1, q1⟩
  | false => exact hb wh pins s1 σ H1 Q I1 q1
theorem pt_not (ha : PT X a tA) : PT X (.UnaryOp .Not a pos) (tNot tA) := by
  intro pins s σ H Q I h
  exact isTrue_not (ha pins s σ H (fun c H1 => Q (!c) H1) I h)
noncomputable def tAndV (ta tb : TE) : TE := fun σ H Q => ta σ H fun x H1 => ∃ c, x = .bl c ∧ if c = true then tb σ H1 Q else Q (.bl false) H1
noncomputable def tNotV (ta : TE) : TE := fun σ H Q => ta σ H fun x H1 => ∃ c, x = .bl c ∧ Q (.bl (!c)) H1
theorem pe_one {op} {t : TE} (h : PE X a t) : PE X (.BoolOp op [a] pos) t := fun pins s σ H Q I hw => BoolOp_one (h pins s σ H Q I hw)
theorem pe_and (ha : PE X a ta) (hb : PE X (.BoolOp .And (b :: rest) pos) tb) : PE X (.BoolOp .And (a :: b :: rest) pos) (tAndV ta tb) := by
  intro pins s σ H Q I h
  refine BoolOp_and (thn (ha pins s σ H _ I h) fun v s1 ⟨x, H1, I1, r1, q1⟩ => ?_)
  obtain ⟨c, rfl, q1⟩ := q1
  cases r1
  refine wpAny_truthy_bool ?_
  cases c with
  | true => exact hb pins s1 σ H1 Q I1 q1
  | false => exact ⟨.bl false, H1, I1, rfl, q1⟩
theorem pe_not (ha : PE X a ta) : PE X (.UnaryOp .Not a pos) (tNotV ta) := by
  intro pins s σ H Q I h
  refine UnaryOp_ (thn (ha pins s σ H _ I h) fun v s1 ⟨x, H1, I1, r1, q1⟩ => ?_)
  obtain ⟨c, rfl, q1⟩ := q1
  cases r1
  exact not_of (wpAny_truthy_bool ⟨.bl (!c), H1, I1, rfl, q1⟩)
noncomputable def tIf (t : TT) (ta tb : TE) : TE := fun σ H Q => t σ H fun c H1 => if c = true then ta σ H1 Q else tb σ H1 Q
theorem pe_ifExp {c : Expr} (hc : PT X c tA) (ha : PE X a ta) (hb : PE X b tb) : PE X (.IfExp c a b pos) (tIf tA ta tb) := by
  intro pins s σ H Q I h
  refine wpAny_IfExp (thn (hc pins s σ H _ I h) fun d s1 ⟨H1, I1, q1⟩ => ?_)
  cases d with
  | true => exact ha pins s1 σ H1 Q I1 q1
  | false => exact hb pins s1 σ H1 Q I1 q1
end
end L2
namespace L2
open PySem PySem.Spec PyProof.Rows
noncomputable def SqL (K : PySem.W.Frag) (H : Hp) (a : Addr) (xs : List V) : Prop :=
  Rd H a (.lst xs) ∨
    ∃ (o : Obj) (its : Array Value) (n : Nat), K.lookup a = some o ∧ o.cls = .type "list" ∧ o.dict = none ∧ o.data = .seq its n ∧ its.size ≤ sizeLine ∧ Vals xs its.toList
noncomputable def SqT (K : PySem.W.Frag) (H : Hp) (a : Addr) (xs : List V) : Prop :=
  Rd H a (.tup xs) ∨
    ∃ (o : Obj) (its : Array Value) (n : Nat), K.lookup a = some o ∧ o.cls = .type "tuple" ∧ o.data = .seq its n ∧ its.size ≤ sizeLine ∧ Vals xs its.toList
noncomputable def absV : Value → Option V
  | .none => some .non
  | .bool b => some (.bl b)
  | .int i _ => some (.int i)
  | .str x _ => some (.str x)
  | .bytes b _ => some (.byt b)
  | .float b _ => some (.flt b)
  | .ref a => some (.ref a)
  | .type n => some (.ty n)
  | _ => none
theorem RelV.abs {x : V} {u : Value} (r : RelV x u) : absV u = some x := by
  cases x with
  | non => cases r; rfl
  | bl _ => cases r; rfl
  | int _ => obtain ⟨t, rfl⟩ := r; rfl
  | str _ => obtain ⟨t, rfl⟩ := r; rfl
  | byt _ => obtain ⟨t, rfl⟩ := r; rfl
  | flt _ => obtain ⟨t, rfl⟩ := r; rfl
  | ref _ => cases r; rfl
  | ty _ => cases r; rfl
theorem RelV.inj {x y : V} {u : Value} (r : RelV x u) (q : RelV y u) : x = y := Option.some.inj (r.abs.symm.trans q.abs)
theorem Vals.inj : ∀ {xs ys : List V} {us : List Value}, Vals xs us → Vals ys us → xs = ys
  | _, _, _, .nil, .nil => rfl
  | _, _, _, .cons r t, .cons r' t' => by rw [r.inj r', Vals.inj t t']
section
variable {X : Cx} {pins : List (Addr × Obj)} {σ : St} {H : Hp} {s : Shared} {a : Addr} {xs ys : List V}
theorem SqL.of {K : PySem.W.Frag} (h : H a = some (.lst xs)) : SqL K H a xs := .inl (.inl h)
theorem SqT.of {K : PySem.W.Frag} (h : H a = some (.tup xs)) : SqT K H a xs := .inl (.inl h)
theorem Inv.list (I : Inv X pins σ H s) (h : SqL X.K H a xs) : ∃ its : List Value, Vals xs its ∧ PlainL s.heap a its.toArray ∧ xs.length ≤ sizeLine := by
  rcases h with h | ⟨o, its, n, hk, hc, hd, hs, hz, r⟩
  · obtain ⟨z, its, n, r, e⟩ := h.ok I.hok
    exact ⟨its, r, ⟨_, n, e, rfl, rfl, rfl⟩, z⟩
  · refine ⟨its.toList, r, ⟨o, n, I.kIn a o hk, hc, hd, by simpa using hs⟩, ?_⟩
    have e := r.length
    simp only [Array.length_toList] at e
    omega
theorem Inv.tuple (I : Inv X pins σ H s) (h : SqT X.K H a xs) : ∃ its : List Value, Vals xs its ∧ IsTup s.heap a its.toArray ∧ xs.length ≤ sizeLine := by
  rcases h with h | ⟨o, its, n, hk, hc, hs, hz, r⟩
  · obtain ⟨z, its, r, p, _⟩ := h.ok I.hok
    exact ⟨its, r, p, z⟩
  · refine ⟨its.toList, r, ⟨o, I.kIn a o hk, hc, n, by simpa using hs⟩, ?_⟩
    have e := r.length
    simp only [Array.length_toList] at e
    omega
theorem Inv.list_inj (I : Inv X pins σ H s) (h : SqL X.K H a xs) (h' : SqL X.K H a ys) : xs = ys := by
  obtain ⟨its, r, ⟨o, n, e, _, _, d⟩, _⟩ := I.list h
  obtain ⟨its', r', ⟨o', n', e', _, _, d'⟩, _⟩ := I.list h'
  rw [e] at e'; cases e'
  rw [d] at d'
  injection d' with d1 _
  have : its = its' := by simpa using congrArg Array.toList d1
  subst this
  exact r.inj r'
theorem Inv.tuple_inj (I : Inv X pins σ H s) (h : SqT X.K H a xs) (h' : SqT X.K H a ys) : xs = ys := by
  obtain ⟨its, r, ⟨o, e, _, n, d⟩, _⟩ := I.tuple h
  obtain ⟨its', r', ⟨o', e', _, n', d'⟩, _⟩ := I.tuple h'
  rw [e] at e'; cases e'
  rw [d] at d'
  injection d' with d1 _
  have : its = its' := by simpa using congrArg Array.toList d1
  subst this
  exact r.inj r'
end
noncomputable abbrev Cx.wish (X : Cx) (E : Value → Shared → Prop) : Cx := { X with xe := E }
noncomputable abbrev Cx.nox (X : Cx) : Cx := X.wish fun _ _ => False
theorem Cx.Ok.wish {X : Cx} (ok : X.Ok) (E : Value → Shared → Prop) : (X.wish E).Ok :=
  ⟨ok.mod, ok.kind, ok.glob, ok.blt, ok.above, ok.inj, ok.has, ok.cab, ok.hd, ok.frames, ok.stk, ok.exf, ok.bs, ok.bsz, ok.noex, ok.exfs, ok.funs, ok.frf⟩
theorem Cx.Ok.unwish {X : Cx} {E : Value → Shared → Prop} (ok : (X.wish E).Ok) : X.Ok :=
  ⟨ok.mod, ok.kind, ok.glob, ok.blt, ok.above, ok.inj, ok.has, ok.cab, ok.hd, ok.frames, ok.stk, ok.exf, ok.bs, ok.bsz, ok.noex, ok.exfs, ok.funs, ok.frf⟩
section
variable {X : Cx} {pins : List (Addr × Obj)} {σ : St} {H : Hp} {s : Shared} {E : Value → Shared → Prop}
theorem Inv.wish (I : Inv X pins σ H s) (E : Value → Shared → Prop) : Inv (X.wish E) pins σ H s := ⟨I.ok.wish E, I.os, I.bare, I.base, I.loc, I.cell, I.free, I.freeC, I.pin, I.hok, I.len⟩
theorem Inv.unwish (I : Inv (X.wish E) pins σ H s) : Inv X pins σ H s := ⟨I.ok.unwish, I.os, I.bare, I.base, I.loc, I.cell, I.free, I.freeC, I.pin, I.hok, I.len⟩
theorem SP.unwish {D : Ends} {f : Flow} {s' : Shared} (h : SP (X.wish E) pins D f s') : SP X pins D f s' := by
  cases f with
  | next => obtain ⟨σ', H', I, q⟩ := h; exact ⟨σ', H', I.unwish, q⟩
  | brk => obtain ⟨σ', H', I, q⟩ := h; exact ⟨σ', H', I.unwish, q⟩
  | cont => obtain ⟨σ', H', I, q⟩ := h; exact ⟨σ', H', I.unwish, q⟩
  | ret u => obtain ⟨v, σ', H', I, r, q⟩ := h; exact ⟨v, σ', H', I.unwish, r, q⟩
theorem PSs.nox {st : List Stmt} {t : TS} (h : PSs X.nox st t) : PSs X st t := fun pins s σ H D I hw =>
  wpAny_mono (h pins s σ H D (I.wish _) hw) (fun _ _ q => q.unwish) fun _ _ z => False.elim z
end
section
variable {X : Cx} {st : Stmt} {rest : List Stmt} {t u : TS} {e : Expr} {te : TE} {pos : Pos}
noncomputable def tNext : TS := fun D σ H => D.nx σ H
noncomputable def tSeq (t u : TS) : TS := fun D σ H => t { D with nx := u D } σ H
theorem pss_nil : PSs X [] tNext := fun _ _ σ H _ I h => wpAny_execs_nil ⟨σ, H, I, h⟩
theorem pss_cons (h1 : PS X st t) (h2 : PSs X rest u) : PSs X (st :: rest) (tSeq t u) := by
  intro pins s σ H D I h
  refine wpAny_execs_cons (thn (h1 pins s σ H { D with nx := u D } I h) fun f s1 q => ?_)
  cases f with
  | next =>
    obtain ⟨σ', H', I', q⟩ := q
    exact h2 pins s1 σ' H' D I' q
  | ret v => exact q
  | brk => exact q
  | cont => exact q
theorem pss_one (h1 : PS X st t) : PSs X [st] t := by
  intro pins s σ H D I h
  refine wpAny_execs_cons (thn (h1 pins s σ H D I h) fun f s1 q => ?_)
  cases f with
  | next => exact wpAny_execs_nil q
  | ret v => exact q
  | brk => exact q
  | cont => exact q
theorem Inv.quiet {pins : List (Addr × Obj)} {σ : St} {H : Hp} {s : Shared} (I : Inv X pins σ H s) : interactive X.env = false := by simp [interactive, I.ok.kind]
noncomputable def tDrop (te : TE) : TS := fun D σ H => te σ H fun _ H1 => D.nx σ H1
theorem ps_expr (he : PE X e te) (hs : swapsWith e none pos.line X.env = pure false := by rfl) : PS X (.Expr e pos) (tDrop te) := by
  intro pins s σ H D I h
  exact wpAny_Expr_any (thn (he pins s σ H _ I h) fun v s1 ⟨x, H1, I1, r1, q1⟩ => ⟨σ, H1, I1, q1⟩) I.quiet hs
noncomputable def tRet (te : TE) : TS := fun D σ H => te σ H D.rt
theorem ps_ret (he : PE X e te) : PS X (.Return (some e) pos) (tRet te) := by
  intro pins s σ H D I h
  exact wpAny_Return_some (thn (he pins s σ H _ I h) fun v s1 ⟨x, H1, I1, r1, q1⟩ => ⟨x, σ, H1, I1, r1, q1⟩)
noncomputable def tIfS (c : TT) (t u : TS) : TS := fun D σ H => c σ H fun b H1 => if b = true then t D σ H1 else u D σ H1
theorem ps_if {c : Expr} {a b : List Stmt} {tc : TT} (hc : PT X c tc) (ha : PSs X a t) (hb : PSs X b u) : PS X (.If c a b pos) (tIfS tc t u) := by
  intro pins s σ H D I h
  refine wpAny_If (thn (hc pins s σ H _ I h) fun d s1 ⟨H1, I1, q1⟩ => ?_)
  cases d with
  | true => exact ha pins s1 σ H1 D I1 q1
  | false => exact hb pins s1 σ H1 D I1 q1
noncomputable def tNever : TS := fun _ _ _ => False
theorem ps_never : PS X st tNever := fun _ _ _ _ _ _ h => h.elim
end
noncomputable abbrev TG := V → St → Hp → (St → Hp → Prop) → Prop
noncomputable abbrev TGs := List V → St → Hp → (St → Hp → Prop) → Prop
noncomputable def PG (X : Cx) (target : Expr) (t : TG) : Prop :=
  ∀ (pins : List (Addr × Obj)) (s : Shared) (σ : St) (H : Hp) (v : V) (u : Value) (Q : St → Hp → Prop), Inv X pins σ H s → RelV v u → t v σ H Q →
    wpAny (model X.prog X.w) X.A (assign target X.env u) (fun _ s' => ∃ σ' H', Inv X pins σ' H' s' ∧ Q σ' H') X.xe s
noncomputable def PGs (X : Cx) (ts : List Expr) (t : TGs) : Prop :=
  ∀ (pins : List (Addr × Obj)) (s : Shared) (σ : St) (H : Hp) (vs : List V) (us : List Value) (Q : St → Hp → Prop), Inv X pins σ H s → Vals vs us → t vs σ H Q →
    wpAny (model X.prog X.w) X.A (assignInOrder ((assignEach ts X.env).map (·.2)) us) (fun _ s' => ∃ σ' H', Inv X pins σ' H' s' ∧ Q σ' H') X.xe s
noncomputable abbrev TSet := V → V → V → Hp → (Hp → Prop) → Prop
noncomputable def PSet (X : Cx) (t : TSet) : Prop :=
  ∀ (pins : List (Addr × Obj)) (s : Shared) (σ : St) (H : Hp) (o i v : V) (ov iv u : Value) (Q : Hp → Prop), Inv X pins σ H s → RelV o ov → RelV i iv → RelV v u → t o i v H Q →
    wpAny (model X.prog X.w) X.A (setItem ov iv u) (fun _ s' => ∃ H', Inv X pins σ H' s' ∧ Q H') X.xe s
section
variable {X : Cx} {pos : Pos}
noncomputable def gName (i : Nat) : TG := fun v σ H Q => Q (σ.set i (some v)) H
theorem pg_name {i : Nat} {x : Str} (hN : X.N.Nodup) (hi : X.N[i]? = some x) (hx : Loc X.env.scope x) (hf : X.fn x = true ∨ X.env.scope.names.lookup x = some .local := by first | exact .inl rfl | exact .inr rfl | assumption) : PG X (.Name x pos) (gName i) := by
  intro pins s σ H v u Q I r h
  exact wpAny_assign_Name (store_ok I hN hi hx r (fun s' I' => ⟨_, H, I', h⟩) hf)
noncomputable def gNil : TGs := fun vs σ H Q => vs = [] ∧ Q σ H
noncomputable def gCons (t : TG) (u : TGs) : TGs := fun vs σ H Q => ∃ v r, vs = v :: r ∧ t v σ H fun σ' H' => u r σ' H' Q
theorem pgs_nil : PGs X [] gNil := by
  intro pins s σ H vs us Q I r h
  obtain ⟨e, h⟩ := h
  subst e
  cases r
  exact assignInOrder_nil ⟨σ, H, I, h⟩
theorem pgs_cons {e : Expr} {es : List Expr} {t : TG} {u : TGs} (h1 : PG X e t) (h2 : PGs X es u)
    (hs : (assignEach (e :: es) X.env).map (·.2) = assign e X.env :: (assignEach es X.env).map (·.2) := by rfl) : PGs X (e :: es) (gCons t u) := by
  intro pins s σ H vs us Q I r h
  obtain ⟨v, vr, e1, h⟩ := h
  subst e1
  cases r with
  | cons r rr =>
    rw [hs]
    refine assignInOrder_cons (thn (h1 pins s σ H _ _ _ I r h) fun _ s1 ⟨σ1, H1, I1, q1⟩ => ?_)
    exact h2 pins s1 σ1 H1 _ _ Q I1 rr q1
noncomputable def gTup (K : PySem.W.Frag) (n : Nat) (t : TGs) : TG := fun v σ H Q => ∃ a xs, v = .ref a ∧ SqT K H a xs ∧ xs.length = n ∧ t xs σ H Q
theorem pg_tup {es : List Expr} {k : Nat} {t : TGs} {n : Nat} (hc : X.calm = true) (h : PGs X es t)
    (hn : (assignEach es X.env).length = n := by rfl) (hst : (assignEach es X.env).findIdx? (·.1) = none := by rfl) : PG X (.Tuple es k pos) (gTup X.K n t) := by
  intro pins s σ H v u Q I r hw
  obtain ⟨a, xs, e1, hq, hl, hw⟩ := hw
  subst e1
  cases r
  obtain ⟨its, rv, ht, hz⟩ := I.tuple hq
  refine assign_Tuple_tuple (I.ok.hd hc) ht (by simp [hn, ← hl, rv.length]) hst fun h' hx => ?_
  have I1 : Inv X pins σ H { s with heap := h' } := I.kept (t' := s.toks) fun b o e => hx b o (Nat.ne_of_lt (Heap.lt_size e)) e
  exact h pins _ σ H xs _ Q I1 (by simpa using rv) hw
noncomputable def gSub (to ti : TE) (t : TSet) : TG := fun v σ H Q => to σ H fun o H1 => ti σ H1 fun i H2 => t o i v H2 fun H3 => Q σ H3
theorem pg_sub {o i : Expr} {to ti : TE} {t : TSet} (ho : PE X o to) (hi : PE X i ti) (hs : PSet X t)
    (ha : ∀ v, assign (.Subscript o i pos) X.env v = (do
      let ov ← holding [v] (eval o X.env)
      let iv ← holding [v, ov] (eval i X.env)
      standAt pos
      holding [v, ov, iv] (setItem ov iv v)
      release [v, ov, iv] []) := by intro _; rfl) : PG X (.Subscript o i pos) (gSub to ti t) := by
  intro pins s σ H v u Q I r h
  rw [ha]
  refine wpAny_bind (wpAny_holding (thn (ho pins s σ H _ I h) fun ov s1 ⟨x, H1, I1, r1, q1⟩ => ?_))
  refine wpAny_bind (wpAny_holding (thn (hi pins s1 σ H1 _ I1 q1) fun iv s2 ⟨y, H2, I2, r2, q2⟩ => ?_))
  refine wpAny_bind (wpAny_standAt (wpAny_bind (wpAny_holding (thn (hs pins s2 σ H2 x y v ov iv u _ I2 r1 r2 r q2) fun _ s3 ⟨H3, I3, q3⟩ => ?_))))
  exact wpAny_release ⟨σ, H3, I3, q3⟩
noncomputable def tAsg (te : TE) (g : TG) : TS := fun D σ H => te σ H fun x H1 => g x σ H1 D.nx
theorem ps_asg {tg e : Expr} {te : TE} {g : TG} (he : PE X e te) (hg : PG X tg g) (hs : swapsWithSole [tg] e pos.line X.env = pure false := by rfl) (hw : swappedStores [tg] e X.env = pure none := by rfl)
    (h1 : (assignEach [tg] X.env).map (·.2) = [assign tg X.env] := by rfl) : PS X (.Assign [tg] e pos) (tAsg te g) := by
  intro pins s σ H D I h
  refine wpAny_Assign_stores (thn (he pins s σ H _ I h) fun v s1 ⟨x, H1, I1, r1, q1⟩ => ?_) hs hw
  rw [h1]
  exact thn (hg pins s1 σ H1 x v _ I1 r1 q1) fun _ s2 q => q
theorem ps_set {i : Nat} {x : Str} {e : Expr} {te : TE} {pos' : Pos} (hN : X.N.Nodup) (hi : X.N[i]? = some x) (hx : Loc X.env.scope x) (he : PE X e te) (hs : swapsWith e (some (.Name x pos')) pos.line X.env = pure false := by rfl) (hf : X.fn x = true ∨ X.env.scope.names.lookup x = some .local := by first | exact .inl rfl | exact .inr rfl | assumption) :
    PS X (.Assign [.Name x pos'] e pos) (tAsg te (gName i)) := by
  intro pins s σ H D I h
  refine wpAny_Assign_Name (thn (he pins s σ H _ I h) fun v s1 ⟨y, H1, I1, r1, q1⟩ => ?_) hs
  exact store_ok I1 hN hi hx r1 (fun s2 I2 => ⟨_, H1, I2, q1⟩) hf
noncomputable def tPar (i j : Nat) (ta : TA) : TS := fun D σ H => ta σ H fun vs H1 => ∃ v w, vs = [v, w] ∧ D.nx ((σ.set i (some v)).set j (some w)) H1
theorem ps_par {i j : Nat} {x y : Str} {a b : Expr} {ta : TA} {px py pt : Pos} {kt k2 pt2} (hc : X.calm = true) (hN : X.N.Nodup) (hi : X.N[i]? = some x) (hj : X.N[j]? = some y) (hij : i ≠ j)
    (hx : X.env.scope.names.lookup x = some .local) (hy : X.env.scope.names.lookup y = some .local) (ha : PA X [a, b] ta)
    (hw : swappedStores [.Tuple [.Name x px, .Name y py] kt pt] (.Tuple [a, b] k2 pt2) X.env = pure (some [x, y]))
    (hs : swapsWithSole [.Tuple [.Name x px, .Name y py] kt pt] (.Tuple [a, b] k2 pt2) pos.line X.env = pure false := by rfl) :
    PS X (.Assign [.Tuple [.Name x px, .Name y py] kt pt] (.Tuple [a, b] k2 pt2) pos) (tPar i j ta) := by
  intro pins s σ H D I h
  rw [exec_Assign_arm]
  refine wpAny_bind (wpAny_standAt ?_)
  rw [hs]
  refine wpAny_bind (wpAny_pure ?_)
  rw [if_neg (by decide)]
  refine wpAny_bind (Tuple_ (thn (ha _ pins s σ H _ I h) fun us s1 ⟨vs, H1, I1, r1, q1⟩ => ?_))
  obtain ⟨v, w, e1, q1⟩ := q1
  subst e1
  obtain ⟨u1, u2, rfl, rv, rw'⟩ : ∃ u1 u2, us = [u1, u2] ∧ RelV v u1 ∧ RelV w u2 := by
    cases r1 with
    | cons p q =>
      cases q with
      | cons p' q' =>
        cases q'
        exact ⟨_, _, rfl, p, p'⟩
  refine wpAny_newObj_type ?_ (by show 2 ≤ sizeLine; decide)
  have I2 : Inv X pins σ H1 { s1 with heap := s1.heap.push { cls := .type "tuple", data := .seq [u1, u2].toArray } } := I1.kept (t' := s1.toks) fun b o e => Heap.get?_push_of_some _ e
  rw [hw]
  refine wpAny_bind (wpAny_pure ?_)
  show wpAny (model X.prog X.w) X.A (do rule "assign.swapped-stores"; let items ← unpackItems (.ref s1.heap.objs.size) 2 none; assignInOrder [fun v => bindName X.env y v, fun v => bindName X.env x v] items.reverse; pure Flow.next) _ _ _
  refine wpAny_bind (wpAny_rule (wpAny_bind (unpackItems_tuple (items := #[u1, u2]) (I.ok.hd hc) (IsTup.new s1.heap _) fun h' hx' => ?_)))
  have I3 := I2.kept (h' := h') (t' := s1.toks) fun b o e => hx' b o (Nat.ne_of_lt (Heap.lt_size e)) e
  show wpAny _ _ (assignInOrder [fun v => bindName X.env y v, fun v => bindName X.env x v] [u2, u1] >>= fun _ => pure Flow.next) _ _ _
  refine wpAny_bind (assignInOrder_cons (wpAny_bindName (store_ok I3 hN hj (.inl hy) rw' (fun s2 I4 => ?_) (.inr hy))))
  refine assignInOrder_cons (wpAny_bindName (store_ok I4 hN hi (.inl hx) rv (fun s3 I5 => assignInOrder_nil (wpAny_pure ?_)) (.inr hx)))
  rw [List.set_comm _ _ (Ne.symm hij)] at I5
  exact ⟨_, H1, I5, q1⟩
end
section
variable {X : Cx} {pos : Pos}
noncomputable def tWhile (c : TT) (tb : TS) : TS := fun D σ H => ∃ W : Nat → St → Hp → Prop, (∃ m, W m σ H) ∧ ∀ m σ H, W m σ H →
  c σ H fun b H1 => if b = true then ∃ N : St → Hp → Prop, (∀ σ' H', N σ' H' → ∃ m', m' < m ∧ W m' σ' H') ∧ tb { D with nx := N, ct := N, bk := D.nx } σ H1 else D.nx σ H1
theorem ps_while {c : Expr} {body : List Stmt} {tc : TT} {tb : TS} (hp : PassesOwn (model X.prog X.w) X.A X.env X.xe) (hc : PT X c tc) (hb : PSs X body tb) : PS X (.While c body [] pos) (tWhile tc tb) := by
  intro pins s σ H D I h
  obtain ⟨W, ⟨m0, w0⟩, turn⟩ := h
  refine wpAny_While (codeAny_whileLoop (fun n s' => ∃ σ' H', Inv X pins σ' H' s' ∧ W n σ' H') ?_ m0 ⟨σ, H, I, w0⟩)
  rintro n s1 ⟨σ1, H1, I1, w1⟩
  refine wpAny_passesOwn hp (thn (hc pins s1 σ1 H1 _ I1 (turn n σ1 H1 w1)) fun b s2 ⟨H2, I2, q2⟩ => ?_)
  cases b with
  | true =>
    obtain ⟨N, hN, q2⟩ := q2
    rw [if_pos rfl]
    refine wpAny_passesOwn hp (thn (hb pins s2 σ1 H2 _ I2 q2) fun f s3 q3 => ?_)
    cases f with
    | next =>
      obtain ⟨σ3, H3, I3, n3⟩ := q3
      obtain ⟨m', hm, w3⟩ := hN σ3 H3 n3
      exact ⟨m', hm, σ3, H3, I3, w3⟩
    | cont =>
      obtain ⟨σ3, H3, I3, n3⟩ := q3
      obtain ⟨m', hm, w3⟩ := hN σ3 H3 n3
      exact ⟨m', hm, σ3, H3, I3, w3⟩
    | brk => exact q3
    | ret v => exact q3
  | false =>
    rw [if_neg Bool.false_ne_true]
    exact wpAny_execs_nil ⟨σ1, H2, I2, q2⟩
end
structure It where
  go : Nat → Hp → Prop
  yld : Nat → Hp → V → Hp → Prop
  stop : Nat → Hp → Prop
noncomputable def FpOk (X : Cx) (pins : List (Addr × Obj)) (H : Hp) (b : Addr) : Prop :=
  H b = none ∧ b ≠ X.env.locals ∧ b ∉ X.fs ∧ (b ∈ X.ex ∨ X.s₀.heap.objs.size ≤ b) ∧ (∀ x c, X.env.cells.lookup x = some c → c ≠ b) ∧ ∀ p ∈ X.pn ++ pins, p.1 ≠ b
theorem Inv.fpOk {X : Cx} {pins : List (Addr × Obj)} {σ : St} {H H' : Hp} {s : Shared} {b : Addr} (I : Inv X pins σ H s) (hb : s.heap.objs.size ≤ b) (hn : H' b = none) : FpOk X pins H' b := by
  refine ⟨hn, Nat.ne_of_gt (Nat.lt_of_lt_of_le I.lt hb), I.nofs hb, .inr (Nat.le_trans I.sz hb), fun x c e z => ?_, fun p hp z => ?_⟩
  · obtain ⟨v, q⟩ := I.cell x c e
    exact absurd (Nat.lt_of_lt_of_le q.lt (by rw [z]; exact hb)) (Nat.lt_irrefl _)
  · exact absurd (Nat.lt_of_lt_of_le (Heap.lt_size (I.pin p hp).1) (by rw [z]; exact hb)) (Nat.lt_irrefl _)
structure Turn (P : Program) (w : World) (K : PySem.W.Frag) (tg : Expr) (J : It) (fp : List Addr) (it : Addr) (tn : Nat → Heap → Prop) : Prop where
  mem : it ∈ fp
  obj : ∀ i h, tn i h → ∀ b ∈ fp, ∃ o, h.get? b = some o ∧ ∀ v, o.data ≠ .cell v
  keep : ∀ i h h', tn i h → (∀ b ∈ fp, ∀ o, h.get? b = some o → h'.get? b = some o) → tn i h'
  item : ∀ (X : Cx), X.prog = P → X.w = w → X.K = K → X.calm = true → ∀ (i : Nat) (pins : List (Addr × Obj)) (s : Shared) (σ : St) (H : Hp) (E : Value → Shared → Prop), Inv X pins σ H s → (∀ b ∈ fp, FpOk X pins H b) → tn i s.heap → J.go i H →
    wpAny (model P w) X.A (pyNext (.ref it)) (fun r s1 => ∃ u, r = some u ∧
      wpAny (model P w) X.A (letOwnedTupleGo tg (.ref it) u) (fun _ s2 => ∃ x H', Inv X pins σ H' s2 ∧ RelV x u ∧ J.yld i H x H' ∧ tn (i + 1) s2.heap ∧ ∀ b ∈ fp, H' b = none) E s1) E s
  done : ∀ (X : Cx), X.prog = P → X.w = w → X.K = K → X.calm = true → ∀ (i : Nat) (pins : List (Addr × Obj)) (s : Shared) (σ : St) (H : Hp) (E : Value → Shared → Prop), Inv X pins σ H s → (∀ b ∈ fp, FpOk X pins H b) → tn i s.heap → J.stop i H →
    wpAny (model P w) X.A (pyNext (.ref it)) (fun r s1 => r = none ∧ Inv X pins σ H s1) E s
  self : ∀ (A : Around) (i : Nat) (s : Shared) (Q : Value → Shared → Prop) (E : Value → Shared → Prop), tn i s.heap → Q (.ref it) s → wpAny (model P w) A (pyIter (.ref it)) Q E s
noncomputable abbrev TI := St → Hp → (It → Hp → Prop) → Prop
noncomputable def PIE (X : Cx) (pins : List (Addr × Obj)) (σ : St) (tg : Expr) (R : It → Hp → Prop) (itv : Value) (s2 : Shared) : Prop :=
  ∃ (it : Addr) (fp : List Addr) (tn : Nat → Heap → Prop) (J : It) (H' : Hp), itv = .ref it ∧ Inv X pins σ H' s2 ∧ Turn X.prog X.w X.K tg J fp it tn ∧ tn 0 s2.heap ∧ (∀ b ∈ fp, FpOk X pins H' b) ∧ R J H'
noncomputable def PI (X : Cx) (tg iter : Expr) (wi : TI) : Prop :=
  ∀ (pins : List (Addr × Obj)) (s : Shared) (σ : St) (H : Hp) (R : It → Hp → Prop), Inv X pins σ H s → wi σ H R →
    wpAny (model X.prog X.w) X.A (eval iter X.env) (fun v s1 => wpAny (model X.prog X.w) X.A (pyIter v) (PIE X pins σ tg R) X.xe s1) X.xe s
theorem go_of {M : Model} {A : Around} {E : Value → Shared → Prop} {s : Shared} {tg : Expr} {it : Addr} {u : Value} {o : Obj} {n : String} {vs : Array Value} {Q : Unit → Shared → Prop} (ho : s.heap.get? it = some o) (hc : o.cls = .type n) (hd : o.data = .fields vs)
    (hn : ["enumerate", "zip", "dict_itemiterator", "dict_reverseitemiterator", "odict_iterator", "itertools.zip_longest", "itertools.pairwise"].contains n = false) (hQ : Q () s) : wpAny M A (letOwnedTupleGo tg (.ref it) u) Q E s := by
  unfold letOwnedTupleGo
  cases tg <;> first
    | exact wpAny_pure hQ
    | (cases u <;> first
        | exact wpAny_pure hQ
        | (refine wpAny_bind (wpAny_load ho ?_)
           rw [hc, hd]
           show wpAny M A (if (["enumerate", "zip", "dict_itemiterator", "dict_reverseitemiterator", "odict_iterator", "itertools.zip_longest", "itertools.pairwise"].contains n && vs[0]? == some (rawInt _)) = true then _ else _) Q E s
           rw [if_neg (by intro h; rw [hn, Bool.false_and] at h; cases h)]
           exact wpAny_pure hQ))
noncomputable def Itl (K : PySem.W.Frag) (a : Addr) : It :=
  ⟨fun i H => ∃ xs x, SqL K H a xs ∧ xs[i]? = some x, fun i H x H' => H' = H ∧ ∀ xs, SqL K H a xs → xs[i]? = some x, fun i H => ∃ xs, SqL K H a xs ∧ xs.length ≤ i⟩
noncomputable def Itt (K : PySem.W.Frag) (a : Addr) : It :=
  ⟨fun i H => ∃ xs x, SqT K H a xs ∧ xs[i]? = some x, fun i H x H' => H' = H ∧ ∀ xs, SqT K H a xs → xs[i]? = some x, fun i H => ∃ xs, SqT K H a xs ∧ xs.length ≤ i⟩
noncomputable def Itr (lo : Int) (n : Nat) : It := ⟨fun i _ => i < n, fun i H x H' => H' = H ∧ x = .int (lo + i), fun i _ => n ≤ i⟩
theorem turn_list {P : Program} {w : World} {K : PySem.W.Frag} {tg : Expr} (a it : Addr) : Turn P w K tg (Itl K a) [it] it (fun i h => h.IsListIter it a i) where
  mem := by simp
  obj := fun i h st b hb => by
    have e : b = it := by simpa using hb
    subst e
    obtain ⟨o, e, c, d⟩ := st
    exact ⟨o, e, fun v z => by rw [d] at z; cases z⟩
  keep := fun i h h' st k => st.at fun o e => k it (by simp) o e
  item := by
    intro X hP hw hK hc i pins s σ H E I hf st hg
    subst hP hw hK
    obtain ⟨xs, x, hq, hx⟩ := hg
    obtain ⟨its, rv, p, hz⟩ := I.list hq
    obtain ⟨u, hu, ru⟩ := rv.get hx
    obtain ⟨f0, f1, f2, f3, f4, f5⟩ := hf it (by simp)
    refine wpAny_pyNext_list_item st p.isList (x := u) (by simpa using hu) fun h' st' sb => ?_
    have I1 : Inv X pins σ H { s with heap := h' } := I.turned (t' := s.toks) (fun b o hb e => (sb.2 b hb).trans e) f0 f1 f3 f4 f5
    obtain ⟨o, e, c, d⟩ := id st'
    exact ⟨u, rfl, go_of (s := { s with heap := h' }) e c d (by decide) ⟨x, H, I1, ru, ⟨rfl, fun ys hy => by rw [I.list_inj hy hq]; exact hx⟩, st', fun b hb => (hf b hb).1⟩⟩
  done := by
    intro X hP hw hK hc i pins s σ H E I hf st hg
    subst hP hw hK
    obtain ⟨xs, hq, hx⟩ := hg
    obtain ⟨its, rv, p, hz⟩ := I.list hq
    obtain ⟨f0, f1, f2, f3, f4, f5⟩ := hf it (by simp)
    have hl := rv.length
    exact wpAny_pyNext_list_end (I.ok.hd hc) st p.isList (by simp; omega) fun h' eb => ⟨rfl, I.turned (t' := s.toks) (fun b o hb e => eb b o hb e) f0 f1 f3 f4 f5⟩
  self := fun _ _ _ _ _ st h => wpAny_pyIter_listiter st h
theorem turn_tuple {P : Program} {w : World} {K : PySem.W.Frag} {tg : Expr} (a it : Addr) : Turn P w K tg (Itt K a) [it] it (fun i h => h.IsTupleIter it a i) where
  mem := by simp
  obj := fun i h st b hb => by
    have e : b = it := by simpa using hb
    subst e
    obtain ⟨o, e, c, d⟩ := st
    exact ⟨o, e, fun v z => by rw [d] at z; cases z⟩
  keep := fun i h h' st k => st.at fun o e => k it (by simp) o e
  item := by
    intro X hP hw hK hc i pins s σ H E I hf st hg
    subst hP hw hK
    obtain ⟨xs, x, hq, hx⟩ := hg
    obtain ⟨its, rv, p, hz⟩ := I.tuple hq
    obtain ⟨u, hu, ru⟩ := rv.get hx
    obtain ⟨f0, f1, f2, f3, f4, f5⟩ := hf it (by simp)
    refine wpAny_pyNext_tuple_item st (show s.heap.IsTuple a its.toArray from p) (x := u) (by simpa using hu) fun h' st' sb => ?_
    have I1 : Inv X pins σ H { s with heap := h' } := I.turned (t' := s.toks) (fun b o hb e => (sb.2 b hb).trans e) f0 f1 f3 f4 f5
    obtain ⟨o, e, c, d⟩ := id st'
    exact ⟨u, rfl, go_of (s := { s with heap := h' }) e c d (by decide) ⟨x, H, I1, ru, ⟨rfl, fun ys hy => by rw [I.tuple_inj hy hq]; exact hx⟩, st', fun b hb => (hf b hb).1⟩⟩
  done := by
    intro X hP hw hK hc i pins s σ H E I hf st hg
    subst hP hw hK
    obtain ⟨xs, hq, hx⟩ := hg
    obtain ⟨its, rv, p, hz⟩ := I.tuple hq
    obtain ⟨f0, f1, f2, f3, f4, f5⟩ := hf it (by simp)
    have hl := rv.length
    exact wpAny_pyNext_tuple_end (I.ok.hd hc) st (show s.heap.IsTuple a its.toArray from p) (by simp; omega) fun h' eb => ⟨rfl, I.turned (t' := s.toks) (fun b o hb e => eb b o hb e) f0 f1 f3 f4 f5⟩
  self := fun _ _ _ _ _ st h => wpAny_pyIter_tupleiter st h
theorem turn_range {P : Program} {w : World} {K : PySem.W.Frag} {tg : Expr} (it : Addr) (lo : Int) (n : Nat) : Turn P w K tg (Itr lo n) [it] it (fun i h => IsRangeIter h it (lo + (i : Nat) * 1) ((n : Int) - (i : Nat)) 1) where
  mem := by simp
  obj := fun i h st b hb => by
    have e : b = it := by simpa using hb
    subst e
    exact ⟨_, st, fun v z => by
      have z' : Data.fields _ = Data.cell v := z
      cases z'⟩
  keep := fun i h h' st k => k it (by simp) _ st
  item := by
    intro X hP hw hK hc i pins s σ H E I hf st hg
    subst hP hw hK
    obtain ⟨f0, f1, f2, f3, f4, f5⟩ := hf it (by simp)
    have W := Walks.range (prog := X.prog) (w := X.w) (I.ok.hd hc) it lo 1 n
    refine W.item i s _ _ hg st fun v h' tk hv st' kk => ?_
    obtain ⟨t, rfl⟩ := hv
    have I1 : Inv X pins σ H { s with heap := h', toks := tk } := I.turned (fun b o hb e => kk b o (by simpa using hb) e) f0 f1 f3 f4 f5
    refine ⟨_, rfl, go_of (s := { s with heap := h', toks := tk }) (n := "range_iterator") st' rfl rfl (by decide) ⟨.int (lo + i), H, I1, ⟨t, ?_⟩, ⟨rfl, rfl⟩, st', fun b hb => (hf b hb).1⟩⟩
    rw [Int.mul_one]
  done := by
    intro X hP hw hK hc i pins s σ H E I hf st hg
    subst hP hw hK
    obtain ⟨f0, f1, f2, f3, f4, f5⟩ := hf it (by simp)
    exact wpAny_pyNext_range_end (I.ok.hd hc) st (by have : n ≤ i := hg; omega) fun h' eb => ⟨rfl, I.turned (t' := s.toks) (fun b o hb e => eb b o hb e) f0 f1 f3 f4 f5⟩
  self := fun _ _ _ _ _ st h => wpAny_pyIter_rangeiter st h
end L2
namespace L2
open PySem PySem.Spec PyProof.Rows
section
variable {X : Cx} {tg : Expr}
noncomputable def iList (K : PySem.W.Frag) (tl : TE) : TI := fun σ H R => tl σ H fun x H1 => ∃ a, x = .ref a ∧ (∃ xs, SqL K H1 a xs) ∧ R (Itl K a) H1
noncomputable def iTup (K : PySem.W.Frag) (tl : TE) : TI := fun σ H R => tl σ H fun x H1 => ∃ a, x = .ref a ∧ (∃ xs, SqT K H1 a xs) ∧ R (Itt K a) H1
theorem pi_list {l : Expr} {tl : TE} (hl : PE X l tl) : PI X tg l (iList X.K tl) := by
  intro pins s σ H R I h
  refine thn (hl pins s σ H _ I h) fun v s1 ⟨x, H1, I1, r1, q1⟩ => ?_
  obtain ⟨a, e, ⟨xs, hq⟩, q⟩ := q1
  subst e
  cases r1
  obtain ⟨its, rv, p, hz⟩ := I1.list hq
  refine wpAny_pyIter_list p.isList ?_
  refine ⟨s1.heap.objs.size, [s1.heap.objs.size], _, _, H1, rfl, I1.kept (t' := s1.toks) fun b o e => Heap.get?_push_of_some _ e, turn_list a _, ⟨_, Heap.get?_push_size _ rfl, rfl, rfl⟩, fun b hb => ?_, q⟩
  have e : b = s1.heap.objs.size := by simpa using hb
  subst e
  exact I1.fpOk (Nat.le_refl _) (I1.hok.fresh (Nat.le_refl _))
theorem pi_tup {l : Expr} {tl : TE} (hl : PE X l tl) : PI X tg l (iTup X.K tl) := by
  intro pins s σ H R I h
  refine thn (hl pins s σ H _ I h) fun v s1 ⟨x, H1, I1, r1, q1⟩ => ?_
  obtain ⟨a, e, ⟨xs, hq⟩, q⟩ := q1
  subst e
  cases r1
  obtain ⟨its, rv, p, hz⟩ := I1.tuple hq
  refine wpAny_pyIter_tuple (show s1.heap.IsTuple a its.toArray from p) ?_
  refine ⟨s1.heap.objs.size, [s1.heap.objs.size], _, _, H1, rfl, I1.kept (t' := s1.toks) fun b o e => Heap.get?_push_of_some _ e, turn_tuple a _, ⟨_, Heap.get?_push_size _ rfl, rfl, rfl⟩, fun b hb => ?_, q⟩
  have e : b = s1.heap.objs.size := by simpa using hb
  subst e
  exact I1.fpOk (Nat.le_refl _) (I1.hok.fresh (Nat.le_refl _))
theorem range_it {pins : List (Addr × Obj)} {σ : St} {H : Hp} {s : Shared} {R : It → Hp → Prop} {E : Value → Shared → Prop} {lo hi : Int} {t u v : Tok} {tk : Nat} (I : Inv X pins σ H s) (h1 : -(2 ^ 62) ≤ lo) (h2 : lo < 2 ^ 62) (h3 : -(2 ^ 62) ≤ hi) (h4 : hi < 2 ^ 62)
    (q : R (Itr lo (hi - lo).toNat) H) : wpAny (model X.prog X.w) X.A (pyIter (.ref s.heap.objs.size)) (PIE X pins σ tg R) E { s with heap := s.heap.push { cls := .type "range", data := .fields #[.int lo t, .int hi u, .int 1 v] }, toks := tk } := by
  refine wpAny_pyIter_range (IsRange.new ..) (small_one h1 h2 h3 h4) ?_
  have I1 : Inv X pins σ H { s with heap := s.heap.push { cls := .type "range", data := .fields #[.int lo t, .int hi u, .int 1 v] }, toks := tk } := I.kept fun b o e => Heap.get?_push_of_some _ e
  refine ⟨(s.heap.push { cls := .type "range", data := .fields #[.int lo t, .int hi u, .int 1 v] }).objs.size, [(s.heap.push { cls := .type "range", data := .fields #[.int lo t, .int hi u, .int 1 v] }).objs.size], _, _, H, rfl,
    I1.kept (t' := tk) fun b o e => Heap.get?_push_of_some _ e, turn_range _ lo (hi - lo).toNat, ?_, fun b hb => ?_, q⟩
  · have e1 : lo + ((0 : Nat) : Int) * 1 = lo := by simp
    have e2 : (((hi - lo).toNat : Nat) : Int) - ((0 : Nat) : Int) = Builtin.Range.rangeSize lo hi 1 := by rw [rangeSize_one]; split <;> omega
    show IsRangeIter _ _ (lo + ((0 : Nat) : Int) * 1) ((((hi - lo).toNat : Nat) : Int) - ((0 : Nat) : Int)) 1
    rw [e1, e2]
    exact Heap.get?_push_size _ rfl
  · have e : b = (s.heap.push { cls := .type "range", data := .fields #[.int lo t, .int hi u, .int 1 v] }).objs.size := by simpa using hb
    subst e
    exact I1.fpOk (Nat.le_refl _) (I1.hok.fresh (Nat.le_refl _))
noncomputable def iRng1 (ta : TA) : TI := fun σ H R => ta σ H fun vs H1 => ∃ j : Int, vs = [.int j] ∧ -(2 ^ 62) ≤ j ∧ j < 2 ^ 62 ∧ R (Itr 0 j.toNat) H1
theorem pi_range1 {a : Expr} {ta : TA} {p pos : Pos} (hg : Gl X "range") (hm : X.mg "range" = none) (ha : PA X [a] ta) (hs : starEach [a] X.env = [(false, eval a X.env)] := by rfl) : PI X tg (.Call (.Name "range" p) [a] [] pos) (iRng1 ta) := by
  intro pins s σ H R I h
  refine Call_ (ld_blt I hg hm boot_range (PyProof.Rows.callWith_type1 (thn (ha pos pins s σ H _ I h) fun us s1 ⟨vs, H1, I1, r1, q1⟩ => ?_) hs rfl))
  obtain ⟨j, e, q1, q2, q⟩ := q1
  subst e
  cases r1 with
  | cons r rr =>
    cases rr
    obtain ⟨t, rfl⟩ := r
    exact call_range_1 (range_it I1 (by omega) (by omega) q1 q2 (by simpa using q))
noncomputable def tFor (wi : TI) (g : TG) (tb : TS) : TS := fun D σ H => wi σ H fun J H1 => ∃ W : Nat → Nat → St → Hp → Prop, (∃ m, W 0 m σ H1) ∧ ∀ i m σ H, W i m σ H →
  (J.stop i H ∧ D.nx σ H) ∨ (J.go i H ∧ ∃ N : St → Hp → Prop, (∀ σ' H', N σ' H' → ∃ m', m' < m ∧ W (i + 1) m' σ' H') ∧ ∀ x H', J.yld i H x H' → g x σ H' fun σ2 H2 => tb { D with nx := N, ct := N, bk := D.nx } σ2 H2)
noncomputable def pinsAt (fp : List Addr) (h : Heap) : List (Addr × Obj) := fp.filterMap fun b => (h.get? b).map fun o => (b, o)
theorem mem_pinsAt {fp : List Addr} {h : Heap} {b : Addr} {o : Obj} (hb : b ∈ fp) (e : h.get? b = some o) : (b, o) ∈ pinsAt fp h := List.mem_filterMap.mpr ⟨b, hb, by rw [e]; rfl⟩
theorem of_pinsAt {fp : List Addr} {h : Heap} {p : Addr × Obj} (hp : p ∈ pinsAt fp h) : p.1 ∈ fp ∧ h.get? p.1 = some p.2 := by
  obtain ⟨b, hb, e⟩ := List.mem_filterMap.mp hp
  cases q : h.get? b with
  | none => rw [q] at e; cases e
  | some o =>
    rw [q] at e
    have e' : (b, o) = p := Option.some.inj e
    subst e'
    exact ⟨hb, q⟩
theorem Inv.pinned {pins : List (Addr × Obj)} {σ : St} {H : Hp} {s : Shared} {fp : List Addr} (I : Inv X pins σ H s) (hf : ∀ b ∈ fp, FpOk X pins H b) (ho : ∀ b ∈ fp, ∃ o, s.heap.get? b = some o ∧ ∀ v, o.data ≠ .cell v) : Inv X (pins ++ pinsAt fp s.heap) σ H s :=
  I.pins_of fun p hp => (List.mem_append.mp hp).elim (fun z => I.pin p (List.mem_append_right _ z)) fun z => by
    obtain ⟨hb, e⟩ := of_pinsAt z
    obtain ⟨f0, f1, f2, _⟩ := hf p.1 hb
    obtain ⟨o, e', d⟩ := ho p.1 hb
    rw [e] at e'; cases e'
    exact ⟨e, f0, f1, f2, d⟩
theorem Inv.unpinned {pins pl : List (Addr × Obj)} {σ : St} {H : Hp} {s : Shared} (I : Inv X (pins ++ pl) σ H s) : Inv X pins σ H s := I.pins_of fun p hp => I.pin p (List.mem_append_right _ (List.mem_append_left _ hp))
theorem ps_for {iter : Expr} {body : List Stmt} {wi : TI} {g : TG} {tb : TS} {pos : Pos} (hp : PassesOwn (model X.prog X.w) X.A X.env X.xe) (hc : X.calm = true) (hi : PI X tg iter wi) (hg : PG X tg g) (hb : PSs X body tb)
    (hs : ∀ x, foldedSetIterable iter X.env x = pure x := by intro _; rfl) : PS X (.For tg iter body [] pos) (tFor wi g tb) := by
  intro pins s σ H D I h
  refine wpAny_For (thn (hi pins s σ H _ I h) fun v s1 h1 => thn h1 fun itv s2 h2 => ?_) hs
  obtain ⟨it, fp, tn, J, H2, e, I2, T, st2, f2, W, ⟨m0, w0⟩, turn⟩ := h2
  subst e
  -- what stays true of the iterator's objects through the loop
  have stat : ∀ {H' : Hp}, (∀ b ∈ fp, H' b = none) → ∀ b ∈ fp, FpOk X pins H' b := fun hn b hb => ⟨hn b hb, (f2 b hb).2⟩
  refine codeAny_forLoop_any (fun n s' => ∃ i σ' H', Inv X pins σ' H' s' ∧ tn i s'.heap ∧ (∀ b ∈ fp, H' b = none) ∧ W i n σ' H') ?_ m0 ⟨0, σ, H2, I2, st2, fun b hb => (f2 b hb).1, w0⟩
  rintro n s3 ⟨i, σ3, H3, I3, st3, fr3, w3⟩
  rcases turn i n σ3 H3 w3 with ⟨stop, qn⟩ | ⟨go, N, hN, step⟩
  · refine wpAny_passesOwn hp (thn (T.done X rfl rfl rfl hc i pins s3 σ3 H3 X.xe I3 (stat fr3) st3 stop) fun r s4 ⟨hr, I4⟩ => ?_)
    subst hr
    exact wpAny_execs_nil ⟨σ3, H3, I4, qn⟩
  · refine wpAny_passesOwn hp (thn (T.item X rfl rfl rfl hc i pins s3 σ3 H3 X.xe I3 (stat fr3) st3 go) fun r s4 ⟨u, hr, h4⟩ => ?_)
    subst hr
    refine wpAny_passesOwn hp (thn h4 fun _ s5 ⟨x, H5, I5, r5, y5, st5, fr5⟩ => ?_)
    have I5' := I5.pinned (stat fr5) (T.obj _ _ st5)
    refine wpAny_passesOwn hp (thn (hg _ s5 σ3 H5 x u _ I5' r5 (step x H5 y5)) fun _ s6 ⟨σ6, H6, I6, q6⟩ => ?_)
    refine wpAny_passesOwn hp (thn (hb _ s6 σ6 H6 _ I6 q6) fun f s7 q7 => ?_)
    have again : ∀ {σ7 : St} {H7 : Hp}, Inv X (pins ++ pinsAt fp s5.heap) σ7 H7 s7 → N σ7 H7 → ∃ m, m < n ∧ ∃ i σ' H', Inv X pins σ' H' s7 ∧ tn i s7.heap ∧ (∀ b ∈ fp, H' b = none) ∧ W i m σ' H' := fun {σ7 H7} I7 n7 => by
      obtain ⟨m', hm, w7⟩ := hN σ7 H7 n7
      refine ⟨m', hm, i + 1, σ7, H7, I7.unpinned, T.keep _ _ _ st5 fun b hb o e => (I7.pin (b, o) (List.mem_append_right _ (List.mem_append_right _ (mem_pinsAt hb e)))).1, fun b hb => ?_, w7⟩
      obtain ⟨o, e, d⟩ := T.obj _ _ st5 b hb
      exact (I7.pin (b, o) (List.mem_append_right _ (List.mem_append_right _ (mem_pinsAt hb e)))).2.1
    cases f with
    | next => obtain ⟨σ7, H7, I7, n7⟩ := q7; exact again I7 n7
    | cont => obtain ⟨σ7, H7, I7, n7⟩ := q7; exact again I7 n7
    | brk => obtain ⟨σ7, H7, I7, q7⟩ := q7; exact ⟨σ7, H7, I7.unpinned, q7⟩
    | ret v => obtain ⟨x7, σ7, H7, I7, r7, q7⟩ := q7; exact ⟨x7, σ7, H7, I7.unpinned, r7, q7⟩
end
theorem for_range {lo : Int} {n : Nat} {g : TG} {tb : TS} {D : Ends} {σ : St} {H : Hp} (Pv : Nat → St → Hp → Prop) (h0 : Pv 0 σ H)
    (hs : ∀ i σ H, i < n → Pv i σ H → g (.int (lo + i)) σ H fun σ2 H2 => tb { D with nx := Pv (i + 1), ct := Pv (i + 1), bk := D.nx } σ2 H2) (hd : ∀ σ H, Pv n σ H → D.nx σ H) :
    ∃ W : Nat → Nat → St → Hp → Prop, (∃ m, W 0 m σ H) ∧ ∀ i m σ H, W i m σ H →
      ((Itr lo n).stop i H ∧ D.nx σ H) ∨ ((Itr lo n).go i H ∧ ∃ N : St → Hp → Prop, (∀ σ' H', N σ' H' → ∃ m', m' < m ∧ W (i + 1) m' σ' H') ∧ ∀ x H', (Itr lo n).yld i H x H' → g x σ H' fun σ2 H2 => tb { D with nx := N, ct := N, bk := D.nx } σ2 H2) := by
  refine ⟨fun i m σ H => m = n - i ∧ i ≤ n ∧ Pv i σ H, ⟨n, by simp, Nat.zero_le _, h0⟩, ?_⟩
  rintro i m σ H ⟨rfl, hi, p⟩
  by_cases hlt : i < n
  · refine .inr ⟨hlt, Pv (i + 1), fun σ' H' p' => ⟨n - (i + 1), by omega, rfl, hlt, p'⟩, fun x H' y => ?_⟩
    obtain ⟨e, y⟩ := y
    subst e y
    exact hs i σ _ hlt p
  · have e : i = n := by omega
    subst e
    exact .inl ⟨Nat.le_refl _, hd σ H p⟩
theorem while_by {c : TT} {tb : TS} {D : Ends} {σ : St} {H : Hp} (Pv : St → Hp → Prop) (μ : St → Hp → Nat) (h0 : Pv σ H)
    (hs : ∀ σ H, Pv σ H → c σ H fun b H1 => if b = true then tb { D with nx := fun σ' H' => Pv σ' H' ∧ μ σ' H' < μ σ H, ct := fun σ' H' => Pv σ' H' ∧ μ σ' H' < μ σ H, bk := D.nx } σ H1 else D.nx σ H1)
    (mono : ∀ σ H Q Q', (∀ b H1, Q b H1 → Q' b H1) → c σ H Q → c σ H Q') : tWhile c tb D σ H := by
  refine ⟨fun m σ H => m = μ σ H ∧ Pv σ H, ⟨_, rfl, h0⟩, ?_⟩
  rintro m σ H ⟨rfl, p⟩
  refine mono σ H _ _ (fun b H1 q => ?_) (hs σ H p)
  cases b with
  | true => exact ⟨_, fun σ' H' ⟨p', l⟩ => ⟨_, l, rfl, p'⟩, q⟩
  | false => exact q
end L2
namespace L2
open PySem PySem.Spec PyProof.Rows
noncomputable abbrev R2 := V → V → Hp → VK → Prop
noncomputable def OpR (X : Cx) (f : Value → Value → Sem Value) (r : R2) : Prop :=
  ∀ (pins : List (Addr × Obj)) (s : Shared) (σ : St) (H : Hp) (x y : V) (v u : Value) (Q : VK), Inv X pins σ H s → RelV x v → RelV y u → r x y H Q →
    wpAny (model X.prog X.w) X.A (f v u) (EP X pins σ Q) X.xe s
noncomputable def UnR (X : Cx) (f : Value → Sem Value) (r : V → Hp → VK → Prop) : Prop :=
  ∀ (pins : List (Addr × Obj)) (s : Shared) (σ : St) (H : Hp) (x : V) (v : Value) (Q : VK), Inv X pins σ H s → RelV x v → r x H Q →
    wpAny (model X.prog X.w) X.A (f v) (EP X pins σ Q) X.xe s
noncomputable def CallR (X : Cx) (f : Value) (r : List V → Hp → VK → Prop) : Prop :=
  ∀ (pins : List (Addr × Obj)) (s : Shared) (σ : St) (H : Hp) (xs : List V) (us : List Value) (Q : VK), Inv X pins σ H s → Vals xs us → r xs H Q →
    wpAny (model X.prog X.w) X.A (call f us) (EP X pins σ Q) X.xe s
noncomputable def TruR (X : Cx) (r : V → Hp → (Bool → Hp → Prop) → Prop) : Prop :=
  ∀ (pins : List (Addr × Obj)) (s : Shared) (σ : St) (H : Hp) (x : V) (v : Value) (Q : Bool → Hp → Prop), Inv X pins σ H s → RelV x v → r x H Q →
    wpAny (model X.prog X.w) X.A (truthy v) (TP X pins σ Q) X.xe s
noncomputable def tOp (r : R2) (ta tb : TE) : TE := fun σ H Q => ta σ H fun x H1 => tb σ H1 fun y H2 => r x y H2 Q
noncomputable def tUn (r : V → Hp → VK → Prop) (ta : TE) : TE := fun σ H Q => ta σ H fun x H1 => r x H1 Q
noncomputable def rI (C : Int → Int → Prop) (g : Int → Int → V) : R2 := fun x y H Q => ∃ i j, x = .int i ∧ y = .int j ∧ C i j ∧ Q (g i j) H
noncomputable def rI0 (g : Int → Int → V) : R2 := fun x y H Q => ∃ i j, x = .int i ∧ y = .int j ∧ Q (g i j) H
noncomputable def rU (g : Int → V) : V → Hp → VK → Prop := fun x H Q => ∃ i, x = .int i ∧ Q (g i) H
section
variable {X : Cx} {a b c : Expr} {ta tb tc : TE} {pos : Pos}
theorem binT (ha : PE X a ta) (hb : PE X b tb) {pins : List (Addr × Obj)} {s : Shared} {σ : St} {H : Hp} {R : V → V → Hp → Prop} (I : Inv X pins σ H s)
    (h : ta σ H fun x H1 => tb σ H1 fun y H2 => R x y H2) {Q : Value → Shared → Prop} {f : Value → Value → Sem Value}
    (hf : ∀ v u s2 x y H2, Inv X pins σ H2 s2 → RelV x v → RelV y u → R x y H2 → wpAny (model X.prog X.w) X.A (f v u) Q X.xe s2) :
    wpAny (model X.prog X.w) X.A (eval a X.env) (fun v s₁ => wpAny (model X.prog X.w) X.A (eval b X.env) (fun u s₂ => wpAny (model X.prog X.w) X.A (f v u) Q X.xe s₂) X.xe s₁) X.xe s := by
  refine thn (ha pins s σ H _ I h) fun v s1 ⟨x, H1, I1, r1, q1⟩ => ?_
  refine thn (hb pins s1 σ H1 _ I1 q1) fun u s2 ⟨y, H2, I2, r2, q2⟩ => ?_
  exact hf v u s2 x y H2 I2 r1 r2 q2
theorem pe_op {op : Operator} {r : R2} (ho : OpR X (binaryOp op) r) (ha : PE X a ta) (hb : PE X b tb) : PE X (.BinOp a op b pos) (tOp r ta tb) := by
  intro pins s σ H Q I h
  exact wpAny_BinOp (binT ha hb I h fun v u s2 x y H2 I2 rx ry q => ho pins s2 σ H2 x y v u Q I2 rx ry q)
theorem pe_un {op : UnaryOp} {r : V → Hp → VK → Prop} (ho : UnR X (unaryOp op) r) (ha : PE X a ta) : PE X (.UnaryOp op a pos) (tUn r ta) := by
  intro pins s σ H Q I h
  exact UnaryOp_ (thn (ha pins s σ H _ I h) fun v s1 ⟨x, H1, I1, r1, q1⟩ => ho pins s1 σ H1 x v Q I1 r1 q1)
theorem opI {f : Value → Value → Sem Value} {C : Int → Int → Prop} {g : Int → Int → Int}
    (rule : ∀ (i j : Int) (t u : Tok) (s : Shared) (Q : Value → Shared → Prop) (E : Value → Shared → Prop), C i j → Q (.int (g i j) s.toks) { s with toks := s.toks + 1 } → wpAny (model X.prog X.w) X.A (f (.int i t) (.int j u)) Q E s) :
    OpR X f (rI C fun i j => .int (g i j)) := by
  intro pins s σ H x y v u Q I rx ry h
  obtain ⟨i, j, rfl, rfl, hc, q⟩ := h
  obtain ⟨t, rfl⟩ := rx
  obtain ⟨t', rfl⟩ := ry
  exact rule i j t t' s _ _ hc ⟨.int (g i j), H, I.tok _, ⟨_, rfl⟩, q⟩
theorem opI0 {f : Value → Value → Sem Value} {g : Int → Int → Int}
    (rule : ∀ (i j : Int) (t u : Tok) (s : Shared) (Q : Value → Shared → Prop) (E : Value → Shared → Prop), Q (.int (g i j) s.toks) { s with toks := s.toks + 1 } → wpAny (model X.prog X.w) X.A (f (.int i t) (.int j u)) Q E s) :
    OpR X f (rI0 fun i j => .int (g i j)) := by
  intro pins s σ H x y v u Q I rx ry h
  obtain ⟨i, j, rfl, rfl, q⟩ := h
  obtain ⟨t, rfl⟩ := rx
  obtain ⟨t', rfl⟩ := ry
  exact rule i j t t' s _ _ ⟨.int (g i j), H, I.tok _, ⟨_, rfl⟩, q⟩
theorem opB0 {f : Value → Value → Sem Value} {g : Int → Int → Bool}
    (rule : ∀ (i j : Int) (t u : Tok) (s : Shared) (Q : Value → Shared → Prop) (E : Value → Shared → Prop), Q (.bool (g i j)) s → wpAny (model X.prog X.w) X.A (f (.int i t) (.int j u)) Q E s) :
    OpR X f (rI0 fun i j => .bl (g i j)) := by
  intro pins s σ H x y v u Q I rx ry h
  obtain ⟨i, j, rfl, rfl, q⟩ := h
  obtain ⟨t, rfl⟩ := rx
  obtain ⟨t', rfl⟩ := ry
  exact rule i j t t' s _ _ ⟨.bl (g i j), H, I, rfl, q⟩
noncomputable def CDiv (i j : Int) : Prop := 0 < j ∧ j < 1073741824
noncomputable def CMul (i j : Int) : Prop := (-(2 ^ 64) < i ∧ i < 2 ^ 64) ∨ (-(2 ^ 64) < j ∧ j < 2 ^ 64)
theorem CMul.ok {i j : Int} (h : CMul i j) : IntMulOk i j := by
  rcases h with ⟨h1, h2⟩ | ⟨h1, h2⟩
  · exact .of_left (intBits_le_64 h1 h2)
  · exact .of_right (intBits_le_64 h1 h2)
theorem op_add : OpR X (binaryOp .Add) (rI0 fun i j => .int (i + j)) := opI0 fun _ _ _ _ _ _ _ q => add_int q
theorem op_sub : OpR X (binaryOp .Sub) (rI0 fun i j => .int (i - j)) := opI0 fun _ _ _ _ _ _ _ q => sub_int q
theorem op_mul : OpR X (binaryOp .Mult) (rI CMul fun i j => .int (i * j)) := opI fun _ _ _ _ _ _ _ hc q => mul_int q hc.ok
theorem op_fdiv : OpR X (binaryOp .FloorDiv) (rI CDiv fun i j => .int (i / j)) := opI fun i j _ _ _ _ _ hc q => by
  have h1 : (0 : Int) < j := hc.1
  have h2 : j < 1073741824 := hc.2
  exact floordiv_int (by omega) (by rw [Int.fdiv_eq_ediv_of_nonneg i (by omega)]; exact q) (.inl (PyProof.noPylong_small (by omega)))
theorem op_mod : OpR X (binaryOp .Mod) (rI (fun _ j => 0 < j) fun i j => .int (i % j)) := opI fun i j _ _ _ _ _ hc q => by
  have h1 : (0 : Int) < j := hc
  exact mod_int' (by omega) (by rw [Int.fmod_eq_emod_of_nonneg i (by omega)]; exact q)
theorem unI {f : Value → Sem Value} {g : Int → Int}
    (rule : ∀ (i : Int) (t : Tok) (s : Shared) (Q : Value → Shared → Prop) (E : Value → Shared → Prop), Q (.int (g i) s.toks) { s with toks := s.toks + 1 } → wpAny (model X.prog X.w) X.A (f (.int i t)) Q E s) :
    UnR X f (rU fun i => .int (g i)) := by
  intro pins s σ H x v Q I rx h
  obtain ⟨i, rfl, q⟩ := h
  obtain ⟨t, rfl⟩ := rx
  exact rule i t s _ _ ⟨.int (g i), H, I.tok _, ⟨_, rfl⟩, q⟩
theorem un_neg : UnR X (unaryOp .USub) (rU fun i => .int (-i)) := unI fun _ _ _ _ _ q => neg_int q
end
noncomputable def scal : V → V → Bool
  | .non, .non => true | .non, .int _ => true | .int _, .non => true | .non, .bl _ => true | .bl _, .non => true | .non, .str _ => true | .str _, .non => true
  | .int _, .int _ => true | .bl _, .bl _ => true | .str _, .str _ => true | .byt _, .byt _ => true
  | .int _, .str _ => true | .str _, .int _ => true | .bl _, .str _ => true | .str _, .bl _ => true
  | _, _ => false
noncomputable def rEq : R2 := fun x y H Q => scal x y = true ∧ Q (.bl (decide (x = y))) H
noncomputable def rNe : R2 := fun x y H Q => scal x y = true ∧ Q (.bl (!decide (x = y))) H
theorem dec_int {i j : Int} : decide (V.int i = V.int j) = (i == j) := by
  rw [Bool.eq_iff_iff]
  simp
theorem dec_bl {i j : Bool} : decide (V.bl i = V.bl j) = (i == j) := by
  rw [Bool.eq_iff_iff]
  simp
theorem dec_str {i j : Str} : decide (V.str i = V.str j) = (i == j) := by
  rw [Bool.eq_iff_iff]
  simp
theorem dec_byt {i j : Array UInt8} : decide (V.byt i = V.byt j) = (i.toList == j.toList) := by
  rw [Bool.eq_iff_iff]
  cases i
  cases j
  simp
section
variable {X : Cx} {a b c : Expr} {ta tb tc : TE} {pos : Pos}
theorem fin_bl {pins : List (Addr × Obj)} {σ : St} {H : Hp} {s : Shared} {Q : VK} {k k' : Bool} (I : Inv X pins σ H s) (q : Q (.bl k) H) (e : k = k') : EP X pins σ Q (.bool k') s := by
  subst e
  exact ⟨.bl k, H, I, rfl, q⟩
theorem op_eq : OpR X (compareOp .Eq) rEq := by
  intro pins s σ H x y v u Q I rx ry h
  obtain ⟨hs, q⟩ := h
  cases x with
  | non =>
    cases rx
    cases y with
    | non => cases ry; exact PySem.EqNone.eq_none_none (fin_bl I q (by simp))
    | bl j => cases ry; exact PySem.EqNone.eq_none_bool (fin_bl I q (by simp))
    | int j => obtain ⟨t', rfl⟩ := ry; exact PySem.EqNone.eq_none_int (fin_bl I q (by simp))
    | str j => obtain ⟨t', rfl⟩ := ry; exact PySem.EqNone.eq_none_str (fin_bl I q (by simp))
    | _ => exact absurd (show false = true from hs) Bool.false_ne_true
  | bl i =>
    cases rx
    cases y with
    | non => cases ry; exact PySem.EqNone.eq_bool_none (fin_bl I q (by simp))
    | bl j => cases ry; exact eq_bool (fin_bl I q dec_bl)
    | str j => obtain ⟨t', rfl⟩ := ry; exact PySem.EqMixed.eq_bool_str (fin_bl I q (by simp))
    | _ => exact absurd (show false = true from hs) Bool.false_ne_true
  | int i =>
    obtain ⟨t, rfl⟩ := rx
    cases y with
    | non => cases ry; exact PySem.EqNone.eq_int_none (fin_bl I q (by simp))
    | int j => obtain ⟨t', rfl⟩ := ry; exact eq_int (fin_bl I q dec_int)
    | str j => obtain ⟨t', rfl⟩ := ry; exact PySem.EqMixed.eq_int_str (fin_bl I q (by simp))
    | _ => exact absurd (show false = true from hs) Bool.false_ne_true
  | str i =>
    obtain ⟨t, rfl⟩ := rx
    cases y with
    | non => cases ry; exact PySem.EqNone.eq_str_none (fin_bl I q (by simp))
    | bl j => cases ry; exact PySem.EqMixed.eq_str_bool (fin_bl I q (by simp))
    | int j => obtain ⟨t', rfl⟩ := ry; exact PySem.EqMixed.eq_str_int (fin_bl I q (by simp))
    | str j => obtain ⟨t', rfl⟩ := ry; exact eq_str (fin_bl I q dec_str)
    | _ => exact absurd (show false = true from hs) Bool.false_ne_true
  | byt i =>
    obtain ⟨t, rfl⟩ := rx
    cases y with
    | byt j => obtain ⟨t', rfl⟩ := ry; exact PySem.W.eq_bytes (fin_bl I q dec_byt)
    | _ => exact absurd (show false = true from hs) Bool.false_ne_true
  | _ => cases y <;> exact absurd (show false = true from hs) Bool.false_ne_true
theorem op_ne : OpR X (compareOp .NotEq) rNe := by
  intro pins s σ H x y v u Q I rx ry h
  obtain ⟨hs, q⟩ := h
  cases x with
  | non =>
    cases rx
    cases y with
    | non => cases ry; exact PySem.EqNone.ne_none_none (fin_bl I q (by simp))
    | bl j => cases ry; exact PySem.EqNone.ne_none_bool (fin_bl I q (by simp))
    | int j => obtain ⟨t', rfl⟩ := ry; exact PySem.EqNone.ne_none_int (fin_bl I q (by simp))
    | str j => obtain ⟨t', rfl⟩ := ry; exact PySem.EqNone.ne_none_str (fin_bl I q (by simp))
    | _ => exact absurd (show false = true from hs) Bool.false_ne_true
  | bl i =>
    cases rx
    cases y with
    | non => cases ry; exact PySem.EqNone.ne_bool_none (fin_bl I q (by simp))
    | bl j => cases ry; exact ne_bool (fin_bl I q (congrArg not dec_bl))
    | str j => obtain ⟨t', rfl⟩ := ry; exact PySem.EqMixed.ne_bool_str (fin_bl I q (by simp))
    | _ => exact absurd (show false = true from hs) Bool.false_ne_true
  | int i =>
    obtain ⟨t, rfl⟩ := rx
    cases y with
    | non => cases ry; exact PySem.EqNone.ne_int_none (fin_bl I q (by simp))
    | int j => obtain ⟨t', rfl⟩ := ry; exact ne_int (fin_bl I q (congrArg not dec_int))
    | str j => obtain ⟨t', rfl⟩ := ry; exact PySem.EqMixed.ne_int_str (fin_bl I q (by simp))
    | _ => exact absurd (show false = true from hs) Bool.false_ne_true
  | str i =>
    obtain ⟨t, rfl⟩ := rx
    cases y with
    | non => cases ry; exact PySem.EqNone.ne_str_none (fin_bl I q (by simp))
    | bl j => cases ry; exact PySem.EqMixed.ne_str_bool (fin_bl I q (by simp))
    | int j => obtain ⟨t', rfl⟩ := ry; exact PySem.EqMixed.ne_str_int (fin_bl I q (by simp))
    | str j => obtain ⟨t', rfl⟩ := ry; exact ne_str (fin_bl I q (congrArg not dec_str))
    | _ => exact absurd (show false = true from hs) Bool.false_ne_true
  | byt i =>
    obtain ⟨t, rfl⟩ := rx
    cases y with
    | byt j => obtain ⟨t', rfl⟩ := ry; exact PySem.W.ne_bytes (fin_bl I q (congrArg not dec_byt))
    | _ => exact absurd (show false = true from hs) Bool.false_ne_true
  | _ => cases y <;> exact absurd (show false = true from hs) Bool.false_ne_true
theorem op_lt : OpR X (compareOp .Lt) (rI0 fun i j => .bl (decide (i < j))) := opB0 fun _ _ _ _ _ _ _ q => lt_int q
theorem op_gt : OpR X (compareOp .Gt) (rI0 fun i j => .bl (decide (j < i))) := opB0 fun _ _ _ _ _ _ _ q => gt_int q
theorem op_ge : OpR X (compareOp .GtE) (rI0 fun i j => .bl (decide (j ≤ i))) := opB0 fun _ _ _ _ _ _ _ q => ge_int q
theorem op_isN : OpR X (compareOp .Is) (fun x y H Q => y = .non ∧ Q (.bl (decide (x = .non))) H) := by
  intro pins s σ H x y v u Q I rx ry h
  obtain ⟨rfl, q⟩ := h
  cases ry
  refine is_none_gen (fin_bl I q ?_)
  cases x <;> first
    | (cases rx; rfl)
    | (obtain ⟨t, rfl⟩ := rx; rfl)
theorem nomark (b : Expr) {op : CmpOp} (h : op ≠ .In := by decide) (h2 : op ≠ .NotIn := by decide) : behindInMarks op b = false := by
  have e1 : (op == CmpOp.In) = false := by cases op <;> first | rfl | exact absurd rfl h
  have e2 : (op == CmpOp.NotIn) = false := by cases op <;> first | rfl | exact absurd rfl h2
  cases b <;> simp [behindInMarks, e1, e2]
theorem pe_cmpR {op : CmpOp} {r : R2} (ho : OpR X (compareOp op) r) (ha : PE X a ta) (hb : PE X b tb) (hm : behindInMarks op b = false) : PE X (.Compare a [op] [b] pos) (tOp r ta tb) := by
  intro pins s σ H Q I h
  exact wpAny_Compare1 (binT ha hb I h fun v u s2 x y H2 I2 rx ry q => ho pins s2 σ H2 x y v u Q I2 rx ry q) hm
noncomputable def tTest (t : TE) : TT := fun σ H Q => t σ H fun x H' => ∃ k, x = .bl k ∧ Q k H'
theorem pt_cmpR {op : CmpOp} {r : R2} (ho : OpR X (compareOp op) r) (ha : PE X a ta) (hb : PE X b tb) (hm : behindInMarks op b = false) : PT X (.Compare a [op] [b] pos) (tTest (tOp r ta tb)) := by
  intro pins s σ H Q I h
  refine wpAny_isTrue_Compare1 (thn (ha pins s σ H _ I h) fun v s1 ⟨x, H1, I1, r1, q1⟩ => thn (hb pins s1 σ H1 _ I1 q1) fun u s2 ⟨y, H2, I2, r2, q2⟩ =>
    thn (ho pins s2 σ H2 x y v u _ I2 r1 r2 q2) fun c s3 ⟨z, H3, I3, r3, k, e, q3⟩ => ?_) hm
  subst e
  cases r3
  exact wpAny_truthy_bool ⟨H3, I3, q3⟩
noncomputable def TruV (K : PySem.W.Frag) (x : V) (H : Hp) (k : Bool) : Prop :=
  match x with
  | .non => k = false
  | .bl b => k = b
  | .int i => k = (i != 0)
  | .str y => y.length ≤ sizeLine ∧ k = ((y.length : Int) != 0)
  | .byt y => y.size ≤ sizeLine ∧ k = ((y.size : Int) != 0)
  | .ref p => (∃ xs, SqL K H p xs ∧ k = !xs.isEmpty) ∨ (∃ xs, SqT K H p xs ∧ k = !xs.isEmpty) ∨ ∃ kvs, H p = some (.dK kvs) ∧ k = !kvs.isEmpty
  | _ => False
theorem isEmpty_kv {κ : Type} {kvs : List (κ × V)} {vs : List (κ × Value)} (r : KV kvs vs) : (!vs.isEmpty) = !kvs.isEmpty := by
  cases r <;> rfl
theorem isEmpty_of {xs : List V} {its : List Value} (r : Vals xs its) : (!its.toArray.isEmpty) = !xs.isEmpty := by
  cases r <;> simp
theorem line63 : (sizeLine : Nat) < 2 ^ 63 := by rw [sizeLine_eq]; decide
theorem tru_ok : TruR X (fun x H Q => ∃ k, TruV X.K x H k ∧ Q k H) := by
  intro pins s σ H x v Q I rx h
  obtain ⟨k, e, q⟩ := h
  have hl := line63
  have hs : sizeLine = 16777216 := sizeLine_eq
  cases x with
  | non =>
    cases rx
    have e' : k = false := e
    subst e'
    exact truthy_none ⟨H, I, q⟩
  | bl b =>
    cases rx
    have e' : k = b := e
    subst e'
    exact wpAny_truthy_bool ⟨H, I, q⟩
  | int i =>
    obtain ⟨t, rfl⟩ := rx
    have e' : k = (i != 0) := e
    subst e'
    exact PySem.P.truthy_int ⟨H, I, q⟩
  | str y =>
    obtain ⟨t, rfl⟩ := rx
    obtain ⟨hy, e'⟩ : y.length ≤ sizeLine ∧ k = ((y.length : Int) != 0) := e
    subst e'
    exact PySem.P.truthy_str (by omega) ⟨H, I.tok _, q⟩
  | byt y =>
    obtain ⟨t, rfl⟩ := rx
    obtain ⟨hy, e'⟩ : y.size ≤ sizeLine ∧ k = ((y.size : Int) != 0) := e
    subst e'
    exact PySem.W.truthy_bytes (by omega) ⟨H, I.tok _, q⟩
  | ref p =>
    cases rx
    have e' : (∃ xs, SqL X.K H p xs ∧ k = !xs.isEmpty) ∨ (∃ xs, SqT X.K H p xs ∧ k = !xs.isEmpty) ∨ ∃ kvs, H p = some (.dK kvs) ∧ k = !kvs.isEmpty := e
    rcases e' with ⟨xs, hx, e'⟩ | ⟨xs, hx, e'⟩ | ⟨kvs, hx, e'⟩
    · subst e'
      obtain ⟨its, r, pl, hz⟩ := I.list hx
      have hlen := r.length
      exact wpAny_truthy_list pl.isList (by simp only [List.size_toArray]; omega) ⟨H, I.tok _, by rw [isEmpty_of r]; exact q⟩
    · subst e'
      obtain ⟨its, r, pl, hz⟩ := I.tuple hx
      have hlen := r.length
      exact truthy_tuple pl (by simp only [List.size_toArray]; omega) ⟨H, I.tok _, by rw [isEmpty_of r]; exact q⟩
    · subst e'
      obtain ⟨hz, hS, vs, r, m⟩ : kvs.length ≤ sizeLine ∧ (p == sysModules) = false ∧ ∃ vs, KV kvs vs ∧ s.heap.DictOf (mixKind X.prog X.w) p vs := I.hok p _ hx
      have hlen : kvs.length = vs.length := Paired.length r
      exact wpAny_truthy_dict hS m (by omega) ⟨H, I.tok _, by rw [isEmpty_kv r]; exact q⟩
  | _ => exact (show False from e).elim
theorem pt_truth (ha : PE X a ta) (he : ∀ whole, isTrue a X.env whole = (do let v ← whole; standAt a.pos; holding [v] (truthy v))) :
    PT X a (fun σ H Q => ta σ H fun x H' => ∃ k, TruV X.K x H' k ∧ Q k H') := by
  intro pins s σ H Q I h
  exact isTrue_plain (thn (ha pins s σ H _ I h) fun v s1 ⟨x, H1, I1, r1, q1⟩ => tru_ok pins s1 σ H1 x v Q I1 r1 q1) (he _)
theorem vals1 {x : V} {us : List Value} (r : Vals [x] us) : ∃ u, us = [u] ∧ RelV x u := by
  cases r with
  | cons r1 r2 => cases r2; exact ⟨_, rfl, r1⟩
theorem vals2 {x y : V} {us : List Value} (r : Vals [x, y] us) : ∃ u w', us = [u, w'] ∧ RelV x u ∧ RelV y w' := by
  cases r with
  | cons r1 r2 =>
    cases r2 with
    | cons r3 r4 => cases r4; exact ⟨_, _, rfl, r1, r3⟩
theorem call_max2 (hc : X.calm = true) : CallR X (.builtin "max") (fun xs H Q => ∃ i j, xs = [.int i, .int j] ∧ Q (.int (if j > i then j else i)) H) := by
  intro pins s σ H xs us Q I r h
  obtain ⟨i, j, rfl, q⟩ := h
  obtain ⟨u, w', rfl, ⟨t, rfl⟩, ⟨t', rfl⟩⟩ := vals2 r
  refine max_two_ints (I.ok.hd hc) fun h' tk k => ⟨_, H, I.kept k, ?_, q⟩
  by_cases hj : j > i
  · rw [if_pos hj, if_pos hj]; exact ⟨_, rfl⟩
  · rw [if_neg hj, if_neg hj]; exact ⟨_, rfl⟩
theorem call_min2 (hc : X.calm = true) : CallR X (.builtin "min") (fun xs H Q => ∃ i j, xs = [.int i, .int j] ∧ Q (.int (if j < i then j else i)) H) := by
  intro pins s σ H xs us Q I r h
  obtain ⟨i, j, rfl, q⟩ := h
  obtain ⟨u, w', rfl, ⟨t, rfl⟩, ⟨t', rfl⟩⟩ := vals2 r
  refine min_two_ints (I.ok.hd hc) fun h' tk k => ⟨_, H, I.kept k, ?_, q⟩
  by_cases hj : j < i
  · rw [if_pos hj, if_pos hj]; exact ⟨_, rfl⟩
  · rw [if_neg hj, if_neg hj]; exact ⟨_, rfl⟩
end
end L2
namespace L2
open PySem PySem.Spec PyProof.Rows
structure ObjM (h : Heap) (x dx C : Addr) (mA : Str → Option Value) : Prop where
  obj : h.get? x = some (PySem.W.instObj C dx)
  ns : h.Ns1 dx mA
  ne : dx ≠ x
theorem lookIn_ns {h : Heap} {dx : Addr} {mA : Str → Option Value} (n : h.Ns1 dx mA) : ∃ od, h.get? dx = some od ∧ ∀ name, PySem.W.lookIn name od = some (mA name) := by
  obtain ⟨o, es, ep, ho, hd, hk, _, hm⟩ := n
  refine ⟨o, ho, fun name => ?_⟩
  have e := hm name
  unfold nsFind findBy at e
  rw [← Array.find?_toList] at e
  unfold PySem.W.lookIn
  rw [hd]
  dsimp only
  split
  · rename_i y q
    rw [q] at e
    exact congrArg some e
  · rename_i q
    rw [q] at e
    have a : es.toList.any (·.refKey) = false := by
      rw [List.any_eq_false]
      intro y hy
      obtain ⟨z, t, hkey⟩ := hk y (Array.mem_toList_iff.mp hy)
      simp [DictEntry.refKey, hkey]
    have a' : ¬ es.toList.any (·.refKey) = true := by rw [a]; exact Bool.false_ne_true
    rw [if_neg a']
    exact congrArg some e
theorem ObjM.look {h : Heap} {x dx C : Addr} {mA : Str → Option Value} (I : ObjM h x dx C mA) : ∃ od, PySem.W.InstAt h x (PySem.W.instObj C dx) C (some od) ∧ ∀ name, PySem.W.lookIn name od = some (mA name) :=
  let ⟨od, ho, hl⟩ := lookIn_ns I.ns
  ⟨od, ⟨I.obj, rfl, rfl, ho⟩, hl⟩
section
variable {prog : Program} {w : World} {A : Around} {E : Value → Shared → Prop} {s : Shared} {K : PySem.W.Frag} {x dx C f : Addr} {mA : Str → Option Value} {name : Str} {v : Value}
theorem get_map {expr : Bool} {Q : Value → Shared → Prop} (X : K.In s.heap) (I : ObjM s.heap x dx C mA) (hg : PySem.W.plainGet K C name = true) (hh : PySem.W.hasDictIn K C = true)
    (ha : PySem.W.findIn K (.ref C) name = some none) (hv : mA name = some v) (hv' : PySem.W.handedIn v = true) (h : Q v { s with toks := s.toks + 1 }) :
    wpAny (model prog w) A (getAttr (.ref x) name expr) Q E s := by
  obtain ⟨od, J, hl⟩ := I.look
  exact PySem.W.get_value X J (PySem.W.plainGet_of hg).1 (PySem.W.findObj_own hh ha rfl (by rw [hl, hv])) hv' h
theorem get_meth {pl : Sem Bool} {Q : Value × List Value → Shared → Prop} (X : K.In s.heap) (I : ObjM s.heap x dx C mA) (hg : PySem.W.plainGet K C name = true)
    (hf : PySem.W.findIn K (.ref C) name = some (some (.ref f))) (ht : PySem.W.isFn K (.ref f) = true) (hv : mA name = none) (h : Q (.ref f, [.ref x]) s) :
    wpAny (model prog w) A (getMethod (.ref x) name pl) Q E s := by
  obtain ⟨od, J, hl⟩ := I.look
  exact PySem.W.method_fn X J (PySem.W.plainGet_of hg).1 (PySem.W.plainGet_of hg).2 hf (beq_iff_eq.mp ht) (by show (PySem.W.lookIn name od).map (·.isSome) = some false; rw [hl, hv]; rfl) h
theorem set_map {ns : List Str} {Q : Unit → Shared → Prop} (X : K.In s.heap) (I : ObjM s.heap x dx C mA)
    (hs : PySem.W.findIn K (.ref C) "__setattr__" = some (some (.builtin "object.__setattr__"))) (hp : PySem.W.plainOver K C = true) (ht : PySem.W.takerIn K C name = some none) (hh : PySem.W.hasDictIn K C = true)
    (hw : PySem.Within mA ns) (hsz : ns.length ≤ sizeLine)
    (h : ∀ h', ObjM h' x dx C (fun y => if y = name then some v else mA y) → Heap.SameBut dx s.heap h' → Q () { s with heap := h', toks := s.toks + 2 }) :
    wpAny (model prog w) A (setAttr (.ref x) name v) Q E s := by
  obtain ⟨od, J, hl⟩ := I.look
  refine PySem.W.set_plain X J hs (PySem.W.osa_open (s := { s with toks := s.toks + 1 }) (r := none) X J hp ht fun b => ?_)
  obtain ⟨cd, hc, hd'⟩ := PySem.W.any_some hh
  have hx : s.heap.get? x = some ⟨.ref C, some dx, .plain, #[]⟩ := I.obj
  refine wpAny_bind (wpAny_pure (wpAny_bind (wpAny_bind (wpAny_loadPart hx (wpAny_bind (PySem.W.Looks.here (s := { s with toks := s.toks + 1 }) (PySem.W.looks_clsIn X hc) ?_))))))
  rw [hd']
  refine wpAny_pure (a := some dx) (wpAny_bind (wpAny_pure (wpAny_bind ?_)))
  refine wpAny_nsSet1 (s := { s with toks := s.toks + 1 }) I.ns fun h' hn2 hs2 => ?_
  obtain ⟨oD, esD, epD, hoD, hdD, hcD⟩ := hn2.count (PySem.Within.cons name v hw)
  refine wpAny_bind (wpAny_lookBehind hoD (by rw [hdD]; exact pastItsLine_dict (Nat.le_trans hcD (by rw [List.length_cons]; omega))) ?_)
  exact wpAny_pure (h _ ⟨(hs2.2 _ (Ne.symm I.ne)).trans I.obj, hn2, I.ne⟩ hs2)
theorem make_map {R : Result → Shared → Prop} {vs : List Value} {kw : List (Str × Value)} (X : K.In s.heap) (hm : PySem.W.makesIn K C = true)
    (hi : PySem.W.findIn K (.ref C) "__init__" = some (some (.ref f))) (hf : PySem.W.typeIn K (.ref f) = some (.type "function"))
    (h : codeAny (model prog w) (A.under (.builtin "type.__call__" ⟨.ref C :: vs, kw⟩)) (.call (.ref f) ⟨.ref (s.heap.objs.size + 1) :: vs, kw⟩) (PySem.W.InitBack (s.heap.objs.size + 1) R)
      { s with heap := (s.heap.push PySem.W.emptyDict).push (PySem.W.instObj C s.heap.objs.size) }) :
    codeAny (model prog w) A (.call (.ref C) ⟨vs, kw⟩) R s := by
  obtain ⟨hh, g, d, t, os⟩ := s
  exact PySem.W.make_core (PySem.W.makes_of X hm) (PySem.W.looks_findIn X hi) (fun self => PySem.W.bind_fn X self hf) (.inl rfl) h
end
noncomputable def putF (f : Str) (v : V) : List (Str × V) → List (Str × V)
  | [] => [(f, v)]
  | (g, x) :: r => if g = f then (g, v) :: r else (g, x) :: putF f v r
theorem lookup_putF (f g : Str) (v : V) : ∀ fs : List (Str × V), (putF f v fs).lookup g = if g = f then some v else fs.lookup g
  | [] => by
    show List.lookup g [(f, v)] = _
    by_cases h : g = f
    · have hb : (g == f) = true := beq_iff_eq.mpr h
      simp only [List.lookup, hb, if_pos h]
    · have hb : (g == f) = false := beq_eq_false_iff_ne.mpr h
      simp only [List.lookup, hb, if_neg h]
  | (k, x) :: r => by
    have ih := lookup_putF f g v r
    rw [show putF f v ((k, x) :: r) = (if k = f then (k, v) :: r else (k, x) :: putF f v r) from rfl]
    by_cases hk : k = f
    · rw [if_pos hk]
      by_cases h : g = k
      · have hb : (g == k) = true := beq_iff_eq.mpr h
        simp only [List.lookup, hb, if_pos (h.trans hk)]
      · have hb : (g == k) = false := beq_eq_false_iff_ne.mpr h
        simp only [List.lookup, hb, if_neg (fun e : g = f => h (e.trans hk.symm))]
    · rw [if_neg hk]
      by_cases h : g = k
      · have hb : (g == k) = true := beq_iff_eq.mpr h
        simp only [List.lookup, hb, if_neg (fun e : g = f => hk (h.symm.trans e))]
      · have hb : (g == k) = false := beq_eq_false_iff_ne.mpr h
        simp only [List.lookup, hb]
        exact ih
theorem keys_putF (f : Str) (v : V) : ∀ fs : List (Str × V), f ∈ (putF f v fs).map (·.1) ∧ ∀ g, g ∈ fs.map (·.1) → g ∈ (putF f v fs).map (·.1)
  | [] => ⟨by simp [putF], fun g h => by simp at h⟩
  | (k, x) :: r => by
    obtain ⟨i1, i2⟩ := keys_putF f v r
    rw [show putF f v ((k, x) :: r) = (if k = f then (k, v) :: r else (k, x) :: putF f v r) from rfl]
    by_cases hk : k = f
    · rw [if_pos hk]
      subst hk
      exact ⟨by simp, fun g h => by simpa using h⟩
    · rw [if_neg hk]
      refine ⟨?_, fun g h => ?_⟩
      · rw [List.map_cons]
        exact List.mem_cons_of_mem _ i1
      · rw [List.map_cons] at h ⊢
        rcases List.mem_cons.mp h with e | e
        · exact List.mem_cons.mpr (.inl e)
        · exact List.mem_cons_of_mem _ (i2 g e)
theorem length_putF (f : Str) (v : V) : ∀ fs : List (Str × V), (putF f v fs).length ≤ fs.length + 1
  | [] => by simp [putF]
  | (k, x) :: r => by
    have ih := length_putF f v r
    rw [show putF f v ((k, x) :: r) = (if k = f then (k, v) :: r else (k, x) :: putF f v r) from rfl]
    by_cases hk : k = f
    · rw [if_pos hk, List.length_cons, List.length_cons]; omega
    · rw [if_neg hk, List.length_cons, List.length_cons]; omega
theorem RelO.some_of {v : V} {o : Option Value} (r : RelO (some v) o) : ∃ u, o = some u ∧ RelV v u := by
  cases o with
  | none => exact (show False from r).elim
  | some u => exact ⟨u, rfl, r⟩
theorem RelO.none_of {o : Option Value} (r : RelO none o) : o = none := by
  cases o with
  | none => rfl
  | some u => exact (show False from r).elim
theorem handed_of {v : V} {u : Value} (r : RelV v u) : PySem.W.handedIn u = true := by
  cases v with
  | non => cases (show u = Value.none from r); rfl
  | bl b => cases (show u = Value.bool b from r); rfl
  | int i => obtain ⟨t, e⟩ := (show ∃ t, u = Value.int i t from r); cases e; rfl
  | str x => obtain ⟨t, e⟩ := (show ∃ t, u = Value.str x t from r); cases e; rfl
  | byt b => obtain ⟨t, e⟩ := (show ∃ t, u = Value.bytes b t from r); cases e; rfl
  | flt b => obtain ⟨t, e⟩ := (show ∃ t, u = Value.float b t from r); cases e; rfl
  | ref a => cases (show u = Value.ref a from r); rfl
  | ty n => cases (show u = Value.type n from r); rfl
section
variable {P : Program} {w : World} {H H' : Hp} {h h' : Heap} {a C dx : Addr} {fs fs' : List (Str × V)}
theorem ins_get (hok : HOk P w H h) (e : H a = some (.ins C dx fs)) : ∃ mA, ObjM h a dx C mA ∧ (∀ f, RelO (fs.lookup f) (mA f)) ∧ PySem.Within mA (fs.map (·.1)) ∧ fs.length ≤ 1000 ∧ H dx = some (.own a) := by
  obtain ⟨d, z, ne, ob, mA, n, r, q⟩ := (show ObjOk P w H h a (.ins C dx fs) from hok a _ e)
  exact ⟨mA, ⟨ob, n, ne⟩, r, q, z, d⟩
end
structure Cls (K : PySem.W.Frag) (C : Addr) : Prop where
  pg : PySem.W.plainGet K C Str.empty = true
  hd : PySem.W.hasDictIn K C = true
  po : PySem.W.plainOver K C = true
  sa : PySem.W.findIn K (.ref C) "__setattr__" = some (some (.builtin "object.__setattr__"))
theorem Cls.get {K : PySem.W.Frag} {C : Addr} (c : Cls K C) (f : Str) : PySem.W.plainGet K C f = true := c.pg
noncomputable def NoAttr (K : PySem.W.Frag) (C : Addr) (f : Str) : Prop := PySem.W.findIn K (.ref C) f = some none
theorem NoAttr.taker {K : PySem.W.Frag} {C : Addr} {f : Str} (n : NoAttr K C f) : PySem.W.takerIn K C f = some none := by
  unfold PySem.W.takerIn
  rw [show PySem.W.findIn K (.ref C) f = some none from n]
  rfl
structure Meth (K : PySem.W.Frag) (C : Addr) (m : Str) (f : Addr) : Prop where
  at_ : PySem.W.findIn K (.ref C) m = some (some (.ref f))
  fn : PySem.W.isFn K (.ref f) = true
  kp : PySem.W.keepIn K (.ref f) = true
section
variable {X : Cx} {pins : List (Addr × Obj)} {σ : St} {H : Hp} {s : Shared} {a C dx : Addr} {fs : List (Str × V)} {f : Str} {v : V} {A : Around} {E : Value → Shared → Prop}
theorem getattr_ok {b : Bool} {Q : Value → Shared → Prop} (I : Inv X pins σ H s) (e : H a = some (.ins C dx fs)) (c : Cls X.K C) (n : NoAttr X.K C f) (l : fs.lookup f = some v)
    (h : ∀ u s', Inv X pins σ H s' → RelV v u → Q u s') : wpAny (model X.prog X.w) A (getAttr (.ref a) f b) Q E s := by
  obtain ⟨mA, O, r, _, _, _⟩ := ins_get I.hok e
  obtain ⟨u, hu, ru⟩ := RelO.some_of (v := v) (o := mA f) (by rw [← l]; exact r f)
  exact get_map I.kIn O (c.get f) c.hd n hu (handed_of ru) (h u _ (I.tok _) ru)
theorem getmeth_ok {m : Str} {g : Addr} {pl : Sem Bool} {Q : Value × List Value → Shared → Prop} (I : Inv X pins σ H s) (e : H a = some (.ins C dx fs)) (c : Cls X.K C) (k : Meth X.K C m g) (l : fs.lookup m = none)
    (h : Q (.ref g, [.ref a]) s) : wpAny (model X.prog X.w) A (getMethod (.ref a) m pl) Q E s := by
  obtain ⟨mA, O, r, _, _, _⟩ := ins_get I.hok e
  have hn : mA m = none := RelO.none_of (by rw [← l]; exact r m)
  exact get_meth I.kIn O (c.get m) k.at_ k.fn hn h
theorem setattr_ok {y : V} {u : Value} {Q : Unit → Shared → Prop} (I : Inv X pins σ H s) (e : H a = some (.ins C dx fs)) (c : Cls X.K C) (n : NoAttr X.K C f) (hl : fs.length < 1000) (ry : RelV y u)
    (h : ∀ s', Inv X pins σ (upd H a (.ins C dx (putF f y fs))) s' → Q () s') : wpAny (model X.prog X.w) A (setAttr (.ref a) f u) Q E s := by
  obtain ⟨mA, O, r, wi, _, ho⟩ := ins_get I.hok e
  have hz : (fs.map (·.1)).length ≤ sizeLine := by rw [List.length_map, sizeLine_eq]; omega
  refine set_map I.kIn O c.sa c.po n.taker c.hd wi hz fun h' O' sb => h _ ?_
  have hd : ∃ o, h'.get? dx = some o := let ⟨o, _, _, e', _⟩ := O'.ns; ⟨o, e'⟩
  refine I.write (x := a) (e := dx) (by rw [e]; exact True.intro) (.inr ho) (fun b q hb z => (sb.2 b hb).trans z) hd ?_
  refine ⟨by rw [upd_ne O.ne]; exact ho, ?_, O.ne, O'.obj, _, O'.ns, fun g => ?_, fun g hg => ?_⟩
  · have := length_putF f y fs; omega
  · show RelO ((putF f y fs).lookup g) (if g = f then some u else mA g)
    rw [lookup_putF]
    by_cases q : g = f
    · rw [if_pos q, if_pos q]; exact ry
    · rw [if_neg q, if_neg q]; exact r g
  · by_cases q : g = f
    · rw [q]; exact (keys_putF f y fs).1
    · refine (keys_putF f y fs).2 g (wi g fun z => hg ?_)
      show (if g = f then some u else mA g) = none
      rw [if_neg q]; exact z
theorem Inv.made (I : Inv X pins σ H s) : Inv X pins σ (upd (upd H s.heap.objs.size (.own (s.heap.objs.size + 1))) (s.heap.objs.size + 1) (.ins C s.heap.objs.size []))
    { s with heap := (s.heap.push PySem.W.emptyDict).push (PySem.W.instObj C s.heap.objs.size) } := by
  have e1 : (s.heap.push PySem.W.emptyDict).get? s.heap.objs.size = some PySem.W.emptyDict := Heap.get?_push_size s.heap rfl
  have e2 : ((s.heap.push PySem.W.emptyDict).push (PySem.W.instObj C s.heap.objs.size)).get? (s.heap.objs.size + 1) = some (PySem.W.instObj C s.heap.objs.size) := by
    have := Heap.get?_push_size (s.heap.push PySem.W.emptyDict) (o := PySem.W.instObj C s.heap.objs.size) rfl
    rwa [Heap.size_push] at this
  have e3 : (s.heap.push PySem.W.emptyDict).Ns s.heap.objs.size (fun _ => none) := ⟨PySem.W.emptyDict, #[], _, e1, rfl, (fun e he => absurd he (by simp)), fun _ => rfl⟩
  have I1 := I.laid (a := s.heap.objs.size) (o := .own (s.heap.objs.size + 1)) (h' := s.heap.push PySem.W.emptyDict) (t' := s.toks) (fun b u q => Heap.get?_push_of_some _ q) (Nat.le_refl _) ⟨_, e1⟩
  refine I1.laid (a := s.heap.objs.size + 1) (o := .ins C s.heap.objs.size []) (t' := s.toks) (fun b u q => Heap.get?_push_of_some _ q) (Nat.le_of_eq (Heap.size_push _ _)) ?_
  have ne : s.heap.objs.size ≠ s.heap.objs.size + 1 := Nat.ne_of_lt (Nat.lt_succ_self _)
  refine ⟨by rw [upd_ne ne, upd_same], Nat.zero_le _, ne, e2, fun _ => none, (Heap.Ns1.of_empty e3).at fun o q => Heap.get?_push_of_some _ q, fun _ => True.intro, fun y hy => absurd rfl hy⟩
theorem attr_of {prog : Program} {w : World} {env : Env} {e : Expr} {f : Str} {pos : Pos} {s : Shared} {Q : Value → Shared → Prop} (hb : attributeBase e f env (eval e env) = eval e env)
    (h : wpAny (model prog w) A (eval e env) (fun o s₁ => wpAny (model prog w) A (getAttr o f true) Q E s₁) E s) : wpAny (model prog w) A (eval (.Attribute e f pos) env) Q E s :=
  Attribute_any_ h (by rw [arm_eval_Attribute, hb])
end
noncomputable def tFld (K : PySem.W.Frag) (ta : TE) (f : Str) : TE := fun σ H Q => ta σ H fun x H1 => ∃ a C dx fs v, x = .ref a ∧ H1 a = some (.ins C dx fs) ∧ Cls K C ∧ NoAttr K C f ∧ fs.lookup f = some v ∧ Q v H1
noncomputable def sFld (K : PySem.W.Frag) (ta tv : TE) (f : Str) : TS := fun D σ H => tv σ H fun y H1 => ta σ H1 fun x H2 => ∃ a C dx fs, x = .ref a ∧ H2 a = some (.ins C dx fs) ∧ Cls K C ∧ NoAttr K C f ∧ fs.length < 1000 ∧
  D.nx σ (upd H2 a (.ins C dx (putF f y fs)))
section
variable {X : Cx} {o e value : Expr} {f : Str} {pos pos' tpos : Pos} {ta tv : TE}
theorem pe_fld (he : PE X e ta) (hb : attributeBase e f X.env (eval e X.env) = eval e X.env) : PE X (.Attribute e f pos) (tFld X.K ta f) := by
  intro pins s σ H Q I h
  refine attr_of hb (thn (he pins s σ H _ I h) fun u s1 ⟨x, H1, I1, rx, a, C, dx, fs, v, ex, ea, c, n, l, q⟩ => ?_)
  subst ex
  obtain rfl : u = Value.ref a := rx
  exact getattr_ok I1 ea c n l fun u' s2 I2 ru => ⟨v, H1, I2, ru, q⟩
theorem ps_fld (ha : PE X o ta) (hv : PE X value tv) (hs : swapsWith value (some (.Attribute o f pos')) pos.line X.env = pure false) : PS X (.Assign [.Attribute o f pos'] value pos) (sFld X.K ta tv f) := by
  intro pins s σ H D I h
  refine plainObj_wpAny_Assign_Attribute (thn (hv pins s σ H _ I h) fun u s1 ⟨y, H1, I1, ry, q⟩ => thn (ha pins s1 σ H1 _ I1 q) fun ov s2 ⟨x, H2, I2, rx, a, C, dx, fs, ex, ea, c, n, l, q2⟩ => ?_) hs
  subst ex
  obtain rfl : ov = Value.ref a := rx
  exact setattr_ok I2 ea c n l ry fun s3 I3 => ⟨σ, _, I3, q2⟩
end
section
variable {X : Cx} {pins : List (Addr × Obj)} {σ : St} {H : Hp} {s : Shared} {A : Around} {E : Value → Shared → Prop} {Q : Value → Shared → Prop} {c : Value} {b : Bool}
inductive TyOf (K : PySem.W.Frag) (H : Hp) : V → Value → Prop where
  | non : TyOf K H .non (.type "NoneType")
  | bl (x : Bool) : TyOf K H (.bl x) (.type "bool")
  | int (i : Int) : TyOf K H (.int i) (.type "int")
  | str (x : Str) : TyOf K H (.str x) (.type "str")
  | flt (x : UInt64) : TyOf K H (.flt x) (.type "float")
  | lst {a : Addr} {xs : List V} (e : H a = some (.lst xs)) : TyOf K H (.ref a) (.type "list")
  | frz {a : Addr} {o : Obj} {xs : List V} (e : H a = some (.frz o (.lst xs))) : TyOf K H (.ref a) (.type "list")
  | tup {a : Addr} {xs : List V} (e : H a = some (.tup xs)) : TyOf K H (.ref a) (.type "tuple")
  | dK {a : Addr} {kvs : List (Key × V)} (e : H a = some (.dK kvs)) : TyOf K H (.ref a) (.type "dict")
  | dT {a : Addr} {kvs : List (List Key × V)} (e : H a = some (.dT kvs)) : TyOf K H (.ref a) (.type "dict")
  | ins {a C dx : Addr} {fs : List (Str × V)} (e : H a = some (.ins C dx fs)) (cl : Cls K C) (ha : PySem.W.findIn K (.ref C) "__class__" = some (some (.builtin "object.__class__")))
      (hn : PySem.W.specialIn K (.builtin "object.__class__") "__get__" = some (some (.builtin "getset_descriptor.__get__"))) (htk : PySem.W.takesIn K (.builtin "object.__class__") = some true)
      (hm : PySem.W.mroIn K C (.type "object") = some true) : TyOf K H (.ref a) (.ref C)
theorem isinst_ok {x : V} {u t : Value} (I : Inv X pins σ H s) (rx : RelV x u) (ty : TyOf X.K H x t) (e : PySem.W.kitOne X.K t c = some b) (h : ∀ tk, Q (.bool b) { s with toks := tk }) :
    wpAny (model X.prog X.w) A (call (.builtin "isinstance") [u, c]) Q E s := by
  cases ty with
  | non => cases (show u = Value.none from rx); exact PySem.W.kia_one PySem.W.kitx_none I.kIn True.intro e (fun z => nomatch z) h
  | bl y => cases (show u = Value.bool y from rx); exact PySem.W.kia_one PySem.W.kitx_bool I.kIn True.intro e (fun z => nomatch z) h
  | int i => obtain ⟨t, q⟩ := (show ∃ t, u = Value.int i t from rx); cases q; exact PySem.W.kia_one PySem.W.kitx_int I.kIn True.intro e (fun z => nomatch z) h
  | str y => obtain ⟨t, q⟩ := (show ∃ t, u = Value.str y t from rx); cases q; exact PySem.W.kia_one PySem.W.kitx_str I.kIn True.intro e (fun z => nomatch z) h
  | flt y => obtain ⟨t, q⟩ := (show ∃ t, u = Value.float y t from rx); cases q; exact PySem.W.kia_one PySem.W.kitx_float I.kIn True.intro e (fun z => nomatch z) h
  | @lst a xs ea =>
    cases (show u = Value.ref a from rx)
    obtain ⟨_, _, n, _, h1⟩ := (show ObjOk X.prog X.w H s.heap a (.lst xs) from I.hok a _ ea)
    exact PySem.W.kia_one PySem.W.kitx_list I.kIn ⟨_, h1, rfl⟩ e (fun z => nomatch z) h
  | @frz a ob xs ea =>
    cases (show u = Value.ref a from rx)
    obtain ⟨_, _, _, n, _, h1⟩ := (show ObjOk X.prog X.w H s.heap a (.frz ob (.lst xs)) from I.hok a _ ea)
    exact PySem.W.kia_one PySem.W.kitx_list I.kIn ⟨_, h1, rfl⟩ e (fun z => nomatch z) h
  | @tup a xs ea =>
    cases (show u = Value.ref a from rx)
    obtain ⟨_, _, _, p, _⟩ := (show ObjOk X.prog X.w H s.heap a (.tup xs) from I.hok a _ ea)
    obtain ⟨o, h1, h2, _⟩ := p
    exact PySem.W.kia_one PySem.W.kitx_tuple I.kIn ⟨o, h1, h2⟩ e (fun z => nomatch z) h
  | @dK a kvs ea =>
    cases (show u = Value.ref a from rx)
    obtain ⟨_, _, vs, _, p⟩ := (show ObjOk X.prog X.w H s.heap a (.dK kvs) from I.hok a _ ea)
    obtain ⟨o, es, ep, h1, h2, _⟩ := p
    exact PySem.W.kia_one PySem.W.kitx_dict I.kIn ⟨o, h1, h2.1⟩ e (fun z => nomatch z) h
  | @dT a kvs ea =>
    cases (show u = Value.ref a from rx)
    obtain ⟨_, _, xs, _, o, es, ep, h1, h2, _⟩ := (show ObjOk X.prog X.w H s.heap a (.dT kvs) from I.hok a _ ea)
    exact PySem.W.kia_one PySem.W.kitx_dict I.kIn ⟨o, h1, h2.1⟩ e (fun z => nomatch z) h
  | @ins a C dx fs ea cl ha hn htk hm =>
    cases (show u = Value.ref a from rx)
    obtain ⟨mA, O, _⟩ := ins_get I.hok ea
    obtain ⟨od, J, _⟩ := O.look
    exact PySem.W.kia_one (PySem.W.kitx_own (cl.get _) cl.hd ha hn htk hm) I.kIn J e (fun z => nomatch z) h
end
end L2
namespace L2
open PySem PySem.Spec PyProof.Rows
structure Room (k : Nat) (A : Around) : Prop where
  hd : A.handled = none
  dp : A.depth + 3 * k + 5 < recursionLimit
  un : A.units + 16 * k + 200 < cLine
theorem Room.mono {j k : Nat} {A : Around} (r : Room k A) (h : j ≤ k) : Room j A := ⟨r.hd, by have := r.dp; omega, by have := r.un; omega⟩
theorem Room.deeper {k : Nat} {A : Around} (r : Room (k + 1) A) (env : Env) : Room k (A.deeper env) :=
  ⟨r.hd, by have := r.dp; show A.depth + 1 + 3 * k + 5 < _; omega, by have := r.un; show A.units + 3 + 16 * k + 200 < _; omega⟩
theorem make_depth {A : Around} {C : Addr} {us : List Value} {kw : List (Str × Value)} : (A.under (.builtin "type.__call__" ⟨.ref C :: us, kw⟩)).depth = A.depth + 1 := by
  first | rfl | simp [Around.under, Code.weight, Code.isCreation, Code.isGuard, Code.isCaller, Code.frames, Code.isFrame, guardIds]
theorem make_units {A : Around} {C : Addr} {us : List Value} {kw : List (Str × Value)} : (A.under (.builtin "type.__call__" ⟨.ref C :: us, kw⟩)).units = A.units + 1 := by
  first | rfl | simp [Around.under, Code.cUnits, Code.frames, Code.isFrame]
theorem Room.make {k : Nat} {A : Around} (r : Room (k + 1) A) (C : Addr) (us : List Value) (kw : List (Str × Value)) : Room k (A.under (.builtin "type.__call__" ⟨.ref C :: us, kw⟩)) :=
  ⟨r.hd, by have := r.dp; rw [make_depth]; omega, by have := r.un; rw [make_units]; omega⟩
theorem Room.depth {k : Nat} {A : Around} (r : Room k A) : A.depth < recursionLimit := by have := r.dp; omega
theorem Room.units {k : Nat} {A : Around} (r : Room k A) : A.units + 64 < cLine := by have := r.un; omega
noncomputable def tNil : TA := fun _ H Q => Q [] H
noncomputable def tCons (ta : TE) (tr : TA) : TA := fun σ H Q => ta σ H fun x H1 => tr σ H1 fun xs H2 => Q (x :: xs) H2
section
variable {X : Cx} {e : Expr} {es : List Expr} {te : TE} {t : TA} {pos : Pos}
theorem pa_nil : PA X [] tNil := fun _ _ _ _ H Q I h => Calls.spliced_nil ⟨[], H, I, .nil, h⟩
theorem pa_cons (ha : PE X e te) (hr : PA X es t) (hs : starEach (e :: es) X.env = (false, eval e X.env) :: starEach es X.env := by rfl) : PA X (e :: es) (tCons te t) := by
  intro pos pins s σ H Q I h
  rw [hs]
  show wpAny _ _ (spliced ((false, eval e X.env) :: backTo pos (starEach es X.env))) _ _ s
  refine Calls.spliced_cons (thn (ha pins s σ H _ I h) fun u s1 ⟨x, H1, I1, r1, q1⟩ => ?_)
  exact thn (hr pos pins s1 σ H1 _ I1 q1) fun us s2 ⟨xs, H2, I2, r2, q2⟩ => ⟨x :: xs, H2, I2, .cons r1 r2, q2⟩
noncomputable def tTup (t : TA) : TE := fun σ H Q => t σ H fun xs H1 => xs.length ≤ sizeLine ∧ ∀ p, H1 p = none → Q (.ref p) (upd H1 p (.tup xs))
noncomputable def tLst (t : TA) : TE := fun σ H Q => t σ H fun xs H1 => xs.length ≤ sizeLine ∧ ∀ p, H1 p = none → Q (.ref p) (upd H1 p (.lst xs))
theorem pe_tup {x1} (h : PA X es t) : PE X (.Tuple es x1 pos) (tTup t) := by
  intro pins s σ H Q I hq
  refine wpAny_Tuple_spliced (thn (h pos pins s σ H _ I hq) fun us s1 ⟨xs, H1, I1, r, z, q⟩ => ⟨by rw [← r.length]; exact z, ?_⟩)
  have hf : H1 s1.heap.objs.size = none := I1.hok.fresh (Nat.le_refl _)
  refine ⟨.ref s1.heap.objs.size, upd H1 s1.heap.objs.size (.tup xs), I1.laid (t' := s1.toks) (fun b u e => Heap.get?_push_of_some _ e) (Nat.le_refl _) ?_, rfl, q _ hf⟩
  exact ⟨z, us, r, ⟨_, Heap.get?_push_size _ rfl, rfl, _, rfl⟩, _, Heap.get?_push_size _ rfl, rfl⟩
theorem pe_lst (h : PA X es t) : PE X (.List es pos) (tLst t) := by
  intro pins s σ H Q I hq
  refine wpAny_List_spliced (thn (h pos pins s σ H _ I hq) fun us s1 ⟨xs, H1, I1, r, z, q⟩ => ⟨by rw [← r.length]; exact z, ?_⟩)
  have hf : H1 s1.heap.objs.size = none := I1.hok.fresh (Nat.le_refl _)
  refine ⟨.ref s1.heap.objs.size, upd H1 s1.heap.objs.size (.lst xs), I1.laid (t' := s1.toks) (fun b u e => Heap.get?_push_of_some _ e) (Nat.le_refl _) ?_, rfl, q _ hf⟩
  exact ⟨z, us, 0, r, Heap.get?_push_size _ rfl⟩
end
noncomputable abbrev Sp := List V → Hp → VK → XK → Prop
noncomputable abbrev CXT := List Env → Hp → Shared → XK → Value → Shared → Prop
structure Env0 (P : Program) (w : World) (K : PySem.W.Frag) (mg : Str → Option Value) (base : Heap) (A : Around) (outer : List Env) (s : Shared) (H : Hp) : Prop where
  frames : A.frames = some outer
  mod : Mod K mg base
  bs : ∀ b o, base.get? b = some o → s.heap.get? b = some o ∧ H b = none
  bsz : base.objs.size ≤ s.heap.objs.size
  funs : s.heap.FunFrames base outer
  frf : ∀ b ∈ frs outer, H b = none
  hok : HOk P w H s.heap
  bare : AllBare s.gens
noncomputable def CE (outer : List Env) (P : Program) (w : World) (H : Hp) (s : Shared) (Q : VK) (u : Value) (s' : Shared) : Prop :=
  ∃ v H', s'.os = s.os ∧ AllBare s'.gens ∧ Un (frs outer) [] H H' s.heap s'.heap ∧ HOk P w H' s'.heap ∧ RelV v u ∧ Q v H'
noncomputable def CR (CX : CXT) (outer : List Env) (P : Program) (w : World) (H : Hp) (s : Shared) (Q : VK) (E : XK) (r : Result) (s' : Shared) : Prop :=
  match r with
  | .ok (.ret u) => CE outer P w H s Q u s'
  | .ok _ => False
  | .error e => CX outer H s E e s'
structure FnOk (P : Program) (w : World) (K : PySem.W.Frag) (mg : Str → Option Value) (base : Heap) (CX : CXT) (k : Nat) (f : Addr) (fd : FuncData) (ps : List Str) (sp : Sp) : Prop where
  len : ∀ vs H Q E, sp vs H Q E → vs.length = ps.length
  run : ∀ (A : Around) (outer : List Env) (s : Shared) (H : Hp) (args : Args) (us : List Value) (vs : List V) (Q : VK) (E : XK), Room k A → Env0 P w K mg base A outer s H → BindsTo s fd args (ps.zip us) → Vals vs us → sp vs H Q E →
    codeAny (model P w) A (.call (.ref f) args) (CR CX outer P w H s Q E) s
theorem FnOk.imp {P : Program} {w : World} {K : PySem.W.Frag} {mg : Str → Option Value} {base : Heap} {CX : CXT} {k : Nat} {f : Addr} {fd : FuncData} {ps : List Str} {sp sp' : Sp} (F : FnOk P w K mg base CX k f fd ps sp)
    (h : ∀ vs H Q E, sp' vs H Q E → sp vs H Q E) : FnOk P w K mg base CX k f fd ps sp' :=
  ⟨fun vs H Q E q => F.len vs H Q E (h _ _ _ _ q), fun A outer s H args us vs Q E hr he hb hv hs => F.run A outer s H args us vs Q E hr he hb hv (h _ _ _ _ hs)⟩
theorem Env0.make {P : Program} {w : World} {K : PySem.W.Frag} {mg : Str → Option Value} {base : Heap} {A : Around} {outer : List Env} {s : Shared} {H : Hp} (e : Env0 P w K mg base A outer s H) (C : Addr) (us : List Value) (kw : List (Str × Value)) :
    Env0 P w K mg base (A.under (.builtin "type.__call__" ⟨.ref C :: us, kw⟩)) outer s H := ⟨by first | exact e.frames | (simpa [Around.under, Code.envs, Code.isFrame, pushEnvs] using e.frames), e.mod, e.bs, e.bsz, e.funs, e.frf, e.hok, e.bare⟩
section
variable {X : Cx} {pins : List (Addr × Obj)} {σ : St} {H : Hp} {s s' : Shared}
theorem Inv.env0 (I : Inv X pins σ H s) : Env0 X.prog X.w X.K X.mg X.base X.A X.stack s H :=
  ⟨I.ok.frames, I.ok.mod, I.bs, Nat.le_trans I.ok.bsz I.sz, I.stack, I.stkFree, I.hok, I.bare⟩
theorem Inv.after {Q : VK} {u : Value} (I : Inv X pins σ H s) (h : CE X.stack X.prog X.w H s Q u s') : EP X pins σ Q u s' := by
  obtain ⟨v, H', os, bare, un, hok, r, q⟩ := h
  obtain ⟨hh, g, d, t, os'⟩ := s'
  obtain rfl : os' = s.os := os
  exact ⟨v, H', I.call (h' := hh) (g' := g) (d' := d) (t' := t) (ch := []) un hok bare (fun b z => absurd z (by simp)), r, q⟩
end
noncomputable def tCall (sp : Sp) (dvs : List V) (E : XK) (t : TA) : TE := fun σ H Q => t σ H fun vs H1 => sp (vs ++ dvs) H1 Q E
noncomputable def tMeth (C : Addr) (m : Str) (sp : Sp) (dvs : List V) (E : XK) (ta : TE) (t : TA) : TE := fun σ H Q => ta σ H fun x H1 => ∃ a dx fs, x = .ref a ∧ H1 a = some (.ins C dx fs) ∧ fs.lookup m = none ∧
  t σ H1 fun vs H2 => sp (x :: (vs ++ dvs)) H2 Q E
noncomputable def tMake (C : Addr) (sp : Sp) (dvs : List V) (E : XK) (t : TA) : TE := fun σ H Q => t σ H fun vs H1 => ∀ x dx, H1 x = none → H1 dx = none → dx ≠ x →
  sp (.ref x :: (vs ++ dvs)) (upd (upd H1 dx (.own x)) x (.ins C dx [])) (fun v H2 => v = .non ∧ Q (.ref x) H2) E
noncomputable def Binds (K : PySem.W.Frag) (fd : FuncData) (ps : List Str) (ds : List Value) : Prop :=
  ∀ (s : Shared) (us : List Value), K.In s.heap → (us ++ ds).length = ps.length → BindsTo s fd ⟨us, []⟩ (ps.zip (us ++ ds))
theorem Binds.all {K : PySem.W.Frag} {fd : FuncData} {ps : List Str} (h : ∀ us : List Value, us.length = ps.length → bindArgs fd ⟨us, []⟩ = pure (ps.zip us)) : Binds K fd ps [] := fun s us _ hl => by
  rw [List.append_nil] at hl ⊢
  exact .of_eq (h us hl)
noncomputable def Passes (CX : CXT) (X : Cx) (E : XK) : Prop := ∀ (pins : List (Addr × Obj)) (σ : St) (H : Hp) (s : Shared) (e : Value) (s' : Shared), Inv X pins σ H s → CX X.stack H s E e s' → X.xe e s'
section
variable {X : Cx} {CX : CXT} {k : Nat} {f C : Addr} {fd : FuncData} {ps : List Str} {sp : Sp} {dvs : List V} {ds : List Value} {E : XK} {x m : Str} {p pos apos : Pos} {e o : Expr} {es : List Expr} {ta : TE} {t : TA}
theorem run_fn {pins : List (Addr × Obj)} {σ : St} {H : Hp} {s : Shared} {Q : VK} {us : List Value} {vs : List V} (F : FnOk X.prog X.w X.K X.mg X.base CX k f fd ps sp) (hr : Room k X.A) (hb : Binds X.K fd ps ds) (hd : Vals dvs ds) (hx : Passes CX X E)
    (I : Inv X pins σ H s) (r : Vals vs us) (h : sp (vs ++ dvs) H Q E) : wpAny (model X.prog X.w) X.A (call (.ref f) us) (EP X pins σ Q) X.xe s := by
  have r2 : Vals (vs ++ dvs) (us ++ ds) := r.append hd
  have hl : (us ++ ds).length = ps.length := by rw [← r2.length]; exact F.len _ _ _ _ h
  refine wpAny_call (codeAny_mono (F.run X.A X.stack s H ⟨us, []⟩ (us ++ ds) (vs ++ dvs) Q E hr I.env0 (hb s us I.kIn hl) r2 h) fun r s' hq => ?_)
  cases r with
  | error e => exact hx pins σ H s e s' I hq
  | ok fl =>
    cases fl with
    | ret u => exact I.after hq
    | next => exact False.elim hq
    | brk => exact False.elim hq
    | cont => exact False.elim hq
theorem pe_call (F : FnOk X.prog X.w X.K X.mg X.base CX k f fd ps sp) (hr : Room k X.A) (hg : Gl X x) (hm : X.mg x = some (.ref f)) (hk : PySem.W.keepIn X.K (.ref f) = true) (hb : Binds X.K fd ps ds) (hd : Vals dvs ds) (hx : Passes CX X E)
    (ha : PA X (e :: es) t) (hdb : (x == ("__debug__" : Str)) = false := by decide) (he : starEach (e :: es) X.env = (false, eval e X.env) :: starEach es X.env := by rfl) (hpl : (backTo pos (starEach es X.env)).any (·.1) = false := by rfl) :
    PE X (.Call (.Name x p) (e :: es) [] pos) (tCall sp dvs E t) := by
  intro pins s σ H Q I h
  refine wpAny_Call_Name_kw (ld_glob I hg hm ?_ hdb)
  refine PySem.W.callWith_K (h₀ := X.base) I.ok.mod.kin hk (thn (ha pos pins s σ H _ I h) fun us s1 ⟨vs, H1, I1, r, q⟩ => ⟨I1.kIn, ?_⟩) he hpl
  exact run_fn F hr hb hd hx I1 r q
theorem pe_meth {pl : Sem Bool} (he : PE X o ta) (c : Cls X.K C) (hm : Meth X.K C m f) (F : FnOk X.prog X.w X.K X.mg X.base CX k f fd ps sp) (hr : Room k X.A) (hb : Binds X.K fd ps ds) (hd : Vals dvs ds) (hx : Passes CX X E) (ha : PA X (e :: es) t)
    (hst : starEach (e :: es) X.env = (false, eval e X.env) :: starEach es X.env := by rfl) (hpl : (backTo pos (starEach es X.env)).any (·.1) = false := by rfl)
    (ht : eval (.Call (.Attribute o m apos) (e :: es) [] pos) X.env = (do
      let ov ← eval o X.env
      standAt apos.atName
      let (f, first) ← holding [ov] (getMethod ov m pl)
      callWith pos f first (backTo pos (starEach (e :: es) X.env)) (backToKw pos (keywordEach [] X.env))) := by rfl) :
    PE X (.Call (.Attribute o m apos) (e :: es) [] pos) (tMeth C m sp dvs E ta t) := by
  intro pins s σ H Q I h
  refine PySem.W.methodCall_KW (pl := pl) (thn (he pins s σ H _ I h) fun u s1 ⟨x, H1, I1, rx, a, dx, fs, ex, ea, l, q⟩ => ?_) ht
  subst ex
  obtain rfl : u = Value.ref a := rx
  refine getmeth_ok I1 ea c hm l ?_
  refine PySem.W.callWith_K (first := [.ref a]) (h₀ := X.base) I.ok.mod.kin hm.kp (thn (ha pos pins s1 σ H1 _ I1 q) fun us s2 ⟨vs, H2, I2, r, q2⟩ => ⟨I2.kIn, ?_⟩) hst hpl
  exact run_fn (us := .ref a :: us) (vs := .ref a :: vs) F hr hb hd hx I2 (.cons rfl r) q2
theorem pe_meth0 {pl : Sem Bool} (he : PE X o ta) (c : Cls X.K C) (hm : Meth X.K C m f) (F : FnOk X.prog X.w X.K X.mg X.base CX k f fd ps sp) (hr : Room k X.A) (hb : Binds X.K fd ps ds) (hd : Vals dvs ds) (hx : Passes CX X E)
    (ht : eval (.Call (.Attribute o m apos) [] [] pos) X.env = (do
      let ov ← eval o X.env
      standAt apos.atName
      let (f, first) ← holding [ov] (getMethod ov m pl)
      callWith pos f first (backTo pos (starEach [] X.env)) (backToKw pos (keywordEach [] X.env))) := by rfl) :
    PE X (.Call (.Attribute o m apos) [] [] pos) (tMeth C m sp dvs E ta tNil) := by
  intro pins s σ H Q I h
  refine PySem.W.methodCall_KW (pl := pl) (thn (he pins s σ H _ I h) fun u s1 ⟨x, H1, I1, rx, a, dx, fs, ex, ea, l, q⟩ => ?_) ht
  subst ex
  obtain rfl : u = Value.ref a := rx
  refine getmeth_ok I1 ea c hm l ?_
  exact PySem.W.callWith_K0 (first := [.ref a]) I1.kIn hm.kp (run_fn (us := [.ref a]) (vs := [.ref a]) F hr hb hd hx I1 (.cons rfl .nil) q)
structure Mk (K : PySem.W.Frag) (C f : Addr) : Prop where
  makes : PySem.W.makesIn K C = true
  init : PySem.W.findIn K (.ref C) "__init__" = some (some (.ref f))
  fn : PySem.W.isFn K (.ref f) = true
  kp : PySem.W.keepIn K (.ref C) = true
theorem run_make {pins : List (Addr × Obj)} {σ : St} {H : Hp} {s : Shared} {Q : VK} {us : List Value} {vs : List V} (M : Mk X.K C f) (F : FnOk X.prog X.w X.K X.mg X.base CX k f fd ps sp) (hr : Room (k + 1) X.A) (hb : Binds X.K fd ps ds) (hd : Vals dvs ds)
    (hx : Passes CX X E) (I : Inv X pins σ H s) (r : Vals vs us)
    (h : ∀ x dx, H x = none → H dx = none → dx ≠ x → sp (.ref x :: (vs ++ dvs)) (upd (upd H dx (.own x)) x (.ins C dx [])) (fun v H2 => v = .non ∧ Q (.ref x) H2) E) :
    wpAny (model X.prog X.w) X.A (call (.ref C) us) (EP X pins σ Q) X.xe s := by
  have hq := h (s.heap.objs.size + 1) s.heap.objs.size (I.hok.fresh (Nat.le_succ _)) (I.hok.fresh (Nat.le_refl _)) (Nat.ne_of_lt (Nat.lt_succ_self _))
  have I2 := Inv.made (C := C) I
  have r2 : Vals (V.ref (s.heap.objs.size + 1) :: (vs ++ dvs)) (Value.ref (s.heap.objs.size + 1) :: (us ++ ds)) := .cons rfl (r.append hd)
  have hl : (Value.ref (s.heap.objs.size + 1) :: us ++ ds).length = ps.length := by
    have e := r2.length
    rw [F.len _ _ _ _ hq] at e
    exact e.symm
  refine wpAny_call (make_map (f := f) I.kIn M.makes M.init (beq_iff_eq.mp M.fn) (codeAny_mono (F.run _ X.stack _ _ ⟨Value.ref (s.heap.objs.size + 1) :: us, []⟩ (Value.ref (s.heap.objs.size + 1) :: (us ++ ds)) _ _ E (hr.make C us [])
    (I2.env0.make C us []) (hb _ (Value.ref (s.heap.objs.size + 1) :: us) I2.kIn hl) r2 hq) fun r s' hq' => ?_))
  cases r with
  | error e => exact hx pins σ _ _ e s' I2 hq'
  | ok fl =>
    cases fl with
    | ret u =>
      obtain ⟨v, H', I3, rv, ev, q3⟩ := I2.after hq'
      subst ev
      exact ⟨rv, ⟨V.ref (s.heap.objs.size + 1), H', I3, rfl, q3⟩⟩
    | next => exact False.elim hq'
    | brk => exact False.elim hq'
    | cont => exact False.elim hq'
theorem pe_make (M : Mk X.K C f) (F : FnOk X.prog X.w X.K X.mg X.base CX k f fd ps sp) (hr : Room (k + 1) X.A) (hg : Gl X x) (hm : X.mg x = some (.ref C)) (hb : Binds X.K fd ps ds) (hd : Vals dvs ds) (hx : Passes CX X E)
    (ha : PA X (e :: es) t) (hdb : (x == ("__debug__" : Str)) = false := by decide) (he : starEach (e :: es) X.env = (false, eval e X.env) :: starEach es X.env := by rfl) (hpl : (backTo pos (starEach es X.env)).any (·.1) = false := by rfl) :
    PE X (.Call (.Name x p) (e :: es) [] pos) (tMake C sp dvs E t) := by
  intro pins s σ H Q I h
  refine wpAny_Call_Name_kw (ld_glob I hg hm ?_ hdb)
  refine PySem.W.callWith_K (h₀ := X.base) I.ok.mod.kin M.kp (thn (ha pos pins s σ H _ I h) fun us s1 ⟨vs, H1, I1, r, q⟩ => ⟨I1.kIn, ?_⟩) he hpl
  exact run_make M F hr hb hd hx I1 r q
end
section
variable {X : Cx} {CX : CXT} {k : Nat} {f C : Addr} {fd : FuncData} {ps ks : List Str} {sp : Sp} {E : XK} {x m : Str} {p pos apos kpos : Pos} {e o : Expr} {es : List Expr} {kws : List Keyword} {te ta : TE} {t tk : TA} {nm : Option Str}
variable {g : List Value → List Value → List Value} {gV : List V → List V → List V}
end
structure FnScope (N P : List Str) (sc : Scope) : Prop where
  kind : sc.kind = .function
  co : sc.isCoroutine = false
  gen : sc.isGenerator = false
  nd : N.Nodup
  pre : N.take P.length = P
  par : ∀ x ∈ P, sc.names.lookup x = some .local ∨ sc.names.lookup x = some .cell
  nofree : ∀ y ∈ sc.names, y.2 ≠ .free
theorem bindL_out {kindOf : Str → Option NameKind} {x : Str} : ∀ {binds : List (Str × Value)} {m : Str → Option Value}, (∀ v, (x, v) ∉ binds) → bindL kindOf binds m x = m x
  | [], _, _ => rfl
  | (n, v) :: r, m, h => by
    unfold bindL
    rw [bindL_out fun w hw => h w (List.mem_cons_of_mem _ hw)]
    split
    · have : x ≠ n := by rintro rfl; exact h v List.mem_cons_self
      simp [this]
    · rfl
theorem bindC_out {kindOf : Str → Option NameKind} {x : Str} : ∀ {binds : List (Str × Value)} {m : Str → Option Value}, (∀ v, (x, v) ∉ binds) → bindC kindOf binds m x = m x
  | [], _, _ => rfl
  | (n, v) :: r, m, h => by
    unfold bindC
    rw [bindC_out fun w hw => h w (List.mem_cons_of_mem _ hw)]
    split
    · rfl
    · have : x ≠ n := by rintro rfl; exact h v List.mem_cons_self
      simp [this]
theorem bindL_get {kindOf : Str → Option NameKind} {x : Str} {v : Value} : ∀ {P : List Str} {vs : List Value} {i : Nat} {m : Str → Option Value}, P.Nodup → P[i]? = some x → vs[i]? = some v → kindOf x = some .local →
    bindL kindOf (P.zip vs) m x = some v
  | [], _, _, _, _, h, _, _ => by simp at h
  | _ :: _, [], _, _, _, _, h, _ => by simp at h
  | p :: P, w :: vs, 0, m, nd, h1, h2, hk => by
    simp at h1 h2; subst h1; subst h2
    show bindL kindOf ((p, w) :: P.zip vs) m p = _
    unfold bindL
    rw [bindL_out fun v hv => (List.nodup_cons.mp nd).1 (List.of_mem_zip hv).1, if_pos hk]
    simp
  | p :: P, w :: vs, i + 1, m, nd, h1, h2, hk => by
    show bindL kindOf ((p, w) :: P.zip vs) m x = _
    unfold bindL
    exact bindL_get (i := i) (List.nodup_cons.mp nd).2 (by simpa using h1) (by simpa using h2) hk
theorem bindC_get {kindOf : Str → Option NameKind} {x : Str} {v : Value} : ∀ {P : List Str} {vs : List Value} {i : Nat} {m : Str → Option Value}, P.Nodup → P[i]? = some x → vs[i]? = some v → kindOf x ≠ some .local →
    bindC kindOf (P.zip vs) m x = some v
  | [], _, _, _, _, h, _, _ => by simp at h
  | _ :: _, [], _, _, _, _, h, _ => by simp at h
  | p :: P, w :: vs, 0, m, nd, h1, h2, hk => by
    simp at h1 h2; subst h1; subst h2
    show bindC kindOf ((p, w) :: P.zip vs) m p = _
    unfold bindC
    rw [bindC_out fun v hv => (List.nodup_cons.mp nd).1 (List.of_mem_zip hv).1, if_neg hk]
    simp
  | p :: P, w :: vs, i + 1, m, nd, h1, h2, hk => by
    show bindC kindOf ((p, w) :: P.zip vs) m x = _
    unfold bindC
    exact bindC_get (i := i) (List.nodup_cons.mp nd).2 (by simpa using h1) (by simpa using h2) hk
noncomputable def start (N : List Str) (vs : List V) : St := vs.map some ++ List.replicate (N.length - vs.length) none
noncomputable def cxOf (CX : CXT) (P : Program) (w : World) (K : PySem.W.Frag) (mg : Str → Option Value) (base : Heap) (N : List Str) (qual : Str) (scope : Scope) (f : Addr) (cd : Value) (A : Around) (outer : List Env) (s : Shared) (H : Hp) (E : XK) : Cx where
  prog := P
  w := w
  K := K
  mg := mg
  base := base
  A := A.deeper (envOfC qual scope s.heap.objs.size f cd)
  N := N
  s₀ := s
  H₀ := H
  env := envOfC qual scope s.heap.objs.size f cd
  outer := outer
  stack := envOfC qual scope s.heap.objs.size f cd :: outer
  ex := []
  calm := true
  fn := fun _ => true
  pn := []
  xe := fun e s' => wpAny (model P w) (A.deeper (envOfC qual scope s.heap.objs.size f cd)) (leaving (envOfC qual scope s.heap.objs.size f cd) e) (fun _ s'' => CX outer H s E e s'') (fun e' s'' => CX outer H s E e' s'') s'
theorem cell_has {sc : Scope} {n : Nat} {x : Str} (h : sc.names.lookup x = some .cell) : ∃ c, (cellsFrom n sc.names []).lookup x = some c := by
  have q := PySem.W.cellsFrom_some sc.names n [] (.inl h)
  exact Option.isSome_iff_exists.mp q
theorem inv_start {CX : CXT} {P : Program} {w : World} {K : PySem.W.Frag} {mg : Str → Option Value} {base : Heap} {N ps : List Str} {qual : Str} {scope : Scope} {f : Addr} {cd : Value} {A : Around} {outer : List Env} {s s1 : Shared} {H : Hp} {E : XK} {us : List Value} {vs : List V}
    (S : FnScope N ps scope) (hd : A.handled = none) (e0 : Env0 P w K mg base A outer s H) (hl : vs.length = ps.length) (r : Vals vs us)
    (x : InCallC s s.heap.objs.size (bindL (envOfC qual scope s.heap.objs.size f cd).kindOf (ps.zip us) fun _ => none) (cellsFrom (s.heap.objs.size + 1) scope.names []) (bindC (envOfC qual scope s.heap.objs.size f cd).kindOf (ps.zip us) fun _ => none) s1) :
    Inv (cxOf CX P w K mg base N qual scope f cd A outer s H E) [] (start N vs) H s1 := by
  have hpl : ps.length ≤ N.length := by have := congrArg List.length S.pre; rw [List.length_take] at this; omega
  obtain ⟨h1, tk, rfl, hk⟩ := x.done
  have noA : ∀ b : Addr, b ∉ (cxOf CX P w K mg base N qual scope f cd A outer s H E).ex := fun b z => absurd (show b ∈ ([] : List Addr) from z) (by simp)
  refine ⟨⟨e0.mod, S.kind, rfl, rfl, Nat.le_refl _, fun y z c h1 h2 => ?_, fun y hy => ?_, fun y c _ h => ?_, fun _ => hd, Around.frames_deeper e0.frames, .inr ⟨rfl, rfl⟩, fun b z => absurd z (noA b), e0.bs, e0.bsz, fun b _ _ => noA b, fun b z => absurd z (noA b), e0.funs, e0.frf⟩,
    rfl, e0.bare, Un.kept hk, ⟨_, x.toInCall.ns, fun i y v h1 h2 h3 => ?_⟩, fun y c h => ⟨_, x.cell y c h⟩, e0.hok.fresh (Nat.le_refl _), fun y c h => ?_, fun p hp => absurd (show p ∈ ([] : List (Addr × Obj)) from hp) (by simp), e0.hok.kept hk, ?_⟩
  · exact name_of_addr x.apart (PySem.mem_of_lookup h1) (PySem.mem_of_lookup h2)
  · have hy : scope.names.lookup y = some .cell ∨ scope.names.lookup y = some .free := hy
    rcases hy with hy | hy
    · exact cell_has hy
    · exact absurd rfl (S.nofree _ (PySem.mem_of_lookup hy))
  · exact Nat.le_of_lt (x.above y c (PySem.mem_of_lookup h))
  · have hi : i < vs.length := by
      unfold start at h2
      by_cases hi : i < vs.length
      · exact hi
      · rw [List.getElem?_append_right (by simpa using hi)] at h2
        rw [List.getElem?_replicate] at h2
        split at h2 <;> cases h2
    have ha : vs[i]? = some v := by
      unfold start at h2
      rw [List.getElem?_append_left (by simpa using hi), List.getElem?_map] at h2
      cases e : vs[i]? with
      | none => rw [e] at h2; cases h2
      | some a => rw [e] at h2; cases h2; rfl
    obtain ⟨u, hu, rv⟩ := r.get ha
    have hp : ps[i]? = some y := by
      rw [← S.pre, List.getElem?_take_of_lt (by omega)]; exact h1
    have ndP : ps.Nodup := by rw [← S.pre]; exact S.nd.sublist (List.take_sublist _ _)
    refine ⟨u, rv, ?_⟩
    rcases S.par y (List.mem_of_getElem? hp) with k | k
    · exact .inl ⟨k, bindL_get ndP hp hu k⟩
    · obtain ⟨c, e⟩ := cell_has (n := s.heap.objs.size + 1) k
      refine .inr ⟨.inl k, c, e, ?_⟩
      have q := x.cell y c e
      rw [bindC_get ndP hp hu (by show scope.names.lookup y ≠ _; rw [k]; decide)] at q
      exact q
  · exact e0.hok.fresh (Nat.le_of_lt (x.above y c (PySem.mem_of_lookup h)))
  · unfold start
    show _ = N.length
    rw [List.length_append, List.length_map, List.length_replicate]
    omega
theorem fn_of {CX : CXT} {P : Program} {w : World} {K : PySem.W.Frag} {mg : Str → Option Value} {base : Heap} {k : Nat} {f : Addr} {name qual : Str} {params : Arguments} {body : List Stmt} {scope : Scope} {dV kV doc pm cdv ct oc : Value} {an od : Option Addr}
    {osl : Array (Option Value)} {N ps : List Str} {sp : Sp} (lk : K.lookup f = some ⟨oc, od, .func (PySem.W.fnOf name qual params body scope dV kV doc pm an cdv ct), osl⟩) (hcd : PySem.W.codeIn K cdv qual = true) (S : FnScope N ps scope)
    (len : ∀ vs H Q E, sp vs H Q E → vs.length = ps.length)
    (hbody : ∀ (A : Around) (outer : List Env) (s : Shared) (H : Hp) (vs : List V) (Q : VK) (E : XK), Room k (A.deeper (envOfC qual scope s.heap.objs.size f cdv)) → sp vs H Q E →
      ∃ t, PSs (cxOf CX P w K mg base N qual scope f cdv A outer s H E) body t ∧ t { nx := fun _ H' => Q .non H', rt := Q } (start N vs) H) :
    FnOk P w K mg base CX (k + 1) f (PySem.W.fnOf name qual params body scope dV kV doc pm an cdv ct) ps sp := by
  refine ⟨len, fun A outer s H args us vs Q E hr e0 hb r hsp => ?_⟩
  have hl := len _ _ _ _ hsp
  have KX : K.In s.heap := e0.mod.kin.keeps fun b o e => (e0.bs b o e).1
  have lim : s.heap.NoLimit := e0.mod.nolimit.keeps fun b o e => (e0.bs b o e).1
  have hkind : ∀ y ∈ ps.zip us, scope.names.lookup y.1 = some .local ∨ (scope.names.lookup y.1 = some .cell ∧ ((cellsFrom (s.heap.objs.size + 1) scope.names []).lookup y.1).isSome = true) := fun ⟨n, v⟩ hy => by
    rcases S.par n (List.of_mem_zip hy).1 with q | q
    · exact .inl q
    · exact .inr ⟨q, PySem.W.cellsFrom_some _ _ _ (.inl q)⟩
  refine codeAny_call_function hr.depth (KX _ _ lk) rfl S.co S.gen rfl (PySem.W.codeRec_of KX hcd) (hb _ _ _ _ ?_)
  refine wpAny_newFunctionEnv_cells S.kind hkind fun env he s1 x => ?_
  subst he
  refine ⟨lim.keeps x.toInCall.keep, codeAny_func ?_⟩
  obtain ⟨t, ht, hq⟩ := hbody A outer s H vs Q E (hr.deeper _) hsp
  have I : Inv (cxOf CX P w K mg base N qual scope f cdv A outer s H E) [] (start N vs) H s1 := inv_start S hr.hd e0 hl r x
  refine wpAny_mono (ht [] s1 (start N vs) H _ I hq) (fun fl s' hs => ?_) fun e s' hs => hs
  have fin : ∀ {σ' : St} {H' : Hp} {v : V} {u : Value}, Inv (cxOf CX P w K mg base N qual scope f cdv A outer s H E) [] σ' H' s' → RelV v u → Q v H' → CE outer P w H s Q u s' :=
    fun {σ' H' v u} J rv q => ⟨v, H', J.os, J.bare, J.base, J.hok, rv, q⟩
  cases fl with
  | ret u =>
    obtain ⟨v, σ', H', J, rv, q⟩ := hs
    exact fin J rv q
  | next =>
    obtain ⟨σ', H', J, q⟩ := hs
    exact fin (v := V.non) (u := Value.none) J rfl q
  | brk =>
    obtain ⟨_, _, _, q⟩ := hs
    exact False.elim q
  | cont =>
    obtain ⟨_, _, _, q⟩ := hs
    exact False.elim q
end L2
namespace L2
open PySem PySem.Spec PyProof.Rows
section
variable {X : Cx} {x : Str} {p pos : Pos} {e : Expr} {es : List Expr} {t : TA} {id T : String} {r : List V → Hp → VK → Prop}
noncomputable def tCB (r : List V → Hp → VK → Prop) (t : TA) : TE := fun σ H Q => t σ H fun vs H1 => r vs H1 Q
theorem pe_callB (hc : CallR X (.builtin id) r) (hg : Gl X x) (hm : X.mg x = none) (hv : bootBuiltins x = some (.builtin id)) (ha : PA X (e :: es) t) (hn : x ≠ "__name__" := by decide) (hdb : (x == ("__debug__" : Str)) = false := by decide)
    (he : starEach (e :: es) X.env = (false, eval e X.env) :: starEach es X.env := by rfl) (hpl : (backTo pos (starEach es X.env)).any (·.1) = false := by rfl) : PE X (.Call (.Name x p) (e :: es) [] pos) (tCB r t) := by
  intro pins s σ H Q I h
  refine wpAny_Call_Name_kw (ld_blt I hg hm hv ?_ hn hdb)
  exact PyProof.Rows.callWith_builtin1 (thn (ha pos pins s σ H _ I h) fun us s1 ⟨vs, H1, I1, r1, q1⟩ => hc pins s1 σ H1 vs us Q I1 r1 q1) he hpl
theorem pe_callTy (hc : CallR X (.type T) r) (hg : Gl X x) (hm : X.mg x = none) (hv : bootBuiltins x = some (.type T)) (ha : PA X (e :: es) t) (hn : x ≠ "__name__" := by decide) (hdb : (x == ("__debug__" : Str)) = false := by decide)
    (he : starEach (e :: es) X.env = (false, eval e X.env) :: starEach es X.env := by rfl) (hpl : (backTo pos (starEach es X.env)).any (·.1) = false := by rfl) : PE X (.Call (.Name x p) (e :: es) [] pos) (tCB r t) := by
  intro pins s σ H Q I h
  refine wpAny_Call_Name_kw (ld_blt I hg hm hv ?_ hn hdb)
  exact PyProof.Rows.callWith_type1 (thn (ha pos pins s σ H _ I h) fun us s1 ⟨vs, H1, I1, r1, q1⟩ => hc pins s1 σ H1 vs us Q I1 r1 q1) he hpl
end
end L2
namespace HT
open PySem PyProof.Rows
section
open PySem.SeqAt
open PySem.AutoSeq1 (wpAny_loadPart')
open PySem.MeetsSeq PySem.MeetsSeq2 PySem.MeetsSeq3
end
section
variable {prog : Program} {w : World} {A : Around} {E : Value → Shared → Prop} {s : Shared}
theorem cat_tup {t b : Addr} {vs ws : List Value} {Q : Value → Shared → Prop} (ht : IsTup s.heap t vs.toArray) (hb : IsTup s.heap b ws.toArray) (hv : vs ≠ [])
    (h1 : ws = [] → Q (.ref t) s) (h2 : ws ≠ [] → Q (.ref s.heap.objs.size) { s with heap := s.heap.push { cls := .type "tuple", data := .seq (vs ++ ws).toArray } })
    (hsz : vs.length + ws.length ≤ sizeLine) : wpAny (model prog w) A (binaryOp .Add (.ref t) (.ref b)) Q E s := by
  obtain ⟨⟨cls, dd, data, sl⟩, ho, hc, n, hd⟩ := id ht
  obtain ⟨⟨cls2, dd2, data2, sl2⟩, ho2, hc2, n2, hd2⟩ := id hb
  simp only at hc hd hc2 hd2
  subst hc hd hc2 hd2
  have e : vs.toArray ++ ws.toArray = (vs ++ ws).toArray := by simp
  by_cases hw : ws = []
  · exact concat_meets ⟨_, ho, rfl⟩ ⟨_, ho2, rfl⟩ noFill_tuple_add seq_tuple_add PySem.F.slot_tuple_add PySem.F.entry_tuple_add (PySem.F.args_tuple_add_2 _ _)
      (tuple_addW1 t b vs.toArray ws.toArray n n2 dd dd2 sl sl2 (by simpa using hv) (by simp [hw])) ⟨ho, ho2, h1 hw⟩
  · refine concat_meets ⟨_, ho, rfl⟩ ⟨_, ho2, rfl⟩ noFill_tuple_add seq_tuple_add PySem.F.slot_tuple_add PySem.F.entry_tuple_add (PySem.F.args_tuple_add_2 _ _)
      (tuple_addW2 t b vs.toArray ws.toArray n n2 dd dd2 sl sl2 (by simpa using hv) (by simpa using hw) (by rw [List.size_toArray, List.size_toArray]; exact hsz)) ⟨ho, ho2, ?_⟩
    rw [e]
    exact h2 hw
end
end HT
namespace L2
open PySem PySem.Spec PyProof.Rows
noncomputable abbrev TO := St → Hp → (Option Int → Hp → Prop) → Prop
noncomputable def PO (X : Cx) (e : Option Expr) (t : TO) : Prop :=
  ∀ (pins : List (Addr × Obj)) (s : Shared) (σ : St) (H : Hp) (Q : Option Int → Hp → Prop), Inv X pins σ H s → t σ H Q →
    wpAny (model X.prog X.w) X.A (evalPart e X.env) (fun u s' => ∃ o H', Inv X pins σ H' s' ∧ IsPart u o ∧ Q o H') X.xe s
noncomputable def tNoPart : TO := fun _ H Q => Q none H
noncomputable def tPart (t : TE) : TO := fun σ H Q => t σ H fun x H1 => ∃ i, x = .int i ∧ Q (some i) H1
theorem intsAre_of {ns : List Int} : ∀ {us : List Value}, Vals (ns.map V.int) us → IntsAre us ns := by
  induction ns with
  | nil => intro us r; rw [List.map_nil] at r; cases r; exact .nil
  | cons n ns ih =>
    intro us r
    rw [List.map_cons] at r
    cases r with
    | cons r1 r2 =>
      obtain ⟨t, e⟩ := r1
      subst e
      exact .cons n t (ih r2)
section
variable {X : Cx} {e : Expr} {te : TE} {lo hi : Option Expr} {tl th : TO} {pos p2 : Pos}
theorem po_none : PO X none tNoPart := by
  intro pins s σ H Q I h
  rw [evalPart_none]
  exact wpAny_pure ⟨none, H, I, .none, h⟩
theorem po_some (h : PE X e te) : PO X (some e) (tPart te) := by
  intro pins s σ H Q I hw
  rw [evalPart_some]
  refine thn (h pins s σ H _ I hw) fun u s1 ⟨x, H1, I1, r1, q1⟩ => ?_
  obtain ⟨i, rfl, q⟩ := q1
  obtain ⟨t, rfl⟩ := r1
  exact ⟨some i, H1, I1, .int i t, q⟩
noncomputable def rCatT (K : PySem.W.Frag) : R2 := fun x y H Q => ∃ a b xs ys, x = .ref a ∧ y = .ref b ∧ SqT K H a xs ∧ SqT K H b ys ∧ xs ≠ [] ∧ xs.length + ys.length ≤ sizeLine ∧
  (ys = [] → Q (.ref a) H) ∧ (ys ≠ [] → ∀ p, H p = none → Q (.ref p) (upd H p (.tup (xs ++ ys))))
theorem Vals.nil_iff {xs : List V} {us : List Value} (r : Vals xs us) : us = [] ↔ xs = [] := by
  cases r with
  | nil => simp
  | cons _ _ => simp
theorem op_catT : OpR X (binaryOp .Add) (rCatT X.K) := by
  intro pins s σ H x y v u Q I rx ry h
  obtain ⟨a, b, xs, ys, rfl, rfl, ha, hb, hx, hz, q1, q2⟩ := h
  cases rx
  cases ry
  obtain ⟨its, r1, p1, _⟩ := I.tuple ha
  obtain ⟨its2, r2, p2, _⟩ := I.tuple hb
  refine HT.cat_tup p1 p2 (fun z => hx (r1.nil_iff.mp z)) (fun z => ⟨.ref a, H, I, rfl, q1 (r2.nil_iff.mp z)⟩) (fun z => ?_) (by rw [← r1.length, ← r2.length]; exact hz)
  refine ⟨.ref s.heap.objs.size, _, I.laid (t' := s.toks) (o := .tup (xs ++ ys)) (fun b ob q => Heap.get?_push_of_some _ q) (Nat.le_refl _) ?_, rfl, q2 (fun w => z (r2.nil_iff.mpr w)) _ (I.hok.fresh (Nat.le_refl _))⟩
  exact ⟨by rw [List.length_append]; exact hz, _, r1.append r2, IsTup.new _ _, _, Heap.get?_push_size _ rfl, rfl⟩
end
end L2
namespace L2
open PySem PySem.Spec PyProof.Rows
noncomputable def ixN (n : Nat) (i : Int) : Option Nat := if 0 ≤ i then (if i < n then some i.toNat else none) else if -(n : Int) ≤ i then some (i + n).toNat else none
noncomputable def atI {α : Type} (xs : List α) (i : Int) : Option α := (ixN xs.length i).bind fun j => xs[j]?
theorem ixN_seq {n : Nat} {i : Int} {j : Nat} (h : ixN n i = some j) : seqIndex? i n = some j ∧ j < n ∧ -(n : Int) ≤ i ∧ i < n := by
  unfold ixN at h
  by_cases h0 : 0 ≤ i
  · rw [if_pos h0] at h
    by_cases h1 : i < n
    · rw [if_pos h1] at h
      have e : i.toNat = j := Option.some.inj h
      exact ⟨by rw [seqIndex_of h0 h1, e], by omega, by omega, h1⟩
    · rw [if_neg h1] at h; cases h
  · rw [if_neg h0] at h
    by_cases h1 : -(n : Int) ≤ i
    · rw [if_pos h1] at h
      have e : (i + n).toNat = j := Option.some.inj h
      exact ⟨by rw [seqIndex_neg (by omega) h1, e], by omega, h1, by omega⟩
    · rw [if_neg h1] at h; cases h
theorem atI_get {α : Type} {xs : List α} {i : Int} {v : α} (h : atI xs i = some v) : ∃ j, seqIndex? i xs.length = some j ∧ xs[j]? = some v ∧ j < xs.length ∧ -(xs.length : Int) ≤ i ∧ i < xs.length := by
  unfold atI at h
  cases e : ixN xs.length i with
  | none => rw [e] at h; cases h
  | some j =>
    rw [e] at h
    obtain ⟨h1, h2, h3, h4⟩ := ixN_seq e
    exact ⟨j, h1, h, h2, h3, h4⟩
theorem atI_nat {α : Type} {xs : List α} {j : Nat} {v : α} (h : xs[j]? = some v) : atI xs (j : Int) = some v := by
  have hj : j < xs.length := (List.getElem?_eq_some_iff.mp h).1
  have e : ixN xs.length (j : Int) = some j := by
    unfold ixN
    rw [if_pos (by omega), if_pos (by omega)]; simp
  unfold atI; rw [e]; exact h
noncomputable def PlainIx (b : Expr) : Prop := ∀ o i, subscripted b false o i = operate [o, i] (getItem o i)
noncomputable def IxR (X : Cx) (r : R2) : Prop :=
  ∀ (value slice : Expr) (pins : List (Addr × Obj)) (s : Shared) (σ : St) (H : Hp) (x y : V) (v u : Value) (Q : VK), Inv X pins σ H s → RelV x v → RelV y u → r x y H Q →
    subscripted slice false v u = operate [v, u] (getItem v u) → wpAny (model X.prog X.w) X.A (subscriptTail value slice v u) (EP X pins σ Q) X.xe s
noncomputable def MtR (X : Cx) (id : String) (r : V → List V → Hp → VK → Prop) : Prop :=
  ∀ (pins : List (Addr × Obj)) (s : Shared) (σ : St) (H : Hp) (x : V) (xs : List V) (v : Value) (us : List Value) (Q : VK), Inv X pins σ H s → RelV x v → Vals xs us → r x xs H Q →
    wpAny (model X.prog X.w) X.A (call (.builtin id) (v :: us)) (EP X pins σ Q) X.xe s
section
variable {X : Cx} {a b : Expr} {ta tb : TE} {pos : Pos}
theorem pe_ix {r : R2} (hr : IxR X r) (ha : PE X a ta) (hb : PE X b tb) (hs : PlainIx b) : PE X (.Subscript a b pos) (tOp r ta tb) := by
  intro pins s σ H Q I h
  exact Subscript_ (binT ha hb I h fun v u s2 x y H2 I2 rx ry q => hr a b pins s2 σ H2 x y v u Q I2 rx ry q (hs _ _))
noncomputable def rIxL (K : PySem.W.Frag) : R2 := fun x y H Q => ∃ p xs i v, x = .ref p ∧ y = .int i ∧ SqL K H p xs ∧ atI xs i = some v ∧ Q v H
noncomputable def rIxT (K : PySem.W.Frag) : R2 := fun x y H Q => ∃ p xs i v, x = .ref p ∧ y = .int i ∧ SqT K H p xs ∧ atI xs i = some v ∧ Q v H
theorem ix_list : IxR X (rIxL X.K) := by
  intro value slice pins s σ H x y v u Q I rx ry h hs
  obtain ⟨p, xs, i, z, rfl, rfl, hq, he, q⟩ := h
  cases rx
  obtain ⟨t, rfl⟩ := ry
  obtain ⟨its, r, pl, hz⟩ := I.list hq
  obtain ⟨j, h1, h2, h3, h4, h5⟩ := atI_get he
  obtain ⟨w, ew, rw'⟩ := r.get h2
  have hl := r.length
  have hn := line63
  have fin : EP X pins σ Q w s := ⟨z, H, I, rw', q⟩
  by_cases h0 : 0 ≤ i
  · have hj : i.toNat = j := by
      rw [seqIndex_of h0 h5] at h1
      exact Option.some.inj h1
    exact item_listR pl.isList h0 (by omega) (by rw [hj]; simpa using ew) fin hs
  · have hj : (i + (its.toArray.size : Int)).toNat = j := by
      rw [seqIndex_neg (by omega) h4] at h1
      rw [List.size_toArray, ← hl]
      exact Option.some.inj h1
    exact subscriptTail_builtinR (x := w) pl.isList.typeIs slot_list_getitem.lookup
      (wpAny_getItem_list_neg (Q := fun r s' => r = w ∧ EP X pins σ Q r s') pl.isList (by omega) (by rw [List.size_toArray] <;> omega) (by omega) (by rw [hj]; simpa using ew) ⟨rfl, fin⟩) hs
theorem ix_tup : IxR X (rIxT X.K) := by
  intro value slice pins s σ H x y v u Q I rx ry h hs
  obtain ⟨p, xs, i, z, rfl, rfl, hq, he, q⟩ := h
  cases rx
  obtain ⟨t, rfl⟩ := ry
  obtain ⟨its, r, pl, hz⟩ := I.tuple hq
  obtain ⟨j, h1, h2, h3, h4, h5⟩ := atI_get he
  obtain ⟨w, ew, rw'⟩ := r.get h2
  have hl := r.length
  have hn := line63
  have fin : EP X pins σ Q w s := ⟨z, H, I, rw', q⟩
  exact subscriptTail_builtinR (x := w) pl.typeIs slot_tuple_getitem.lookup
    (getItem_tuple (j := j) (Q := fun r s' => r = w ∧ EP X pins σ Q r s') pl (by omega) (by omega) (by rw [List.size_toArray, ← hl]; exact h1) (by simpa using ew) ⟨rfl, fin⟩) hs
theorem mapSeq_set (its : List Value) (n j : Nat) (u : Value) : Obj.mapSeq (·.setIfInBounds j u) { cls := .type "list", data := .seq its.toArray n } = { cls := .type "list", data := .seq (its.set j u).toArray n } := by
  simp [Obj.mapSeq]
theorem Inv.lst {pins : List (Addr × Obj)} {σ : St} {H : Hp} {s : Shared} {p : Addr} {xs : List V} (I : Inv X pins σ H s) (h : H p = some (.lst xs)) :
    ∃ (its : List Value) (n : Nat), Vals xs its ∧ s.heap.get? p = some { cls := .type "list", data := .seq its.toArray n } ∧ xs.length ≤ sizeLine := by
  obtain ⟨z, its, n, r, e⟩ := I.hok p _ h
  exact ⟨its, n, r, e, z⟩
theorem Inv.lstUpd {pins : List (Addr × Obj)} {σ : St} {H : Hp} {s : Shared} {p : Addr} {xs ys : List V} {its its' : List Value} {n n' : Nat} {f : Obj → Obj} (I : Inv X pins σ H s) (h : H p = some (.lst xs))
    (ho : s.heap.get? p = some { cls := .type "list", data := .seq its.toArray n }) (hf : f { cls := .type "list", data := .seq its.toArray n } = { cls := .type "list", data := .seq its'.toArray n' }) (r : Vals ys its') (hz : ys.length ≤ sizeLine) (t : Nat) :
    Inv X pins σ (upd H p (.lst ys)) { s with heap := s.heap.update p f, toks := t } := by
  have e : (s.heap.update p f).get? p = some { cls := .type "list", data := .seq its'.toArray n' } := by
    rw [Heap.get?_update_self f ho (by rw [hf] <;> rfl), hf]
  refine I.write (x := p) (e := p) (by rw [h]; trivial) (.inl rfl) (fun b u hb q => (Heap.get?_update_other _ _ (Ne.symm hb)).trans q) ⟨_, e⟩ ?_
  exact ⟨hz, its', n', r, e⟩
noncomputable def rSetL : V → V → V → Hp → (Hp → Prop) → Prop := fun o i v H Q => ∃ p xs k j, o = .ref p ∧ i = .int k ∧ H p = some (.lst xs) ∧ ixN xs.length k = some j ∧ Q (upd H p (.lst (xs.set j v)))
theorem set_list : PSet X rSetL := by
  intro pins s σ H o i v ov iv u Q I ro ri rv h
  obtain ⟨p, xs, k, j, rfl, rfl, hp, hj, q⟩ := h
  cases ro
  obtain ⟨t, rfl⟩ := ri
  obtain ⟨its, n, r, ho, hz⟩ := I.lst hp
  obtain ⟨h1, h2, h3, h4⟩ := ixN_seq hj
  have hl := r.length
  have hn := line63
  have I' : Inv X pins σ (upd H p (.lst (xs.set j v))) { s with heap := s.heap.update p (Obj.mapSeq (·.setIfInBounds j u)) } :=
    I.lstUpd hp ho (mapSeq_set its n j u) (r.set rv j) (by rw [List.length_set]; exact hz) s.toks
  by_cases h0 : 0 ≤ k
  · have hk : k.toNat = j := by
      rw [seqIndex_of h0 h4] at h1
      exact Option.some.inj h1
    exact PySem.W.ki_setAt ho h0 (by omega) (by rw [List.size_toArray, ← hl]; exact h4) (by rw [hk]; exact ⟨_, I', q⟩)
  · have hk : (k + (its.toArray.size : Int)).toNat = j := by
      rw [seqIndex_neg (by omega) h3] at h1
      rw [List.size_toArray, ← hl]
      exact Option.some.inj h1
    exact PySem.W.ki_setBack ho (by omega) (by rw [List.size_toArray, ← hl]; exact h3) (by omega) (by rw [hk]; exact ⟨_, I', q⟩)
noncomputable def flatV : V → Bool
  | .non => true
  | .bl _ => true
  | .int _ => true
  | .str _ => true
  | _ => false
noncomputable def eqV : V → V → Bool
  | .non, .non => true
  | .bl a, .bl b => a == b
  | .bl a, .int b => (if a then 1 else 0) == b
  | .int a, .bl b => a == (if b then 1 else 0)
  | .int a, .int b => a == b
  | .str a, .str b => a == b
  | _, _ => false
theorem eqAt_V {A : Around} {s : Shared} {y x : V} {u v : Value} (ry : RelV y u) (rx : RelV x v) (fy : flatV y = true) (fx : flatV x = true) : SeqAt.EqAt A s u v (eqV y x) := by
  cases y with
  | non =>
    cases ry
    cases x with
    | non => cases rx; exact SeqAt.EqAt.same _
    | bl b => cases rx; exact SeqAt.EqAt.none_bool b
    | int b => obtain ⟨t, rfl⟩ := rx; exact SeqAt.EqAt.none_int b t
    | str b => obtain ⟨t, rfl⟩ := rx; exact SeqAt.EqAt.none_str b t
    | _ => exact absurd (show false = true from fx) Bool.false_ne_true
  | bl a =>
    cases ry
    cases x with
    | non => cases rx; exact SeqAt.EqAt.bool_none a
    | bl b => cases rx; exact SeqAt.EqAt.bool_bool a b
    | int b => obtain ⟨t, rfl⟩ := rx; exact SeqAt.EqAt.bool_int a b t
    | str b => obtain ⟨t, rfl⟩ := rx; exact SeqAt.EqAt.bool_str a b t
    | _ => exact absurd (show false = true from fx) Bool.false_ne_true
  | int a =>
    obtain ⟨t', rfl⟩ := ry
    cases x with
    | non => cases rx; exact SeqAt.EqAt.int_none a t'
    | bl b => cases rx; exact SeqAt.EqAt.int_bool a t' b
    | int b => obtain ⟨t, rfl⟩ := rx; exact SeqAt.EqAt.int_int a t' b t
    | str b => obtain ⟨t, rfl⟩ := rx; exact SeqAt.EqAt.int_str a t' b t
    | _ => exact absurd (show false = true from fx) Bool.false_ne_true
  | str a =>
    obtain ⟨t', rfl⟩ := ry
    cases x with
    | non => cases rx; exact SeqAt.EqAt.str_none a t'
    | bl b => cases rx; exact SeqAt.EqAt.str_bool a t' b
    | int b => obtain ⟨t, rfl⟩ := rx; exact SeqAt.EqAt.str_int a t' b t
    | str b => obtain ⟨t, rfl⟩ := rx; exact SeqAt.EqAt.str_str a t' b t
    | _ => exact absurd (show false = true from fx) Bool.false_ne_true
  | _ => exact absurd (show false = true from fy) Bool.false_ne_true
noncomputable def eqU (x : V) (u : Value) : Bool := match u with
  | .none => eqV .non x
  | .bool b => eqV (.bl b) x
  | .int i _ => eqV (.int i) x
  | .str z _ => eqV (.str z) x
  | _ => false
theorem eqU_of {x y : V} {u : Value} (r : RelV y u) (f : flatV y = true) : eqU x u = eqV y x := by
  cases y with
  | non => cases r; rfl
  | bl b => cases r; rfl
  | int i => obtain ⟨t, rfl⟩ := r; rfl
  | str z => obtain ⟨t, rfl⟩ := r; rfl
  | _ => exact absurd (show false = true from f) Bool.false_ne_true
theorem any_eqU {x : V} : ∀ {xs : List V} {us : List Value}, Vals xs us → xs.all flatV = true → us.any (eqU x) = xs.any fun y => eqV y x
  | _, _, .nil, _ => rfl
  | y :: xs, u :: us, .cons r t, f => by
    rw [List.all_cons, Bool.and_eq_true] at f
    rw [List.any_cons, List.any_cons, eqU_of r f.1, any_eqU t f.2]
theorem mem_eqAt {A : Around} {s : Shared} {x : V} {v : Value} (rx : RelV x v) (fx : flatV x = true) : ∀ {xs : List V} {us : List Value}, Vals xs us → xs.all flatV = true → ∀ u ∈ us, SeqAt.EqAt A s u v (eqU x u)
  | _, _, .nil, _ => fun u hu => by cases hu
  | y :: xs, u :: us, .cons r t, f => fun u' hu => by
    rw [List.all_cons, Bool.and_eq_true] at f
    rcases List.mem_cons.mp hu with rfl | hu
    · rw [eqU_of r f.1]; exact eqAt_V r rx f.1 fx
    · exact mem_eqAt rx fx t f.2 u' hu
noncomputable def inV (x : V) (xs : List V) : Bool := xs.any fun y => eqV y x
noncomputable def rIn (K : PySem.W.Frag) (neg : Bool) : R2 := fun x y H Q => ∃ p xs, y = .ref p ∧ (SqL K H p xs ∨ SqT K H p xs) ∧ flatV x = true ∧ xs.all flatV = true ∧ Q (.bl (if neg then !inV x xs else inV x xs)) H
theorem op_in_seq : OpR X (compareOp .In) (rIn X.K false) := by
  intro pins s σ H x y v u Q I rx ry h
  obtain ⟨p, xs, rfl, hq, fx, fs, q⟩ := h
  cases ry
  rcases hq with hq | hq
  · obtain ⟨its, r, pl, hz⟩ := I.list hq
    refine SeqAt.in_listAt (eqU x) pl.isList (fun w hw => mem_eqAt rx fx r fs w (by simpa using hw)) ⟨.bl _, H, I, rfl, ?_⟩
    rw [show its.toArray.any (eqU x) = its.any (eqU x) by simp, any_eqU r fs]
    exact q
  · obtain ⟨its, r, pl, hz⟩ := I.tuple hq
    refine SeqAt.in_tupleAt (eqU x) pl (fun w hw => mem_eqAt rx fx r fs w (by simpa using hw)) ⟨.bl _, H, I, rfl, ?_⟩
    rw [show its.toArray.any (eqU x) = its.any (eqU x) by simp, any_eqU r fs]
    exact q
theorem op_notIn_seq : OpR X (compareOp .NotIn) (rIn X.K true) := by
  intro pins s σ H x y v u Q I rx ry h
  obtain ⟨p, xs, rfl, hq, fx, fs, q⟩ := h
  cases ry
  rcases hq with hq | hq
  · obtain ⟨its, r, pl, hz⟩ := I.list hq
    refine SeqAt.notIn_listAt (eqU x) pl.isList (fun w hw => mem_eqAt rx fx r fs w (by simpa using hw)) ⟨.bl _, H, I, rfl, ?_⟩
    rw [show its.toArray.any (eqU x) = its.any (eqU x) by simp, any_eqU r fs]
    exact q
  · obtain ⟨its, r, pl, hz⟩ := I.tuple hq
    refine SeqAt.notIn_tupleAt (eqU x) pl (fun w hw => mem_eqAt rx fx r fs w (by simpa using hw)) ⟨.bl _, H, I, rfl, ?_⟩
    rw [show its.toArray.any (eqU x) = its.any (eqU x) by simp, any_eqU r fs]
    exact q
theorem call_len_seq : CallR X (.builtin "len") (fun xs H Q => ∃ p ys, xs = [.ref p] ∧ (SqL X.K H p ys ∨ SqT X.K H p ys) ∧ Q (.int ys.length) H) := by
  intro pins s σ H xs us Q I r h
  obtain ⟨p, ys, rfl, hq, q⟩ := h
  obtain ⟨u, rfl, rx⟩ := vals1 r
  cases rx
  have hn := line63
  rcases hq with hq | hq
  · obtain ⟨its, r', pl, hz⟩ := I.list hq
    have hlen := r'.length
    exact Calls.call_len_list pl.isList (by simp only [List.size_toArray] <;> omega) ⟨.int ys.length, H, I.tok _, ⟨s.toks + 1, by rw [List.size_toArray, hlen]⟩, q⟩
  · obtain ⟨its, r', pl, hz⟩ := I.tuple hq
    have hlen := r'.length
    exact len_tuple pl (by simp only [List.size_toArray] <;> omega) ⟨.int ys.length, H, I.tok _, ⟨s.toks + 1, by rw [List.size_toArray, hlen]⟩, q⟩
theorem call_list_of : CallR X (.type "list") (fun xs H Q => ∃ p ys, xs = [.ref p] ∧ (SqL X.K H p ys ∨ SqT X.K H p ys) ∧ ∀ l, H l = none → Q (.ref l) (upd H l (.lst ys))) := by
  intro pins s σ H xs us Q I r h
  obtain ⟨p, ys, rfl, hq, q⟩ := h
  obtain ⟨u, rfl, rx⟩ := vals1 r
  cases rx
  have fin : ∀ (its : List Value), Vals ys its → ys.length ≤ sizeLine → ∀ (h' : Heap) (c' : Nat), (∀ b o', s.heap.get? b = some o' → h'.get? b = some o') →
      h'.get? s.heap.objs.size = some { cls := .type "list", dict := none, data := .seq its.toArray c', slots := #[] } → EP X pins σ Q (.ref s.heap.objs.size) { s with heap := h' } := fun its r' hz h' c' kp e =>
    ⟨.ref s.heap.objs.size, _, I.laid (t' := s.toks) kp (Nat.le_refl _) (show ObjOk X.prog X.w _ h' _ (.lst ys) from ⟨hz, its, c', r', e⟩), rfl, q _ (I.hok.fresh (Nat.le_refl _))⟩
  rcases hq with hq | hq
  · obtain ⟨its, r', pl, hz⟩ := I.list hq
    have hlen := r'.length
    obtain ⟨o, ho, hc, n, hd⟩ := pl.isList
    exact call_list_seq p (.inl rfl) ho hc hd (fun h' c' kp e => fin its r' hz h' c' kp e) (by simp only [List.size_toArray] <;> omega)
  · obtain ⟨its, r', pl, hz⟩ := I.tuple hq
    have hlen := r'.length
    obtain ⟨o, ho, hc, n, hd⟩ := pl
    exact call_list_seq p (.inr rfl) ho hc hd (fun h' c' kp e => fin its r' hz h' c' kp e) (by simp only [List.size_toArray] <;> omega)
theorem call_tuple_of : CallR X (.type "tuple") (fun xs H Q => ∃ p ys, xs = [.ref p] ∧ ((SqL X.K H p ys ∧ ∀ l, H l = none → Q (.ref l) (upd H l (.tup ys))) ∨ (SqT X.K H p ys ∧ Q (.ref p) H))) := by
  intro pins s σ H xs us Q I r h
  obtain ⟨p, ys, rfl, h⟩ := h
  obtain ⟨u, rfl, rx⟩ := vals1 r
  cases rx
  rcases h with ⟨hq, q⟩ | ⟨hq, q⟩
  · obtain ⟨its, r', pl, hz⟩ := I.list hq
    have hlen := r'.length
    refine call_tuple_list pl.isList (fun h' kp => ?_) (by simp only [List.size_toArray] <;> omega)
    have I1 : Inv X pins σ H { s with heap := h' } := I.kept (t' := s.toks) kp
    have I2 : Inv X pins σ (upd H h'.objs.size (.tup ys)) { s with heap := h'.push { cls := .type "tuple", data := .seq its.toArray } } :=
      I1.laid (t' := s.toks) (fun b o e => Heap.get?_push_of_some _ e) (Nat.le_refl _) (show ObjOk X.prog X.w _ _ _ (.tup ys) from ⟨hz, its, r', IsTup.new _ _, _, Heap.get?_push_size _ rfl, rfl⟩)
    exact ⟨.ref h'.objs.size, _, I2, rfl, q _ (I1.hok.fresh (Nat.le_refl _))⟩
  · obtain ⟨its, r', pl, hz⟩ := I.tuple hq
    exact call_tuple_same pl ⟨.ref p, H, I, rfl, q⟩
noncomputable def tyV (K : PySem.W.Frag) (T : String) (x : V) (H : Hp) : Prop := match x with
  | .str _ => T = "str"
  | .int _ => T = "int"
  | .ref p => (T = "list" ∧ ∃ xs, SqL K H p xs) ∨ (T = "tuple" ∧ ∃ o, K.lookup p = some o ∧ o.cls = .type "tuple" ∧ o.dict = none) ∨
      (T = "dict" ∧ ((∃ kvs, H p = some (.dK kvs)) ∨ ∃ kvs, H p = some (.dT kvs))) ∨ (T = "set" ∧ ∃ S n, H p = some (.set S n))
  | _ => False
theorem tyV_is {pins : List (Addr × Obj)} {σ : St} {H : Hp} {s : Shared} {T : String} {x : V} {v : Value} (I : Inv X pins σ H s) (r : RelV x v) (ty : tyV X.K T x H) :
    s.TypeIs v T ∧ ∀ a, v = .ref a → ∃ ob, s.heap.get? a = some ob ∧ ob.dict = none := by
  cases x with
  | str z =>
    obtain ⟨t, rfl⟩ := r
    cases (show T = "str" from ty)
    exact ⟨typeIs_str s z t, fun _ e => nomatch e⟩
  | int i =>
    obtain ⟨t, rfl⟩ := r
    cases (show T = "int" from ty)
    exact ⟨typeIs_int s i t, fun _ e => nomatch e⟩
  | ref p =>
    cases r
    rcases ty with ⟨rfl, xs, hq⟩ | ⟨rfl, o, hk, hc, hd⟩ | ⟨rfl, hk⟩ | ⟨rfl, S, n, hk⟩
    · obtain ⟨its, _, pl, _⟩ := I.list hq
      refine ⟨pl.isList.typeIs, fun a e => ?_⟩
      cases e
      obtain ⟨o, n, e, c, hd, _⟩ := pl
      exact ⟨o, e, hd⟩
    · refine ⟨⟨o, I.kIn p o hk, hc⟩, fun a e => ?_⟩
      cases e
      exact ⟨o, I.kIn _ o hk, hd⟩
    · have z : ∃ o, s.heap.get? p = some o ∧ o.ExactDict := by
        rcases hk with ⟨kvs, hk⟩ | ⟨kvs, hk⟩
        · obtain ⟨_, _, _, _, o, _, _, e, ex, _⟩ := I.hok p _ hk
          exact ⟨o, e, ex⟩
        · obtain ⟨_, _, _, _, o, _, _, e, ex, _⟩ := I.hok p _ hk
          exact ⟨o, e, ex⟩
      obtain ⟨o, e, ex⟩ := z
      refine ⟨⟨o, e, ex.1⟩, fun a e2 => ?_⟩
      cases e2
      exact ⟨o, e, ex.2.1⟩
    · obtain ⟨o, _, _, _, e, ex, _⟩ := I.hok p _ hk
      refine ⟨⟨o, e, ex.1⟩, fun a e2 => ?_⟩
      cases e2
      exact ⟨o, e, ex.2.1⟩
  | _ => exact False.elim ty
noncomputable def tBM0 (K : PySem.W.Frag) (T : String) (r : V → List V → Hp → VK → Prop) (to : TE) : TE := fun σ H Q => to σ H fun x H1 => tyV K T x H1 ∧ r x [] H1 Q
noncomputable def tBM (K : PySem.W.Frag) (T : String) (r : V → List V → Hp → VK → Prop) (to : TE) (t : TA) : TE := fun σ H Q => to σ H fun x H1 => tyV K T x H1 ∧ t σ H1 fun xs H2 => r x xs H2 Q
variable {o e : Expr} {es : List Expr} {to : TE} {t : TA} {name : Str} {apos cpos : Pos} {T id : String} {r : V → List V → Hp → VK → Prop}
theorem pe_bm0 (pa : PlainAttrs T) (slot : Slot T name id) (hty : typeOf (.builtin id) = pure (.type "method_descriptor")) (hm : MtR X id r) (ho : PE X o to)
    (hbase : attributeBase o name X.env (eval o X.env) = eval o X.env := by rfl) (hline : (apos.endLine == cpos.line) = true := by rfl) : PE X (.Call (.Attribute o name apos) [] [] cpos) (tBM0 X.K T r to) := by
  intro pins s σ H Q I h
  refine wpAny_Call_method0_late hbase hline (thn (ho pins s σ H _ I h) fun v s1 ⟨x, H1, I1, r1, ty, q1⟩ => ?_)
  obtain ⟨h1, h2⟩ := tyV_is I1 r1 ty
  exact ⟨T, id, pa, slot, hty, h1, h2, Calls.callWith_builtin rfl (PySem.evalArgs_none (hm pins s1 σ H1 x [] v [] Q I1 r1 .nil q1))⟩
theorem pe_bm (pa : PlainAttrs T) (slot : Slot T name id) (hty : typeOf (.builtin id) = pure (.type "method_descriptor")) (hm : MtR X id r) (ho : PE X o to) (ha : PA X (e :: es) t)
    (hbase : attributeBase o name X.env (eval o X.env) = eval o X.env := by rfl)
    (hfew : ((backTo cpos (starEach (e :: es) X.env)).all (fun x => !x.1) && (backToKw cpos (keywordEach [] X.env)).all (fun x => x.1.isSome)
      && decide ((e :: es).length + ([] : List Keyword).length + (if ([] : List Keyword).isEmpty then 0 else 1) < 30)) = true := by rfl)
    (hline : (apos.endLine == cpos.line) = true := by rfl) (hs : starEach (e :: es) X.env = (false, eval e X.env) :: starEach es X.env := by rfl) (hplain : (backTo cpos (starEach es X.env)).any (·.1) = false := by rfl) :
    PE X (.Call (.Attribute o name apos) (e :: es) [] cpos) (tBM X.K T r to t) := by
  intro pins s σ H Q I h
  refine wpAny_Call_method_late hbase hfew hline rfl (thn (ho pins s σ H _ I h) fun v s1 ⟨x, H1, I1, r1, ty, q1⟩ => ?_)
  obtain ⟨h1, h2⟩ := tyV_is I1 r1 ty
  refine ⟨T, id, pa, slot, hty, h1, h2, ?_⟩
  have hA := ha cpos pins s1 σ H1 _ I1 q1
  rw [hs] at hA ⊢
  refine Calls.callWith_builtin (by show (false || (backTo cpos (starEach es X.env)).any (·.1)) = false; rw [hplain] <;> rfl) (Calls.evalArgs_plain ?_)
  exact thn hA fun us s2 ⟨vs, H2, I2, r2, q2⟩ => hm pins s2 σ H2 x vs v us Q I2 r1 r2 q2
end
end L2
namespace L2
open PySem PySem.Spec PyProof.Rows
noncomputable def MtM (X : Cx) (id : String) (r : V → List V → Hp → VK → Prop) : Prop :=
  ∀ (pins : List (Addr × Obj)) (s : Shared) (σ : St) (H : Hp) (x : V) (xs : List V) (v : Value) (us : List Value) (Q : VK), Inv X pins σ H s → RelV x v → Vals xs us → r x xs H Q →
    wpAny (model X.prog X.w) X.A (call (.builtin id) (v :: us)) (EP X pins σ Q) X.xe s
theorem Vals.one : ∀ {x : V} {us : List Value}, Vals [x] us → ∃ u, us = [u] ∧ RelV x u
  | _, _, .cons r .nil => ⟨_, rfl, r⟩
theorem Vals.zero : ∀ {us : List Value}, Vals [] us → us = []
  | _, .nil => rfl
theorem Vals.dropLast {xs : List V} {us : List Value} (h : Vals xs us) : Vals xs.dropLast us.dropLast := by
  induction h with
  | nil => exact .nil
  | cons r t ih =>
    cases t with
    | nil => exact .nil
    | cons q t' => exact .cons r ih
theorem erase_last {α : Type} (l : List α) : l.eraseIdx (l.length - 1) = l.dropLast := by
  induction l with
  | nil => rfl
  | cons a r ih =>
    cases r with
    | nil => rfl
    | cons b r =>
      have e : (a :: b :: r).length - 1 = ((b :: r).length - 1) + 1 := by
        have h1 : (a :: b :: r).length = r.length + 2 := rfl
        have h2 : (b :: r).length = r.length + 1 := rfl
        omega
      rw [e, List.eraseIdx_cons_succ, ih]
      all_goals rfl
section
variable {X : Cx} {pins : List (Addr × Obj)} {σ : St} {H : Hp} {s : Shared} {l b : Addr} {xs ys zs : List V}
theorem Inv.lset {its its' : List Value} {n : Nat} {f : Array Value → Array Value} {t' : Nat} (I : Inv X pins σ H s) (hH : H l = some (.lst xs))
    (e : s.heap.get? l = some { cls := .type "list", data := .seq its.toArray n }) (hf : f its.toArray = its'.toArray) (hv : Vals ys its') (hz : ys.length ≤ sizeLine) :
    Inv X pins σ (upd H l (.lst ys)) { s with heap := s.heap.update l (Obj.mapSeq f), toks := t' } := by
  have q := PySem.IsL.update e f
  rw [hf] at q
  refine I.write (x := l) (e := l) (by rw [hH]; exact trivial) (.inl rfl) (fun b' u hb hu => (Heap.get?_update_other s.heap (Obj.mapSeq f) (Ne.symm hb)).trans hu) ⟨_, q⟩ ?_
  exact ⟨hz, its', _, hv, q⟩
theorem Inv.lnew {its : List Value} {t' : Nat} (I : Inv X pins σ H s) (hv : Vals ys its) (hz : ys.length ≤ sizeLine) :
    Inv X pins σ (upd H s.heap.objs.size (.lst ys)) { s with heap := s.heap.push { cls := .type "list", data := .seq its.toArray }, toks := t' } :=
  I.laid (fun _ _ q => Heap.get?_push_of_some _ q) (Nat.le_refl _) ⟨hz, its, 0, hv, Heap.get?_push_size _ rfl⟩
theorem Inv.fresh (I : Inv X pins σ H s) : H s.heap.objs.size = none := I.hok.fresh (Nat.le_refl _)
theorem Inv.lstM (I : Inv X pins σ H s) (hH : H l = some (.lst xs)) : xs.length ≤ sizeLine ∧ ∃ (its : List Value) (n : Nat), Vals xs its ∧ xs.length = its.length ∧ s.heap.get? l = some { cls := .type "list", data := .seq its.toArray n } := by
  obtain ⟨z, its, n, r, e⟩ := I.hok l _ hH
  exact ⟨z, its, n, r, r.length, e⟩
end
section
variable {X : Cx}
noncomputable def rAppend : V → List V → Hp → VK → Prop := fun x vs H Q => ∃ l xs y, x = .ref l ∧ vs = [y] ∧ H l = some (.lst xs) ∧ xs.length < sizeLine ∧ Q .non (upd H l (.lst (xs ++ [y])))
theorem mt_append : MtM X "list.append" rAppend := by
  intro pins s σ H x vs v us Q I rx rv h
  obtain ⟨l, xs, y, rfl, rfl, hH, hz, q⟩ := h
  cases rx
  obtain ⟨u, rfl, ru⟩ := rv.one
  obtain ⟨z, its, n, r, hl, e⟩ := I.lstM hH
  refine call_meets F.slot_list_append ⟨_, e, rfl⟩ F.entry_list_append (F.args_list_append_2 _ _) (PySem.list_append l its.toArray n u (by rw [List.size_toArray]; omega)) ⟨e, ?_⟩
  refine ⟨.non, _, I.lset (its' := its ++ [u]) hH e (by simp) (r.append (.cons ru .nil)) ?_, rfl, q⟩
  rw [List.length_append, List.length_singleton]
  omega
noncomputable def rPop : V → List V → Hp → VK → Prop := fun x vs H Q => ∃ l xs y, x = .ref l ∧ vs = [] ∧ H l = some (.lst xs) ∧ xs[xs.length - 1]? = some y ∧ Q y (upd H l (.lst xs.dropLast))
theorem mt_pop : MtM X "list.pop" rPop := by
  intro pins s σ H x vs v us Q I rx rv h
  obtain ⟨l, xs, y, rfl, rfl, hH, hy, q⟩ := h
  cases rx
  have hus := rv.zero
  subst hus
  obtain ⟨z, its, n, r, hl, e⟩ := I.lstM hH
  obtain ⟨u, hu, ru⟩ := r.get hy
  have hy' : its.toArray[its.toArray.size - 1]? = some u := by
    show its.toArray[its.length - 1]? = some u
    rw [← Array.getElem?_toList, ← hl]
    exact hu
  refine call_meets F.slot_list_pop ⟨_, e, rfl⟩ F.entry_list_pop (F.args_list_pop_1 _) (MeetsSeq.list_pop_last l its.toArray n u hy' (by rw [List.size_toArray]; omega)) ⟨e, ?_⟩
  refine ⟨y, _, I.lset (its' := its.dropLast) hH e ?_ r.dropLast ?_, ru, q⟩
  · show its.toArray.eraseIdxIfInBounds (its.toArray.size - 1) = its.dropLast.toArray
    rw [List.size_toArray, List.eraseIdxIfInBounds_toArray, erase_last]
  · rw [List.length_dropLast]
    omega
noncomputable def rCat : R2 := fun x y H Q => ∃ l b xs zs, x = .ref l ∧ y = .ref b ∧ H l = some (.lst xs) ∧ H b = some (.lst zs) ∧ xs.length + zs.length ≤ sizeLine ∧ ∀ p, H p = none → Q (.ref p) (upd H p (.lst (xs ++ zs)))
theorem op_cat : OpR X (binaryOp .Add) rCat := by
  intro pins s σ H x y v u Q I rx ry h
  obtain ⟨l, b, xs, zs, rfl, rfl, hH, hB, hz, q⟩ := h
  cases rx
  cases ry
  obtain ⟨z, its, n, r, hl, e⟩ := I.lstM hH
  obtain ⟨z2, its2, n2, r2, hl2, e2⟩ := I.lstM hB
  refine PySem.P.add_list e e2 ?_ (by rw [List.size_toArray, List.size_toArray]; omega)
  have ea : its.toArray ++ its2.toArray = (its ++ its2).toArray := by simp
  rw [ea]
  exact ⟨.ref _, _, I.lnew (t' := s.toks) (r.append r2) (by rw [List.length_append]; omega), rfl, q _ I.fresh⟩
end
section
variable {prog : Program} {w : World} {A : Around} {E : Value → Shared → Prop} {s : Shared}
end
section
variable {X : Cx}
end
end L2
namespace Att
open PySem PySem.W PySem.Calls PyProof.Rows
theorem ints_of_wellAll {P : Params} {h : Heap} : ∀ (ns : List Int) (vs : List Value), WellAll P h vs (ns.map WData.int) → IntsAre vs ns := by
  intro ns
  induction ns with
  | nil =>
    intro vs w
    rw [List.map_nil] at w
    cases w
    exact .nil
  | cons n ns ih =>
    intro vs w
    rw [List.map_cons] at w
    cases w with
    | cons a b =>
      cases a
      exact .cons _ _ (ih _ b)
theorem script_of {l : OpenLaw} {n : Nat} (hn : l.most = some n) {P : Params} {h : Heap} {args : List WData} {vals : List Value}
    (hpre : l.row.toRowW.claim.pre args = true) (hwl : WellAll P h vals args) :
    ∃ a vs ns, vals = [Value.ref a] ∧ args = [WData.list (ns.map WData.int)] ∧ h.get? a = some { cls := .type "list", data := .seq vs.toArray } ∧ IntsAre vs ns ∧ ns.length ≤ n := by
  have hsh : WShape.hasAll [] args [.list .int] = true := (pre_splitW hpre).1
  have hc : l.pre.holds [] { args := args } = true := (pre_splitW hpre).2
  obtain ⟨d, r, rfl, h1, h2⟩ := hasAllW_cons hsh
  obtain rfl := hasAllW_nil h2
  obtain ⟨xs, rfl, h3⟩ := hasW_list h1
  obtain ⟨ns, rfl⟩ := items_int h3
  have hlen : ns.length ≤ n := by
    unfold OpenLaw.pre at hc
    have h4 : (WTm.not (.lt (.lit (.int (n : Int))) (.len (.arg 0)))).holds [] { args := [.list (ns.map .int)] } = true := by
      have h4 := (holds_andW hc).1
      rw [hn] at h4
      exact h4
    have h5 := condW_of h4 (w_not (w_lt w_lit (w_len_list (w_arg rfl))))
    rw [List.length_map] at h5
    refine Nat.le_of_not_lt fun q => ?_
    have q' : (n : Int) < ((ns.length : Nat) : Int) := by omega
    first
      | (rw [decide_eq_true q'] at h5; exact absurd h5 (by decide))
      | (simp at h5; omega)
  cases hwl with
  | cons w1 w2 =>
    cases w2
    cases w1 with
    | list ho hall => exact ⟨_, _, ns, rfl, rfl, ho, ints_of_wellAll ns _ hall, hlen⟩
theorem post_true (l : OpenLaw) (args : List WData) : l.row.toRowW.claim.post args (.bool true) args = true :=
  postW_of (r := l.row.toRowW) (X := (true == true))
    (show WShape.has [] (.bool true) .bool = true by first | rfl | decide | simp [WShape.has, WShape.arms, WShape.armsAll])
    (show (WTm.eq .res (.lit (.bool true))).value [] { args := args, res := some (.bool true), after := args } = some (.bool (true == true)) from w_eq_bool (w_res rfl) w_lit) rfl
theorem attach_call {l : OpenLaw} {n : Nat} {q : Program} {loose : List Str} {XP : (Str → Option Value) → Heap → Prop} {YP : World → Heap → Prop} {d : DefRec}
    (hn : l.most = some n) (hdf : d.params.defaults = [])
    (call : ∀ (w : World) (s₀ s₁ : Shared) (mg mb : Str → Option Value) (fa : Addr) (o : Obj) (pm cd doc : Value) (a : Addr) (vs : List Value) (ns : List Int),
      Ground q loose [] XP w s₀ mg mb s₁.heap → YP w s₁.heap →
      s₁.heap.get? fa = some o → o.data = .func (docDef d.name d.params d.body d.scope pm cd doc) → s₁.heap.CodeRec cd d.name → mg d.name = some (.ref fa) →
      s₁.heap.get? a = some { cls := .type "list", data := .seq vs.toArray } → IntsAre vs ns → ns.length ≤ n → s₁.gens = #[] →
      codeAny (model l.prog w) callerA (.call (.ref fa) ⟨[.ref a], []⟩) (fun r s' => r = .ok (.ret (.bool true)) ∧ OldK s₁.heap s'.heap ∧ s'.os = s₁.os ∧ AllBare s'.gens) s₁) :
    WalkO q loose XP YP l.row.toRowW d [] (fun f vs => PySem.call f vs) := by
  intro w s₀ s₁ mg mb G Y fa o pm cd doc dV kV ho hd hcd hD hmg hg args vals as hpre hlay hrd hwl hlo
  obtain rfl : dV = .none := Dflts.none hD hdf
  obtain rfl : kV = .none := Dflts.noKw hD
  obtain ⟨a, vs, ns, rfl, rfl, hobj, hints, hlen⟩ := script_of hn hpre hwl
  refine enter_call (codeAny_mono (call w s₀ s₁ mg mb fa o pm cd doc a vs ns G Y ho (fd_plain hd) hcd hmg hobj hints hlen hg) fun r s' hq => ?_)
  obtain ⟨rfl, h2, h3, h4⟩ := hq
  exact ⟨.inl ⟨.bool true, .bool true, [], rfl, fun _ => rfl, .bool true, post_true l _, fun _ => ⟨List.Pairwise.nil, fun _ hm => (nomatch hm)⟩⟩, h2, h3, h4⟩
section
variable {prog : Program} {w : World} {A : Around} {E : Value → Shared → Prop} {s : Shared} {K : Frag}
end
end Att
namespace L2
open PySem PySem.Spec PyProof.Rows
theorem vals_ints : ∀ {vs : List Value} {ns : List Int}, IntsAre vs ns → Vals (ns.map V.int) vs
  | _, _, .nil => .nil
  | _, _, .cons n t h => .cons ⟨t, rfl⟩ (vals_ints h)
noncomputable def Only (H : Hp) : Prop := ∀ b, H b = none ∨ ∃ o xs, H b = some (.frz o (.lst xs))
theorem law_call {P : Program} {w : World} {K : PySem.W.Frag} {mg mb : Str → Option Value} {CX : CXT} {k : Nat} {fa a : Addr} {fd : FuncData} {x : Str} {sp : Sp} {s₁ : Shared} {vs : List Value} {ns : List Int}
    (KX : K.In s₁.heap) (hns : s₁.heap.Ns mainGlobals mg) (hb : s₁.heap.Ns builtinsNs mb) (hbb : ∀ x : Str, x ≠ "__name__" → mb x = bootBuiltins x) (hlim : s₁.heap.NoLimit) (hg : s₁.gens = #[])
    (ha : s₁.heap.get? a = some { cls := .type "list", data := .seq vs.toArray }) (hi : IntsAre vs ns) (hl : ns.length ≤ sizeLine) (hr : Room k callerA)
    (F : ∀ base : Heap, K.In base → base.Ns mainGlobals mg → FnOk P w K mg base CX k fa fd [x] sp) (hbind : ∀ (s : Shared) (u : Value), BindsTo s fd ⟨[u], []⟩ [(x, u)])
    (hsp : ∀ H : Hp, Only H → SqL K H a (ns.map V.int) → sp [.ref a] H (fun v _ => v = .bl true) fun _ _ _ => False)
    (hCX : ∀ H e s', CX [] H s₁ (fun _ _ _ => False) e s' → False) :
    codeAny (model P w) callerA (.call (.ref fa) ⟨[.ref a], []⟩) (fun r s' => r = .ok (.ret (.bool true)) ∧ OldK s₁.heap s'.heap ∧ s'.os = s₁.os ∧ AllBare s'.gens) s₁ := by
  have rv := vals_ints hi
  have lenV := hi.length
  -- from an abstract heap in which nothing but the script may be tracked
  have core : ∀ H : Hp, Only H → SqL K H a (ns.map V.int) → HOk P w H s₁.heap → (∀ b, H b ≠ none → b = a) → (H a ≠ none → K.lookup a = none) →
      codeAny (model P w) callerA (.call (.ref fa) ⟨[.ref a], []⟩) (fun r s' => r = .ok (.ret (.bool true)) ∧ OldK s₁.heap s'.heap ∧ s'.os = s₁.os ∧ AllBare s'.gens) s₁ := by
    intro H hO hS hok hA hK
    have base_of : ∀ {b : Addr} {o : Obj}, s₁.heap.get? b = some o → H b = none → (hidT s₁.heap H).get? b = some o := fun e n => hidT_get e n
    have noA : ∀ {b : Addr} {o : Obj} {es : Array DictEntry} {ep : Nat}, s₁.heap.get? b = some o → o.data = .dict es ep → H b = none := fun {b o es ep} e d => by
      cases q : H b with
      | none => rfl
      | some u =>
        have e' : b = a := hA b (by rw [q]; simp)
        subst e'
        rw [ha] at e; cases e
        have d' : Data.seq vs.toArray _ = Data.dict es ep := d
        cases d'
    have nsK : ∀ {b : Addr} {m : Str → Option Value}, s₁.heap.Ns b m → (hidT s₁.heap H).Ns b m := fun {b m} ⟨o, es, ep, e, d, r⟩ => ⟨o, es, ep, base_of e (noA e d), d, r⟩
    have hKb : K.In (hidT s₁.heap H) := fun b o e => base_of (KX b o e) (by
      cases q : H b with
      | none => rfl
      | some u =>
        have e' : b = a := hA b (by rw [q]; simp)
        subst e'
        rw [hK (by rw [q]; simp)] at e; cases e)
    have hM : Mod K mg (hidT s₁.heap H) := ⟨hKb, nsK hns, ⟨mb, nsK hb, hbb⟩, let ⟨mc, h1, h2⟩ := hlim; ⟨mc, nsK h1, h2⟩⟩
    have e0 : Env0 P w K mg (hidT s₁.heap H) callerA [] s₁ H := ⟨rfl, hM, fun b o e => of_hidT e, Nat.le_of_eq (hidT_size _ _), trivial, fun b hb => absurd (show b ∈ ([] : List Addr) from hb) (by simp), hok, .of_eq hg⟩
    refine codeAny_mono ((F _ hKb (nsK hns)).run callerA [] s₁ H ⟨[.ref a], []⟩ [.ref a] [.ref a] _ _ hr e0 (hbind s₁ (.ref a)) (.cons rfl .nil) (hsp H hO hS)) fun r s' h => ?_
    cases r with
    | error e => exact (hCX H e s' h).elim
    | ok fl =>
      cases fl with
      | next => exact False.elim h
      | brk => exact False.elim h
      | cont => exact False.elim h
      | ret u =>
        obtain ⟨v, H', os, bare, un, hok', r', q⟩ := h
        have q' : v = .bl true := q
        subst q'
        obtain rfl : u = Value.bool true := r'
        refine ⟨rfl, OldK.of_keep fun b o e => ?_, os, bare⟩
        cases q : H b with
        | none => exact un.keep b o e q (by intro z; exact absurd (show b ∈ ([] : List Addr) from z) (by simp)) (by simp)
        | some u =>
          rcases hO b with z | ⟨ob, xs, z⟩
          · rw [q] at z; cases z
          · have z2 := un.frzs b ob _ z
            obtain ⟨e1, _⟩ := hok b _ z
            obtain ⟨e2, _⟩ := hok' b _ z2
            rw [e] at e1; cases e1
            exact e2
  cases hk : K.lookup a with
  | some o =>
    -- the script is one of the module's own objects
    have e := KX a o hk
    rw [ha] at e
    cases e
    refine core (fun _ => none) (fun _ => .inl rfl) (.inr ⟨_, vs.toArray, _, hk, rfl, rfl, rfl, by rw [List.size_toArray, lenV]; exact hl, by simpa using rv⟩) (fun b u z => by have z' : (none : Option HO) = some u := z; cases z') (fun b z => absurd rfl z) fun z => absurd rfl z
  | none =>
    refine core (fun b => if b = a then some (.frz { cls := .type "list", data := .seq vs.toArray } (.lst (ns.map V.int))) else none) (fun b => ?_) (.inl (.inr ⟨{ cls := .type "list", data := .seq vs.toArray }, if_pos rfl⟩)) (fun b u z => ?_) (fun b z => ?_) fun _ => hk
    · by_cases hb : b = a
      · exact .inr ⟨_, _, if_pos hb⟩
      · exact .inl (if_neg hb)
    · by_cases hb : b = a
      · have z' := (if_pos hb).symm.trans z
        cases z'
        subst hb
        exact ⟨ha, by rw [List.length_map]; exact hl, vs, _, rv, ha⟩
      · have z' := (if_neg hb).symm.trans z
        cases z'
    · by_cases hb : b = a
      · exact hb
      · exact absurd (if_neg hb) z
end L2
namespace L2
open PySem PySem.Spec PyProof.Rows
theorem walk_of {l : PySem.W.OpenLaw} {n k : Nat} {q : Program} {loose : List Str} {XP : (Str → Option Value) → Heap → Prop} {YP : World → Heap → Prop} {d : DefRec} {K : Params → PySem.W.Frag} {CX : World → CXT} {sp : World → Sp} {x : Str}
    (hn : l.most = some n) (hn2 : n ≤ sizeLine) (hdf : d.params.defaults = []) (hr : Room k callerA)
    (hY : ∀ (w : World) (h : Heap), YP w h → (K w.params).In h)
    (F : ∀ (w : World) (mg : Str → Option Value) (fa : Addr) (h : Heap), (K w.params).In h → h.Ns mainGlobals mg → mg d.name = some (.ref fa) →
      ∃ fd : FuncData, (∀ (s : Shared) (u : Value), BindsTo s fd ⟨[u], []⟩ [(x, u)]) ∧
        ∀ base : Heap, (K w.params).In base → base.Ns mainGlobals mg → FnOk l.prog w (K w.params) mg base (CX w) k fa fd [x] (sp w))
    (hsp : ∀ (w : World) (H : Hp) (a : Addr) (ns : List Int), ns.length ≤ n → Only H → SqL (K w.params) H a (ns.map V.int) → sp w [.ref a] H (fun v _ => v = .bl true) fun _ _ _ => False)
    (hCX : ∀ (w : World) (H : Hp) (s : Shared) (e : Value) (s' : Shared), CX w [] H s (fun _ _ _ => False) e s' → False) :
    PySem.W.WalkO q loose XP YP l.row.toRowW d [] (fun f vs => PySem.call f vs) := by
  refine Att.attach_call hn hdf fun w s₀ s₁ mg mb fa o pm cd doc a vs ns G Y ho hd hcd hmg hobj hints hlen hg => ?_
  have KX := hY w _ Y
  obtain ⟨fd, hb, hF⟩ := F w mg fa _ KX G.T.g hmg
  exact law_call KX G.T.g G.T.b G.T.builtins G.T.nolimit hg hobj hints (Nat.le_trans hlen hn2) hr hF hb (fun H hO hS => hsp w H a ns hlen hO hS) fun H e s' => hCX w H s₁ e s'
end L2
namespace L2
open PySem PySem.Spec PyProof.Rows
noncomputable def inClass (s : Stmt) (j : Nat) : Stmt := match s with
  | .ClassDef _ _ _ body _ _ _ _ _ _ _ => body.getD j (.Pass ⟨0, 0, 0, 0⟩)
  | _ => .Pass ⟨0, 0, 0, 0⟩
noncomputable def defArgs (s : Stmt) : Arguments := match s with
  | .FunctionDef _ a _ _ _ _ _ _ _ _ => a
  | _ => { posonlyargs := [], args := [], vararg := none, kwonlyargs := [], kw_defaults := [], kwarg := none, defaults := [] }
noncomputable def defBody (s : Stmt) : List Stmt := match s with
  | .FunctionDef _ _ b _ _ _ _ _ _ _ => b
  | _ => []
noncomputable def defScope (s : Stmt) : Scope := match s with
  | .FunctionDef _ _ _ _ _ _ sc _ _ _ => sc
  | _ => { kind := .function, names := [], isGenerator := false, isCoroutine := false }
noncomputable abbrev CX0 : CXT := fun _ _ _ _ _ _ => False
noncomputable abbrev E0 : XK := fun _ _ _ => False
theorem pass0 {X : Cx} : Passes CX0 X E0 := fun _ _ _ _ _ _ _ h => h.elim
structure Fun (K : PySem.W.Frag) (x qual : Str) (st : Stmt) (f : Addr) (fd : FuncData) : Prop where
  ex : ∃ (oc : Value) (od : Option Addr) (kV doc pm : Value) (an : Option Addr) (cdv ct : Value) (osl : Array (Option Value)),
    fd = PySem.W.fnOf x qual (defArgs st) (defBody st) (defScope st) .none kV doc pm an cdv ct ∧ K.lookup f = some ⟨oc, od, .func fd, osl⟩ ∧ PySem.W.codeIn K cdv qual = true
  kp : PySem.W.keepIn K (.ref f) = true
section
variable {P : Program} {w : World} {K : PySem.W.Frag} {mg : Str → Option Value} {base : Heap}
theorem Fun.ok {x qual : Str} {st : Stmt} {f : Addr} {fd : FuncData} {N ps : List Str} {k : Nat} {sp : Sp} (F : Fun K x qual st f fd) (S : FnScope N ps (defScope st)) (len : ∀ vs H Q E, sp vs H Q E → vs.length = ps.length)
    (hbody : ∀ (cdv : Value) (A : Around) (outer : List Env) (s : Shared) (H : Hp) (vs : List V) (Q : VK) (E : XK), Room k (A.deeper (envOfC qual (defScope st) s.heap.objs.size f cdv)) → sp vs H Q E →
      ∃ t, PSs (cxOf CX0 P w K mg base N qual (defScope st) f cdv A outer s H E).nox (defBody st) t ∧ t { nx := fun _ H' => Q .non H', rt := Q } (start N vs) H) : FnOk P w K mg base CX0 (k + 1) f fd ps sp := by
  obtain ⟨oc, od, kV, doc, pm, an, cdv, ct, osl, rfl, lk, hcd⟩ := F.ex
  refine fn_of lk hcd S len fun A outer s H vs Q E hr hsp => ?_
  obtain ⟨t, h, q⟩ := hbody cdv A outer s H vs Q E hr hsp
  exact ⟨t, h.nox, q⟩
theorem Fun.binds {x qual : Str} {st : Stmt} {f : Addr} {fd : FuncData} {ps : List Str} (F : Fun K x qual st f fd)
    (h : ∀ (kV doc pm : Value) (an : Option Addr) (cdv ct : Value) (us : List Value), us.length = ps.length → bindArgs (PySem.W.fnOf x qual (defArgs st) (defBody st) (defScope st) .none kV doc pm an cdv ct) ⟨us, []⟩ = pure (ps.zip us)) : Binds K fd ps [] := by
  obtain ⟨oc, od, kV, doc, pm, an, cdv, ct, osl, rfl, lk, hcd⟩ := F.ex
  exact .all (h kV doc pm an cdv ct)
theorem fun_mk {x qual : Str} {st : Stmt} {f : Addr} {oc : Value} {od an : Option Addr} {osl : Array (Option Value)} {kV doc pm cdv ct : Value} (l : K.lookup f = some ⟨oc, od, .func (PySem.W.fnOf x qual (defArgs st) (defBody st) (defScope st) .none kV doc pm an cdv ct), osl⟩)
    (c : PySem.W.codeIn K cdv qual = true) (k : PySem.W.keepIn K (.ref f) = true) : Fun K x qual st f (PySem.W.fnOf x qual (defArgs st) (defBody st) (defScope st) .none kV doc pm an cdv ct) := ⟨⟨oc, od, kV, doc, pm, an, cdv, ct, osl, rfl, l, c⟩, k⟩
end
section
variable {X : Cx}
theorem pv (i : Nat) {x : Str} {pos : Pos} (hN : X.N[i]? = some x := by rfl) (hv : Vis X.env.scope x := by first | exact Or.inl rfl | exact Or.inr (Or.inl rfl) | exact Or.inr (Or.inr rfl)) (hd : (x == ("__debug__" : Str)) = false := by decide)
    (hcd : (x == ("__classdict__" : Str)) = false := by decide) : PE X (.Name x pos) (tVar i) := pe_var hN hv hd hcd
end
theorem iteF {A B : Prop} (h : B) : if false = true then A else B := by
  rw [if_neg Bool.false_ne_true]
  exact h
theorem iteT {A B : Prop} (h : A) : if true = true then A else B := by
  rw [if_pos rfl]
  exact h
theorem ite2 {c A B : Prop} [Decidable c] (h1 : c → A) (h2 : ¬ c → B) : if c then A else B := by
  by_cases h : c
  · rw [if_pos h]
    exact h1 h
  · rw [if_neg h]
    exact h2 h
theorem iteNS {c A B : Prop} [Decidable c] (hc : c) (h : B) : if (!decide c) = true then A else B := by
  rw [decide_eq_true hc]
  exact iteF h
noncomputable def Same (H H' : Hp) : Prop := ∀ b o, H b = some o → H' b = some o
theorem Same.refl (H : Hp) : Same H H := fun _ _ h => h
theorem Same.trans {H H1 H2 : Hp} (a : Same H H1) (b : Same H1 H2) : Same H H2 := fun c o h => b c o (a c o h)
end L2
set_option maxRecDepth 100000
namespace L3
open PySem
noncomputable def closL (cells : List (Str × Addr)) : List (Str × NameKind) → List (Str × Addr) → List (Str × Addr)
  | [], cs => cs
  | (n, k) :: r, cs => closL cells r (if k == .free then (match cells.lookup n with | some c => (n, c) :: cs | none => cs) else cs)
theorem closureFor_eq {scope : Scope} {env : Env} (h : ∀ x ∈ scope.names, x.2 = .free → (env.cells.lookup x.1).isSome = true) : closureFor scope env = pure (closL env.cells scope.names []) := by
  unfold closureFor
  dsimp only
  generalize scope.names = names at h ⊢
  generalize ([] : List (Str × Addr)) = cs
  induction names generalizing cs with
  | nil => rfl
  | cons x r ih =>
    obtain ⟨n, k⟩ := x
    have ih' := fun cs => ih (fun y hy => h y (List.mem_cons_of_mem _ hy)) cs
    rw [List.forIn_cons]
    by_cases hk : (k == NameKind.free) = true
    · have hs := h (n, k) List.mem_cons_self (by simpa using hk)
      obtain ⟨c, hc⟩ := Option.isSome_iff_exists.mp hs
      have hc' : env.cells.lookup n = some c := hc
      have e1 : cellOf env n = pure c := by unfold cellOf; rw [hc']
      simp only [hk, if_true, e1, closL, hc']
      exact ih' _
    · have hk' : (k == NameKind.free) = false := by simpa using hk
      simp only [hk', Bool.false_eq_true, if_false, closL]
      exact ih' _
theorem closL_lookup {cells : List (Str × Addr)} {x : Str} {c : Addr} : ∀ {names : List (Str × NameKind)} {cs : List (Str × Addr)}, (∀ c, cs.lookup x = some c → cells.lookup x = some c) → (closL cells names cs).lookup x = some c → cells.lookup x = some c
  | [], _, h, e => h c e
  | (n, k) :: r, cs, h, e => by
    unfold closL at e
    refine closL_lookup (names := r) (fun c' e' => ?_) e
    by_cases hk : (k == NameKind.free) = true
    · rw [if_pos hk] at e'
      cases hc : cells.lookup n with
      | none => rw [hc] at e'; exact h c' e'
      | some d =>
        rw [hc] at e'
        by_cases hx : (x == n) = true
        · have : x = n := by simpa using hx
          subst this
          simp only [List.lookup_cons, beq_self_eq_true] at e'
          cases e'
          exact hc
        · have hx' : (x == n) = false := by simpa using hx
          simp only [List.lookup_cons, hx'] at e'
          exact h c' e'
    · rw [if_neg hk] at e'
      exact h c' e'
theorem closL_keep {cells : List (Str × Addr)} {x : Str} : ∀ {names : List (Str × NameKind)} {cs : List (Str × Addr)}, (∃ c, cs.lookup x = some c) → ∃ c, (closL cells names cs).lookup x = some c
  | [], _, h => h
  | (n, k) :: r, cs, h => by
    unfold closL
    refine closL_keep (names := r) ?_
    by_cases hk : (k == NameKind.free) = true
    · rw [if_pos hk]
      cases hc : cells.lookup n with
      | none => exact h
      | some d =>
        by_cases hx : (x == n) = true
        · exact ⟨d, by simp only [List.lookup_cons, hx]⟩
        · have hx' : (x == n) = false := by simpa using hx
          simp only [List.lookup_cons, hx']
          exact h
    · rw [if_neg hk]; exact h
theorem closL_has {cells : List (Str × Addr)} {x : Str} {d : Addr} (hd : cells.lookup x = some d) : ∀ {names : List (Str × NameKind)} {cs : List (Str × Addr)}, (x, NameKind.free) ∈ names → ∃ c, (closL cells names cs).lookup x = some c
  | [], _, h => nomatch h
  | (n, k) :: r, cs, h => by
    unfold closL
    rcases List.mem_cons.mp h with e | e
    · cases e
      refine closL_keep (names := r) ⟨d, ?_⟩
      rw [if_pos (by rfl), hd]
      simp only [List.lookup_cons, beq_self_eq_true]
    · exact closL_has hd e
end L3
namespace L3
open PySem
open Sem (wp)
section
variable {prog : Program} {w : World} {A : Around} {R : Result → Shared → Prop} {s : Shared}
noncomputable abbrev testsOf (ifs : List Expr) (env : Env) : Sem Bool := forIn ifs true fun c r => if r = true then do let ok ← isTrue c env (eval c env); pure (ForInStep.yield ok) else pure (ForInStep.yield r)
theorem comp_loop {elt tg iter : Expr} {ifs : List Expr} {scope : Scope} {pos : Pos} {it acc : Value} {env : Env} (I : Nat → Shared → Prop)
    (turn : ∀ n s, I n s → wpAny (model prog w) A (pyNext it) (fun r s1 => match r with
      | none => R (.ok .next) s1
      | some v => wpAny (model prog w) A (letOwnedTupleGo tg it v) (fun _ s2 => wpAny (model prog w) A (assign tg env v) (fun _ s3 => wpAny (model prog w) A (testsOf ifs env) (fun ok s4 =>
          if ok = true then wpAny (model prog w) A (eval elt env) (fun x s5 => wpAny (model prog w) A (call (.builtin "list.append") [acc, x]) (fun _ s6 => ∃ m, m < n ∧ I m s6) (fun _ _ => False) s5) (fun _ _ => False) s4
          else ∃ m, m < n ∧ I m s4) (fun _ _ => False) s3) (fun _ _ => False) s2) (fun _ _ => False) s1) (fun _ _ => False) s)
    (n : Nat) (h : I n s) : codeAny (model prog w) A (.compLoop (.ListComp elt [⟨tg, iter, ifs, 0⟩] scope pos) 0 it acc env) R s := by
  refine codeAny_loop rfl I (fun n s hI => ?_) n h
  show wpAny _ A ((compTurn (.ListComp elt [⟨tg, iter, ifs, 0⟩] scope pos) 0 it acc env).onRaise (fun x => do noteFrame x env; theTreesLotGoes x)) _ _ s
  refine wpAny_noted ?_
  rw [compTurn_list]
  refine wpAny_bind (wpAny_standAt (wpAny_bind (wpAny_mono (turn n s hI) (fun r s1 h1 => ?_) fun _ _ z => z.elim)))
  cases r with
  | none => exact wpAny_pure h1
  | some v =>
    refine wpAny_bind (wpAny_mono h1 (fun _ s2 h2 => ?_) fun _ _ z => z.elim)
    refine wpAny_bind (wpAny_mono h2 (fun _ s3 h3 => wpAny_bind (wpAny_mono h3 (fun ok s4 h4 => ?_) fun _ _ z => z.elim)) fun _ _ z => z.elim)
    cases ok with
    | false => exact wpAny_pure ⟨rfl, h4⟩
    | true =>
      refine wpAny_bind (wpAny_bind (wpAny_mono h4 (fun x s5 h5 => wpAny_bind (wpAny_mono h5 (fun _ s6 h6 => wpAny_pure (wpAny_pure ⟨rfl, h6⟩)) fun _ _ z => z.elim)) fun _ _ z => z.elim))
end
end L3
namespace L3
open PySem
noncomputable def compOk (sc0 scope : Scope) (N N' : List Str) (sh : List Nat) : Bool :=
  (scope.kind == .function) && (scope.names.all fun y => y.2 != .cell && ((y.2 != .local || scope.names.lookup y.1 == some .local) && (y.2 != .free || sc0.names.lookup y.1 == some .cell))) &&
    ((N'.take N.length == N) && N.zipIdx.all fun p => scope.names.lookup p.1 != some .local || sh.contains p.2)
structure CompParts (sc0 scope : Scope) (N N' : List Str) (sh : List Nat) : Prop where
  kind : scope.kind = .function
  cell : ∀ y ∈ scope.names, y.2 ≠ .cell
  loc : ∀ y ∈ scope.names, y.2 = .local → scope.names.lookup y.1 = some .local
  free : ∀ y ∈ scope.names, y.2 = .free → sc0.names.lookup y.1 = some .cell
  pre : N'.take N.length = N
  shad : ∀ (i : Nat) (x : Str), N[i]? = some x → scope.names.lookup x = some .local → i ∈ sh
theorem compOk_parts {sc0 scope : Scope} {N N' : List Str} {sh : List Nat} (h : compOk sc0 scope N N' sh = true) : CompParts sc0 scope N N' sh := by
  unfold compOk at h
  rw [Bool.and_eq_true, Bool.and_eq_true, Bool.and_eq_true] at h
  obtain ⟨⟨h1, h2⟩, h3, h4⟩ := h
  rw [List.all_eq_true] at h2 h4
  have q : ∀ y ∈ scope.names, y.2 ≠ .cell ∧ (y.2 = .local → scope.names.lookup y.1 = some .local) ∧ (y.2 = .free → sc0.names.lookup y.1 = some .cell) := fun y hy => by
    have := h2 y hy
    rw [Bool.and_eq_true, Bool.and_eq_true] at this
    obtain ⟨a, b, c⟩ := this
    refine ⟨by simpa using a, fun e => ?_, fun e => ?_⟩
    · rw [e] at b; simpa using b
    · rw [e] at c; simpa using c
  refine ⟨by simpa using h1, fun y hy => (q y hy).1, fun y hy => (q y hy).2.1, fun y hy => (q y hy).2.2, by simpa using h3, fun i x e l => ?_⟩
  have := h4 (x, i) (by rw [List.mem_zipIdx_iff_getElem?]; simpa using e)
  simp only [l] at this
  simpa using this
theorem relab_inv {env : Env} {x : Str} {k : NameKind} : ∀ {names : List (Str × NameKind)}, (names.map fun (n, k) => if (k == NameKind.free && env.scope.kind == .function && env.kindOf n == some .cell) then (n, NameKind.cell) else (n, k)).lookup x = some k →
    ∃ k0, names.lookup x = some k0 ∧ (k = k0 ∨ (k0 = .free ∧ k = .cell))
  | [], h => by simp at h
  | (n, k1) :: r, h => by
    have ih := @relab_inv env x k r
    rw [List.map_cons] at h
    dsimp only at h
    by_cases hx : (x == n) = true
    · refine ⟨k1, by simp only [List.lookup_cons, hx], ?_⟩
      by_cases hc : (k1 == NameKind.free && env.scope.kind == .function && env.kindOf n == some .cell) = true
      · rw [if_pos hc] at h
        simp only [List.lookup_cons, hx] at h
        have : k1 = .free := by
          rw [Bool.and_eq_true, Bool.and_eq_true] at hc
          simpa using hc.1.1
        exact .inr ⟨this, (Option.some.inj h).symm⟩
      · rw [if_neg hc] at h
        simp only [List.lookup_cons, hx] at h
        exact .inl (Option.some.inj h).symm
    · have hx' : (x == n) = false := by simpa using hx
      by_cases hc : (k1 == NameKind.free && env.scope.kind == .function && env.kindOf n == some .cell) = true
      · rw [if_pos hc] at h
        simp only [List.lookup_cons, hx'] at h ⊢
        exact ih h
      · rw [if_neg hc] at h
        simp only [List.lookup_cons, hx'] at h ⊢
        exact ih h
theorem mem_of_look {x : Str} {k : NameKind} : ∀ {names : List (Str × NameKind)}, names.lookup x = some k → (x, k) ∈ names
  | [], h => by simp at h
  | (n, k1) :: r, h => by
    by_cases hx : (x == n) = true
    · have e : x = n := by simpa using hx
      subst e
      simp only [List.lookup_cons, beq_self_eq_true] at h
      cases h
      exact List.mem_cons_self
    · have hx' : (x == n) = false := by simpa using hx
      simp only [List.lookup_cons, hx'] at h
      exact List.mem_cons_of_mem _ (mem_of_look h)
noncomputable def blank {α : Type} (sh : List Nat) (σ : List (Option α)) : List (Option α) := sh.foldl (fun σ i => σ.set i none) σ
theorem blank_length {α : Type} : ∀ (sh : List Nat) (σ : List (Option α)), (blank sh σ).length = σ.length
  | [], _ => rfl
  | j :: sh, σ => by
    show (blank sh (σ.set j none)).length = _
    rw [blank_length sh, List.length_set]
theorem blank_get {α : Type} {i : Nat} {v : α} : ∀ {sh : List Nat} {σ : List (Option α)}, (blank sh σ)[i]? = some (some v) → i ∉ sh ∧ σ[i]? = some (some v)
  | [], σ, h => ⟨by simp, h⟩
  | j :: sh, σ, h => by
    have h' : (blank sh (σ.set j none))[i]? = some (some v) := h
    obtain ⟨h1, h2⟩ := blank_get h'
    by_cases e : j = i
    · subst e
      rw [List.getElem?_set] at h2
      simp at h2
    · rw [List.getElem?_set_ne e] at h2
      exact ⟨fun z => (List.mem_cons.mp z).elim (fun q => e q.symm) h1, h2⟩
end L3
namespace L3
open PySem
open Sem (wp)
section
variable {prog : Program} {w : World} {A : Around} {E : Value → Shared → Prop} {s : Shared}
structure AtT (it t : Addr) (xs : Array Value) (i : Nat) (h : Heap) : Prop where
  iter : h.IsTupleIter it t i
  tup : h.IsTuple t xs
theorem AtT.move {it t b : Addr} {xs : Array Value} {i : Nat} {h h' : Heap} (a : AtT it t xs i h) (k : Heap.ExtBut b h h') (h1 : it ≠ b) (h2 : t ≠ b) : AtT it t xs i h' := ⟨a.iter.extBut k h1, a.tup.extBut k h2⟩
theorem AtT.keeps {it t : Addr} {xs : Array Value} {i : Nat} {h h' : Heap} (a : AtT it t xs i h) (k1 : ∀ o, h.get? it = some o → h'.get? it = some o) (k2 : ∀ o, h.get? t = some o → h'.get? t = some o) : AtT it t xs i h' :=
  ⟨a.iter.at k1, let ⟨o, ho, r⟩ := a.tup; ⟨o, k2 o ho, r⟩⟩
theorem tnext_item {it t : Addr} {i : Nat} {xs : Array Value} {x : Value} {Q : Value → Shared → Prop} (a : AtT it t xs i s.heap) (hne : t ≠ it) (hx : xs[i]? = some x)
    (hQ : ∀ h', AtT it t xs (i + 1) h' → Heap.SameBut it s.heap h' → Q x { s with heap := h' }) : wpAny (model prog w) A (Builtin.SmallTypes.nextOf (.ref it)) Q E s := by
  obtain ⟨hit, ht⟩ := a
  have ht0 := ht
  obtain ⟨o, ho, hc, hd⟩ := id hit
  obtain ⟨ol, hol, _, nl, hdl⟩ := ht
  unfold Builtin.SmallTypes.nextOf
  refine wpAny_bind (wpAny_callSpecial?_slot (name := Str.ofString "__next__") hit.typeIs F.slot_tuple_iterator_next (wpAny_call_entry F.slot_tuple_iterator_next hit.typeIs F.entry_tuple_iterator_next ?_ (F.args_tuple_iterator_next_1 _)))
  show wpAny _ _ (field (.ref it) 0 >>= _) _ _ s
  refine wpAny_bind (wpAny_field ho hd (x := .ref t) rfl ?_)
  show wpAny _ _ (if (Value.ref t == Value.none) = true then _ else _) _ _ s
  rw [if_neg (show ¬ ((Value.ref t == Value.none) = true) from Bool.false_ne_true)]
  show wpAny _ _ (field (.ref it) 1 >>= _) _ _ s
  refine wpAny_bind (wpAny_field ho hd (x := .int i 0) rfl ?_)
  show wpAny _ _ (seqItems? (.ref t) >>= _) _ _ s
  refine wpAny_bind (wpAny_seqItems hol hdl ?_)
  simp only [Int.toNat_natCast, hx]
  refine wpAny_bind (wpAny_setField ho hd (by simp) (wpAny_pure ⟨x, rfl, wpAny_pure (hQ _ ⟨?_, ht0.extBut (Heap.SameBut.update ..).extBut hne⟩ (Heap.SameBut.update ..))⟩))
  refine ⟨_, Heap.get?_update_self _ ho (Obj.isFreed_of_fields (Obj.data_mapFields hd _)), (Obj.cls_mapFields ..).trans hc, ?_⟩
  rw [Obj.data_mapFields hd]; simp [rawInt]
theorem tnext_end {it t : Addr} {i : Nat} {xs : Array Value} {Q : Value → Shared → Prop} (hh : A.handled = none) (a : AtT it t xs i s.heap) (hx : xs[i]? = none)
    (hE : ∀ h' e, Heap.ExtBut it s.heap h' → (∃ o, h'.get? e = some o ∧ o.cls = .type "StopIteration") → E (.ref e) { s with heap := h' }) : wpAny (model prog w) A (Builtin.SmallTypes.nextOf (.ref it)) Q E s := by
  obtain ⟨hit, ht⟩ := a
  obtain ⟨o, ho, hc, hd⟩ := id hit
  obtain ⟨ol, hol, _, nl, hdl⟩ := ht
  unfold Builtin.SmallTypes.nextOf
  refine wpAny_bind (wpAny_callSpecial?_slot (name := Str.ofString "__next__") hit.typeIs F.slot_tuple_iterator_next (wpAny_call_entry F.slot_tuple_iterator_next hit.typeIs F.entry_tuple_iterator_next ?_ (F.args_tuple_iterator_next_1 _)))
  show wpAny _ _ (field (.ref it) 0 >>= _) _ _ s
  refine wpAny_bind (wpAny_field ho hd (x := .ref t) rfl ?_)
  show wpAny _ _ (if (Value.ref t == Value.none) = true then _ else _) _ _ s
  rw [if_neg (show ¬ ((Value.ref t == Value.none) = true) from Bool.false_ne_true)]
  show wpAny _ _ (field (.ref it) 1 >>= _) _ _ s
  refine wpAny_bind (wpAny_field ho hd (x := .int i 0) rfl ?_)
  show wpAny _ _ (seqItems? (.ref t) >>= _) _ _ s
  refine wpAny_bind (wpAny_seqItems hol hdl ?_)
  simp only [Int.toNat_natCast, hx]
  refine wpAny_bind (wpAny_rule (wpAny_bind (wpAny_setField ho hd (by simp) ?_)))
  show wpAny _ _ (newExc (.type "StopIteration") [] >>= _) _ _ _
  refine wpAny_bind ?_
  simp only [newExc, newTuple]
  refine wpAny_bind (wpAny_newObj_type ?_ (by size_fits))
  refine wpAny_bind (m := firstArgMember _ _) (wpAny_of_eq (a := Value.none) (by first | rfl | (simp only [firstArgMember]; rfl)) ?_)
  refine wpAny_newObj_type ?_ (by size_fits)
  simp only [raiseNew]
  refine wpAny_bind (wpAny_handled ?_)
  first | rw [show A.in1.handled = none from hh] | rw [hh]
  refine wpAny_bind (wpAny_pure (wpAny_throw ?_))
  exact hE _ _ (((Heap.SameBut.update ..).extBut.push _).push _) ⟨_, Heap.get?_push_size _ rfl, rfl⟩
theorem enumT_next {e it t : Addr} {i : Nat} {xs : Array Value} {x old : Value} {Q : Value → Shared → Prop} (he : IsEnum s.heap e it i old) (a : AtT it t xs i s.heap) (hx : xs[i]? = some x) (hne : e ≠ it) (hte : t ≠ e) (hti : t ≠ it)
    (hQ : ∀ h', IsEnumOut h' e it ((i : Int) + 1) x s.heap.objs.size → AtT it t xs (i + 1) h' → h'.get? s.heap.objs.size = some { cls := .type "tuple", data := .seq #[.int i s.toks, x] } → h'.objs.size = s.heap.objs.size + 1 →
      (∀ b o, b ≠ e → b ≠ it → s.heap.get? b = some o → h'.get? b = some o) → Q (.ref s.heap.objs.size) { s with heap := h', toks := s.toks + 1 }) :
    wpAny (model prog w) A (Builtin.«enumerate.__next__» ⟨[.ref e], []⟩) (fun fin s' => ∃ v, fin = .done (.ret v) ∧ Q v s') E s := by
  obtain ⟨hp, g, d, tk, os⟩ := s
  show wpAny _ _ (field (.ref e) 2 >>= _) _ _ _
  refine wpAny_bind (wpAny_field he rfl (x := .ref it) rfl ?_)
  refine wpAny_bind (tnext_item a hti hx fun h1 a1 k1 => ?_)
  replace k1 : Heap.SameBut it hp h1 := k1
  have e1 : IsEnum h1 e it i old := (k1.2 e hne).trans he
  show wpAny _ _ (field (.ref e) 3 >>= _) _ _ ⟨h1, g, d, tk, os⟩
  refine wpAny_bind (wpAny_field e1 rfl (x := rawInt i) rfl ?_)
  show wpAny _ _ (field (.ref e) 4 >>= _) _ _ ⟨h1, g, d, tk, os⟩
  refine wpAny_bind (wpAny_field e1 rfl (x := .none) rfl ?_)
  show wpAny _ _ (mkInt i >>= _) _ _ ⟨h1, g, d, tk, os⟩
  refine wpAny_bind (wpAny_mkInt ?_)
  show wpAny _ _ (setField (.ref e) 3 (rawInt ((i : Int) + 1)) >>= _) _ _ ⟨h1, g, d, tk + 1, os⟩
  refine wpAny_bind (wpAny_setField_rec e1 (by simp) fun h2 e2 k2 => ?_)
  replace k2 : Heap.SameBut e h1 h2 := k2
  replace e2 : IsEnum h2 e it ((i : Int) + 1) old := e2
  show wpAny _ _ (setField (.ref e) 4 .none >>= _) _ _ ⟨h2, g, d, tk + 1, os⟩
  refine wpAny_bind (wpAny_setField_rec e2 (by simp) fun h3 e3 k3 => ?_)
  replace k3 : Heap.SameBut e h2 h3 := k3
  replace e3 : IsEnum h3 e it ((i : Int) + 1) old := e3
  show wpAny _ _ (newTuple [.int i tk, x] >>= _) _ _ ⟨h3, g, d, tk + 1, os⟩
  refine wpAny_bind (wpAny_newTuple ?_)
  have e4 : IsEnum (h3.push { cls := .type "tuple", data := .seq #[.int i tk, x] }) e it ((i : Int) + 1) old := Heap.get?_push_of_some _ e3
  generalize q4 : h3.push { cls := .type "tuple", data := .seq #[.int i tk, x] } = h4 at e4
  have sz : h3.objs.size = hp.objs.size := by rw [k3.1, k2.1, k1.1]
  have el : e < hp.objs.size := Heap.lt_size he
  have t4 : h4.get? hp.objs.size = some { cls := .type "tuple", data := .seq #[.int i tk, x] } := by rw [← q4, ← sz]; exact Heap.get?_push_size _ rfl
  have z4 : h4.objs.size = hp.objs.size + 1 := by rw [← q4, Heap.size_push, sz]
  have k4 : ∀ b o, b ≠ e → b ≠ it → hp.get? b = some o → h4.get? b = some o := fun b o n1 n2 hb => by
    rw [← q4]; exact Heap.get?_push_of_some _ (k3.extBut b o n1 (k2.extBut b o n1 (k1.extBut b o n2 hb)))
  have a4 : AtT it t xs (i + 1) h4 := by
    rw [← q4]
    exact ((a1.move k2.extBut hne.symm hte).move k3.extBut hne.symm hte).keeps (fun o ho => Heap.get?_push_of_some _ ho) fun o ho => Heap.get?_push_of_some _ ho
  show wpAny _ _ (Builtin.SmallTypes.ownedTupleIsFree (.ref e) >>= _) _ _ ⟨h4, g, d, tk + 1, os⟩
  rw [sz]
  clear q4 e3 k3 e2 k2 e1 k1 a1 sz h3 h2 h1
  refine wpAny_bind ?_
  unfold Builtin.SmallTypes.ownedTupleIsFree
  refine wpAny_bind (wpAny_field e4 rfl (x := .none) rfl (wpAny_pure ?_))
  simp only [if_true]
  refine wpAny_bind (wpAny_rule ?_)
  refine wpAny_bind (wpAny_field e4 rfl (x := old) rfl ?_)
  refine wpAny_bind (wpAny_setField_rec e4 (by simp) fun h5 e5 k5 => ?_)
  replace k5 : Heap.SameBut e h4 h5 := k5
  replace e5 : IsEnum h5 e it ((i : Int) + 1) x := e5
  show wpAny _ _ (Builtin.SmallTypes.ownedTupleHandOut (.ref e) (.ref hp.objs.size) >>= _) _ _ ⟨h5, g, d, tk + 1, os⟩
  refine wpAny_bind ?_
  unfold Builtin.SmallTypes.ownedTupleHandOut
  refine wpAny_bind (wpAny_setField_rec e5 (by simp) fun h6 e6 k6 => ?_)
  replace k6 : Heap.SameBut e h5 h6 := k6
  replace e6 : IsEnumOut h6 e it ((i : Int) + 1) x hp.objs.size := e6
  refine wpAny_setField_rec e6 (by simp) fun h7 e7 k7 => ?_
  replace k7 : Heap.SameBut e h6 h7 := k7
  replace e7 : IsEnumOut h7 e it ((i : Int) + 1) x hp.objs.size := e7
  have up : ∀ b o, b ≠ e → h4.get? b = some o → h7.get? b = some o := fun b o n q => k7.extBut b o n (k6.extBut b o n (k5.extBut b o n q))
  refine wpAny_bind (wpAny_letGo (wpAny_pure ⟨_, rfl, hQ h7 e7 (a4.keeps (fun o q => up _ o hne.symm q) fun o q => up _ o hte q) (up _ _ (Nat.ne_of_gt el) t4) ?_ fun b o n1 n2 q => up b o n1 (k4 b o n1 n2 q)⟩))
  rw [k7.1, k6.1, k5.1, z4]
theorem enumT_pyNext {e it t : Addr} {i : Nat} {xs : Array Value} {x old : Value} {Q : Option Value → Shared → Prop} (he : IsEnum s.heap e it i old) (a : AtT it t xs i s.heap) (hx : xs[i]? = some x) (hne : e ≠ it) (hte : t ≠ e) (hti : t ≠ it)
    (hQ : ∀ h', IsEnumOut h' e it ((i : Int) + 1) x s.heap.objs.size → AtT it t xs (i + 1) h' → h'.get? s.heap.objs.size = some { cls := .type "tuple", data := .seq #[.int i s.toks, x] } → h'.objs.size = s.heap.objs.size + 1 →
      (∀ b o, b ≠ e → b ≠ it → s.heap.get? b = some o → h'.get? b = some o) → Q (some (.ref s.heap.objs.size)) { s with heap := h', toks := s.toks + 1 }) :
    wpAny (model prog w) A (pyNext (.ref e)) Q E s := by
  have hT : s.TypeIs (.ref e) "enumerate" := ⟨_, he, rfl⟩
  unfold pyNext
  exact wpAny_bind (wpAny_attempt (wpAny_callSpecial?_slot (name := Str.ofString "__next__") hT F.slot_enumerate_next (wpAny_call_entry F.slot_enumerate_next hT F.entry_enumerate_next
    (enumT_next he a hx hne hte hti fun h' p1 p2 p3 p4 p5 => wpAny_pure (hQ h' p1 p2 p3 p4 p5)) (F.args_enumerate_next_1 _))))
theorem enumT_pyEnd {e it t : Addr} {i : Nat} {xs : Array Value} {old : Value} {Q : Option Value → Shared → Prop} (hh : A.handled = none) (he : IsEnum s.heap e it i old) (a : AtT it t xs i s.heap) (hx : xs[i]? = none)
    (hQ : ∀ h', Heap.ExtBut it s.heap h' → Q none { s with heap := h' }) : wpAny (model prog w) A (pyNext (.ref e)) Q E s := by
  have hT : s.TypeIs (.ref e) "enumerate" := ⟨_, he, rfl⟩
  unfold pyNext
  refine wpAny_bind (wpAny_attempt (wpAny_callSpecial?_slot (name := Str.ofString "__next__") hT F.slot_enumerate_next (wpAny_call_entry F.slot_enumerate_next hT F.entry_enumerate_next ?_ (F.args_enumerate_next_1 _))))
  show wpAny _ _ (field (.ref e) 2 >>= _) _ _ _
  refine wpAny_bind (wpAny_field he rfl (x := .ref it) rfl ?_)
  refine wpAny_bind (tnext_end hh a hx fun h' x he' hx' => ?_)
  obtain ⟨o, ho, hc⟩ := hx'
  exact wpAny_bind (wpAny_isInstance (T := "StopIteration") (b := true) ⟨o, ho, hc⟩ isSubtype_stop (wpAny_pure (hQ _ he')))
end
end L3
namespace L3
open PySem
open Sem (wp)
open AutoSeq1 (wpAny_loadPart')
set_option maxRecDepth 100000
noncomputable abbrev tupIt (t : Addr) : Obj := { cls := .type "tuple_iterator", data := .fields #[.ref t, .int 0 0] }
theorem enumT_new (t : Addr) (xs : Array Value) (n : Nat) (dct : Option Addr) (sl : Array (Option Value)) :
    Meets (Builtin.«enumerate.__new__» ⟨[.type "enumerate", .ref t], []⟩) (fun _ R s => s.heap.get? t = some { cls := .type "tuple", dict := dct, data := .seq xs n, slots := sl } ∧
      R (.ok (.ret (.ref (s.heap.push (tupIt t)).objs.size))) { s with heap := (s.heap.push (tupIt t)).push { cls := .type "enumerate", data := .fields #[.none, .bool false, .ref s.heap.objs.size, rawInt 0, .none, .none] } }) :=
  .of_wp fun prog w A R s h => by
    obtain ⟨hp, g, d, tk, os⟩ := s; obtain ⟨ht, h⟩ := h
    have hsub := sub_enumerate
    have hT : Heap.IsTuple (Shared.heap ⟨hp, g, d, tk, os⟩) t xs := ⟨_, ht, rfl, n, rfl⟩
    wp_walk using wpAny_loadPart' ht
    refine wpAny_stack_any fun st => wpAny_pure ?_
    split
    · rename_i c _ _ _ _ _
      cases (c == Value.type "enumerate")
      · wp_walk using wpAny_loadPart' ht, wpAny_pyIter_tuple hT
        exact ⟨_, rfl, h⟩
      · wp_walk using wpAny_loadPart' ht, wpAny_pyIter_tuple hT
        exact ⟨_, rfl, h⟩
    · wp_walk using wpAny_loadPart' ht, wpAny_pyIter_tuple hT
      exact ⟨_, rfl, h⟩
section
variable {prog : Program} {w : World} {A : Around} {E : Value → Shared → Prop} {s : Shared}
theorem call_enumT {t : Addr} {xs : Array Value} {Q : Value → Shared → Prop} (hT : s.heap.IsTuple t xs)
    (h : ∀ h', IsEnum h' (s.heap.objs.size + 1) s.heap.objs.size 0 .none → AtT s.heap.objs.size t xs 0 h' → h'.objs.size = s.heap.objs.size + 2 → (∀ b o, s.heap.get? b = some o → h'.get? b = some o) →
      Q (.ref (s.heap.objs.size + 1)) { s with heap := h' }) : wpAny (model prog w) A (call (.type "enumerate") [.ref t]) Q E s := by
  have hT0 := hT
  obtain ⟨⟨c, dct, dt, sl⟩, hl, hc, n, hd⟩ := hT
  replace hc : c = .type "tuple" := hc
  replace hd : dt = .seq xs n := hd
  subst hc hd
  refine callType_new F.called_enumerate (by decide) (F.typeCall_enumerate_1 _) (F.newCall_enumerate_1 _) (fun obj => F.args_object_init_2 obj _) F.entry_enumerate_new (enumT_new t xs n dct sl) ⟨hl, ?_⟩
  have hz : (s.heap.push (tupIt t)).objs.size = s.heap.objs.size + 1 := Heap.size_push ..
  show _ ∧ _
  rw [hz]
  have he : IsEnum ((s.heap.push (tupIt t)).push { cls := .type "enumerate", data := .fields #[.none, .bool false, .ref s.heap.objs.size, rawInt 0, .none, .none] }) (s.heap.objs.size + 1) s.heap.objs.size 0 .none := by
    have q := Heap.get?_push_size (s.heap.push (tupIt t)) (o := { cls := .type "enumerate", data := .fields #[.none, .bool false, .ref s.heap.objs.size, rawInt 0, .none, .none] }) rfl
    rw [hz] at q; exact q
  exact ⟨⟨_, he, rfl⟩, h _ he ⟨⟨_, Heap.get?_push_of_some _ (Heap.get?_push_size _ rfl), rfl, rfl⟩, (hT0.push _).push _⟩ (by rw [Heap.size_push, hz]) fun b o x => Heap.get?_push_of_some _ (Heap.get?_push_of_some _ x)⟩
structure ZipAt (z TI TO i1 i2 t1 t2 : Addr) (xs ys : Array Value) (i : Nat) (f0 : Value) (h : Heap) : Prop where
  z : IsZip h z TI TO f0
  TI : IsPair h TI (.ref i1) (.ref i2)
  TO : ∃ a b, IsPair h TO a b
  one : AtT i1 t1 xs i h
  two : AtT i2 t2 ys i h
theorem zipT_next {z TI TO i1 i2 t1 t2 : Addr} {xs ys : Array Value} {i : Nat} {x y : Value} {Q : Value → Shared → Prop} (D : ZipApart z TI TO i1 i2 t1 t2) (Z : ZipAt z TI TO i1 i2 t1 t2 xs ys i .none s.heap) (hx : xs[i]? = some x) (hy : ys[i]? = some y)
    (hQ : ∀ h', ZipAt z TI TO i1 i2 t1 t2 xs ys (i + 1) (rawInt s.heap.objs.size) h' → IsPair h' s.heap.objs.size x y → h'.objs.size = s.heap.objs.size + 1 →
      (∀ c o, c ≠ z → c ≠ TO → c ≠ i1 → c ≠ i2 → s.heap.get? c = some o → h'.get? c = some o) → Q (.ref s.heap.objs.size) { s with heap := h' }) :
    wpAny (model prog w) A (Builtin.«zip.__next__» ⟨[.ref z], []⟩) (fun fin s' => ∃ v, fin = .done (.ret v) ∧ Q v s') E s := by
  obtain ⟨hz, hTI, ⟨a, b, hTO⟩, h1, h2⟩ := Z
  show wpAny _ _ (field (.ref z) 2 >>= _) _ _ _
  refine wpAny_bind (wpAny_field hz rfl (x := .bool false) rfl ?_)
  show wpAny _ _ (field (.ref z) 3 >>= _) _ _ _
  refine wpAny_bind (wpAny_field hz rfl (x := .ref TI) rfl ?_)
  refine wpAny_bind (wpAny_seqItems hTI rfl ?_)
  show wpAny _ _ (Builtin.SmallTypes.ownedTupleIsFree (.ref z) >>= _) _ _ _
  refine wpAny_bind ?_
  unfold Builtin.SmallTypes.ownedTupleIsFree
  refine wpAny_bind (wpAny_field hz rfl (x := .none) rfl (wpAny_pure ?_))
  simp only [if_true]
  refine wpAny_bind (wpAny_rule (wpAny_bind (wpAny_field hz rfl (x := .ref TO) rfl (wpAny_bind (wpAny_setField_rec hz (by simp) fun g1 z1 k1 => ?_)))))
  replace z1 : IsZip g1 z TI TO .ellipsis := z1
  refine wpAny_bind ?_
  simp only [List.forIn_cons, List.forIn_nil, List.zipIdx_cons, List.zipIdx_nil]
  refine wpAny_bind (wpAny_bind (wpAny_onRaise ?_))
  show wpAny _ _ (Builtin.SmallTypes.nextOf (.ref i1) >>= _) _ _ _
  refine wpAny_bind (tnext_item (h1.move k1.extBut D.i1z D.l1z) D.l1i1 hx fun g2 p2 k2 => wpAny_pure ?_)
  have O2 : IsPair g2 TO a b := k2.extBut _ _ D.TOi1 (k1.extBut _ _ D.TOz hTO)
  refine wpAny_bind (wpAny_seqItems O2 rfl (wpAny_bind (wpAny_updateSeq_pair O2 fun g3 O3 k3 => ?_)))
  replace O3 : IsPair g3 TO x b := O3
  refine wpAny_bind (wpAny_letGo (wpAny_pure (wpAny_bind (wpAny_bind (wpAny_onRaise ?_)))))
  show wpAny _ _ (Builtin.SmallTypes.nextOf (.ref i2) >>= _) _ _ _
  refine wpAny_bind (tnext_item (((h2.move k1.extBut D.i2z D.l2z).move k2.extBut D.i12.symm D.l2i1).move k3.extBut D.TOi2.symm D.l2TO) D.l2i2 hy fun g4 p4 k4 => wpAny_pure ?_)
  have O4 : IsPair g4 TO x b := k4.extBut _ _ D.TOi2 O3
  refine wpAny_bind (wpAny_seqItems O4 rfl (wpAny_bind (wpAny_updateSeq_pair O4 fun g5 O5 k5 => ?_)))
  replace O5 : IsPair g5 TO x y := O5
  refine wpAny_bind (wpAny_letGo (wpAny_pure (wpAny_pure (wpAny_bind (wpAny_seqItems O5 rfl (wpAny_bind (wpAny_newTuple ?_)))))))
  have sz : g5.objs.size = s.heap.objs.size := by rw [k5.1, k4.1, k3.1, k2.1, k1.1]
  have z5 : IsZip g5 z TI TO .ellipsis := k5.extBut _ _ D.TOz.symm (k4.extBut _ _ D.i2z.symm (k3.extBut _ _ D.TOz.symm (k2.extBut _ _ D.i1z.symm z1)))
  have kp5 : ∀ c o, c ≠ z → c ≠ TO → c ≠ i1 → c ≠ i2 → s.heap.get? c = some o → g5.get? c = some o := fun c o c1 c2 c3 c4 e => k5.extBut _ _ c2 (k4.extBut _ _ c4 (k3.extBut _ _ c2 (k2.extBut _ _ c3 (k1.extBut _ _ c1 e))))
  have a5 : AtT i1 t1 xs (i + 1) g5 := ((p2.move k3.extBut D.TOi1.symm D.l1TO).move k4.extBut D.i12 D.l1i2).move k5.extBut D.TOi1.symm D.l1TO
  have b5 : AtT i2 t2 ys (i + 1) g5 := p4.move k5.extBut D.TOi2.symm D.l2TO
  have zlt : z < g5.objs.size := Heap.lt_size z5
  show wpAny _ _ (Builtin.SmallTypes.ownedTupleHandOut (.ref z) (.ref g5.objs.size) >>= _) _ _ _
  refine wpAny_bind ?_
  unfold Builtin.SmallTypes.ownedTupleHandOut
  have z6 : IsZip (g5.push { cls := .type "tuple", data := .seq #[x, y] }) z TI TO .ellipsis := Heap.get?_push_of_some _ z5
  refine wpAny_bind (wpAny_setField_rec z6 (by simp) fun g7 z7 k7 => ?_)
  replace z7 : IsZip g7 z TI TO (rawInt g5.objs.size) := z7
  refine wpAny_setField_rec z7 (by simp) fun g8 z8 k8 => ?_
  replace z8 : IsZip g8 z TI TO (rawInt g5.objs.size) := z8
  have up : ∀ c o, c ≠ z → g5.get? c = some o → g8.get? c = some o := fun c o c1 e => k8.extBut _ _ c1 (k7.extBut _ _ c1 (Heap.get?_push_of_some _ e))
  have T8 : IsPair g8 g5.objs.size x y := k8.extBut _ _ (Nat.ne_of_gt zlt) (k7.extBut _ _ (Nat.ne_of_gt zlt) (Heap.get?_push_size _ rfl))
  have s8 : g8.objs.size = g5.objs.size + 1 := by rw [k8.1, k7.1, Heap.size_push]
  rw [sz] at z8 T8 s8
  refine wpAny_pure ⟨_, rfl, ?_⟩
  show Q (.ref g5.objs.size) _
  rw [sz]
  exact hQ g8 ⟨z8, up _ _ D.TIz (kp5 _ _ D.TIz D.TITO D.TIi1 D.TIi2 hTI), ⟨x, y, up _ _ D.TOz O5⟩, a5.keeps (fun o q => up _ o D.i1z q) (fun o q => up _ o D.l1z q), b5.keeps (fun o q => up _ o D.i2z q) fun o q => up _ o D.l2z q⟩ T8 s8
    fun c o c1 c2 c3 c4 e => up c o c1 (kp5 c o c1 c2 c3 c4 e)
theorem zipT_stop {z TI TO i1 i2 t1 t2 : Addr} {xs ys : Array Value} {i : Nat} {Q : Fin → Shared → Prop} (hh : A.handled = none) (D : ZipApart z TI TO i1 i2 t1 t2) (Z : ZipAt z TI TO i1 i2 t1 t2 xs ys i .none s.heap) (hend : xs[i]? = none ∨ ys[i]? = none)
    (hE : ∀ h' e, (∀ c o, c ≠ z → c ≠ TO → c ≠ i1 → c ≠ i2 → s.heap.get? c = some o → h'.get? c = some o) → (∃ o, h'.get? e = some o ∧ o.cls = .type "StopIteration") → E (.ref e) { s with heap := h' }) :
    wpAny (model prog w) A (Builtin.«zip.__next__» ⟨[.ref z], []⟩) Q E s := by
  obtain ⟨hz, hTI, ⟨a, b, hTO⟩, h1, h2⟩ := Z
  show wpAny _ _ (field (.ref z) 2 >>= _) _ _ _
  refine wpAny_bind (wpAny_field hz rfl (x := .bool false) rfl ?_)
  show wpAny _ _ (field (.ref z) 3 >>= _) _ _ _
  refine wpAny_bind (wpAny_field hz rfl (x := .ref TI) rfl ?_)
  refine wpAny_bind (wpAny_seqItems hTI rfl ?_)
  show wpAny _ _ (Builtin.SmallTypes.ownedTupleIsFree (.ref z) >>= _) _ _ _
  refine wpAny_bind ?_
  unfold Builtin.SmallTypes.ownedTupleIsFree
  refine wpAny_bind (wpAny_field hz rfl (x := .none) rfl (wpAny_pure ?_))
  simp only [if_true]
  refine wpAny_bind (wpAny_rule (wpAny_bind (wpAny_field hz rfl (x := .ref TO) rfl (wpAny_bind (wpAny_setField_rec hz (by simp) fun g1 z1 k1 => ?_)))))
  replace z1 : IsZip g1 z TI TO .ellipsis := z1
  refine wpAny_bind ?_
  simp only [List.forIn_cons, List.forIn_nil, List.zipIdx_cons, List.zipIdx_nil]
  refine wpAny_bind (wpAny_bind (wpAny_onRaise ?_))
  show wpAny _ _ (Builtin.SmallTypes.nextOf (.ref i1) >>= _) _ _ _
  cases hx : xs[i]? with
  | none =>
    refine wpAny_bind (tnext_end hh (h1.move k1.extBut D.i1z D.l1z) hx fun g2 e k2 he => ?_)
    obtain ⟨oe, hoe, hce⟩ := he
    have z2 : IsZip g2 z TI TO .ellipsis := k2 _ _ D.i1z.symm z1
    have hez : e ≠ z := fun q => by subst q; rw [z2] at hoe; cases hoe; simp at hce
    exact wpAny_setField_rec z2 (by simp) fun g3 _ k3 => hE g3 e (fun c o c1 _ c3 _ q => k3.extBut _ _ c1 (k2 _ _ c3 (k1.extBut _ _ c1 q))) ⟨oe, k3.extBut _ _ hez hoe, hce⟩
  | some x =>
    have hy : ys[i]? = none := by rcases hend with q | q; rw [hx] at q; cases q; exact q
    refine wpAny_bind (tnext_item (h1.move k1.extBut D.i1z D.l1z) D.l1i1 hx fun g2 p2 k2 => wpAny_pure ?_)
    have O2 : IsPair g2 TO a b := k2.extBut _ _ D.TOi1 (k1.extBut _ _ D.TOz hTO)
    refine wpAny_bind (wpAny_seqItems O2 rfl (wpAny_bind (wpAny_updateSeq_pair O2 fun g3 O3 k3 => ?_)))
    refine wpAny_bind (wpAny_letGo (wpAny_pure (wpAny_bind (wpAny_bind (wpAny_onRaise ?_)))))
    show wpAny _ _ (Builtin.SmallTypes.nextOf (.ref i2) >>= _) _ _ _
    refine wpAny_bind (tnext_end hh (((h2.move k1.extBut D.i2z D.l2z).move k2.extBut D.i12.symm D.l2i1).move k3.extBut D.TOi2.symm D.l2TO) hy fun g4 e k4 he => ?_)
    obtain ⟨oe, hoe, hce⟩ := he
    have z4 : IsZip g4 z TI TO .ellipsis := k4 _ _ D.i2z.symm (k3.extBut _ _ D.TOz.symm (k2.extBut _ _ D.i1z.symm z1))
    have hez : e ≠ z := fun q => by subst q; rw [z4] at hoe; cases hoe; simp at hce
    exact wpAny_setField_rec z4 (by simp) fun g5 _ k5 => hE g5 e (fun c o c1 c2 c3 c4 q => k5.extBut _ _ c1 (k4 _ _ c4 (k3.extBut _ _ c2 (k2.extBut _ _ c3 (k1.extBut _ _ c1 q))))) ⟨oe, k5.extBut _ _ hez hoe, hce⟩
theorem zipT_pyNext {z TI TO i1 i2 t1 t2 : Addr} {xs ys : Array Value} {i : Nat} {x y : Value} {Q : Option Value → Shared → Prop} (D : ZipApart z TI TO i1 i2 t1 t2) (Z : ZipAt z TI TO i1 i2 t1 t2 xs ys i .none s.heap) (hx : xs[i]? = some x) (hy : ys[i]? = some y)
    (hQ : ∀ h', ZipAt z TI TO i1 i2 t1 t2 xs ys (i + 1) (rawInt s.heap.objs.size) h' → IsPair h' s.heap.objs.size x y → h'.objs.size = s.heap.objs.size + 1 →
      (∀ c o, c ≠ z → c ≠ TO → c ≠ i1 → c ≠ i2 → s.heap.get? c = some o → h'.get? c = some o) → Q (some (.ref s.heap.objs.size)) { s with heap := h' }) : wpAny (model prog w) A (pyNext (.ref z)) Q E s := by
  have hT : s.TypeIs (.ref z) "zip" := ⟨_, Z.z, rfl⟩
  unfold pyNext
  exact wpAny_bind (wpAny_attempt (wpAny_callSpecial?_slot (name := Str.ofString "__next__") hT F.slot_zip_next (wpAny_call_entry F.slot_zip_next hT F.entry_zip_next
    (zipT_next D Z hx hy fun h' p1 p2 p3 p4 => wpAny_pure (hQ h' p1 p2 p3 p4)) (F.args_zip_next_1 _))))
theorem zipT_pyEnd {z TI TO i1 i2 t1 t2 : Addr} {xs ys : Array Value} {i : Nat} {Q : Option Value → Shared → Prop} (hh : A.handled = none) (D : ZipApart z TI TO i1 i2 t1 t2) (Z : ZipAt z TI TO i1 i2 t1 t2 xs ys i .none s.heap) (hend : xs[i]? = none ∨ ys[i]? = none)
    (hQ : ∀ h', (∀ c o, c ≠ z → c ≠ TO → c ≠ i1 → c ≠ i2 → s.heap.get? c = some o → h'.get? c = some o) → Q none { s with heap := h' }) : wpAny (model prog w) A (pyNext (.ref z)) Q E s := by
  have hT : s.TypeIs (.ref z) "zip" := ⟨_, Z.z, rfl⟩
  unfold pyNext
  refine wpAny_bind (wpAny_attempt (wpAny_callSpecial?_slot (name := Str.ofString "__next__") hT F.slot_zip_next (wpAny_call_entry F.slot_zip_next hT F.entry_zip_next
    (zipT_stop hh D Z hend fun h' e hk he => ?_) (F.args_zip_next_1 _))))
  obtain ⟨o, ho, hc⟩ := he
  exact wpAny_bind (wpAny_isInstance (T := "StopIteration") (b := true) ⟨o, ho, hc⟩ isSubtype_stop (wpAny_pure (hQ _ hk)))
noncomputable abbrev zh1 (h : Heap) (t1 : Addr) : Heap := h.push (tupIt t1)
noncomputable abbrev zh2 (h : Heap) (t1 t2 : Addr) : Heap := (zh1 h t1).push (tupIt t2)
noncomputable abbrev zh3 (h : Heap) (t1 t2 : Addr) : Heap := (zh2 h t1 t2).push { cls := .type "tuple", data := .seq #[.ref h.objs.size, .ref (zh1 h t1).objs.size] }
noncomputable abbrev zh4 (h : Heap) (t1 t2 : Addr) : Heap := (zh3 h t1 t2).push { cls := .type "tuple", data := .seq #[.none, .none] }
noncomputable abbrev zh5 (h : Heap) (t1 t2 : Addr) : Heap := (zh4 h t1 t2).push { cls := .type "zip", data := .fields #[.none, .bool false, .bool false, .ref (zh2 h t1 t2).objs.size, .ref (zh3 h t1 t2).objs.size] }
theorem zipT_new (t1 t2 : Addr) (xs ys : Array Value) :
    Meets (Builtin.«zip.__new__» ⟨[.type "zip", .ref t1, .ref t2], []⟩) (fun _ R s => s.heap.IsTuple t1 xs ∧ s.heap.IsTuple t2 ys ∧ R (.ok (.ret (.ref (zh4 s.heap t1 t2).objs.size))) { s with heap := zh5 s.heap t1 t2 }) :=
  .of_wp fun prog w A R s h => by
    obtain ⟨hp, g, d, tk, os⟩ := s; obtain ⟨ht1, ht2, h⟩ := h
    have hsub := sub_zip
    have T1 : Heap.IsTuple (Shared.heap ⟨hp, g, d, tk, os⟩) t1 xs := ht1
    have T2 : Heap.IsTuple (Shared.heap ⟨hp.push { cls := .type "tuple_iterator", data := .fields #[.ref t1, .int 0 0] }, g, d, tk, os⟩) t2 ys := Heap.IsTuple.push ht2 _
    wp_walk using wpAny_pyIter_tuple T1, wpAny_pyIter_tuple T2
    exact ⟨_, rfl, h⟩
theorem call_zipT {t1 t2 : Addr} {xs ys : Array Value} {Q : Value → Shared → Prop} (ht1 : s.heap.IsTuple t1 xs) (ht2 : s.heap.IsTuple t2 ys)
    (h : ∀ h', ZipAt (s.heap.objs.size + 4) (s.heap.objs.size + 2) (s.heap.objs.size + 3) s.heap.objs.size (s.heap.objs.size + 1) t1 t2 xs ys 0 .none h' → h'.objs.size = s.heap.objs.size + 5 →
      (∀ c o, s.heap.get? c = some o → h'.get? c = some o) → Q (.ref (s.heap.objs.size + 4)) { s with heap := h' }) : wpAny (model prog w) A (call (.type "zip") [.ref t1, .ref t2]) Q E s := by
  refine callType_new F.called_zip (by decide) (F.typeCall_zip_2 _ _) (F.newCall_zip_2 _ _) (fun obj => F.args_object_init_3 obj _ _) F.entry_zip_new (zipT_new t1 t2 xs ys) ⟨ht1, ht2, ?_⟩
  have z1 : (zh1 s.heap t1).objs.size = s.heap.objs.size + 1 := Heap.size_push ..
  have z2 : (zh2 s.heap t1 t2).objs.size = s.heap.objs.size + 2 := by rw [Heap.size_push, z1]
  have z3 : (zh3 s.heap t1 t2).objs.size = s.heap.objs.size + 3 := by rw [Heap.size_push, z2]
  have z4 : (zh4 s.heap t1 t2).objs.size = s.heap.objs.size + 4 := by rw [Heap.size_push, z3]
  have z5 : (zh5 s.heap t1 t2).objs.size = s.heap.objs.size + 5 := by rw [Heap.size_push, z4]
  have up : ∀ c o, s.heap.get? c = some o → (zh5 s.heap t1 t2).get? c = some o := fun c o q => Heap.get?_push_of_some _ (Heap.get?_push_of_some _ (Heap.get?_push_of_some _ (Heap.get?_push_of_some _ (Heap.get?_push_of_some _ q))))
  have g5 : (zh5 s.heap t1 t2).get? (zh4 s.heap t1 t2).objs.size = some _ := Heap.get?_push_size _ rfl
  have g4 : (zh5 s.heap t1 t2).get? (zh3 s.heap t1 t2).objs.size = some _ := Heap.get?_push_of_some _ (Heap.get?_push_size _ rfl)
  have g3 : (zh5 s.heap t1 t2).get? (zh2 s.heap t1 t2).objs.size = some _ := Heap.get?_push_of_some _ (Heap.get?_push_of_some _ (Heap.get?_push_size _ rfl))
  have g2 : (zh5 s.heap t1 t2).get? (zh1 s.heap t1).objs.size = some _ := Heap.get?_push_of_some _ (Heap.get?_push_of_some _ (Heap.get?_push_of_some _ (Heap.get?_push_size _ rfl)))
  have g1 : (zh5 s.heap t1 t2).get? s.heap.objs.size = some _ := Heap.get?_push_of_some _ (Heap.get?_push_of_some _ (Heap.get?_push_of_some _ (Heap.get?_push_of_some _ (Heap.get?_push_size _ rfl))))
  show _ ∧ _
  rw [z2, z3, z4] at g5
  rw [z1, z2] at g3
  rw [z3] at g4
  rw [z1] at g2
  rw [z4]
  have T1 : (zh5 s.heap t1 t2).IsTuple t1 xs := let ⟨o, ho, r⟩ := ht1; ⟨o, up _ _ ho, r⟩
  have T2 : (zh5 s.heap t1 t2).IsTuple t2 ys := let ⟨o, ho, r⟩ := ht2; ⟨o, up _ _ ho, r⟩
  exact ⟨⟨_, g5, rfl⟩, h _ ⟨g5, g3, ⟨_, _, g4⟩, ⟨⟨_, g1, rfl, rfl⟩, T1⟩, ⟨⟨_, g2, rfl, rfl⟩, T2⟩⟩ z5 up⟩
end
end L3
namespace L3
open PySem PyProof.Rows
section
variable {prog : Program} {w : World} {A : Around} {E : Value → Shared → Prop} {s : Shared}
noncomputable def cutAt (n : Nat) (lo hi st : Option Int) : Int × Int × Nat :=
  ((Builtin.Slice.sliceAdjust lo hi (st.getD 1) (n : Int)).1, st.getD 1, Builtin.Slice.slicePlaces (Builtin.Slice.sliceAdjust lo hi (st.getD 1) (n : Int)).1 (Builtin.Slice.sliceAdjust lo hi (st.getD 1) (n : Int)).2 (st.getD 1))
noncomputable def pickAt {α : Type} (xs : List α) (c : Int × Int × Nat) : List α := (List.range c.2.2).filterMap fun (k : Nat) => xs[(c.1 + (k : Int) * c.2.1).toNat]?
noncomputable def wholeAt (n : Nat) (c : Int × Int × Nat) : Bool := c.1 == 0 && c.2.1 == 1 && c.2.2 == n
theorem slicePartAny {v : Value} {o : Option Int} {Q : Option Int → Shared → Prop} (p : IsPart v o) (h : Q o s) : wpAny (model prog w) A (Builtin.Slice.slicePartIndex v) Q E s := by
  cases p with
  | none => exact slicePart_none h
  | int i t => exact slicePart_int h
theorem sliceAny {sl : Addr} {vl vu vs : Value} {lo hi st : Option Int} {n : Nat} {Q : Int × Int × Nat → Shared → Prop} (hs : s.heap.IsSliceOf sl vl vu vs) (pl : IsPart vl lo) (pu : IsPart vu hi) (ps : IsPart vs st) (h0 : st.getD 1 ≠ 0)
    (h : Q (cutAt n lo hi st) s) : wpAny (model prog w) A (Builtin.Slice.sliceApplied (.ref sl) (pure (n : Int))) Q E s := by
  obtain ⟨os, hos, hcs, hds⟩ := id hs
  unfold Builtin.Slice.sliceApplied Builtin.Slice.sliceFields
  refine wpAny_bind (wpAny_bind (wpAny_field hos hds (x := vl) rfl (wpAny_bind (wpAny_field hos hds (x := vu) rfl (wpAny_bind (wpAny_field hos hds (x := vs) rfl (wpAny_pure ?_)))))))
  refine wpAny_bind (slicePartAny ps ?_)
  show wpAny _ _ (if (st.getD 1 == 0) = true then _ else _) _ _ s
  rw [if_neg (by simpa using h0)]
  exact wpAny_bind (slicePartAny pl (wpAny_bind (slicePartAny pu (wpAny_bind (wpAny_pure (wpAny_pure h))))))
theorem tupleCut {t sl : Addr} {items : Array Value} {vl vu vs : Value} {lo hi st : Option Int} {Q : Value → Shared → Prop} (ht : IsTup s.heap t items) (hs : s.heap.IsSliceOf sl vl vu vs) (pl : IsPart vl lo) (pu : IsPart vu hi) (ps : IsPart vs st) (h0 : st.getD 1 ≠ 0)
    (h1 : wholeAt items.size (cutAt items.size lo hi st) = true → Q (.ref t) s)
    (h2 : wholeAt items.size (cutAt items.size lo hi st) = false → Q (.ref s.heap.objs.size) { s with heap := s.heap.push { cls := .type "tuple", data := .seq (pickAt items.toList (cutAt items.size lo hi st)).toArray } })
    (hsz : (cutAt items.size lo hi st).2.2 ≤ sizeLine) : wpAny (model prog w) A (getItem (.ref t) (.ref sl)) Q E s := by
  have htake : sizeOk (.seq (pickAt items.toList (cutAt items.size lo hi st)).toArray) := by
    show (pickAt items.toList (cutAt items.size lo hi st)).toArray.size ≤ sizeLine
    rw [List.size_toArray]
    refine Nat.le_trans (List.length_filterMap_le _ _) ?_
    rw [List.length_range]
    exact hsz
  obtain ⟨os, hos, hcs, hds⟩ := id hs
  have hTs : s.TypeIs (.ref sl) "slice" := ⟨os, hos, hcs⟩
  unfold getItem
  try with_reducible refine wpAny_holding ?_
  first | refine wpAny_bind (wpAny_pure ?_) | skip
  refine wpAny_bind (wpAny_sequenceKey ht.typeIs (by decide) ?_)
  refine wpAny_bind (wpAny_callSpecial?_slot (name := Str.ofString "__getitem__") ht.typeIs PyProof.Rows.slot_tuple_getitem (wpAny_call_entry PyProof.Rows.slot_tuple_getitem ht.typeIs entry_tuple_getitem ?_ (args_tuple_getitem _ _)))
  show wpAny _ _ (Builtin.Tuple.tupleItemsOf (.ref t) >>= _) _ _ s
  refine wpAny_bind (tupleItemsOf_ ht ?_)
  refine wpAny_bind (wpAny_typeOf hTs ?_)
  rw [if_pos (by decide)]
  refine wpAny_bind (sliceAny hs pl pu ps h0 ?_)
  generalize cutAt items.size lo hi st = c at h1 h2 htake
  obtain ⟨a, b, n⟩ := c
  have e : (List.filterMap (fun (k : Nat) => items[(a + (k : Int) * b).toNat]?) (List.range n)) = pickAt items.toList (a, b, n) := by
    unfold pickAt
    congr 1
    funext k
    rw [Array.getElem?_toList]
  show wpAny _ _ (if (a == 0 && b == 1 && n == items.size) = true then _ else _) _ _ s
  cases hw : wholeAt items.size (a, b, n) with
  | true =>
    have hw' : (a == 0 && b == 1 && n == items.size) = true := hw
    rw [if_pos hw']
    obtain ⟨o, ho, hc, nn, hd⟩ := id ht
    have q := h1 hw
    first
      | (refine wpAny_bind (m := Builtin.Tuple.tupleIsExact _) ?_; unfold Builtin.Tuple.tupleIsExact; refine wpAny_bind (wpAny_typeOf ht.typeIs (wpAny_pure ?_)); rw [if_pos (by decide)]; exact wpAny_bind (wpAny_rule (wpAny_pure ⟨_, rfl, wpAny_pure q⟩)))
      | trace_state
  | false =>
    have hw' : ¬ ((a == 0 && b == 1 && n == items.size) = true) := by
      intro z
      have : wholeAt items.size (a, b, n) = true := z
      rw [hw] at this; cases this
    rw [if_neg hw', e]
    have q := h2 hw
    first
      | exact wpAny_bind (m := Builtin.Tuple.tupleExact _) (wpAny_newObj_type (wpAny_pure ⟨_, rfl, wpAny_pure q⟩) htake)
      | exact wpAny_bind (m := Builtin.Tuple.tupleExact _) (wpAny_newObj_type (wpAny_bind (wpAny_pure (wpAny_pure ⟨_, rfl, wpAny_pure q⟩))) htake)
      | exact wpAny_bind (wpAny_bind (m := Builtin.Tuple.tupleExact _) (wpAny_newObj_type (wpAny_pure (wpAny_pure ⟨_, rfl, wpAny_pure q⟩)) htake))
      | exact wpAny_bind (wpAny_bind (m := Builtin.Tuple.tupleExact _) (wpAny_newObj_type (wpAny_pure ⟨_, rfl, wpAny_pure q⟩) htake))
end
end L3
namespace L3
open PySem
theorem bt_len : bootBuiltins "len" = some (.builtin "len") := by decide +kernel
theorem bt_tuple : bootBuiltins "tuple" = some (.type "tuple") := by decide +kernel
theorem bt_all : bootBuiltins "all" = some (.builtin "all") := by decide +kernel
theorem bt_isinstance : bootBuiltins "isinstance" = some (.builtin "isinstance") := by decide +kernel
theorem bt_min : bootBuiltins "min" = some (.builtin "min") := by decide +kernel
theorem bt_max : bootBuiltins "max" = some (.builtin "max") := by decide +kernel
theorem bt_bool : bootBuiltins "bool" = some (.type "bool") := by decide +kernel
theorem bt_str : bootBuiltins "str" = some (.type "str") := by decide +kernel
theorem bt_int : bootBuiltins "int" = some (.type "int") := by decide +kernel
theorem bt_list : bootBuiltins "list" = some (.type "list") := by decide +kernel
theorem bt_sum : bootBuiltins "sum" = some (.builtin "sum") := by decide +kernel
end L3
set_option maxRecDepth 100000
namespace L2
open PySem PySem.Spec PyProof.Rows
section
variable {X : Cx} {pins : List (Addr × Obj)} {σ : St} {H : Hp} {s : Shared} {h' : Heap}
theorem Inv.turnLay {a : Addr} {o : HO} {t' : Nat} {ch : List Addr} (I : Inv X pins σ H s) (hf : ∀ b ∈ ch, FpOk X pins H b) (k : ∀ b u, b ∉ ch → s.heap.get? b = some u → h'.get? b = some u) (hp : s.heap.objs.size ≤ a)
    (new : ObjOk X.prog X.w (upd H a o) h' a o) : Inv X pins σ (upd H a o) { s with heap := h', toks := t' } := by
  have fa : H a = none := I.hok.fresh hp
  have nch : ∀ b u, H b = some u → b ∉ ch := fun b u e z => by rw [(hf b z).1] at e; cases e
  refine I.step (g' := s.gens) (d' := s.drawn) (ch := ch) (fun b hb => ?_) (fun b u _ _ hc e _ => k b u hc e) (fun b u _ _ hc e _ => ⟨u.slots, k b u hc e⟩) (fun b u hc e n => ?_) (fun b u hc e => ⟨u, k b u hc e⟩)
    (fun b xs e => ?_) (fun b ob u e => ?_) (fun b ps e => ?_) (fun m hm => ?_) (fun b u e => ?_) I.bare
  · obtain ⟨_, f1, _, f3, f4, f5⟩ := hf b hb
    exact ⟨f3, f1, f4, f5⟩
  · rw [upd_ne (Nat.ne_of_lt (Nat.lt_of_lt_of_le (Heap.lt_size e) hp))]; exact n
  · rw [upd_ne (ne_of_none e fa)]; exact e
  · rw [upd_ne (ne_of_none e fa)]; exact e
  · exact ⟨#[], by rw [upd_ne (ne_of_none e fa), e]; simp⟩
  · obtain ⟨ob, es, ep, ho, r⟩ := hm
    exact ⟨ob, es, ep, k _ ob (fun z => (hf _ z).2.1 rfl) ho, r⟩
  · by_cases hb : b = a
    · subst hb; rw [upd_same] at e; cases e; exact new
    · rw [upd_ne hb] at e
      refine (I.hok b u e).stay (fun c v hc q => k c v ?_ q) (fun c q => by rw [upd_ne (ne_of_none q fa)]; exact q) fun c xs q => by rw [upd_ne (ne_of_none q fa)]; exact q
      rcases hc with z | z
      · rw [z]; exact nch b u e
      · exact nch c _ z
theorem Inv.turnMany {t' : Nat} {ch : List Addr} (I : Inv X pins σ H s) (hf : ∀ b ∈ ch, FpOk X pins H b) (k : ∀ b u, b ∉ ch → s.heap.get? b = some u → h'.get? b = some u) : Inv X pins σ H { s with heap := h', toks := t' } := by
  have nch : ∀ b u, H b = some u → b ∉ ch := fun b u e z => by rw [(hf b z).1] at e; cases e
  refine I.step (g' := s.gens) (d' := s.drawn) (ch := ch) (fun b hb => ?_) (fun b u _ _ hc e _ => k b u hc e) (fun b u _ _ hc e _ => ⟨u.slots, k b u hc e⟩) (fun b u hc e n => n) (fun b u hc e => ⟨u, k b u hc e⟩)
    (fun b xs e => e) (fun b ob u e => e) (fun b ps e => ⟨#[], by rw [e]; simp⟩) (fun m hm => ?_) (fun b u e => ?_) I.bare
  · obtain ⟨_, f1, _, f3, f4, f5⟩ := hf b hb
    exact ⟨f3, f1, f4, f5⟩
  · obtain ⟨ob, es, ep, ho, r⟩ := hm
    exact ⟨ob, es, ep, k _ ob (fun z => (hf _ z).2.1 rfl) ho, r⟩
  · refine (I.hok b u e).stay (fun c v hc q => k c v ?_ q) (fun _ q => q) fun _ _ q => q
    rcases hc with z | z
    · rw [z]; exact nch b u e
    · exact nch c _ z
end
noncomputable def Ite (K : PySem.W.Frag) (a : Addr) : It :=
  ⟨fun i H => ∃ xs x, SqT K H a xs ∧ xs[i]? = some x, fun i H v H' => ∃ p x, H p = none ∧ v = .ref p ∧ H' = upd H p (.tup [.int i, x]) ∧ ∀ xs, SqT K H a xs → xs[i]? = some x, fun i H => ∃ xs, SqT K H a xs ∧ xs.length ≤ i⟩
noncomputable def Itz (K : PySem.W.Frag) (a b : Addr) : It :=
  ⟨fun i H => ∃ xs ys x y, SqT K H a xs ∧ SqT K H b ys ∧ xs[i]? = some x ∧ ys[i]? = some y,
   fun i H v H' => ∃ p x y, H p = none ∧ v = .ref p ∧ H' = upd H p (.tup [x, y]) ∧ (∀ xs, SqT K H a xs → xs[i]? = some x) ∧ ∀ ys, SqT K H b ys → ys[i]? = some y,
   fun i H => ∃ xs ys, SqT K H a xs ∧ SqT K H b ys ∧ (xs.length ≤ i ∨ ys.length ≤ i)⟩
theorem turn_enumT {P : Program} {w : World} {K : PySem.W.Frag} {elts : List Expr} {x1} {tp : Pos} {e it a : Addr} (hne : e ≠ it) (hae : a ≠ e) (hai : a ≠ it) :
    Turn P w K (.Tuple elts x1 tp) (Ite K a) [e, it] e (fun i h => (∃ old, IsEnum h e it i old) ∧ h.IsTupleIter it a i) where
  mem := by simp
  obj := fun i h st b hb => by
    obtain ⟨⟨old, q⟩, ⟨o, e1, c, d⟩⟩ := st
    rcases List.mem_cons.mp hb with z | z
    · subst z; exact ⟨_, q, fun v z => by have z' : Data.fields _ = Data.cell v := z; cases z'⟩
    · have z : b = it := by simpa using z
      subst z; exact ⟨o, e1, fun v z => by rw [d] at z; cases z⟩
  keep := fun i h h' ⟨⟨old, q⟩, r⟩ k => ⟨⟨old, k e (by simp) _ q⟩, r.at fun o z => k it (by simp) o z⟩
  item := by
    intro X hP hw hK hc i pins s σ H E I hf st hg
    subst hP hw hK
    obtain ⟨⟨old, he⟩, hit⟩ := st
    obtain ⟨xs, x, hq, hx⟩ := hg
    obtain ⟨its, rv, p, hz⟩ := I.tuple hq
    obtain ⟨u, hu, ru⟩ := rv.get hx
    refine L3.enumT_pyNext he ⟨hit, p⟩ (x := u) (by simpa using hu) hne hae hai fun h' o1 a1 tp1 sz k1 => ⟨_, rfl, ?_⟩
    refine wpAny_letOwnedTupleGo_enum o1 fun h2 e2 k2 => ?_
    have hT : s.heap.objs.size ≠ e := Nat.ne_of_gt (Heap.lt_size he)
    have kk : ∀ b v, b ∉ [e, it] → s.heap.get? b = some v → h2.get? b = some v := fun b v hb q => by
      have n1 : b ≠ e := fun z => hb (by simp [z])
      have n2 : b ≠ it := fun z => hb (by simp [z])
      exact (k2.2 b n1).trans (k1 b v n1 n2 q)
    have new : ObjOk X.prog X.w (upd H s.heap.objs.size (.tup [.int i, x])) h2 s.heap.objs.size (.tup [.int i, x]) :=
      ⟨by show 2 ≤ sizeLine; decide, [.int i s.toks, u], .cons ⟨_, rfl⟩ (.cons ru .nil), ⟨_, (k2.2 _ hT).trans tp1, rfl, _, rfl⟩, _, (k2.2 _ hT).trans tp1, rfl⟩
    have IL : Inv X pins σ (upd H s.heap.objs.size (.tup [.int i, x])) { s with heap := h2, toks := s.toks + 1 } := I.turnLay (t' := s.toks + 1) (ch := [e, it]) hf kk (Nat.le_refl _) new
    refine ⟨.ref s.heap.objs.size, _, IL, rfl, ⟨_, x, I.hok.fresh (Nat.le_refl _), rfl, rfl, fun ys hy => by rw [I.tuple_inj hy hq]; exact hx⟩, ⟨⟨u, ?_⟩, a1.iter.at fun o z => (k2.2 it hne.symm).trans z⟩, fun b hb => ?_⟩
    · have e3 : IsEnum h2 e it ((i : Int) + 1) u := e2
      rw [show (((i + 1 : Nat) : Int)) = (i : Int) + 1 by omega]
      exact e3
    · rw [upd_ne (Nat.ne_of_lt ?_)]
      · exact (hf b hb).1
      · rcases List.mem_cons.mp hb with z | z
        · rw [z]; exact Heap.lt_size he
        · have z : b = it := by simpa using z
          obtain ⟨o, q, _⟩ := hit
          rw [z]; exact Heap.lt_size q
  done := by
    intro X hP hw hK hc i pins s σ H E I hf st hg
    subst hP hw hK
    obtain ⟨⟨old, he⟩, hit⟩ := st
    obtain ⟨xs, hq, hx⟩ := hg
    obtain ⟨its, rv, p, hz⟩ := I.tuple hq
    have hl := rv.length
    refine L3.enumT_pyEnd (I.ok.hd hc) he ⟨hit, p⟩ (by simp; omega) fun h' k => ⟨rfl, I.turnMany (t' := s.toks) (ch := [e, it]) hf fun b v hb q => k b v (fun z => hb (by simp [z])) q⟩
  self := fun _ _ _ _ _ ⟨⟨_, q⟩, _⟩ h => wpAny_pyIter_enum q h
theorem turn_zipT {P : Program} {w : World} {K : PySem.W.Frag} {elts : List Expr} {x1} {tp : Pos} {z TI TO i1 i2 a b : Addr} (D : ZipApart z TI TO i1 i2 a b) :
    Turn P w K (.Tuple elts x1 tp) (Itz K a b) [z, TI, TO, i1, i2] z (fun i h => IsZip h z TI TO .none ∧ IsPair h TI (.ref i1) (.ref i2) ∧ (∃ u v, IsPair h TO u v) ∧ h.IsTupleIter i1 a i ∧ h.IsTupleIter i2 b i) where
  mem := by simp
  obj := fun i h st c hc => by
    obtain ⟨q1, q2, ⟨u, v, q3⟩, ⟨o4, e4, c4, d4⟩, ⟨o5, e5, c5, d5⟩⟩ := st
    simp only [List.mem_cons, List.not_mem_nil, or_false] at hc
    rcases hc with rfl | rfl | rfl | rfl | rfl
    · exact ⟨_, q1, fun v z => by have z' : Data.fields _ = Data.cell v := z; cases z'⟩
    · exact ⟨_, q2, fun v z => by have z' : Data.seq _ _ = Data.cell v := z; cases z'⟩
    · exact ⟨_, q3, fun v z => by have z' : Data.seq _ _ = Data.cell v := z; cases z'⟩
    · exact ⟨o4, e4, fun v z => by rw [d4] at z; cases z⟩
    · exact ⟨o5, e5, fun v z => by rw [d5] at z; cases z⟩
  keep := fun i h h' ⟨q1, q2, ⟨u, v, q3⟩, r4, r5⟩ k => ⟨k _ (by simp) _ q1, k _ (by simp) _ q2, ⟨u, v, k _ (by simp) _ q3⟩, r4.at fun o q => k _ (by simp) o q, r5.at fun o q => k _ (by simp) o q⟩
  item := by
    intro X hP hw hK hc i pins s σ H E I hf st hg
    subst hP hw hK
    have st0 := st
    obtain ⟨q1, q2, q3, r4, r5⟩ := st
    obtain ⟨xs, ys, x, y, hq, hq', hx, hy⟩ := hg
    obtain ⟨its, rv, p, _⟩ := I.tuple hq
    obtain ⟨its', rv', p', _⟩ := I.tuple hq'
    obtain ⟨u, hu, ru⟩ := rv.get hx
    obtain ⟨v, hv, rw'⟩ := rv'.get hy
    refine L3.zipT_pyNext D ⟨q1, q2, q3, ⟨r4, p⟩, ⟨r5, p'⟩⟩ (x := u) (y := v) (by simpa using hu) (by simpa using hv) fun h' Z tp1 sz k1 => ⟨_, rfl, ?_⟩
    refine wpAny_letOwnedTupleGo_zip Z.z fun h2 z2 k2 => ?_
    have lt : ∀ c ∈ [z, TI, TO, i1, i2], c < s.heap.objs.size := fun c hc => by
      obtain ⟨w1, w2, ⟨_, _, w3⟩, ⟨_, w4, _⟩, ⟨_, w5, _⟩⟩ := st0
      simp only [List.mem_cons, List.not_mem_nil, or_false] at hc
      rcases hc with rfl | rfl | rfl | rfl | rfl
      · exact Heap.lt_size w1
      · exact Heap.lt_size w2
      · exact Heap.lt_size w3
      · exact Heap.lt_size w4
      · exact Heap.lt_size w5
    have hT : s.heap.objs.size ≠ z := Nat.ne_of_gt (lt z (by simp))
    have kk : ∀ c w', c ∉ [z, TI, TO, i1, i2] → s.heap.get? c = some w' → h2.get? c = some w' := fun c w' hc q => by
      have n1 : c ≠ z := fun e => hc (by simp [e])
      exact (k2.2 c n1).trans (k1 c w' n1 (fun e => hc (by simp [e])) (fun e => hc (by simp [e])) (fun e => hc (by simp [e])) q)
    have new : ObjOk X.prog X.w (upd H s.heap.objs.size (.tup [x, y])) h2 s.heap.objs.size (.tup [x, y]) :=
      ⟨by show 2 ≤ sizeLine; decide, [u, v], .cons ru (.cons rw' .nil), ⟨_, (k2.2 _ hT).trans tp1, rfl, _, rfl⟩, _, (k2.2 _ hT).trans tp1, rfl⟩
    have IL : Inv X pins σ (upd H s.heap.objs.size (.tup [x, y])) { s with heap := h2, toks := s.toks } := I.turnLay (t' := s.toks) (ch := [z, TI, TO, i1, i2]) hf kk (Nat.le_refl _) new
    refine ⟨.ref s.heap.objs.size, _, IL, rfl,
      ⟨_, x, y, I.hok.fresh (Nat.le_refl _), rfl, rfl, fun ys hy' => by rw [I.tuple_inj hy' hq]; exact hx, fun ys hy' => by rw [I.tuple_inj hy' hq']; exact hy⟩,
      ⟨z2, (k2.2 _ D.TIz).trans Z.TI, ?_, Z.one.iter.at fun o q => (k2.2 _ D.i1z).trans q, Z.two.iter.at fun o q => (k2.2 _ D.i2z).trans q⟩, fun c hc => ?_⟩
    · obtain ⟨a', b', q⟩ := Z.TO
      exact ⟨a', b', (k2.2 _ D.TOz).trans q⟩
    · rw [upd_ne (Nat.ne_of_lt (lt c hc))]; exact (hf c hc).1
  done := by
    intro X hP hw hK hc i pins s σ H E I hf st hg
    subst hP hw hK
    obtain ⟨q1, q2, q3, r4, r5⟩ := st
    obtain ⟨xs, ys, hq, hq', hx⟩ := hg
    obtain ⟨its, rv, p, _⟩ := I.tuple hq
    obtain ⟨its', rv', p', _⟩ := I.tuple hq'
    have hl := rv.length
    have hl' := rv'.length
    refine L3.zipT_pyEnd (I.ok.hd hc) D ⟨q1, q2, q3, ⟨r4, p⟩, ⟨r5, p'⟩⟩ ?_ fun h' k => ⟨rfl, I.turnMany (t' := s.toks) (ch := [z, TI, TO, i1, i2]) hf fun c v hc q =>
      k c v (fun e => hc (by simp [e])) (fun e => hc (by simp [e])) (fun e => hc (by simp [e])) (fun e => hc (by simp [e])) q⟩
    rcases hx with hx | hx
    · exact .inl (by simp; omega)
    · exact .inr (by simp; omega)
  self := fun _ _ _ _ _ ⟨q, _⟩ h => wpAny_pyIter_zip q h
section
variable {X : Cx}
noncomputable def iEnumT (K : PySem.W.Frag) (ta : TA) : TI := fun σ H R => ta σ H fun vs H1 => ∃ a, vs = [.ref a] ∧ (∃ xs, SqT K H1 a xs) ∧ R (Ite K a) H1
noncomputable def iZipT (K : PySem.W.Frag) (ta : TA) : TI := fun σ H R => ta σ H fun vs H1 => ∃ a b, vs = [.ref a, .ref b] ∧ (∃ xs, SqT K H1 a xs) ∧ (∃ ys, SqT K H1 b ys) ∧ R (Itz K a b) H1
theorem pi_enumT {a : Expr} {ta : TA} {p pos tp : Pos} {elts : List Expr} {x1} (hg : Gl X "enumerate") (hm : X.mg "enumerate" = none) (ha : PA X [a] ta) (hs : starEach [a] X.env = [(false, eval a X.env)] := by rfl) :
    PI X (.Tuple elts x1 tp) (.Call (.Name "enumerate" p) [a] [] pos) (iEnumT X.K ta) := by
  intro pins s σ H R I h
  refine Call_ (ld_blt I hg hm boot_enumerate (PyProof.Rows.callWith_type1 (thn (ha pos pins s σ H _ I h) fun us s1 ⟨vs, H1, I1, r1, q1⟩ => ?_) hs rfl))
  obtain ⟨t, e, ⟨xs, hq⟩, q⟩ := q1
  subst e
  cases r1 with
  | cons r rr =>
    cases rr
    cases r
    obtain ⟨its, rv, pt, hz⟩ := I1.tuple hq
    have pt' : s1.heap.IsTuple t its.toArray := pt
    have tlt : t < s1.heap.objs.size := by obtain ⟨o, ho, _⟩ := pt'; exact Heap.lt_size ho
    refine L3.call_enumT pt' fun h' he a0 sz k => ?_
    have I2 : Inv X pins σ H1 { s1 with heap := h' } := I1.kept (t' := s1.toks) k
    refine wpAny_pyIter_enum (it := s1.heap.objs.size) (i := 0) (old := .none) he ⟨_, [s1.heap.objs.size + 1, s1.heap.objs.size], _, _, H1, rfl, I2, turn_enumT (a := t) (Nat.ne_of_gt (Nat.lt_succ_self _)) (Nat.ne_of_lt (Nat.lt_succ_of_lt tlt)) (Nat.ne_of_lt tlt), ⟨⟨_, he⟩, a0.iter⟩, fun b hb => ?_, q⟩
    have hb' : s1.heap.objs.size ≤ b := by
      simp only [List.mem_cons, List.not_mem_nil, or_false] at hb
      rcases hb with rfl | rfl
      · exact Nat.le_succ _
      · exact Nat.le_refl _
    exact I1.fpOk hb' (I1.hok.fresh hb')
theorem pi_zipT {a b : Expr} {ta : TA} {p pos tp : Pos} {elts : List Expr} {x1} (hg : Gl X "zip") (hm : X.mg "zip" = none) (ha : PA X [a, b] ta)
    (hs : starEach [a, b] X.env = [(false, eval a X.env), (false, eval b X.env)] := by rfl) (hs2 : starEach [b] X.env = [(false, eval b X.env)] := by rfl) : PI X (.Tuple elts x1 tp) (.Call (.Name "zip" p) [a, b] [] pos) (iZipT X.K ta) := by
  intro pins s σ H R I h
  refine Call_ (ld_blt I hg hm boot_zip (PyProof.Rows.callWith_type1 (thn (ha pos pins s σ H _ I h) fun us s1 ⟨vs, H1, I1, r1, q1⟩ => ?_) (by rw [hs, hs2]) (by rw [hs2]; rfl)))
  obtain ⟨t, t2, e, ⟨xs, hq⟩, ⟨ys, hq'⟩, q⟩ := q1
  subst e
  cases r1 with
  | cons r rr =>
    cases rr with
    | cons r' rr =>
      cases rr
      cases r
      cases r'
      obtain ⟨its, rv, pt, hz⟩ := I1.tuple hq
      obtain ⟨its', rv', pt', hz'⟩ := I1.tuple hq'
      have T1 : s1.heap.IsTuple t its.toArray := pt
      have T2 : s1.heap.IsTuple t2 its'.toArray := pt'
      have l1 : t < s1.heap.objs.size := by obtain ⟨o, ho, _⟩ := T1; exact Heap.lt_size ho
      have l2 : t2 < s1.heap.objs.size := by obtain ⟨o, ho, _⟩ := T2; exact Heap.lt_size ho
      refine L3.call_zipT T1 T2 fun h' Z sz k => ?_
      have I2 : Inv X pins σ H1 { s1 with heap := h' } := I1.kept (t' := s1.toks) k
      have D : ZipApart (s1.heap.objs.size + 4) (s1.heap.objs.size + 2) (s1.heap.objs.size + 3) s1.heap.objs.size (s1.heap.objs.size + 1) t t2 := PyProof.Rows.zipApart_new l1 l2
      refine wpAny_pyIter_zip Z.z ⟨_, [s1.heap.objs.size + 4, s1.heap.objs.size + 2, s1.heap.objs.size + 3, s1.heap.objs.size, s1.heap.objs.size + 1], _, _, H1, rfl, I2, turn_zipT D, ⟨Z.z, Z.TI, Z.TO, Z.one.iter, Z.two.iter⟩, fun c hc => ?_, q⟩
      have hc' : s1.heap.objs.size ≤ c := by
        simp only [List.mem_cons, List.not_mem_nil, or_false] at hc
        rcases hc with rfl | rfl | rfl | rfl | rfl <;> first | exact Nat.le_refl _ | exact Nat.le_add_right _ _
      exact I1.fpOk hc' (I1.hok.fresh hc')
end
section
variable {X : Cx}
noncomputable def Cx.comp (X : Cx) (scope : Scope) (N' : List Str) (C : Addr) (fp : List Addr) (pins : List (Addr × Obj)) (s₂ : Shared) (H₂ : Hp) : Cx :=
  { X with N := N', s₀ := s₂, H₀ := H₂, env := compEnvC scope (L3.closL X.env.cells scope.names []) C X.env, outer := X.stack, ex := fp, fn := fun _ => false, pn := X.pn ++ pins, xe := fun _ _ => False }
theorem comp_look {scope : Scope} {x : Str} {c : Addr} (h : (L3.closL X.env.cells scope.names []).lookup x = some c) : X.env.cells.lookup x = some c :=
  L3.closL_lookup (cs := []) (fun _ e => by simp at e) h
variable {scope : Scope} {N' : List Str} {sh : List Nat} {pins : List (Addr × Obj)} {σ : St} {H : Hp} {s : Shared} {C : Addr} {fp : List Addr}
theorem comp_free (cp : L3.CompParts X.env.scope scope X.N N' sh) {x : Str} (h : (relabel scope X.env).names.lookup x = some .cell ∨ (relabel scope X.env).names.lookup x = some .free) : (x, NameKind.free) ∈ scope.names ∧ X.env.kindOf x = some .cell := by
  have q : (x, NameKind.free) ∈ scope.names := by
    rcases h with h | h
    · obtain ⟨k0, h0, h1⟩ := L3.relab_inv h
      rcases h1 with h1 | ⟨h1, _⟩
      · subst h1; exact absurd rfl (cp.cell _ (L3.mem_of_look h0))
      · subst h1; exact L3.mem_of_look h0
    · obtain ⟨k0, h0, h1⟩ := L3.relab_inv h
      rcases h1 with h1 | ⟨_, h1⟩
      · subst h1; exact L3.mem_of_look h0
      · cases h1
  exact ⟨q, cp.free _ q rfl⟩
theorem comp_ok (I : Inv X pins σ H s) (cp : L3.CompParts X.env.scope scope X.N N' sh) (hC : s.heap.objs.size ≤ C) (hf : ∀ b ∈ fp, FpOk X pins H b) (hlt : ∀ b ∈ fp, b < s.heap.objs.size) : (X.comp scope N' C fp pins s H).Ok := by
  refine ⟨I.ok.mod, cp.kind, I.ok.glob, I.ok.blt, hC, fun x y c h1 h2 => I.ok.inj x y c (comp_look h1) (comp_look h2), fun x hx => ?_, fun x c z _ => ?_, I.ok.hd, I.ok.frames, .inl rfl, fun b hb => ⟨?_, fun x c e => ?_⟩, I.bs, Nat.le_trans I.ok.bsz I.sz, fun b o e hb => ?_, fun b hb z => ?_, I.stack, I.stkFree⟩
  · obtain ⟨q, kq⟩ := comp_free cp hx
    obtain ⟨d, hd⟩ := I.ok.has x (.inl kq)
    exact L3.closL_has hd q
  · exact absurd (show false = true from z) Bool.false_ne_true
  · exact Nat.ne_of_lt (Nat.lt_of_lt_of_le (hlt b hb) hC)
  · exact (hf b hb).2.2.2.2.1 x c (comp_look e)
  · rcases (hf b hb).2.2.2.1 with z | z
    · exact I.ok.noex b o e z
    · exact absurd (Nat.lt_of_lt_of_le (Heap.lt_size e) (Nat.le_trans I.ok.bsz z)) (Nat.lt_irrefl _)
  · rcases List.mem_cons.mp (I.stkSub b z) with e | e
    · exact (hf b hb).2.1 e
    · exact (hf b hb).2.2.1 e
theorem comp_in (I : Inv X pins σ H s) (cp : L3.CompParts X.env.scope scope X.N N' sh) {more : Nat} (hm : N'.length = X.N.length + more) (hC : s.heap.objs.size ≤ C) (hf : ∀ b ∈ fp, FpOk X pins H b) (hlt : ∀ b ∈ fp, b < s.heap.objs.size)
    {h1 : Heap} {t : Nat} {m : Str → Option Value} (k : ∀ b o, s.heap.get? b = some o → h1.get? b = some o) (hn : h1.Ns C m) : Inv (X.comp scope N' C fp pins s H) [] (L3.blank sh σ ++ List.replicate more none) H { s with heap := h1, toks := t } := by
  have neC : ∀ b o, s.heap.get? b = some o → b ≠ C := fun b o e => Nat.ne_of_lt (Nat.lt_of_lt_of_le (Heap.lt_size e) hC)
  have lenσ : σ.length = X.N.length := I.len
  refine ⟨comp_ok I cp hC hf hlt, rfl, I.bare, Un.kept k, ⟨m, hn, fun i x v e1 e2 e3 => ?_⟩, fun x c e => ?_, I.hok.fresh hC, fun x c e => I.freeC x c (comp_look e), fun p hp => ?_, I.hok.kept k, ?_⟩
  · have hi : i < (L3.blank sh σ).length := by
      by_cases hi : i < (L3.blank sh σ).length
      · exact hi
      · rw [List.getElem?_append_right (Nat.le_of_not_lt hi), List.getElem?_replicate] at e2
        split at e2 <;> cases e2
    rw [List.getElem?_append_left hi] at e2
    obtain ⟨h1', h2'⟩ := L3.blank_get e2
    rw [L3.blank_length, lenσ] at hi
    have eN : X.N[i]? = some x := by
      have q : (N'.take X.N.length)[i]? = some x := by rw [List.getElem?_take_of_lt hi]; exact e1
      rw [cp.pre] at q; exact q
    have e3' : (relabel scope X.env).names.lookup x = some .local ∨ (relabel scope X.env).names.lookup x = some .cell ∨ (relabel scope X.env).names.lookup x = some .free := e3
    rcases e3' with z | z
    · obtain ⟨k0, h0, hk⟩ := L3.relab_inv z
      have : k0 = .local := by
        rcases hk with q | ⟨_, q⟩
        · exact q.symm
        · cases q
      subst this
      exact absurd (cp.shad i x eN h0) h1'
    · obtain ⟨q, kq⟩ := comp_free cp z
      obtain ⟨m0, _, hl⟩ := I.loc
      obtain ⟨u, ru, lu⟩ := hl i x v eN h2' (.inr (.inl kq))
      rcases lu with ⟨kl, _⟩ | ⟨_, c, hc, ic⟩
      · rw [kq] at kl; cases kl
      · obtain ⟨c', hc'⟩ := L3.closL_has (cs := []) hc q
        have := comp_look (X := X) hc'
        rw [hc] at this; cases this
        exact ⟨u, ru, .inr ⟨z, c, hc', ic.keeps k⟩⟩
  · obtain ⟨v, z⟩ := I.cell x c (comp_look e)
    exact ⟨v, z.keeps k⟩
  · have hp' : p ∈ X.pn ++ pins := by simpa [Cx.comp] using hp
    obtain ⟨e, n, ne, nf, d⟩ := I.pin p hp'
    refine ⟨k _ _ e, n, neC _ _ e, fun z => ?_, d⟩
    rcases List.mem_cons.mp (I.stkSub p.1 z) with q | q
    · exact ne q
    · exact nf q
  · show (L3.blank sh σ ++ List.replicate more none).length = N'.length
    rw [List.length_append, L3.blank_length, List.length_replicate, lenσ, hm]
theorem comp_out {D : Addr} {n : Nat} {acc : List V} {ys : Array Value} {pl : List (Addr × Obj)} {σ4 : St} {H4 : Hp} {s4 : Shared} {h' : Heap} (I : Inv X pins σ H s) (hC : s.heap.objs.size ≤ C) (hf : ∀ b ∈ fp, FpOk X pins H b)
    (I4 : Inv (X.comp scope N' C fp pins s H) pl σ4 H4 s4) (hD : s.heap.objs.size ≤ D) (hDC : D ≠ C) (gD : s4.heap.get? D = some { cls := .type "list", data := .seq ys n }) (va : Vals acc ys.toList) (fD : H4 D = none) (hl : acc.length ≤ sizeLine)
    (sb : Heap.SameBut C s4.heap h') : Inv X pins σ (upd H4 D (.lst acc)) { s4 with heap := h' } := by
  have B : Un (frs X.stack) fp H H4 s.heap s4.heap := I4.base
  have fC : H4 C = none := I4.free
  have lo : ∀ b o, s.heap.get? b = some o → b ≠ C ∧ b ≠ D := fun b o e => ⟨Nat.ne_of_lt (Nat.lt_of_lt_of_le (Heap.lt_size e) hC), Nat.ne_of_lt (Nat.lt_of_lt_of_le (Heap.lt_size e) hD)⟩
  have u : Un (frs X.stack) fp H (upd H4 D (.lst acc)) s.heap h' := by
    refine ⟨fun b o e n hb hx => (sb.2 b (lo b o e).1).trans (B.keep b o e n hb hx), fun b o e n hb hx => ?_, fun b o e n hx => by rw [upd_ne (lo b o e).2]; exact B.free b o e n hx, fun b o e hx => ?_,
      fun b xs e => ?_, fun b o v e => ?_, fun b ps e => ?_⟩
    · obtain ⟨sl, q⟩ := B.slot b o e n hb hx
      exact ⟨sl, (sb.2 b (lo b o e).1).trans q⟩
    · obtain ⟨o', q⟩ := B.there b o e hx
      exact ⟨o', (sb.2 b (lo b o e).1).trans q⟩
    · have q := B.tups b xs e
      rw [upd_ne (ne_of_none q fD)]; exact q
    · have q := B.frzs b o v e
      rw [upd_ne (ne_of_none q fD)]; exact q
    · obtain ⟨more, q⟩ := B.tbls b ps e
      exact ⟨more, by rw [upd_ne (ne_of_none q fD)]; exact q⟩
  have hok : HOk X.prog X.w (upd H4 D (.lst acc)) h' := fun b v e => by
    by_cases hb : b = D
    · subst hb
      rw [upd_same] at e; cases e
      exact ⟨hl, ys.toList, n, va, by rw [sb.2 _ hDC, gD]⟩
    · rw [upd_ne hb] at e
      refine (show ObjOk X.prog X.w H4 s4.heap b v from I4.hok b v e).stay (fun c w' hc q => (sb.2 c ?_).trans q) (fun c q => by rw [upd_ne (ne_of_none q fD)]; exact q) fun c xs q => by rw [upd_ne (ne_of_none q fD)]; exact q
      rcases hc with z | z
      · rw [z]; exact ne_of_none e fC
      · exact ne_of_none z fC
  exact I.call' (s' := { s4 with heap := h' }) (ch := fp) (show s4.os = s.os from I4.os) u hok I4.bare fun b hb => ⟨(hf b hb).2.2.2.1, (hf b hb).2.1, (hf b hb).2.2.2.2.1, (hf b hb).2.2.2.2.2⟩
end
noncomputable def PIf (X : Cx) (ifs : List Expr) (tt : TT) : Prop :=
  ∀ (pins : List (Addr × Obj)) (s : Shared) (σ : St) (H : Hp) (Q : Bool → Hp → Prop), Inv X pins σ H s → tt σ H Q → wpAny (model X.prog X.w) X.A (L3.testsOf ifs X.env) (TP X pins σ Q) X.xe s
theorem pif_nil {X : Cx} : PIf X [] (fun _ H Q => Q true H) := fun _ _ _ H _ I h => wpAny_tests_nil ⟨H, I, h⟩
theorem pif_one {X : Cx} {c : Expr} {t : TT} (h : PT X c t) : PIf X [c] t := fun pins s σ H Q I q => wpAny_tests_one (h pins s σ H Q I q)
noncomputable def compW (J : It) (g : TG) (tt : TT) (te : TE) (σ : St) (H : Hp) (Q : VK) : Prop := ∃ W : Nat → Nat → List V → St → Hp → Prop, (∃ m, W 0 m [] σ H) ∧ ∀ i m acc σ' H', W i m acc σ' H' →
  (J.stop i H' ∧ acc.length ≤ sizeLine ∧ ∀ D, H' D = none → Q (.ref D) (upd H' D (.lst acc))) ∨
  (J.go i H' ∧ acc.length < sizeLine ∧ ∃ N : List V → St → Hp → Prop, (∀ acc' σ2 H2, N acc' σ2 H2 → ∃ m', m' < m ∧ W (i + 1) m' acc' σ2 H2) ∧
    ∀ x H2, J.yld i H' x H2 → g x σ' H2 fun σ2 H3 => tt σ2 H3 fun b H4 => if b = true then te σ2 H4 fun y H5 => N (acc ++ [y]) σ2 H5 else N acc σ2 H4)
noncomputable def tComp (wi : TI) (g : TG) (tt : TT) (te : TE) (sh : List Nat) (more : Nat) : TE := fun σ H Q => wi σ H fun J H1 => compW J g tt te (L3.blank sh σ ++ List.replicate more none) H1 Q
theorem comp_any {X : Cx} {elt tg iter : Expr} {ifs : List Expr} {scope : Scope} {pos pos' : Pos} {wi : TI} {g : TG} {tt : TT} {te : TE} {sh : List Nat} {N' : List Str} {more : Nat} (hcalm : X.calm = true) (hi : PI X tg iter wi)
    (hg : ∀ C fp pins s H, PG (X.comp scope N' C fp pins s H) tg g) (ht : ∀ C fp pins s H, PIf (X.comp scope N' C fp pins s H) ifs tt) (he : ∀ C fp pins s H, PE (X.comp scope N' C fp pins s H) elt te)
    (hc : L3.compOk X.env.scope scope X.N N' sh = true) (hm : N'.length = X.N.length + more) (hs : ∀ x, foldedSetIterable iter X.env x = pure x) {use : Option (Value → Sem Unit)} {Qv : Value → Shared → Prop}
    {pins : List (Addr × Obj)} {s : Shared} {σ : St} {H : Hp} {Q : VK} (I : Inv X pins σ H s) (h : tComp wi g tt te sh more σ H Q)
    (fin : ∀ (D C : Addr) (s2 : Shared) (H2 : Hp) (fp : List Addr) (pl : List (Addr × Obj)) (σ4 : St) (H4 : Hp) (s4 : Shared) (n : Nat) (ys : Array Value) (acc : List V), Inv X pins σ H2 s2 → (∀ b ∈ fp, FpOk X pins H2 b) → s2.heap.objs.size ≤ C → s2.heap.objs.size ≤ D → D ≠ C →
      Inv (X.comp scope N' C fp pins s2 H2) pl σ4 H4 s4 → s4.heap.get? D = some { cls := .type "list", data := .seq ys n } → Vals acc ys.toList → H4 D = none → acc.length ≤ sizeLine → Q (.ref D) (upd H4 D (.lst acc)) → compPost (model X.prog X.w) X.A X.xe use Qv (.ref D) C (.ok .next) s4) :
    wpAny (model X.prog X.w) X.A (comprehension (.ListComp elt [⟨tg, iter, ifs, 0⟩] scope pos) scope X.env pos' (newList []) false (eval iter X.env) use) Qv X.xe s := by
  have cp := L3.compOk_parts hc
  refine wpAny_comprehension_free (cl := L3.closL X.env.cells scope.names []) rfl hs (L3.closureFor_eq fun x hx hk => ?_) cp.kind cp.loc ?_
  · obtain ⟨c, q⟩ := I.ok.has x.1 (.inl (cp.free x hx hk))
    rw [q]; rfl
  show wpAny _ X.A (eval iter X.env) _ _ s
  refine thn (hi pins s σ H _ I h) fun v s1 h1 => thn h1 fun itv s2 h2 => ?_
  obtain ⟨it, fp, tn, J, H2, e, I2, T, st2, f2, W, ⟨m0, w0⟩, turn⟩ := h2
  subst e
  have hlt : ∀ b ∈ fp, b < s2.heap.objs.size := fun b hb => by
    obtain ⟨o, q, _⟩ := T.obj 0 _ st2 b hb
    exact Heap.lt_size q
  refine wpAny_newObj_type (wpAny_newFunctionEnv cp.cell (by intro y hy; simp at hy) (fun h₁ hns hsb => ?_) cp.kind)
  dsimp only at hns hsb ⊢
  generalize hG : s2.heap.push { cls := .type "list", dict := none, data := .seq ([] : List Value).toArray } = G at hns hsb ⊢
  have hz : G.objs.size = s2.heap.objs.size + 1 := by rw [← hG, Heap.size_push]
  have hC : s2.heap.objs.size ≤ G.objs.size := by omega
  have hDC : s2.heap.objs.size ≠ G.objs.size := by omega
  have old : ∀ b o, s2.heap.get? b = some o → h₁.get? b = some o := fun b o q => by
    have hb := Heap.lt_size q
    exact hsb.extBut b o (Nat.ne_of_lt (Nat.lt_of_lt_of_le hb hC)) (Heap.get?_push_of_some _ (hG ▸ Heap.get?_push_of_some _ q))
  have acc0 : h₁.PlainList s2.heap.objs.size #[] := ⟨_, hsb.extBut _ _ hDC (Heap.get?_push_of_some _ (hG ▸ Heap.get?_push_size _ rfl))⟩
  have nfD : s2.heap.objs.size ∉ frs X.stack := fun z => by
    obtain ⟨_, o, ho, _⟩ := I2.stack.mem z
    exact absurd (Heap.lt_size ho) (Nat.lt_irrefl _)
  have fpD : ∀ b ∈ fp, s2.heap.objs.size ≠ b := fun b hb => Nat.ne_of_gt (hlt b hb)
  have cD : ∀ x c, (L3.closL X.env.cells scope.names []).lookup x = some c → c ≠ s2.heap.objs.size := fun x c q z => by
    obtain ⟨w', z'⟩ := I2.cell x c (comp_look q)
    rw [z] at z'
    exact absurd z'.lt (Nat.lt_irrefl _)
  have pnD : ∀ p ∈ X.pn ++ pins, p.1 ≠ s2.heap.objs.size := fun p hp z => by
    have q := (I2.pin p hp).1
    rw [z] at q
    exact absurd (Heap.lt_size q) (Nat.lt_irrefl _)
  have okX : (X.comp scope N' G.objs.size fp pins s2 H2).Ok := comp_ok I2 cp hC f2 hlt
  -- the iterator's records, seen from the block
  have stat : ∀ {o : Obj} {H' : Hp}, (∀ b ∈ fp, H' b = none) → ∀ b ∈ fp, FpOk (X.comp scope N' G.objs.size fp pins s2 H2) [(s2.heap.objs.size, o)] H' b := fun {o H'} hn b hb => by
    refine ⟨hn b hb, (okX.exf b hb).1, okX.exfs b hb, .inl hb, (okX.exf b hb).2, fun p hp => ?_⟩
    rcases List.mem_append.mp hp with z | z
    · exact (f2 b hb).2.2.2.2.2 p z
    · have : p = (s2.heap.objs.size, o) := by simpa using z
      rw [this]; exact fpD b hb
  -- the list so far, held as it is
  have hold : ∀ {σ' : St} {H' : Hp} {s' : Shared} {o : Obj}, Inv (X.comp scope N' G.objs.size fp pins s2 H2) [] σ' H' s' → s'.heap.get? s2.heap.objs.size = some o → H' s2.heap.objs.size = none → (∀ v, o.data ≠ .cell v) →
      Inv (X.comp scope N' G.objs.size fp pins s2 H2) [(s2.heap.objs.size, o)] σ' H' s' := fun {σ' H' s' o} I' q n d => I'.pins_of fun p hp => by
    have : p = (s2.heap.objs.size, o) := by simpa using hp
    subst this
    exact ⟨q, n, hDC, nfD, d⟩
  have loop : ∀ s₃ : Shared, s₃ = { s2 with heap := h₁, toks := s2.toks + ([] : List (Str × Value)).length } →
      codeAny (model X.prog X.w) X.A (.compLoop (.ListComp elt [⟨tg, iter, ifs, 0⟩] scope pos) 0 (.ref it) (.ref s2.heap.objs.size) (compEnvC scope (L3.closL X.env.cells scope.names []) G.objs.size X.env))
        (compPost (model X.prog X.w) X.A X.xe use Qv (.ref s2.heap.objs.size) G.objs.size) s₃ := by
    rintro s₃ rfl
    refine L3.comp_loop (fun n s' => ∃ i acc ys σ' H', Inv (X.comp scope N' G.objs.size fp pins s2 H2) [] σ' H' s' ∧ tn i s'.heap ∧ (∀ b ∈ fp, H' b = none) ∧ s'.heap.PlainList s2.heap.objs.size ys ∧ Vals acc ys.toList ∧ H' s2.heap.objs.size = none ∧ W i n acc σ' H') ?_ m0
      ⟨0, [], #[], _, H2, comp_in I2 cp hm hC f2 hlt old hns, T.keep _ _ _ st2 (fun b _ o q => old b o q), fun b hb => (f2 b hb).1, acc0, .nil, I2.hok.fresh (Nat.le_refl _), w0⟩
    rintro n s3 ⟨i, acc, ys, σ3, H3, I3, st3, fr3, ⟨nn, gD⟩, va, fD, w3⟩
    have dD : ∀ v, ({ cls := .type "list", data := .seq ys nn } : Obj).data ≠ .cell v := fun v z => by
      have z' : Data.seq ys nn = Data.cell v := z
      cases z'
    have I3' := hold I3 gD fD dD
    rcases turn i n acc σ3 H3 w3 with ⟨stop, hl, q⟩ | ⟨go, hl, N, hN, step⟩
    · refine thn (T.done (X.comp scope N' G.objs.size fp pins s2 H2) rfl rfl rfl hcalm i _ s3 σ3 H3 (fun _ _ => False) I3' (stat fr3) st3 stop) fun r s4 ⟨hr, I4⟩ => ?_
      subst hr
      have g4 := (I4.pin (s2.heap.objs.size, _) (List.mem_append_right _ List.mem_cons_self)).1
      exact fin _ _ s2 H2 fp _ _ _ s4 _ _ acc I2 f2 hC (Nat.le_refl _) hDC I4 g4 va fD hl (q _ fD)
    · refine thn (T.item (X.comp scope N' G.objs.size fp pins s2 H2) rfl rfl rfl hcalm i _ s3 σ3 H3 (fun _ _ => False) I3' (stat fr3) st3 go) fun r s4 ⟨u, hr, h4⟩ => ?_
      subst hr
      refine thn h4 fun _ s5 ⟨x, H5, I5, r5, y5, st5, fr5⟩ => ?_
      have I5' := I5.pinned (stat fr5) (T.obj _ _ st5)
      refine thn (hg _ _ _ _ _ _ s5 σ3 H5 x u _ I5' r5 (step x H5 y5)) fun _ s6 ⟨σ6, H6, I6, q6⟩ => ?_
      refine thn (ht _ _ _ _ _ _ s6 σ6 H6 _ I6 q6) fun b s7 ⟨H7, I7, q7⟩ => ?_
      have inD : ∀ {o : Obj}, (s2.heap.objs.size, o) ∈ [(s2.heap.objs.size, o)] ++ pinsAt fp s5.heap := List.mem_append_left _ List.mem_cons_self
      have turned : ∀ {σ' : St} {H' : Hp} {s' : Shared}, Inv (X.comp scope N' G.objs.size fp pins s2 H2) ([(s2.heap.objs.size, ({ cls := .type "list", data := .seq ys nn } : Obj))] ++ pinsAt fp s5.heap) σ' H' s' →
          (∀ b ∈ fp, ∀ o, s5.heap.get? b = some o → s'.heap.get? b = some o) ∧ ∀ b ∈ fp, H' b = none := fun I' => by
        refine ⟨fun b hb o q => (I'.pin (b, o) (List.mem_append_right _ (List.mem_append_right _ (mem_pinsAt hb q)))).1, fun b hb => ?_⟩
        obtain ⟨o, q, _⟩ := T.obj _ _ st5 b hb
        exact (I'.pin (b, o) (List.mem_append_right _ (List.mem_append_right _ (mem_pinsAt hb q)))).2.1
      cases b with
      | false =>
        rw [if_neg Bool.false_ne_true] at q7 ⊢
        obtain ⟨m', hm', w7⟩ := hN _ _ _ q7
        have p7 := I7.pin (s2.heap.objs.size, _) (List.mem_append_right _ inD)
        exact ⟨m', hm', i + 1, acc, ys, σ6, H7, I7.pins_of (fun p hp => absurd hp (by simp)), T.keep _ _ _ st5 (turned I7).1, (turned I7).2, ⟨nn, p7.1⟩, va, p7.2.1, w7⟩
      | true =>
        rw [if_pos rfl] at q7 ⊢
        refine thn (he _ _ _ _ _ _ s7 σ6 H7 _ I7 q7) fun yv s8 ⟨y, H8, I8, r8, q8⟩ => ?_
        obtain ⟨m', hm', w8⟩ := hN _ _ _ q8
        have p8 := I8.pin (s2.heap.objs.size, _) (List.mem_append_right _ inD)
        have lenv := va.length
        refine wpAny_list_append_plain (hsz := by rw [← Array.length_toList, ← lenv]; exact Nat.le_of_lt hl) ⟨nn, p8.1⟩ fun h9 pl9 sb9 => ?_
        have J8 : Inv (X.comp scope N' G.objs.size fp pins s2 H2) [] σ6 H8 s8 := I8.pins_of fun p hp => absurd hp (by simp)
        refine ⟨m', hm', i + 1, acc ++ [y], ys.push yv, σ6, H8, J8.turned (t' := s8.toks) (fun b o hb q => (sb9.2 b hb).trans q) p8.2.1 hDC (.inr (Nat.le_refl _)) cD (fun p hp => pnD p (by simpa [Cx.comp] using hp)), ?_, (turned I8).2, pl9, ?_, p8.2.1, w8⟩
        · exact T.keep _ _ _ st5 fun b hb o q => (sb9.2 b (fpD b hb).symm).trans ((turned I8).1 b hb o q)
        · rw [Array.toList_push]
          exact va.append (.cons r8 .nil)
  exact codeAny_compStart_list (loop _ rfl) (T.self _ 0 _ _ _ (T.keep _ _ _ st2 fun b _ o q => old b o q) (loop _ rfl))
theorem pe_comp {X : Cx} {elt tg iter : Expr} {ifs : List Expr} {scope : Scope} {pos : Pos} {wi : TI} {g : TG} {tt : TT} {te : TE} (sh : List Nat) (N' : List Str) (more : Nat) (hcalm : X.calm = true) (hi : PI X tg iter wi)
    (hg : ∀ C fp pins s H, PG (X.comp scope N' C fp pins s H) tg g) (ht : ∀ C fp pins s H, PIf (X.comp scope N' C fp pins s H) ifs tt) (he : ∀ C fp pins s H, PE (X.comp scope N' C fp pins s H) elt te)
    (hc : L3.compOk X.env.scope scope X.N N' sh = true := by rfl) (hm : N'.length = X.N.length + more := by rfl) (hs : ∀ x, foldedSetIterable iter X.env x = pure x := by intro _; rfl) :
    PE X (.ListComp elt [⟨tg, iter, ifs, 0⟩] scope pos) (tComp wi g tt te sh more) := by
  intro pins s σ H Q I h
  rw [eval_ListComp]
  refine comp_any hcalm hi hg ht he hc hm hs (use := none) I h fun D C s2 H2 fp pl σ4 H4 s4 n ys acc I2 f2 hC hD hDC I4 g4 va fD hl q => ?_
  obtain ⟨m4, hn4, _⟩ := I4.loc
  exact ⟨m4, hn4, fun h' sb => ⟨.ref D, _, comp_out I2 hC f2 I4 hD hDC g4 va fD hl sb, rfl, q⟩⟩
theorem ps_comp {X : Cx} {elt tg iter : Expr} {ifs : List Expr} {scope : Scope} {pos py spos : Pos} {y : Str} {wi : TI} {g : TG} {tt : TT} {te : TE} (i : Nat) (sh : List Nat) (N' : List Str) (more : Nat) (hcalm : X.calm = true) (hN : X.N.Nodup) (hiy : X.N[i]? = some y) (hy : X.env.scope.names.lookup y = some .local) (hi : PI X tg iter wi)
    (hg : ∀ C fp pins s H, PG (X.comp scope N' C fp pins s H) tg g) (ht : ∀ C fp pins s H, PIf (X.comp scope N' C fp pins s H) ifs tt) (he : ∀ C fp pins s H, PE (X.comp scope N' C fp pins s H) elt te)
    (hc : L3.compOk X.env.scope scope X.N N' sh = true := by rfl) (hm : N'.length = X.N.length + more := by rfl) (hs : ∀ x, foldedSetIterable iter X.env x = pure x := by intro _; rfl)
    (hsw : swapsWith (.ListComp elt [⟨tg, iter, ifs, 0⟩] scope pos) (some (.Name y py)) spos.line X.env = pure true := by rfl) :
    PS X (.Assign [.Name y py] (.ListComp elt [⟨tg, iter, ifs, 0⟩] scope pos) spos) (tAsg (tComp wi g tt te sh more) (gName i)) := by
  intro pins s σ H D' I h
  rw [exec_Assign_Name_used _ _ _ _ hsw]
  refine wpAny_bind (wpAny_standAt (wpAny_bind ?_))
  show wpAny _ X.A (do let _ ← comprehension (.ListComp elt [⟨tg, iter, ifs, 0⟩] scope pos) scope X.env _ (newList []) false (eval iter X.env) (some (assign (.Name y py) X.env))) _ _ s
  refine wpAny_bind (wpAny_mono (comp_any hcalm hi hg ht he hc hm hs (use := some (assign (.Name y py) X.env)) (Qv := fun _ s' => SP X pins D' .next s') I h fun D C s2 H2 fp pl σ4 H4 s4 n ys acc I2 f2 hC hD hDC I4 g4 va fD hl q => ?_) (fun _ s' hq => wpAny_pure (wpAny_pure hq)) fun _ _ e => e)
  obtain ⟨m4, hn4, _⟩ := I4.loc
  have Io : Inv X pins σ (upd H4 D (.lst acc)) s4 := comp_out I2 hC f2 I4 hD hDC g4 va fD hl (Heap.SameBut.refl ..)
  have lL : X.env.locals < C := Nat.lt_of_lt_of_le I2.lt hC
  show wpAny _ X.A (assign (.Name y py) X.env (.ref D)) _ _ s4
  refine wpAny_assign_Name (store_ok2 Io hN hiy (.inl hy) (v := .ref D) rfl (fun s5 I5 ⟨a, sb5, ha⟩ => ?_) (.inr hy))
  have cC : ∀ x c, X.env.cells.lookup x = some c → c ≠ C := fun x c z zz => by
    obtain ⟨v, z'⟩ := I2.cell x c z
    rw [zz] at z'
    exact absurd (Nat.lt_of_lt_of_le z'.lt hC) (Nat.lt_irrefl _)
  have aC : C ≠ a := fun z => by
    rcases ha with y' | y'
    · rw [← z] at y'; rw [y'] at lL; exact absurd lL (Nat.lt_irrefl _)
    · exact cC _ _ y' z.symm
  refine ⟨m4, Heap.Ns.sameBut hn4 sb5 aC, fun h' sb => ⟨_, _, I5.turned (t' := s5.toks) (it := C) (fun b o hb z => (sb.2 b hb).trans z) ?_ (Nat.ne_of_gt lL) (.inr (Nat.le_trans I2.sz hC)) cC (fun p hp z => ?_), q⟩⟩
  · rw [upd_ne hDC.symm]
    exact I4.free
  · have q' := (I2.pin p hp).1
    rw [z] at q'
    exact absurd (Nat.lt_of_lt_of_le (Heap.lt_size q') hC) (Nat.lt_irrefl _)
theorem range_all : ∀ (bs : List Bool), ((List.range bs.length).all fun i => bs.getD i true) = bs.all id := by
  intro bs
  rw [Bool.eq_iff_iff, List.all_eq_true, List.all_eq_true]
  constructor
  · intro h b hb
    obtain ⟨i, hi, e⟩ := List.mem_iff_getElem.mp hb
    have q := h i (List.mem_range.mpr hi)
    rw [List.getD_eq_getElem?_getD, List.getElem?_eq_getElem hi] at q
    rw [← e]; exact q
  · intro h i hi
    have hi := List.mem_range.mp hi
    rw [List.getD_eq_getElem?_getD, List.getElem?_eq_getElem hi]
    exact h _ (List.getElem_mem hi)
section
variable {X : Cx}
theorem call_allL (hc : X.calm = true) : CallR X (.builtin "all") (fun xs H Q => ∃ (p : Addr) (bs : List Bool), xs = [.ref p] ∧ SqL X.K H p (bs.map V.bl) ∧ Q (.bl (bs.all id)) H) := by
  intro pins s σ H xs us Q I r h
  obtain ⟨p, bs, rfl, hq, q⟩ := h
  obtain ⟨u, rfl, rx⟩ := vals1 r
  cases rx
  obtain ⟨its, rv, pl, hz⟩ := I.list hq
  have hlen : its.length = bs.length := by rw [← rv.length, List.length_map]
  have plt : p < s.heap.objs.size := by
    obtain ⟨o, ho, _⟩ := pl.isList
    exact Heap.lt_size ho
  have hh : X.A.in1.handled = none := I.ok.hd hc
  refine call_all_walk (wpAny_pyIter_list pl.isList ⟨s.heap.objs.size, _, _, _, _, _, fun i => bs.getD i true, rfl, Walks.list hh s.heap.objs.size p (Nat.ne_of_lt plt) its.toArray, ⟨⟨_, Heap.get?_push_size _ rfl, rfl, rfl⟩, pl.isList.push _⟩, fun i v s' Q' E' hv hQ => ?_, fun h' tk k => ?_⟩)
  · have hv' : its[i]? = some v := by simpa using hv
    have hi : i < bs.length := by
      rw [← hlen]; exact (List.getElem?_eq_some_iff.mp hv').1
    obtain ⟨u, hu, ru⟩ := rv.get (i := i) (x := .bl bs[i]) (by rw [List.getElem?_map, List.getElem?_eq_getElem hi]; rfl)
    rw [hv'] at hu; cases hu
    cases ru
    have e : bs.getD i true = bs[i] := by rw [List.getD_eq_getElem?_getD, List.getElem?_eq_getElem hi]; rfl
    have hQ' : Q' (bs.getD i true) s' := hQ
    rw [e] at hQ'
    exact wpAny_truthy_bool hQ'
  · have e : its.toArray.size = bs.length := by rw [List.size_toArray, hlen]
    rw [e, range_all]
    refine ⟨.bl (bs.all id), H, ?_, rfl, q⟩
    have I1 : Inv X pins σ H { s with heap := s.heap.push { cls := .type "list_iterator", data := .fields #[.ref p, .int 0 0] } } := I.kept (t' := s.toks) fun b o z => Heap.get?_push_of_some _ z
    refine I1.turnMany (t' := tk) (ch := [s.heap.objs.size]) (fun b hb => ?_) fun b o hb z => k b o (by simpa using hb) z
    have : b = s.heap.objs.size := by simpa using hb
    subst this
    exact I.fpOk (Nat.le_refl _) (I.hok.fresh (Nat.le_refl _))
theorem call_isi : CallR X (.builtin "isinstance") (fun xs H Q => ∃ x c t b, xs = [x, .ty c] ∧ TyOf X.K H x t ∧ PySem.W.kitOne X.K t (.type c) = some b ∧ Q (.bl b) H) := by
  intro pins s σ H xs us Q I r h
  obtain ⟨x, c, t, b, rfl, ty, e, q⟩ := h
  obtain ⟨u, v, rfl, rx, rc⟩ := vals2 r
  cases (show v = Value.type c from rc)
  exact isinst_ok I rx ty e fun tk => ⟨.bl b, H, I.tok _, rfl, q⟩
noncomputable def rSl3 (K : PySem.W.Frag) : V → Option Int → Option Int → Option Int → Hp → VK → Prop := fun x lo hi st H Q => ∃ a xs, x = .ref a ∧ SqT K H a xs ∧ st.getD 1 ≠ 0 ∧ (L3.cutAt xs.length lo hi st).2.2 ≤ sizeLine ∧
  (L3.wholeAt xs.length (L3.cutAt xs.length lo hi st) = true → Q (.ref a) H) ∧ (L3.wholeAt xs.length (L3.cutAt xs.length lo hi st) = false → ∀ p, H p = none → Q (.ref p) (upd H p (.tup (L3.pickAt xs (L3.cutAt xs.length lo hi st)))))
theorem vals_pick {xs : List V} {us : List Value} (r : Vals xs us) (f : Nat → Nat) : ∀ l : List Nat, Vals (l.filterMap fun k => xs[f k]?) (l.filterMap fun k => us[f k]?)
  | [] => .nil
  | k :: l => by
    have ih := vals_pick r f l
    rw [List.filterMap_cons, List.filterMap_cons]
    cases e : xs[f k]? with
    | none =>
      have e2 : us[f k]? = none := by
        rw [List.getElem?_eq_none_iff] at e ⊢
        rw [← r.length]; exact e
      rw [e2]; exact ih
    | some x =>
      obtain ⟨u, hu, ru⟩ := r.get e
      rw [hu]; exact .cons ru ih
noncomputable def tSl3 (r : V → Option Int → Option Int → Option Int → Hp → VK → Prop) (te : TE) (tl th ts : TO) : TE := fun σ H Q => te σ H fun x H1 => tl σ H1 fun l H2 => th σ H2 fun u H3 => ts σ H3 fun st H4 => r x l u st H4 Q
theorem pe_slice3 {e : Expr} {te : TE} {lo hi st : Option Expr} {tl th ts : TO} {pos p2 : Pos} (he : PE X e te) (hl : PO X lo tl) (hu : PO X hi th) (hst : PO X st ts) : PE X (.Subscript e (.Slice lo hi st p2) pos) (tSl3 (rSl3 X.K) te tl th ts) := by
  intro pins s σ H Q I h
  refine Subscript_ (thn (he pins s σ H _ I h) fun v s1 ⟨x, H1, I1, r1, q1⟩ => ?_)
  refine wpAny_Slice (thn (hl pins s1 σ H1 _ I1 q1) fun vl s2 ⟨l, H2, I2, pl, q2⟩ => thn (hu pins s2 σ H2 _ I2 q2) fun vu s3 ⟨u, H3, I3, pu, q3⟩ => thn (hst pins s3 σ H3 _ I3 q3) fun vs s4 ⟨k, H4, I4, ps, q4⟩ => ?_)
  obtain ⟨a, xs, rfl, hx, h0, hz2, q5, q6⟩ := q4
  cases r1
  have I5 : Inv X pins σ H4 { s4 with heap := s4.heap.push { cls := .type "slice", data := .fields #[vl, vu, vs] } } := I4.kept (t' := s4.toks) fun b ob q => Heap.get?_push_of_some _ q
  obtain ⟨its, r, ht, hz⟩ := I5.tuple hx
  have hlen : its.toArray.size = xs.length := by rw [List.size_toArray]; exact r.length.symm
  have hg : wpAny (model X.prog X.w) X.A (getItem (.ref a) (.ref s4.heap.objs.size)) (EP X pins σ Q) X.xe { s4 with heap := s4.heap.push { cls := .type "slice", data := .fields #[vl, vu, vs] } } := by
    refine L3.tupleCut ht (Heap.IsSliceOf.new ..) pl pu ps h0 (fun w => ?_) (fun w => ?_) (by rw [hlen]; exact hz2)
    · rw [hlen] at w
      exact ⟨.ref a, H4, I5, rfl, q5 w⟩
    · rw [hlen] at w ⊢
      refine ⟨.ref _, _, I5.laid (t' := s4.toks) (o := .tup (L3.pickAt xs (L3.cutAt xs.length l u k))) (fun b ob q => Heap.get?_push_of_some _ q) (Nat.le_refl _) ?_, rfl, q6 w _ (I5.hok.fresh (Nat.le_refl _))⟩
      refine ⟨?_, _, vals_pick r _ _, IsTup.new _ _, _, Heap.get?_push_size _ rfl, rfl⟩
      exact Nat.le_trans (List.length_filterMap_le _ _) (by rw [List.length_range]; exact hz2)
  show wpAny (model X.prog X.w) X.A (subscriptTail e (.Slice lo hi st p2) (.ref a) (.ref s4.heap.objs.size)) (EP X pins σ Q) X.xe { s4 with heap := s4.heap.push { cls := .type "slice", data := .fields #[vl, vu, vs] } }
  cases st with
  | none => exact tail_any (ops := [.ref s4.heap.objs.size, .ref a]) ht.typeIs PyProof.Rows.slot_tuple_getitem.lookup hg (by with_unfolding_all rfl)
  | some st => exact tail_any (ops := [.ref a, .ref s4.heap.objs.size]) ht.typeIs PyProof.Rows.slot_tuple_getitem.lookup hg (by with_unfolding_all rfl)
noncomputable def rCat0 (K : PySem.W.Frag) : R2 := fun x y H Q => ∃ a b xs ys, x = .ref a ∧ y = .ref b ∧ SqT K H a xs ∧ SqT K H b ys ∧ xs.length + ys.length ≤ sizeLine ∧
  (xs = [] → Q (.ref b) H) ∧ (xs ≠ [] → ys = [] → Q (.ref a) H) ∧ (xs ≠ [] → ys ≠ [] → ∀ p, H p = none → Q (.ref p) (upd H p (.tup (xs ++ ys))))
theorem op_cat0 : OpR X (binaryOp .Add) (rCat0 X.K) := by
  intro pins s σ H x y v u Q I rx ry h
  obtain ⟨a, b, xs, ys, rfl, rfl, ha, hb, hz, q0, q1, q2⟩ := h
  by_cases hx : xs = []
  · cases rx
    cases ry
    obtain ⟨its, r1, p1, _⟩ := I.tuple ha
    obtain ⟨its2, r2, p2, _⟩ := I.tuple hb
    have e1 : its = [] := r1.nil_iff.mpr hx
    obtain ⟨⟨cls, dd, data, sl⟩, ho, hc, n, hd⟩ := id p1
    obtain ⟨⟨cls2, dd2, data2, sl2⟩, ho2, hc2, n2, hd2⟩ := id p2
    simp only at hc hd hc2 hd2
    subst hc hd hc2 hd2
    exact concat_meets ⟨_, ho, rfl⟩ ⟨_, ho2, rfl⟩ noFill_tuple_add seq_tuple_add PySem.F.slot_tuple_add PySem.F.entry_tuple_add (PySem.F.args_tuple_add_2 _ _)
      (tuple_addW0 a b its.toArray its2.toArray n n2 dd dd2 sl sl2 (by simp [e1])) ⟨ho, ho2, ⟨.ref b, H, I, rfl, q0 hx⟩⟩
  · exact op_catT pins s σ H _ _ v u Q I rx ry ⟨a, b, xs, ys, rfl, rfl, ha, hb, hx, hz, fun z => q1 hx z, fun z => q2 hx z⟩
end
end L2
namespace L2
open PySem PySem.Spec PyProof.Rows
structure Fn (P : Program) (w : World) (K : PySem.W.Frag) (mg : Str → Option Value) (base : Heap) (x : Str) (ps : List Str) (k : Nat) (sp : Sp) : Prop where
  ex : ∃ f fd, FnOk P w K mg base CX0 k f fd ps sp ∧ mg x = some (.ref f) ∧ PySem.W.keepIn K (.ref f) = true ∧ Binds K fd ps []
theorem Fn.of {P : Program} {w : World} {K : PySem.W.Frag} {mg : Str → Option Value} {base : Heap} {x : Str} {ps : List Str} {k : Nat} {sp : Sp} {f : Addr} {fd : FuncData} (O : FnOk P w K mg base CX0 k f fd ps sp) (m : mg x = some (.ref f)) (kp : PySem.W.keepIn K (.ref f) = true) (b : Binds K fd ps []) :
    Fn P w K mg base x ps k sp := ⟨f, fd, O, m, kp, b⟩
section
variable {X : Cx} {x : Str} {ps : List Str} {k k' : Nat} {sp : Sp} {e : Expr} {es : List Expr} {t : TA} {p pos : Pos}
theorem pe_fn (F : Fn X.prog X.w X.K X.mg X.base x ps k sp) (hr : Room k' X.A) (ha : PA X (e :: es) t) (hk : k ≤ k' := by first | decide | exact Nat.le_refl _) (hg : Gl X x := by rfl) (hdb : (x == ("__debug__" : Str)) = false := by decide)
    (he : starEach (e :: es) X.env = (false, eval e X.env) :: starEach es X.env := by rfl) (hpl : (backTo pos (starEach es X.env)).any (·.1) = false := by rfl) : PE X (.Call (.Name x p) (e :: es) [] pos) (tCall sp [] E0 t) := by
  obtain ⟨f, fd, O, m, kp, b⟩ := F.ex
  exact pe_call O (hr.mono hk) hg m kp b .nil pass0 ha hdb he hpl
theorem ps_join {st : Stmt} {t : TS} (h : PS X st t) : PS X st (fun D σ H => ∃ J : St → Hp → Prop, (∀ σ' H', J σ' H' → D.nx σ' H') ∧ t { D with nx := J } σ H) := by
  intro pins s σ H D I q
  obtain ⟨J, hJ, q⟩ := q
  refine thn (h pins s σ H _ I q) fun f s1 r => ?_
  cases f with
  | next =>
    obtain ⟨σ', H', I', r⟩ := r
    exact ⟨σ', H', I', hJ _ _ r⟩
  | ret v => exact r
  | brk => exact r
  | cont => exact r
end
section
variable {X : Cx}
theorem pg_tupK (K : PySem.W.Frag) (n : Nat) {es : List Expr} {k : Nat} {t : TGs} {pos : Pos} (hc : X.calm = true) (h : PGs X es t) (hK : X.K = K) (hn : (assignEach es X.env).length = n) (hst : (assignEach es X.env).findIdx? (·.1) = none) : PG X (.Tuple es k pos) (gTup K n t) := by
  subst hK
  exact pg_tup hc h hn hst
end
theorem same_new {H : Hp} {p : Addr} (h : H p = none) (o : HO) : Same H (upd H p o) := fun b u q => by rw [upd_ne (ne_of_none q h)]; exact q
theorem small {n : Nat} (h : n ≤ 1000000) : n ≤ sizeLine := Nat.le_trans h (by rw [sizeLine_eq]; decide)
theorem smallL {n : Nat} (h : n ≤ 1000000) : n < sizeLine := Nat.lt_of_le_of_lt h (by rw [sizeLine_eq]; decide)
noncomputable def Scr (K : PySem.W.Frag) (H : Hp) (a : Addr) (ns : List Int) : Prop := (∃ o, H a = some (.frz o (.lst (ns.map V.int)))) ∨
  ∃ (o : Obj) (its : Array Value) (n : Nat), K.lookup a = some o ∧ o.cls = .type "list" ∧ o.dict = none ∧ o.data = .seq its n ∧ its.size ≤ sizeLine ∧ Vals (ns.map V.int) its.toList
theorem Scr.seq {K : PySem.W.Frag} {H : Hp} {a : Addr} {ns : List Int} (h : Scr K H a ns) : SqL K H a (ns.map V.int) := by
  rcases h with ⟨o, h⟩ | h
  · exact .inl (.inr ⟨o, h⟩)
  · exact .inr h
theorem Scr.of {K : PySem.W.Frag} {H : Hp} {a : Addr} {ns : List Int} (h : SqL K H a (ns.map V.int)) (o : Only H) : Scr K H a ns := by
  rcases h with (h | ⟨ob, h⟩) | h
  · rcases o a with z | ⟨ob, xs, z⟩
    · rw [z] at h; cases h
    · rw [z] at h; cases h
  · exact .inl ⟨ob, h⟩
  · exact .inr h
noncomputable abbrev zeros (k : Nat) : List V := List.replicate k (V.int 0)
noncomputable def Twn (H : Hp) (t : Addr) (k : Nat) : Prop := H t = some (.lst (zeros k))
noncomputable def Grow (t : Addr) (H H' : Hp) : Prop := ∀ b o, b ≠ t → H b = some o → H' b = some o
theorem Grow.refl (t : Addr) (H : Hp) : Grow t H H := fun _ _ _ h => h
theorem Grow.trans {t : Addr} {H H1 H2 : Hp} (a : Grow t H H1) (b : Grow t H1 H2) : Grow t H H2 := fun c o n h => b c o n (a c o n h)
theorem Grow.same {t : Addr} {H H1 : Hp} (a : Same H H1) : Grow t H H1 := fun c o _ h => a c o h
theorem Grow.upd {t : Addr} {H : Hp} (o : HO) : Grow t H (upd H t o) := fun c u n h => by rw [upd_ne n]; exact h
theorem Grow.scr {K : PySem.W.Frag} {t a : Addr} {H H' : Hp} {ns : List Int} {k : Nat} (g : Grow t H H') (tw : Twn H t k) (s : Scr K H a ns) : Scr K H' a ns := by
  rcases s with ⟨o, h⟩ | h
  · exact .inl ⟨o, g _ _ (fun z => by subst z; unfold Twn at tw; rw [tw] at h; cases h) h⟩
  · exact .inr h
theorem Grow.tup {t a : Addr} {H H' : Hp} {xs : List V} {k : Nat} (g : Grow t H H') (tw : Twn H t k) (h : H a = some (.tup xs)) : H' a = some (.tup xs) :=
  g _ _ (fun z => by subst z; unfold Twn at tw; rw [tw] at h; cases h) h
theorem Same.scr {K : PySem.W.Frag} {a : Addr} {H H' : Hp} {ns : List Int} (g : Same H H') (s : Scr K H a ns) : Scr K H' a ns := by
  rcases s with ⟨o, h⟩ | h
  · exact .inl ⟨o, g _ _ h⟩
  · exact .inr h
theorem Same.twn {t : Addr} {H H' : Hp} {k : Nat} (g : Same H H') (s : Twn H t k) : Twn H' t k := g _ _ s
noncomputable def scl : V → Bool
  | .non => true | .bl _ => true | .int _ => true | .str _ => true | _ => false
noncomputable def Eqv (H : Hp) : Nat → V → V → Prop
  | 0, _, _ => False
  | n + 1, x, y => (x = y ∧ scl x = true) ∨ ∃ a b xs ys, x = .ref a ∧ y = .ref b ∧ H a = some (.tup xs) ∧ H b = some (.tup ys) ∧ xs.length ≤ 1000000 ∧ Paired (Eqv H n) xs ys
theorem Eqv.same {H H' : Hp} (g : Same H H') : ∀ {n : Nat} {x y : V}, Eqv H n x y → Eqv H' n x y
  | 0, _, _, h => h
  | n + 1, x, y, h => by
    rcases h with h | ⟨a, b, xs, ys, e1, e2, h1, h2, hz, p⟩
    · exact .inl h
    · exact .inr ⟨a, b, xs, ys, e1, e2, g _ _ h1, g _ _ h2, hz, Paired.mapP p fun _ _ q => Eqv.same g q⟩
theorem Eqv.int {H : Hp} {n : Nat} (i : Int) : Eqv H (n + 1) (.int i) (.int i) := .inl ⟨rfl, rfl⟩
theorem eqv_ints {H : Hp} {n : Nat} : ∀ (l : List Int), Paired (Eqv H (n + 1)) (l.map V.int) (l.map V.int)
  | [] => .nil
  | i :: l => .cons (Eqv.int i) (eqv_ints l)
theorem Eqv.ints {H : Hp} {n : Nat} {a b : Addr} {l : List Int} (h1 : H a = some (.tup (l.map V.int))) (h2 : H b = some (.tup (l.map V.int))) (hz : l.length ≤ 1000000) : Eqv H (n + 2) (.ref a) (.ref b) :=
  .inr ⟨a, b, _, _, rfl, rfl, h1, h2, by rw [List.length_map]; exact hz, eqv_ints l⟩
noncomputable def spSame (n : Nat) : Sp := fun vs H Q _ => ∃ x y, vs = [x, y] ∧ Eqv H n x y ∧ ∀ H', Same H H' → Q (.bl true) H'
noncomputable def lcell (ns : List Int) (k : Nat) : Int := if ns = [] then 0 else ns.getD (k % ns.length) 0
noncomputable def drw1 (ns : List Int) (k : Nat) : Int := (lcell ns k + 104729 * (k : Int)) % 4294967291
noncomputable def drw2 (ns : List Int) (k : Nat) : Int := drw1 ns k * drw1 ns k % 4294967279 * 48271 % 4294967291
noncomputable def drw3 (ns : List Int) (k : Nat) : Int := drw2 ns k * drw2 ns k % 4294967279 * 69621 % 4294967291
noncomputable def drw (ns : List Int) (k : Nat) (m : Int) : Int := (drw2 ns k / 64 * 67108864 + drw3 ns k / 64) % m
theorem drw_nn (ns : List Int) (k : Nat) {m : Int} (h : 0 < m) : 0 ≤ drw ns k m := Int.emod_nonneg _ (by omega)
theorem drw_lt (ns : List Int) (k : Nat) {m : Int} (h : 0 < m) : drw ns k m < m := Int.emod_lt_of_pos _ h
noncomputable def spDraw (K : PySem.W.Frag) : Sp := fun vs H Q _ => ∃ (a t : Addr) (ns : List Int) (k : Nat) (m : Int), vs = [.ref a, .ref t, .int m] ∧ Scr K H a ns ∧ ns.length ≤ 63 ∧ Twn H t k ∧ k ≤ 900000 ∧ 0 < m ∧
  ∀ H', Grow t H H' → Twn H' t (k + 1) → Q (.int (drw ns (k + 1) m)) H'
noncomputable def spLaw (K : PySem.W.Frag) : Sp := fun vs H Q _ => ∃ (a : Addr) (ns : List Int), vs = [.ref a] ∧ Scr K H a ns ∧ ns.length ≤ 63 ∧ ∀ H', Q (.bl true) H'
end L2
set_option maxRecDepth 100000
namespace L2
open PySem
noncomputable def Tr (B h : Heap) (e : Addr) (cls c fl : Value) : Prop :=
  ∃ oe vs T oT ts, h.get? e = some oe ∧ oe.cls = cls ∧ oe.data = .fields vs ∧ vs[2]? = some c ∧ vs[1]? = some (.ref T) ∧ B.get? T = none ∧ T ≠ e ∧ h.get? T = some oT ∧ oT.data = .fields ts ∧ ts[3]? = some fl
noncomputable def Fl (B : Heap) (l : List Env) (e : Addr) (cls c fl : Value) (h : Heap) : Prop :=
  B.StaysIn h ∧ B.get? e = none ∧ h.FunFrames B l ∧ Tr B h e cls c fl
theorem Fl.rest {B h : Heap} {env : Env} {outer : List Env} {e : Addr} {cls c fl : Value} (x : Fl B (env :: outer) e cls c fl h) : Fl B outer e cls c fl h := by
  obtain ⟨x1, x2, ⟨_, _, x3⟩, x4⟩ := x
  exact ⟨x1, x2, x3, x4⟩
section
variable {M : Model} {A : Around} {E : Value → Shared → Prop} {s : Shared} {B : Heap} {env : Env} {outer : List Env} {L e : Addr} {oe : Obj} {vs : Array Value} {cls c : Value} {Q : Unit → Shared → Prop}
theorem fl_entry {head : Value} {nx : Bool} (fA : A.frames = some (env :: outer)) (fF : s.heap.FunFrames B (env :: outer)) (fL : env.frame = some L) (e1 : s.heap.get? e = some oe) (sB : B.StaysIn s.heap) (eB : B.get? e = none) (ed : oe.data = .fields vs) (ec : vs[2]? = some c)
    (q : ∀ g, Fl B (env :: outer) e oe.cls c (rawInt L) g → s.heap.UpToSlots g → Q () { s with heap := g }) :
    wpAny M A (do let a ← frameOf env; let pl ← entryPlaceOf L nx; let b ← EntryCells.newEntry head a .none (rawInt L) .none pl; setField (.ref e) 1 b) Q E s := by
  have ez : 2 < vs.size := (Array.getElem?_eq_some_iff.mp ec).1
  have notF : ∀ b o ws, s.heap.get? b = some o → o.data = .fields ws → b ∉ (env :: outer).filterMap (·.frame) := fun b o ws e2 e3 y => by
    obtain ⟨_, o', e4, n4⟩ := fF.mem y
    rw [e2] at e4; cases e4; exact n4 ws e3
  refine wpAny_bind (wpAny_frameOf_fun fA fF fL fun g1 sl => wpAny_bind (wpAny_entryPlaceOf fun pl hpl => ?_))
  unfold EntryCells.newEntry newFields
  refine wpAny_bind (wpAny_newObj_type ?_ (hpl.sizeOk5 _ _ _ _ _))
  have tb : ∃ ts, (.fields ([head, .ref L, .none, rawInt L, .none] ++ (if pl.isEmpty then List.replicate 6 Value.none else pl)).toArray : Data) = .fields ts ∧ ts[3]? = some (rawInt L) := ⟨_, rfl, by simp⟩
  generalize (Data.fields ([head, .ref L, .none, rawInt L, .none] ++ (if pl.isEmpty then List.replicate 6 Value.none else pl)).toArray) = da at tb ⊢
  obtain ⟨ts, rfl, t3⟩ := tb
  have g1e : g1.get? e = some oe := (sl.2.1 e (notF e oe vs e1 ed)).trans e1
  have ob := Heap.get?_push_of_some (h := g1) { cls := .type "traceback", dict := none, data := .fields ts } g1e
  have ob2 := Heap.get?_push_size g1 (o := { cls := .type "traceback", dict := none, data := .fields ts }) rfl
  refine wpAny_setField ob ed (by omega) (q _ ?_ ?_)
  all_goals
    have far : g1.objs.size ≠ e := Nat.ne_of_gt (Heap.lt_size g1e)
    have kp : ∀ b o, b ≠ e → g1.get? b = some o → ((g1.push { cls := .type "traceback", dict := none, data := .fields ts }).update e (Obj.mapFields (·.setIfInBounds 1 (Value.ref g1.objs.size)))).get? b = some o := fun b o n y =>
      (Heap.get?_update_other _ _ (Ne.symm n)).trans (Heap.get?_push_of_some _ y)
    have rec0 : ∀ b o, s.heap.get? b = some o → (∀ ws, o.data ≠ .fields ws) → b ≠ e := fun b o y n z => by
      subst z; rw [e1] at y; cases y; exact n vs ed
  · have inB : ∀ b o, B.get? b = some o → g1.get? b = some o := fun b o y => (sl.2.1 b fun z => by rw [(fF.mem z).1] at y; cases y).trans (sB b o y)
    have ed2 := Obj.data_mapFields ed (·.setIfInBounds 1 (Value.ref g1.objs.size))
    refine ⟨fun b o y => kp b o (fun z => by subst z; rw [eB] at y; cases y) (inB b o y), eB, fF.of_keeps fun b o y n => ?_, _, _, g1.objs.size, _, ts, Heap.get?_update_self _ ob (Obj.isFreed_of_fields ed2), Obj.cls_mapFields _ _, ed2, ?_, ?_, ?_, far, (Heap.get?_update_other _ _ (Ne.symm far)).trans ob2, rfl, t3⟩
    · obtain ⟨sl2, y2⟩ := sl.2.2 b o y
      exact ⟨_, kp b _ (rec0 b o y n) y2, rfl⟩
    · rw [Array.getElem?_setIfInBounds_ne (by decide)]; exact ec
    · simp [show 1 < vs.size by omega]
    · cases y : B.get? g1.objs.size with
      | none => rfl
      | some o => exact absurd (Heap.lt_size (inB _ _ y)) (Nat.lt_irrefl _)
  · intro b o y n
    obtain ⟨sl2, y2⟩ := sl.2.2 b o y
    exact ⟨sl2, kp b _ (rec0 b o y n) y2⟩
theorem fl_new (fA : A.frames = some (env :: outer)) (fF : s.heap.FunFrames B (env :: outer)) (fL : env.frame = some L) (e1 : s.heap.get? e = some oe) (sB : B.StaysIn s.heap) (eB : B.get? e = none) (ed : oe.data = .fields vs) (ec : vs[2]? = some c) (et : vs[1]? = some .none)
    (q : ∀ g, Fl B (env :: outer) e oe.cls c (rawInt L) g → s.heap.UpToSlots g → Q () { s with heap := g }) : wpAny M A (noteFrame (.ref e) env) Q E s := by
  unfold noteFrame
  simp only [fL]
  refine wpAny_bind (wpAny_field e1 ed et ?_)
  rw [if_neg (by decide)]
  exact fl_entry fA fF fL e1 sB eB ed ec q
theorem fl_note (fA : A.frames = some (env :: outer)) (fL : env.frame = some L) (x : Fl B (env :: outer) e cls c .none s.heap)
    (q : ∀ g, Fl B (env :: outer) e cls c (rawInt L) g → s.heap.UpToSlots g → Q () { s with heap := g }) : wpAny M A (noteFrame (.ref e) env) Q E s := by
  obtain ⟨sB, eB, fF, oe, vs, T, oT, ts, e1, rfl, ed, ec, et, tB, tn, t1, td, t3⟩ := x
  unfold noteFrame
  simp only [fL]
  refine wpAny_bind (wpAny_field e1 ed et ?_)
  rw [if_pos (show (Value.ref T != Value.none) = true by simp)]
  refine wpAny_bind (wpAny_field t1 td t3 ?_)
  rw [if_neg (show ¬ ((Value.none == rawInt L) = true) by simp [rawInt])]
  refine wpAny_bind (wpAny_setField t1 td (Array.getElem?_eq_some_iff.mp t3).1 ?_)
  have oth : ∀ b, b ≠ T → (s.heap.update T (Obj.mapFields (·.setIfInBounds 3 Value.none))).get? b = s.heap.get? b := fun b n => Heap.get?_update_other _ _ (Ne.symm n)
  have rec0 : ∀ b o, s.heap.get? b = some o → (∀ ws, o.data ≠ .fields ws) → b ≠ T := fun b o y n z => by
    subst z; rw [t1] at y; cases y; exact n ts td
  refine fl_entry (s := { s with heap := s.heap.update T (Obj.mapFields (·.setIfInBounds 3 Value.none)) }) fA (fF.of_keeps fun b o y n => ⟨o, (oth b (rec0 b o y n)).trans y, rfl⟩) fL ((oth e (Ne.symm tn)).trans e1) (fun b o y => (oth b fun z => by subst z; rw [tB] at y; cases y).trans (sB b o y)) eB ed ec
    fun g y1 y2 => q g y1 fun b o z n => y2 b o ((oth b (rec0 b o z n)).trans z) n
theorem fl_land {l : List Env} {fl : Value} (x : Fl B l e cls c fl s.heap) (q : ∀ g, Fl B l e cls c .none g → s.heap.UpToSlots g → Q () { s with heap := g }) : wpAny M A (setFlight (.ref e) none) Q E s := by
  obtain ⟨sB, eB, fF, oe, vs, T, oT, ts, e1, ek, ed, ec, et, tB, tn, t1, td, t3⟩ := x
  have z3 : 3 < ts.size := (Array.getElem?_eq_some_iff.mp t3).1
  have oth : ∀ b, b ≠ T → (s.heap.update T (Obj.mapFields (·.setIfInBounds 3 ((none : Option Addr).elim Value.none fun f => rawInt f)))).get? b = s.heap.get? b := fun b n => Heap.get?_update_other _ _ (Ne.symm n)
  have rec0 : ∀ b o, s.heap.get? b = some o → (∀ ws, o.data ≠ .fields ws) → b ≠ T := fun b o y n z => by
    subst z; rw [t1] at y; cases y; exact n ts td
  unfold setFlight
  refine wpAny_bind (wpAny_field e1 ed et ?_)
  rw [if_pos (show (Value.ref T != Value.none) = true by simp)]
  refine wpAny_setField t1 td z3 (q _ ⟨fun b o y => (oth b fun z => by subst z; rw [tB] at y; cases y).trans (sB b o y), eB, fF.of_keeps fun b o y n => ⟨o, (oth b (rec0 b o y n)).trans y, rfl⟩, oe, vs, T, _, _, (oth e (Ne.symm tn)).trans e1, ek, ed, ec, et, tB, tn, Heap.get?_update_self _ t1 (Obj.isFreed_of_fields (Obj.data_mapFields td _)), Obj.data_mapFields td _, ?_⟩ fun b o y n => ⟨o.slots, (oth b (rec0 b o y n)).trans y⟩)
  simp [z3]
theorem fl_leave (fA : A.frames = some (env :: outer)) (fL : env.frame = some L) (x : Fl B (env :: outer) e cls c .none s.heap)
    (q : ∀ g, Fl B outer e cls c .none g → s.heap.UpToSlots g → Q () { s with heap := g }) : wpAny M A (leaving env (.ref e)) Q E s := by
  unfold leaving
  exact wpAny_bind (fl_note fA fL x fun g1 y1 u1 => fl_land (s := { s with heap := g1 }) y1 fun g2 y2 u2 => q g2 y2.rest (u1.trans u2))
theorem fl_leaveNew (fA : A.frames = some (env :: outer)) (fF : s.heap.FunFrames B (env :: outer)) (fL : env.frame = some L) (e1 : s.heap.get? e = some oe) (sB : B.StaysIn s.heap) (eB : B.get? e = none) (ed : oe.data = .fields vs) (ec : vs[2]? = some c) (et : vs[1]? = some .none)
    (q : ∀ g, Fl B outer e oe.cls c .none g → s.heap.UpToSlots g → Q () { s with heap := g }) : wpAny M A (leaving env (.ref e)) Q E s := by
  unfold leaving
  exact wpAny_bind (fl_new fA fF fL e1 sB eB ed ec et fun g1 y1 u1 => fl_land (s := { s with heap := g1 }) y1 fun g2 y2 u2 => q g2 y2.rest (u1.trans u2))
end
end L2
namespace L2
open PySem
inductive Reach (h : Heap) : Value → Value → Prop
  | refl (v : Value) : Reach h v v
  | step {a : Addr} {o : Obj} {vs : Array Value} {v u : Value} : h.get? a = some o → o.data = .fields vs → vs[2]? = some v → Reach h v u → Reach h (.ref a) u
theorem Reach.snoc {h : Heap} {u : Value} {b : Addr} {o : Obj} {vs : Array Value} {v : Value} (x : Reach h u (.ref b)) (e1 : h.get? b = some o) (e2 : o.data = .fields vs) (e3 : vs[2]? = some v) : Reach h u v := by
  generalize hz : Value.ref b = z at x
  induction x with
  | refl y => subst hz; exact .step e1 e2 e3 (.refl _)
  | step a1 a2 a3 _ ih => exact .step a1 a2 a3 (ih hz)
noncomputable def Chain (h : Heap) (F : Addr → Prop) : Nat → Value → Prop
  | 0, v => v = .none
  | n + 1, v => v = .none ∨ ∃ a o vs c, v = .ref a ∧ h.get? a = some o ∧ F a ∧ o.data = .fields vs ∧ vs[2]? = some c ∧ Chain h F n c
theorem Chain.imp {h g : Heap} {F G : Addr → Prop} (k : ∀ a o vs, F a → h.get? a = some o → o.data = .fields vs → g.get? a = some o ∧ G a) : ∀ {n : Nat} {v : Value}, Chain h F n v → Chain g G n v
  | 0, _, x => x
  | n + 1, _, x => by
    rcases x with x | ⟨a, o, vs, c, e1, e2, e3, e4, e5, r⟩
    · exact .inl x
    · exact .inr ⟨a, o, vs, c, e1, (k a o vs e3 e2 e4).1, (k a o vs e3 e2 e4).2, e4, e5, Chain.imp k r⟩
noncomputable def ChainP (ps : List (Addr × Obj)) : Nat → Value → Prop
  | 0, v => v = .none
  | n + 1, v => v = .none ∨ ∃ a o vs c, v = .ref a ∧ (a, o) ∈ ps ∧ o.data = .fields vs ∧ vs[2]? = some c ∧ ChainP ps n c
theorem ChainP.more {ps qs : List (Addr × Obj)} (k : ∀ p ∈ ps, p ∈ qs) : ∀ {n : Nat} {v : Value}, ChainP ps n v → ChainP qs n v
  | 0, _, x => x
  | n + 1, _, x => by
    rcases x with x | ⟨a, o, vs, c, e1, e2, e4, e5, r⟩
    · exact .inl x
    · exact .inr ⟨a, o, vs, c, e1, k _ e2, e4, e5, ChainP.more k r⟩
theorem ChainP.chain {h : Heap} {F : Addr → Prop} {ps : List (Addr × Obj)} (k : ∀ p ∈ ps, h.get? p.1 = some p.2 ∧ F p.1) : ∀ {n : Nat} {v : Value}, ChainP ps n v → Chain h F n v
  | 0, _, x => x
  | n + 1, _, x => by
    rcases x with x | ⟨a, o, vs, c, e1, e2, e4, e5, r⟩
    · exact .inl x
    · exact .inr ⟨a, o, vs, c, e1, (k _ e2).1, (k _ e2).2, e4, e5, ChainP.chain k r⟩
theorem Chain.pins {h : Heap} {F : Addr → Prop} : ∀ {n : Nat} {v : Value}, Chain h F n v → ∃ ps : List (Addr × Obj), (∀ p ∈ ps, h.get? p.1 = some p.2 ∧ F p.1 ∧ ∃ vs, p.2.data = .fields vs) ∧ ChainP ps n v
  | 0, _, x => ⟨[], fun _ y => absurd y (by simp), x⟩
  | n + 1, _, x => by
    rcases x with x | ⟨a, o, vs, c, e1, e2, e3, e4, e5, r⟩
    · exact ⟨[], fun _ y => absurd y (by simp), .inl x⟩
    · obtain ⟨ps, k, r⟩ := Chain.pins r
      refine ⟨(a, o) :: ps, fun p y => ?_, .inr ⟨a, o, vs, c, e1, List.mem_cons_self, e4, e5, r.more fun p y => List.mem_cons_of_mem _ y⟩⟩
      rcases List.mem_cons.mp y with rfl | y
      · exact ⟨e2, e3, vs, e4⟩
      · exact k p y
theorem entry_unchain : entryFor table "proto.unchain" = some Builtin.«proto.unchain» := entryFor_of_tree (by kernel_rfl)
section
variable {prog : Program} {w : World}
theorem unchain_ok {e : Addr} : ∀ (n : Nat) {A : Around} {R : Result → Shared → Prop} {s : Shared} {o : Addr} {oo : Obj} {vs : Array Value} {c slow : Value} {tg : Bool}, s.heap.get? o = some oo → oo.data = .fields vs → vs[2]? = some c → Chain s.heap (· ≠ e) n c → Reach s.heap slow (.ref o) →
    R (.ok (.ret .none)) s → codeAny (model prog w) A (.builtin "proto.unchain" ⟨[.ref e, .ref o, slow, .bool tg], []⟩) R s := by
  intro n
  induction n with
  | zero =>
    intro A R s o oo vs c slow tg e1 e2 e3 ch rc q
    obtain rfl : c = .none := ch
    refine codeAny_builtin entry_unchain ?_
    unfold Builtin.«proto.unchain»
    refine wpAny_bind (wpAny_field e1 e2 e3 ?_)
    rw [if_pos (by simp)]
    exact wpAny_pure q
  | succ n ih =>
    intro A R s o oo vs c slow tg e1 e2 e3 ch rc q
    refine codeAny_builtin entry_unchain ?_
    unfold Builtin.«proto.unchain»
    refine wpAny_bind (wpAny_field e1 e2 e3 ?_)
    rcases ch with rfl | ⟨a, oa, ws, d, rfl, a1, a2, a3, a4, r⟩
    · rw [if_pos (by simp)]
      exact wpAny_pure q
    rw [if_neg (by simp), if_neg (by simpa using a2)]
    by_cases hs : (Value.ref a == slow) = true
    · rw [if_pos hs]
      exact wpAny_bind (wpAny_rule (wpAny_pure q))
    rw [if_neg hs]
    have rc2 : Reach s.heap slow (.ref a) := rc.snoc e1 e2 e3
    cases tg with
    | false => exact wpAny_bind (wpAny_pure (wpAny_pure ⟨Code.quiet_builtin _ (by decide +kernel), ih a1 a3 a4 r rc2 q⟩))
    | true =>
      cases rc2 with
      | refl => exact absurd (by simp) hs
      | step b1 b2 b3 rc3 => exact wpAny_bind (wpAny_field b1 b2 b3 (wpAny_pure ⟨Code.quiet_builtin _ (by decide +kernel), ih a1 a3 a4 r rc3 q⟩))
end
end L2
namespace L2
open PySem
section
variable {prog : Program} {w : World} {A : Around} {E : Value → Shared → Prop} {env : Env}
variable {nm q : Str} {C N : Addr} {bs bm bmB : List Value} {hdct : Bool} {sn : List Str} {sub : List Value} {ab : Bool} {col : Option Bool} {dd : Option Addr} {k0 k1 k2 k3 k5 : Option Value} {newId : String}
noncomputable def Behind (h : Heap) (F : Addr → Prop) (y : Addr) : Prop := ∃ n, Chain h F (n + 1) (.ref y)
theorem raiseNew_behind {α : Type} {Q : α → Shared → Prop} {s : Shared} {e y : Addr} {oe : Obj} {vs : Array Value} (hh : A.handled = some (.ref y)) (he : s.heap.get? e = some oe) (hd : oe.data = .fields vs) (hz : 2 < vs.size) (hy : Behind s.heap (· ≠ e) y)
    (hE : E (.ref e) { s with heap := s.heap.update e (Obj.mapFields (·.setIfInBounds 2 (.ref y))) }) : wpAny (model prog w) A (raiseNew (.ref e) : Sem α) Q E s := by
  obtain ⟨n, z | ⟨a, o, ws, c, z, e1, e2, e3, e4, r⟩⟩ := hy
  · cases z
  cases z
  unfold raiseNew
  refine wpAny_bind (wpAny_handled ?_)
  rw [hh]
  dsimp only
  rw [if_pos (by simpa using e2)]
  refine wpAny_bind (wpAny_holding (wpAny_runValue (unchain_ok n e1 e3 e4 r (.refl _) ?_)))
  simp only [updateField]
  refine wpAny_bind (wpAny_bind (wpAny_load he ?_))
  rw [hd]
  dsimp only
  rw [if_pos hz]
  exact wpAny_update he (wpAny_throw hE)
theorem raiseStmt_behind {s : Shared} {x z : Sem Value} {Q : Flow → Shared → Prop} {y : Addr} (hbase : bm.contains (.type "BaseException") = true) (hh : A.handled = some (.ref y)) (hz : ∀ s', wpAny (model prog w) A z (fun v s'' => v = .none ∧ s'' = s') E s')
    (h : wpAny (model prog w) A x (fun v s₁ => ∃ e t, v = .ref e ∧ s₁.heap.get? C = some (excClassObj nm q C N bs bm hdct sn sub ab col dd k0 k1 k2 k3 k5 newId) ∧
      s₁.heap.get? e = some { cls := .ref C, data := .fields #[.ref t, .none, .none, .none, .bool false, .none] } ∧ Behind s₁.heap (· ≠ e) y ∧
      ∀ g, g.get? e = some { cls := .ref C, data := .fields #[.ref t, .none, .ref y, .none, .bool true, .none] } → (∀ b, b ≠ e → g.get? b = s₁.heap.get? b) → E (.ref e) { s₁ with heap := g }) E s) :
    wpAny (model prog w) A (raiseStmt env (some x) (some z)) Q E s := by
  have hcB : (Value.ref C :: bm).contains (.type "BaseException") = true := by rw [List.contains_cons, hbase, Bool.or_true]
  unfold raiseStmt
  refine wpAny_bind (wpAny_mono h (fun v s₁ h₁ => ?_) fun _ _ u => u)
  obtain ⟨e, t, rfl, hC, he, hy, hE⟩ := h₁
  refine wpAny_bind (wpAny_holding (wpAny_mono (hz s₁) (fun v s₂ h₂ => ?_) fun _ _ u => u))
  obtain ⟨rfl, rfl⟩ := h₂
  refine wpAny_bind (wpAny_pure ?_)
  obtain ⟨hp, g, d, tk, os⟩ := s₂
  have hne : C ≠ e := fun u => by rw [u] at hC; have hw := hC.symm.trans he; injection hw with hw; injection hw with _ _ hw; cases hw
  have he2 : ((hp.update e (Obj.mapFields (·.setIfInBounds 3 Value.none))).update e (Obj.mapFields (·.setIfInBounds 4 (Value.bool true)))).get? e = some { cls := .ref C, data := .fields #[.ref t, .none, .none, .none, .bool true, .none] } :=
    Heap.get?_update_self _ (Heap.get?_update_self _ he rfl) rfl
  have ot2 : ∀ b, b ≠ e → ((hp.update e (Obj.mapFields (·.setIfInBounds 3 Value.none))).update e (Obj.mapFields (·.setIfInBounds 4 (Value.bool true)))).get? b = hp.get? b := fun b n =>
    (Heap.get?_update_other _ _ (Ne.symm n)).trans (Heap.get?_update_other _ _ (Ne.symm n))
  have hC2 := (ot2 C hne).trans hC
  repeat (first | with_reducible refine wpAny_loadPart_at he2 ?_ | with_reducible refine wpAny_loadPart_at hC2 ?_ | with_reducible refine wpAny_loadPart_at he ?_ | with_reducible refine wpAny_loadPart_at hC ?_ | (with_reducible refine wpAny_isSubtype_exc hC ?_; rw [hcB]) | wp_step)
  refine raiseNew_behind hh he2 rfl (by show 2 < 6; decide) ?_ (hE _ (Heap.get?_update_self _ he2 rfl) fun b n => (Heap.get?_update_other _ _ (Ne.symm n)).trans (ot2 b n))
  obtain ⟨n, hy⟩ := hy
  exact ⟨n, hy.imp fun a o _ na ea _ => ⟨(ot2 a na).trans ea, na⟩⟩
end
end L2
namespace L2
open PySem
section
variable {prog : Program} {w : World} {A : Around} {E : Value → Shared → Prop} {s : Shared} {env : Env}
variable {nm q : Str} {C N : Addr} {bs bm bmB : List Value} {hdct : Bool} {sn : List Str} {sub : List Value} {ab : Bool} {col : Option Bool} {dd : Option Addr} {k0 k1 k2 k3 k5 : Option Value} {T newId initId : String}
theorem Raise_behind (F : ExcBaseFacts T newId initId bmB) {mN : Str → Option Value} {x : Str} {np cpos pos p2 : Pos} {j : Nat} {args : List Expr} {Q : Flow → Shared → Prop} {y : Addr} (hb : bm.contains (.type "BaseException") = true) (hh : A.handled = some (.ref y))
    (hp : (backTo cpos (starEach args env)).any (·.1) = false) (hi : mN "__init__" = none)
    (h : wpAny (model prog w) A (eval (.Name x np) env) (fun f s₁ => f = .ref C ∧ wpAny (model prog w) A (evalArgs (.ref C) true (backTo cpos (starEach args env)) [])
      (fun a s₂ => a.kw = [] ∧ a.pos.length ≤ sizeLine ∧ s₂.heap.get? C = some (excClassObj nm q C N bs bm hdct sn sub ab col dd k0 k1 k2 k3 k5 newId) ∧ s₂.heap.Ns N mN ∧ OwnTail s₂.heap bmB bm ∧
        ∀ h' e, Heap.MadeExcOf s₂.heap h' e (.ref C) a.pos → Behind h' (· ≠ e) y ∧ ∀ g t, g.get? e = some { cls := .ref C, data := .fields #[.ref t, .none, .ref y, .none, .bool true, .none] } → (∀ b, b ≠ e → g.get? b = h'.get? b) → E (.ref e) { s₂ with heap := g }) E s₁) E s) :
    wpAny (model prog w) A (exec (.Raise (some (.Call (.Name x np) args [] cpos)) (some (.Constant .none j p2)) pos) env) Q E s := by
  rw [arm_exec_Raise]
  refine wpAny_bind (wpAny_standAt (raiseStmt_behind (C := C) (N := N) (nm := nm) (q := q) (bs := bs) (bm := bm) (sn := sn) (sub := sub) (hdct := hdct) (ab := ab) (col := col) (dd := dd) (k0 := k0) (k1 := k1) (k2 := k2) (k3 := k3) (k5 := k5) (newId := newId) (y := y) hb hh (fun s' => ?_) ?_))
  · exact wpAny_bind (wpAny_Constant_none (wpAny_bind (wpAny_standAt (wpAny_pure ⟨rfl, rfl⟩))))
  refine wpAny_bind (wpAny_mono (wpAny_Call_ofName (wpAny_mono h (fun f s₁ z1 => ?_) fun _ _ u => u)) (fun v s₃ z3 => wpAny_bind (wpAny_standAt (wpAny_pure z3))) fun _ _ u => u)
  obtain ⟨rfl, z1⟩ := z1
  unfold callWith
  refine wpAny_bind (wpAny_holding (wpAny_mono z1 (fun a s₂ z2 => wpAny_bind (wpAny_standAt ?_)) fun _ _ u => u))
  obtain ⟨ap, ak⟩ := a
  obtain ⟨ek, hl, hC, hn, ht, z2⟩ := z2
  obtain rfl : ak = [] := ek
  obtain ⟨hp2, g, d, tk, os⟩ := s₂
  simp only [hp]
  refine wpAny_bind (wpAny_keeperOf_exc hC ?_)
  refine wpAny_bind (wpAny_call_exc_subT (hrest := hl) F ht hC hn hi fun h' e hm => wpAny_bind (wpAny_holding (wpAny_point (wpAny_pure ?_))))
  obtain ⟨t, e1, _, _⟩ := hm.there
  exact ⟨e, t, rfl, hm.keeps _ _ hC, e1, (z2 h' e hm).1, fun g y1 y2 => (z2 h' e hm).2 g t y1 y2⟩
end
end L2
namespace L2
open PySem PySem.Spec PyProof.Rows
theorem hok_none {P : Program} {w : World} {H : Hp} {h : Heap} {a : Addr} (x : HOk P w H h) (e : h.get? a = none) : H a = none := by
  cases q : H a with
  | none => rfl
  | some o =>
    have y := x a o q
    have : ∃ ob, h.get? a = some ob := by
      cases o with
      | lst xs => obtain ⟨_, _, _, _, e⟩ := y; exact ⟨_, e⟩
      | tup xs => obtain ⟨_, _, _, ⟨_, e, _⟩, _⟩ := y; exact ⟨_, e⟩
      | dK kvs => obtain ⟨_, _, _, _, o, _, _, e, _⟩ := y; exact ⟨_, e⟩
      | dT kvs => obtain ⟨_, _, _, _, o, _, _, e, _⟩ := y; exact ⟨_, e⟩
      | set S n => obtain ⟨o, _, _, _, e, _⟩ := y; exact ⟨_, e⟩
      | ins C dx fs => obtain ⟨_, _, _, e, _⟩ := y; exact ⟨_, e⟩
      | own y => obtain ⟨_, e⟩ := y; exact ⟨_, e⟩
      | xd fs => obtain ⟨_, ⟨_, _, _, e, _⟩, _⟩ := y; exact ⟨_, e⟩
      | rng lo hi => obtain ⟨_, _, _, e⟩ := y; exact ⟨_, e⟩
      | frz ob u => obtain ⟨e, _⟩ := y; exact ⟨_, e⟩
      | tbl ps => exact ⟨_, show h.get? a = some _ from y⟩
      | met f z => exact ⟨_, show h.get? a = some _ from y⟩
      | ext φ => obtain ⟨_, ⟨_, e⟩, _⟩ := y; exact ⟨_, e⟩
    obtain ⟨ob, z⟩ := this
    rw [e] at z; cases z
structure Flown (P : Program) (w : World) (outer : List Env) (H : Hp) (s : Shared) (x C : Addr) (c : Value) (B : Heap) (H' : Hp) (s' : Shared) : Prop where
  fly : Fl B outer x (.ref C) c .none s'.heap
  os : s'.os = s.os
  bare : AllBare s'.gens
  k1 : ∀ b o, s.heap.get? b = some o → H b = none → b ∉ frs outer → B.get? b = some o
  k2 : ∀ b o, s.heap.get? b = some o → H b = none → b ∈ frs outer → ∃ sl, s'.heap.get? b = some { o with slots := sl }
  k3 : ∀ b o, s.heap.get? b = some o → b ∉ frs outer → ∃ o', B.get? b = some o'
  free : ∀ b o, s.heap.get? b = some o → H b = none → H' b = none
  tups : ∀ b xs, H b = some (.tup xs) → H' b = some (.tup xs)
  frzs : ∀ b o u, H b = some (.frz o u) → H' b = some (.frz o u)
  tbls : ∀ b ps, H b = some (.tbl ps) → ∃ more, H' b = some (.tbl (ps ++ more))
  hok : HOk P w H' B
  new : H' x = none
  ch : ∃ n, Chain B (fun a => H' a = none) n c
noncomputable def CXR (P : Program) (w : World) : CXT := fun outer H s E e s' => ∃ (x C : Addr) (c : Value) (B : Heap) (H' : Hp), e = .ref x ∧ Flown P w outer H s x C c B H' s' ∧ E (.ref C) none H'
theorem Flown.un {P : Program} {w : World} {outer : List Env} {H : Hp} {s : Shared} {x C : Addr} {c : Value} {B : Heap} {H' : Hp} {s' : Shared} (F : Flown P w outer H s x C c B H' s') {h : Heap} (st : B.StaysIn h) (up : s'.heap.UpToSlots h) : Un (frs outer) [] H H' s.heap h := by
  have nf : ∀ b ∈ frs outer, ∀ o, s'.heap.get? b = some o → ∀ vs, o.data ≠ .fields vs := fun b hb o e => by
    obtain ⟨_, o', ho', n'⟩ := F.fly.2.2.1.mem hb
    rw [e] at ho'; cases ho'; exact n'
  refine ⟨fun b o e n hb _ => st b o (F.k1 b o e n hb), fun b o e n hb _ => ?_, fun b o e n _ => F.free b o e n, fun b o e _ => ?_, F.tups, F.frzs, F.tbls⟩
  · obtain ⟨sl, q⟩ := F.k2 b o e n hb
    obtain ⟨sl', q'⟩ := up b _ q (nf b hb _ q)
    exact ⟨sl', q'⟩
  · by_cases hb : b ∈ frs outer
    · obtain ⟨_, o', ho', n'⟩ := F.fly.2.2.1.mem hb
      obtain ⟨sl', q'⟩ := up b _ ho' n'
      exact ⟨_, q'⟩
    · obtain ⟨o', q⟩ := F.k3 b o e hb
      exact ⟨o', st b o' q⟩
section
variable {P : Program} {w : World} {K : PySem.W.Frag} {mg : Str → Option Value} {base : Heap} {N : List Str} {qual : Str} {scope : Scope} {f : Addr} {cd : Value} {A : Around} {outer : List Env} {s : Shared} {H : Hp} {E : XK}
theorem frs_cons {env : Env} {l : List Env} {b : Addr} (h : b ∈ frs l) : b ∈ frs (env :: l) := by
  unfold frs at h ⊢
  obtain ⟨e, he, hf⟩ := List.mem_filterMap.mp h
  exact List.mem_filterMap.mpr ⟨e, List.mem_cons_of_mem _ he, hf⟩
theorem cx_raise {pins : List (Addr × Obj)} {σ : St} {H1 : Hp} {s1 : Shared} {g : Heap} {x C : Addr} {oe : Obj} {vs : Array Value} {c : Value} (I : Inv (cxOf (CXR P w) P w K mg base N qual scope f cd A outer s H E) pins σ H1 s1)
    (kp : ∀ b o, s1.heap.get? b = some o → g.get? b = some o) (xn : s1.heap.get? x = none) (xg : g.get? x = some oe) (xk : oe.cls = .ref C) (xd : oe.data = .fields vs) (x1 : vs[1]? = some .none) (x2 : vs[2]? = some c) (xh : ∃ n, Chain s1.heap (fun a => H1 a = none) n c)
    (q : E (.ref C) none H1) : (cxOf (CXR P w) P w K mg base N qual scope f cd A outer s H E).xe (.ref x) { s1 with heap := g } := by
  have notF : ∀ b o, s.heap.get? b = some o → b ∉ frs outer → b ∉ frs (envOfC qual scope s.heap.objs.size f cd :: outer) := fun b o e hb z => by
    rcases List.mem_cons.mp (I.stkSub b z) with y | y
    · exact absurd (Heap.lt_size e) (by rw [y]; exact Nat.lt_irrefl _)
    · exact hb y
  have noex : ∀ b : Addr, b ∉ (cxOf (CXR P w) P w K mg base N qual scope f cd A outer s H E).ex := fun b z => absurd (show b ∈ ([] : List Addr) from z) (by simp)
  have fF : s1.heap.FunFrames (PySem.W.hideAll s1.heap (frs (envOfC qual scope s.heap.objs.size f cd :: outer))) (envOfC qual scope s.heap.objs.size f cd :: outer) :=
    PySem.W.funFrames_hide I.stack fun env he a ha => List.mem_filterMap.mpr ⟨env, he, ha⟩
  have notR : ∀ b o ws, s1.heap.get? b = some o → o.data = .fields ws → b ∉ frs (envOfC qual scope s.heap.objs.size f cd :: outer) := fun b o ws e2 e3 y => by
    obtain ⟨_, o', e4, n4⟩ := fF.mem y
    rw [e2] at e4; cases e4; exact n4 ws e3
  have nB : (PySem.W.hideAll s1.heap (frs (envOfC qual scope s.heap.objs.size f cd :: outer))).get? x = none := by
    cases z : (PySem.W.hideAll s1.heap (frs (envOfC qual scope s.heap.objs.size f cd :: outer))).get? x with
    | none => rfl
    | some o =>
      have z2 := PySem.W.of_hideAll _ z
      rw [xn] at z2; cases z2
  obtain ⟨n, xh⟩ := xh
  refine fl_leaveNew (s := { s1 with heap := g }) (B := PySem.W.hideAll s1.heap (frs (envOfC qual scope s.heap.objs.size f cd :: outer))) (outer := outer) (L := s.heap.objs.size) I.ok.frames (fF.of_keeps fun b o y _ => ⟨o, kp b o y, rfl⟩) rfl xg (fun b o z => kp b o (PySem.W.of_hideAll _ z)) nB xd x2 x1
    fun g2 fl up => ⟨x, C, c, _, H1, rfl, ⟨xk ▸ fl, I.os, I.bare, fun b o e n hb => ?_, fun b o e n hb => ?_, fun b o e hb => ?_, fun b o e n => I.base.free b o e n (noex b), I.base.tups, I.base.frzs, I.base.tbls, fun b u e => ?_, hok_none I.hok xn, n, xh.imp fun a o ws na ea da => ⟨PySem.W.hideAll_get _ ea (notR a o ws ea da), na⟩⟩, q⟩
  · exact PySem.W.hideAll_get _ (I.base.keep b o e n hb (noex b)) (notF b o e hb)
  · obtain ⟨sl, z⟩ := I.base.slot b o e n hb (noex b)
    obtain ⟨_, o', ho', nf⟩ := I.funs.mem hb
    rw [z] at ho'; cases ho'
    obtain ⟨sl', z'⟩ := up b _ (kp _ _ z) nf
    exact ⟨sl', z'⟩
  · obtain ⟨o', z⟩ := I.base.there b o e (noex b)
    exact ⟨o', PySem.W.hideAll_get _ z (notF b o e hb)⟩
  · have nfr : ∀ c v, H1 c = some v → c ∉ frs (envOfC qual scope s.heap.objs.size f cd :: outer) := fun c v e z => by
      rw [I.stkFree c z] at e; cases e
    refine (show ObjOk P w H1 s1.heap b u from I.hok b u e).stay (fun c v hc z => PySem.W.hideAll_get _ z ?_) (fun _ z => z) fun _ _ z => z
    rcases hc with y | y
    · rw [y]; exact nfr b u e
    · exact nfr c _ y
theorem cx_pass : Passes (CXR P w) (cxOf (CXR P w) P w K mg base N qual scope f cd A outer s H E) E := by
  intro pins σ H1 s1 e s' I h
  obtain ⟨x, C, c, B, H', rfl, F, q⟩ := h
  have noex : ∀ b : Addr, b ∉ (cxOf (CXR P w) P w K mg base N qual scope f cd A outer s H E).ex := fun b z => absurd (show b ∈ ([] : List Addr) from z) (by simp)
  have notF : ∀ b o, s.heap.get? b = some o → b ∉ frs outer → b ∉ frs (envOfC qual scope s.heap.objs.size f cd :: outer) := fun b o e hb z => by
    rcases List.mem_cons.mp (I.stkSub b z) with y | y
    · exact absurd (Heap.lt_size e) (by rw [y]; exact Nat.lt_irrefl _)
    · exact hb y
  refine fl_leave (outer := outer) (L := s.heap.objs.size) I.ok.frames rfl F.fly fun h'' fl up => ⟨x, C, c, B, H', rfl, ⟨fl, F.os.trans I.os, F.bare, fun b o e n hb => ?_, fun b o e n hb => ?_, fun b o e hb => ?_, fun b o e n => ?_, fun b xs e => F.tups b xs (I.base.tups b xs e), fun b o u e => F.frzs b o u (I.base.frzs b o u e), fun b ps e => ?_, F.hok, F.new, F.ch⟩, q⟩
  · exact F.k1 b o (I.base.keep b o e n hb (noex b)) (I.base.free b o e n (noex b)) (notF b o e hb)
  · obtain ⟨sl, z⟩ := I.base.slot b o e n hb (noex b)
    obtain ⟨sl', z'⟩ := F.k2 b _ z (I.base.free b o e n (noex b)) (frs_cons hb)
    have hb' : b ∈ frs (envOfC qual scope s.heap.objs.size f cd :: outer) := frs_cons hb
    obtain ⟨_, o2, ho2, nf2⟩ := F.fly.2.2.1.mem hb'
    rw [z'] at ho2; cases ho2
    obtain ⟨sl2, z2⟩ := up b _ z' nf2
    exact ⟨sl2, z2⟩
  · obtain ⟨o', z⟩ := I.base.there b o e (noex b)
    exact F.k3 b o' z (notF b o e hb)
  · obtain ⟨o', z⟩ := I.base.there b o e (noex b)
    exact F.free b o' z (I.base.free b o e n (noex b))
  · obtain ⟨m1, e1⟩ := I.base.tbls b ps e
    obtain ⟨m2, e2⟩ := F.tbls b _ e1
    exact ⟨m1 ++ m2, by rw [e2, Array.append_assoc]⟩
theorem Fun.okX {x qual : Str} {st : Stmt} {f : Addr} {fd : FuncData} {N ps : List Str} {k : Nat} {sp : Sp} (F : Fun K x qual st f fd) (S : FnScope N ps (defScope st)) (len : ∀ vs H Q E, sp vs H Q E → vs.length = ps.length)
    (hbody : ∀ (cdv : Value) (A : Around) (outer : List Env) (s : Shared) (H : Hp) (vs : List V) (Q : VK) (E : XK), Room k (A.deeper (envOfC qual (defScope st) s.heap.objs.size f cdv)) → sp vs H Q E →
      ∃ t, PSs (cxOf (CXR P w) P w K mg base N qual (defScope st) f cdv A outer s H E) (defBody st) t ∧ t { nx := fun _ H' => Q .non H', rt := Q } (start N vs) H) : FnOk P w K mg base (CXR P w) (k + 1) f fd ps sp := by
  obtain ⟨oc, od, kV, doc, pm, an, cdv, ct, osl, rfl, lk, hcd⟩ := F.ex
  exact fn_of lk hcd S len fun A outer s H vs Q E hr hsp => hbody cdv A outer s H vs Q E hr hsp
end
structure FnX (P : Program) (w : World) (K : PySem.W.Frag) (mg : Str → Option Value) (base : Heap) (x : Str) (f : Addr) (fd : FuncData) (ps : List Str) (k : Nat) (sp : Sp) : Prop where
  ok : FnOk P w K mg base (CXR P w) k f fd ps sp
  mg : mg x = some (.ref f)
  kp : PySem.W.keepIn K (.ref f) = true
  bd : Binds K fd ps []
end L2
namespace L2
open PySem PySem.Spec PyProof.Rows
structure Exc (K : PySem.W.Frag) (mg : Str → Option Value) (x : Str) (C : Addr) (mro : List Value) : Prop where
  bound : mg x = some (.ref C)
  isin : PySem.W.excIn K C [.type "ValueError", .type "Exception", .type "BaseException", .type "object"] "ValueError.__new__" = true
  mro : ∃ c d cd sl, K.lookup C = some ⟨c, d, .cls cd, sl⟩ ∧ cd.mro = mro
theorem Exc.obj {K : PySem.W.Frag} {mg : Str → Option Value} {x : Str} {C : Addr} {mro : List Value} (O : Exc K mg x C mro) {h : Heap} (X : K.In h) :
    ∃ bm N nm q bs hdct sn sub ab col dd k0 k1 k2 k3 k5 mN, h.get? C = some (excClassObj nm q C N bs bm hdct sn sub ab col dd k0 k1 k2 k3 k5 "ValueError.__new__") ∧ h.Ns N mN ∧ mN "__init__" = none ∧
      OwnTail h [.type "ValueError", .type "Exception", .type "BaseException", .type "object"] bm ∧ mro = .ref C :: bm := by
  obtain ⟨_, q, c0, d0, cd0, sl0, lk, em⟩ := O
  unfold PySem.W.excIn at q
  rw [lk] at q
  split at q
  · rename_i dd cd sl ho
    cases ho
    split at q
    · rename_i C' bm k0 k1 k2 k3 n k5 hm hs
      simp only [Bool.and_eq_true, beq_iff_eq, Bool.not_eq_true'] at q
      obtain ⟨⟨⟨⟨⟨rfl, rfl⟩, hdel⟩, ht⟩, hok⟩, hni⟩ := q
      obtain ⟨nm, bs, mr, ns, qn, hd, sn, sub, ab, col, del⟩ := cd0
      dsimp only at hm hdel hok hni em
      subst hm hdel
      have hsl : sl0 = #[k0, k1, k2, k3, some (.builtin "ValueError.__new__"), k5] := by
        obtain ⟨l⟩ := sl0
        simp only at hs
        rw [hs]
      subst hsl
      exact ⟨bm, ns, nm, qn, bs, hd, sn, sub, ab, col, d0, k0, k1, k2, k3, k5, _, X _ _ lk, .of_isNs (PySem.W.isNs_of_in X hok), PySem.W.nsMap_none_of_in X hok hni, PySem.W.tail_of_in X ht, em.symm⟩
    · cases q
  · cases q
noncomputable def tRaise (C : Addr) (E : XK) (ta : TA) : TS := fun _ σ H => ta σ H fun vs H1 => vs.length ≤ sizeLine ∧ E (.ref C) none H1
theorem ps_raise {P : Program} {w : World} {K : PySem.W.Frag} {mg : Str → Option Value} {base : Heap} {N : List Str} {qual : Str} {scope : Scope} {f : Addr} {cd : Value} {A : Around} {outer : List Env} {s₀ : Shared} {H₀ : Hp} {E : XK}
    {x : Str} {C : Addr} {mro : List Value} {e : Expr} {es : List Expr} {ta : TA} {np cpos pos : Pos} (O : Exc K mg x C mro) (ha : PA (cxOf (CXR P w) P w K mg base N qual scope f cd A outer s₀ H₀ E) (e :: es) ta)
    (hg : Gl (cxOf (CXR P w) P w K mg base N qual scope f cd A outer s₀ H₀ E) x := by rfl) (hdb : (x == ("__debug__" : Str)) = false := by decide)
    (he : starEach (e :: es) (envOfC qual scope s₀.heap.objs.size f cd) = (false, eval e (envOfC qual scope s₀.heap.objs.size f cd)) :: starEach es (envOfC qual scope s₀.heap.objs.size f cd) := by rfl)
    (hpl : (backTo cpos (starEach es (envOfC qual scope s₀.heap.objs.size f cd))).any (·.1) = false := by rfl) :
    PS (cxOf (CXR P w) P w K mg base N qual scope f cd A outer s₀ H₀ E) (.Raise (some (.Call (.Name x np) (e :: es) [] cpos)) none pos) (tRaise C E ta) := by
  intro pins s σ H D I h
  obtain ⟨bm, N', nm, q, bs, hdct, sn, sub, ab, col, dd, k0, k1, k2, k3, k5, mN, hC, hN, hni, T, _⟩ := O.obj I.ok.mod.kin
  refine wpAny_Raise_call_subT (C := C) (nm := nm) (q := q) (N := N') (bs := bs) (bm := bm) (hdct := hdct) (sn := sn) (sub := sub) (ab := ab) (col := col) (dd := dd) (k0 := k0) (k1 := k1) (k2 := k2) (k3 := k3) (k5 := k5) (mN := mN)
    PySem.F.excBase_ValueError (T.hasType PySem.F.excBase_ValueError.hasBase) (I.ok.hd rfl) ?_ hni (ld_glob I hg O.bound ⟨rfl, ?_⟩ hdb)
  · show (backTo cpos (starEach (e :: es) (envOfC qual scope s₀.heap.objs.size f cd))).any (·.1) = false
    rw [he]
    show (false || (backTo cpos (starEach es (envOfC qual scope s₀.heap.objs.size f cd))).any (·.1)) = false
    rw [hpl]; rfl
  have hA := ha cpos pins s σ H _ I h
  show wpAny _ _ (evalArgs (.ref C) true (backTo cpos (starEach (e :: es) (envOfC qual scope s₀.heap.objs.size f cd))) []) _ _ s
  have hA' : wpAny (model P w) (cxOf (CXR P w) P w K mg base N qual scope f cd A outer s₀ H₀ E).A (spliced (backTo cpos (starEach (e :: es) (envOfC qual scope s₀.heap.objs.size f cd)))) _ _ s := hA
  rw [he] at hA' ⊢
  refine Calls.evalArgs_plain (thn hA' fun us s1 ⟨vs, H1, I1, r, hz, q1⟩ => ⟨rfl, by rw [← r.length]; exact hz, I1.bk _ _ hC, hN.keeps I1.bk, T.keeps I1.bk, fun h' x' hm => (let ⟨t, e1, _, _⟩ := hm.there; cx_raise I1 hm.keeps hm.new e1 rfl rfl rfl rfl ⟨0, rfl⟩ q1)⟩)
noncomputable def XP (X : Cx) (pins : List (Addr × Obj)) (σ : St) (Ex : XK) (e : Value) (s' : Shared) : Prop := ∃ H1 s1, Inv X pins σ H1 s1 ∧ CXR X.prog X.w X.stack H1 s1 Ex e s'
noncomputable abbrev TX := St → Hp → VK → XK → Prop
noncomputable def PEx (X : Cx) (e : Expr) (t : TX) : Prop :=
  ∀ (pins : List (Addr × Obj)) (s : Shared) (σ : St) (H : Hp) (Q : VK) (Ex : XK), Inv X pins σ H s → t σ H Q Ex → wpAny (model X.prog X.w) X.A (eval e X.env) (EP X pins σ Q) (XP X pins σ Ex) s
section
variable {X : Cx} {e : Expr} {es : List Expr} {pos : Pos}
theorem noxe {α : Type} {t : Sem α} {Q : α → Shared → Prop} {M : Model} {A : Around} {E : Value → Shared → Prop} {s : Shared} (h : wpAny M A t Q X.nox.xe s) : wpAny M A t Q E s := wpAny_mono h (fun _ _ z => z) fun _ _ z => False.elim z
variable {k : Nat} {f C : Addr} {fd : FuncData} {ps : List Str} {sp : Sp} {m x : Str} {p apos : Pos} {o : Expr} {ta : TE} {t : TA}
theorem run_fnx {pins : List (Addr × Obj)} {σ : St} {H : Hp} {s : Shared} {Q : VK} {Ex : XK} {us : List Value} {vs : List V} (F : FnOk X.prog X.w X.K X.mg X.base (CXR X.prog X.w) k f fd ps sp) (hr : Room k X.A) (hb : Binds X.K fd ps [])
    (I : Inv X pins σ H s) (r : Vals vs us) (h : sp vs H Q Ex) : wpAny (model X.prog X.w) X.A (call (.ref f) us) (EP X pins σ Q) (XP X pins σ Ex) s := by
  have hl : (us ++ []).length = ps.length := by rw [List.append_nil, ← r.length]; exact F.len _ _ _ _ h
  have hb' := hb s us I.kIn hl
  rw [List.append_nil] at hb'
  refine wpAny_call (codeAny_mono (F.run X.A X.stack s H ⟨us, []⟩ us vs Q Ex hr I.env0 hb' r h) fun r s' hq => ?_)
  cases r with
  | error e => exact ⟨H, s, I, hq⟩
  | ok fl =>
    cases fl with
    | ret u => exact I.after hq
    | next => exact False.elim hq
    | brk => exact False.elim hq
    | cont => exact False.elim hq
theorem px_callV (i : Nat) {k' : Nat} (hv : PE X.nox (.Name x p) (tVar i)) (hr : Room k' X.A) (ha : PA X.nox (e :: es) t)
    (he : starEach (e :: es) X.env = (false, eval e X.env) :: starEach es X.env := by rfl) (hpl : (backTo pos (starEach es X.env)).any (·.1) = false := by rfl) :
    PEx X.nox (.Call (.Name x p) (e :: es) [] pos) (fun σ H Q Ex => ∃ f fd k ps sp, σ[i]? = some (some (.ref f)) ∧ FnOk X.prog X.w X.K X.mg X.base (CXR X.prog X.w) k f fd ps sp ∧ k ≤ k' ∧ PySem.W.keepIn X.K (.ref f) = true ∧ Binds X.K fd ps [] ∧ t σ H fun vs H1 => sp vs H1 Q Ex) := by
  intro pins s σ H Q Ex I h
  obtain ⟨f, fd, k, ps, sp, ef, F, hk, kp, hb, h⟩ := h
  refine wpAny_Call_Name_kw (thn (noxe (hv pins s σ H (fun v H' => v = .ref f ∧ H' = H) I ⟨_, ef, rfl, rfl⟩)) fun u s1 ⟨v, H1, I1, rv, ev, eH⟩ => ?_)
  subst ev eH
  obtain rfl : u = Value.ref f := rv
  refine PySem.W.callWith_K (h₀ := X.base) I.ok.mod.kin kp (thn (noxe (ha pos pins s1 σ H1 _ I1 h)) fun us s2 ⟨vs, H2, I2, r, q⟩ => ⟨I2.kIn, ?_⟩) he hpl
  exact run_fnx (X := X.nox) F (hr.mono hk) hb I2 r q
end
theorem exc_matches {M : Model} {A : Around} {E : Value → Shared → Prop} {nm q nm' q' : Str} {C N D N' : Addr} {bs bm bs' bm' : List Value} {hdct hdct' : Bool} {sn sn' : List Str} {sub sub' : List Value} {ab ab' : Bool} {col col' : Option Bool} {dd dd' : Option Addr} {k0 k1 k2 k3 k5 l0 l1 l2 l3 l5 : Option Value} {newId newId' : String}
    {h : Heap} {g : Array GenState} {d : Drawn} {t : Nat} {os : OsState} {e : Addr} {oe : Obj} {Q : Bool → Shared → Prop}
    (hC : h.get? C = some (excClassObj nm q C N bs bm hdct sn sub ab col dd k0 k1 k2 k3 k5 newId)) (hD : h.get? D = some (excClassObj nm' q' D N' bs' bm' hdct' sn' sub' ab' col' dd' l0 l1 l2 l3 l5 newId'))
    (he : h.get? e = some oe) (hcls : oe.cls = .ref C) (hbase : bm'.contains (.type "BaseException") = true) (hq : Q ((Value.ref C :: bm).contains (.ref D)) ⟨h, g, d, t, os⟩) : wpAny M A (excMatches (.ref e) (.ref D)) Q E ⟨h, g, d, t, os⟩ := by
  have hcB : (Value.ref D :: bm').contains (.type "BaseException") = true := by rw [List.contains_cons, hbase, Bool.or_true]
  have f := tc_notTuple
  unfold excMatches
  cases hb : (Value.ref C :: bm).contains (.ref D) with
  | true =>
    rw [hb] at hq
    repeat (first | (with_reducible refine wpAny_loadPart_at he ?_; rw [hcls]) | with_reducible refine wpAny_loadPart_at hD ?_ | (with_reducible refine wpAny_isSubtype_exc hD ?_; rw [hcB]) | (with_reducible refine wpAny_isSubtype_exc hC ?_; rw [hb]) | wp_step)
    exact hq
  | false =>
    rw [hb] at hq
    repeat (first | (with_reducible refine wpAny_loadPart_at he ?_; rw [hcls]) | with_reducible refine wpAny_loadPart_at hD ?_ | (with_reducible refine wpAny_isSubtype_exc hD ?_; rw [hcB]) | (with_reducible refine wpAny_isSubtype_exc hC ?_; rw [hb]) | wp_step)
    exact hq
noncomputable abbrev Cx.caught (X : Cx) (x : Addr) (ps : List (Addr × Obj)) : Cx := { X with A := X.A.mark (some (.ref x)), calm := false, pn := ps ++ X.pn }
theorem caught_ok {X : Cx} {e : Addr} {ps : List (Addr × Obj)} (ok : X.Ok) : (X.caught e ps).Ok :=
  ⟨ok.mod, ok.kind, ok.glob, ok.blt, ok.above, ok.inj, ok.has, ok.cab, fun z => absurd (show false = true from z) Bool.false_ne_true, ok.frames, ok.stk, ok.exf, ok.bs, ok.bsz, ok.noex, ok.exfs, ok.funs, ok.frf⟩
theorem Inv.caught {X : Cx} {e : Addr} {ps pins : List (Addr × Obj)} {σ : St} {H : Hp} {s : Shared} (I : Inv X pins σ H s) (hp : ∀ p ∈ ps, s.heap.get? p.1 = some p.2 ∧ H p.1 = none ∧ p.1 ≠ X.env.locals ∧ p.1 ∉ X.fs ∧ ∀ v, p.2.data ≠ .cell v) : Inv (X.caught e ps) pins σ H s :=
  ⟨caught_ok I.ok, I.os, I.bare, I.base, I.loc, I.cell, I.free, I.freeC, fun p z => by
    rcases List.mem_append.mp z with z | z
    · rcases List.mem_append.mp z with z | z
      · exact hp p z
      · exact I.pin p (List.mem_append_left _ z)
    · exact I.pin p (List.mem_append_right _ z), I.hok, I.len⟩
theorem Inv.uncaught {X : Cx} {e : Addr} {ps pins : List (Addr × Obj)} {σ : St} {H : Hp} {s : Shared} (ok : X.Ok) (I : Inv (X.caught e ps) pins σ H s) : Inv X pins σ H s := ⟨ok, I.os, I.bare, I.base, I.loc, I.cell, I.free, I.freeC, fun p z => I.pin p (by
    rcases List.mem_append.mp z with z | z
    · exact List.mem_append_left _ (List.mem_append_right _ z)
    · exact List.mem_append_right _ z), I.hok, I.len⟩
theorem SP.uncaught {X : Cx} {e : Addr} {ps pins : List (Addr × Obj)} {D : Ends} {f : Flow} {s : Shared} (ok : X.Ok) (h : SP (X.caught e ps) pins D f s) : SP X pins D f s := by
  cases f with
  | next => obtain ⟨σ', H', I', q⟩ := h; exact ⟨σ', H', I'.uncaught ok, q⟩
  | brk => obtain ⟨σ', H', I', q⟩ := h; exact ⟨σ', H', I'.uncaught ok, q⟩
  | cont => obtain ⟨σ', H', I', q⟩ := h; exact ⟨σ', H', I'.uncaught ok, q⟩
  | ret v => obtain ⟨x, σ', H', I', r, q⟩ := h; exact ⟨x, σ', H', I'.uncaught ok, r, q⟩
noncomputable def HeadP (ps : List (Addr × Obj)) (x : Addr) : Prop := ∃ n, ChainP ps (n + 1) (.ref x)
inductive Hs (X : Cx) : List ExceptHandler → List (Addr × TS) → Prop where
  | nil : Hs X [] []
  | cons {x : Str} {C : Addr} {mro : List Value} {b₀ : Stmt} {suite : List Stmt} {pos np : Pos} {rest : List ExceptHandler} {ts : TS} {l : List (Addr × TS)} (O : Exc X.K X.mg x C mro) (hg : Gl X x) (hdb : (x == ("__debug__" : Str)) = false)
      (hs : ∀ e ps, X.Ok → HeadP ps e → PSs (X.caught e ps) (b₀ :: suite) ts) (r : Hs X rest l) : Hs X (.ExceptHandler (some (.Name x np)) none (b₀ :: suite) pos :: rest) ((C, ts) :: l)
noncomputable def pickH (mro : List Value) : List (Addr × TS) → Option TS
  | [] => none
  | (C, t) :: r => if mro.contains (.ref C) = true then some t else pickH mro r
noncomputable abbrev TSx := Ends → XK → St → Hp → Prop
noncomputable def PSx (X : Cx) (st : Stmt) (t : TSx) : Prop :=
  ∀ (pins : List (Addr × Obj)) (s : Shared) (σ : St) (H : Hp) (D : Ends) (Ex : XK), Inv X pins σ H s → t D Ex σ H → wpAny (model X.prog X.w) X.A (exec st X.env) (SP X pins D) (XP X pins σ Ex) s
theorem psx_ret {X : Cx} {e : Expr} {te : TX} {ap : Pos} (he : PEx X.nox e te) : PSx X.nox (.Return (some e) ap) (fun D Ex σ H => te σ H D.rt Ex) := by
  intro pins s σ H D Ex I h
  exact wpAny_Return_some (thn (he pins s σ H _ _ I h) fun v s1 ⟨y, H1, I1, r1, q1⟩ => ⟨y, σ, H1, I1, r1, q1⟩)
noncomputable def tTry (K : PySem.W.Frag) (mg : Str → Option Value) (te : TSx) (l : List (Addr × TS)) : TS := fun D σ H => te D (fun c _ H1 => ∃ x C mro t, c = .ref C ∧ Exc K mg x C mro ∧ pickH mro l = some t ∧ t D σ H1) σ H
theorem ps_try {X : Cx} {st : Stmt} {te : TSx} {h₀ : ExceptHandler} {hs : List ExceptHandler} {l : List (Addr × TS)} {pos : Pos} (he : PSx X.nox st te) (hh : Hs X (h₀ :: hs) l) (hf : X.env.frame = some X.env.locals) (hst : X.stack = X.env :: X.outer)
    (hpa : ∀ v, PassesOwnAt (model X.prog X.w) (X.A.mark v) X.A X.env X.xe) : PS X (.Try [st] (h₀ :: hs) [] [] pos) (tTry X.K X.mg te l) := by
  intro pins s σ H D I h
  refine wpAny_Try_except ?_
  refine wpAny_mono (Q := SP X.nox pins D) (E := XP X.nox pins σ fun c _ H1 => ∃ x C mro t, c = .ref C ∧ Exc X.K X.mg x C mro ∧ pickH mro l = some t ∧ t D σ H1) ?_ (fun f s1 q => ?_) fun ev s1 q => ?_
  · refine wpAny_execs_cons (thn (he pins s σ H D _ (I.wish _) h) fun f s1 q => ?_)
    cases f with
    | next => exact wpAny_execs_nil q
    | ret v => exact q
    | brk => exact q
    | cont => exact q
  · cases f with
    | next => exact wpAny_execs_nil (SP.unwish q)
    | ret v => exact SP.unwish q
    | brk => exact SP.unwish q
    | cont => exact SP.unwish q
  obtain ⟨H1, s2, I1, xa, C, c, B, H', rfl, F, nmx, C', mro, t, ec, O, pk, qt⟩ := q
  cases ec
  have F' : Flown X.prog X.w (X.env :: X.outer) H1 s2 xa C c B H' s1 := by
    have : Flown X.prog X.w X.stack H1 s2 xa C c B H' s1 := F
    rw [hst] at this; exact this
  have hfr : X.A.frames = some (X.env :: X.outer) := by rw [← hst]; exact I.ok.frames
  have I1' : Inv X pins σ H1 s2 := I1.unwish
  refine fl_note hfr hf F'.fly fun h4 held4 up4 => ?_
  refine fl_land (s := { s1 with heap := h4 }) held4 fun h5 fl5 up5' => ?_
  have up5 := up4.trans up5'
  -- whatever the handlers find, the names stand
  have inv : ∀ {h : Heap}, B.StaysIn h → s1.heap.UpToSlots h → Inv X pins σ H' { s1 with heap := h } := fun {h} st up => by
    have u := F.un st up
    exact I1'.call' (s' := { s1 with heap := h }) (ch := []) F.os u (F.hok.kept st) F.bare fun b z => absurd z (by simp)
  have ok := I.ok
  have main : ∀ {hs' : List ExceptHandler} {l' : List (Addr × TS)}, Hs X hs' l' → pickH mro l' = some t → wpAny (model X.prog X.w) X.A (handleBy (.ref xa) X.env hs') (SP X pins D) X.xe { s1 with heap := h5 } := by
    intro hs' l' hH
    induction hH with
    | nil => intro z; cases z
    | @cons nm2 C2 mro2 b₀ suite p2 np rest ts l2 O2 hg hdb hsu r ih =>
      intro z
      have I5 : Inv X pins σ H' { s1 with heap := h5 } := inv fl5.1 up5
      refine wpAny_handleBy_cons (codeAny_handlers_test ?_) (by intro q; cases q)
      have Ic : Inv (X.caught xa []) pins σ H' { s1 with heap := h5 } := I5.caught fun p hp => absurd hp (by simp)
      refine wpAny_mono (E := fun _ _ => False) (ld_glob Ic hg O2.bound (Q := fun c s' => c = .ref C2 ∧ s' = { s1 with heap := h5 }) ⟨rfl, rfl⟩ hdb) (fun c s' hc => ?_) fun _ _ z => z.elim
      obtain ⟨rfl, rfl⟩ := hc
      obtain ⟨bm, N1, nm, q1, bs, hdct, sn, sub, ab, col, dd, k0, k1, k2, k3, k5, mN, hC, _, _, T, em⟩ := O.obj I5.kIn
      obtain ⟨bm', N1', nm', q1', bs', hdct', sn', sub', ab', col', dd', l0, l1, l2', l3, l5, mN', hC', _, _, T', em'⟩ := O2.obj I5.kIn
      obtain ⟨ob, vs5, _, _, _, hob, hobc, _⟩ := fl5.2.2.2
      refine exc_matches (oe := ob) hC hC' hob hobc (T'.hasType PySem.F.excBase_ValueError.hasBase) ?_
      rw [← em]
      cases hb : mro.contains (.ref C2) with
      | true =>
        have z' : (if mro.contains (.ref C2) = true then some ts else pickH mro l2) = some t := z
        rw [hb, if_pos rfl] at z'
        cases z'
        refine codeAny_handlers_suite ?_
        refine fl_land (s := { s1 with heap := h5 }) fl5 fun h6 fl6 up6 => ?_
        have I6 : Inv X pins σ H' { s1 with heap := h6 } := inv fl6.1 (up5.trans up6)
        obtain ⟨oe, vs, _, _, _, g1, g2, g3, g4, _⟩ := fl6.2.2.2
        obtain ⟨n, chn⟩ := F.ch
        have chn6 : Chain h6 (fun a => H' a = none) (n + 1) (.ref xa) := .inr ⟨xa, oe, vs, c, rfl, g1, F.new, g3, g4, chn.imp fun a o ws na ea _ => ⟨fl6.1 a o ea, na⟩⟩
        obtain ⟨ps, pk1, pk2⟩ := chn6.pins
        have Ic6 : Inv (X.caught xa ps) pins σ H' { s1 with heap := h6 } := I6.caught fun p hp => by
          obtain ⟨a1, a2, ws, a3⟩ := pk1 p hp
          refine ⟨a1, a2, fun y => ?_, fun y => ?_, fun v y => ?_⟩
          · obtain ⟨m, ⟨o', es, ep, ho', hd', _⟩, _⟩ := I6.loc
            rw [y] at a1
            have a1' : h6.get? X.env.locals = some o' := ho'
            rw [a1'] at a1; cases a1
            rw [hd'] at a3; cases a3
          · obtain ⟨_, o', ho', n'⟩ := I6.funs.mem y
            have a1' : h6.get? p.1 = some o' := ho'
            rw [a1'] at a1; cases a1
            exact n' ws a3
          · rw [a3] at y; cases y
        refine wpAny_passesOwnAt (hpa _) ?_
        exact wpAny_mono (hsu xa ps ok ⟨n, pk2⟩ pins _ σ H' D Ic6 qt) (fun f s' q => SP.uncaught ok q) fun _ _ q => q
      | false =>
        have z' : (if mro.contains (.ref C2) = true then some ts else pickH mro l2) = some t := z
        rw [hb, if_neg Bool.false_ne_true] at z'
        exact ih z'
  exact main hh pk
theorem ps_raiseH {P : Program} {w : World} {K : PySem.W.Frag} {mg : Str → Option Value} {base : Heap} {N : List Str} {qual : Str} {scope : Scope} {f : Addr} {cd : Value} {A : Around} {outer : List Env} {s₀ : Shared} {H₀ : Hp} {E : XK} {y : Addr} {ps : List (Addr × Obj)}
    {x : Str} {C : Addr} {mro : List Value} {e : Expr} {es : List Expr} {ta : TA} {np cpos pos p2 : Pos} {j : Nat} (ok : (cxOf (CXR P w) P w K mg base N qual scope f cd A outer s₀ H₀ E).Ok) (hd : HeadP ps y) (O : Exc K mg x C mro) (ha : PA ((cxOf (CXR P w) P w K mg base N qual scope f cd A outer s₀ H₀ E).caught y ps) (e :: es) ta)
    (hg : Gl (cxOf (CXR P w) P w K mg base N qual scope f cd A outer s₀ H₀ E) x := by rfl) (hdb : (x == ("__debug__" : Str)) = false := by decide)
    (he : starEach (e :: es) (envOfC qual scope s₀.heap.objs.size f cd) = (false, eval e (envOfC qual scope s₀.heap.objs.size f cd)) :: starEach es (envOfC qual scope s₀.heap.objs.size f cd) := by rfl)
    (hpl : (backTo cpos (starEach es (envOfC qual scope s₀.heap.objs.size f cd))).any (·.1) = false := by rfl) :
    PS ((cxOf (CXR P w) P w K mg base N qual scope f cd A outer s₀ H₀ E).caught y ps) (.Raise (some (.Call (.Name x np) (e :: es) [] cpos)) (some (.Constant .none j p2)) pos) (tRaise C E ta) := by
  intro pins s σ H D I h
  obtain ⟨bm, N', nm, q, bs, hdct, sn, sub, ab, col, ddd, k0, k1, k2, k3, k5, mN, hC, hN, hni, T, _⟩ := O.obj I.ok.mod.kin
  refine Raise_behind (C := C) (nm := nm) (q := q) (N := N') (bs := bs) (bm := bm) (hdct := hdct) (sn := sn) (sub := sub) (ab := ab) (col := col) (dd := ddd) (k0 := k0) (k1 := k1) (k2 := k2) (k3 := k3) (k5 := k5) (mN := mN) (y := y)
    PySem.F.excBase_ValueError (T.hasType PySem.F.excBase_ValueError.hasBase) rfl ?_ hni (ld_glob I hg O.bound ⟨rfl, ?_⟩ hdb)
  · show (backTo cpos (starEach (e :: es) (envOfC qual scope s₀.heap.objs.size f cd))).any (·.1) = false
    rw [he]
    show (false || (backTo cpos (starEach es (envOfC qual scope s₀.heap.objs.size f cd))).any (·.1)) = false
    rw [hpl]; rfl
  have hA := ha cpos pins s σ H _ I h
  show wpAny _ _ (evalArgs (.ref C) true (backTo cpos (starEach (e :: es) (envOfC qual scope s₀.heap.objs.size f cd))) []) _ _ s
  have hA' : wpAny (model P w) ((cxOf (CXR P w) P w K mg base N qual scope f cd A outer s₀ H₀ E).caught y ps).A (spliced (backTo cpos (starEach (e :: es) (envOfC qual scope s₀.heap.objs.size f cd)))) _ _ s := hA
  rw [he] at hA' ⊢
  refine Calls.evalArgs_plain (thn hA' fun us s1 ⟨vs, H1, I1, r, hz, q1⟩ => ⟨rfl, by rw [← r.length]; exact hz, I1.bk _ _ hC, hN.keeps I1.bk, T.keeps I1.bk, fun h' x' hm => ?_⟩)
  obtain ⟨n, hd⟩ := hd
  have pin1 : ∀ p ∈ ps, s1.heap.get? p.1 = some p.2 ∧ H1 p.1 = none := fun p z => let w := I1.pin p (List.mem_append_left _ (List.mem_append_left _ z)); ⟨w.1, w.2.1⟩
  refine ⟨⟨n, hd.chain fun p z => ⟨hm.keeps _ _ (pin1 p z).1, fun z2 => ?_⟩⟩, fun g t y1 y2 => ?_⟩
  · have z3 := (pin1 p z).1
    rw [z2, hm.new] at z3; cases z3
  · refine cx_raise (I1.uncaught ok) (fun b o z => (y2 b fun z2 => ?_).trans (hm.keeps b o z)) hm.new y1 rfl rfl rfl rfl ⟨n + 1, hd.chain pin1⟩ q1
    rw [z2, hm.new] at z; cases z
structure RoomH (k : Nat) (A : Around) : Prop where
  dp : A.depth + 3 * k + 5 < recursionLimit
  un : A.units + 16 * k + 200 < cLine
theorem Room.h {k : Nat} {A : Around} (r : Room k A) (v : Option Value) : RoomH k (A.mark v) := ⟨r.dp, r.un⟩
structure FnOkH (P : Program) (w : World) (K : PySem.W.Frag) (mg : Str → Option Value) (base : Heap) (k : Nat) (f : Addr) (fd : FuncData) (ps : List Str) (sp : Sp) : Prop where
  len : ∀ vs H Q E, sp vs H Q E → vs.length = ps.length
  run : ∀ (A : Around) (outer : List Env) (s : Shared) (H : Hp) (args : Args) (us : List Value) (vs : List V) (Q : VK) (E : XK), RoomH k A → Env0 P w K mg base A outer s H → BindsTo s fd args (ps.zip us) → Vals vs us → sp vs H Q E →
    codeAny (model P w) A (.call (.ref f) args) (CR CX0 outer P w H s Q E) s
noncomputable abbrev Cx.uncalm (X : Cx) : Cx := { X with calm := false }
section
variable {P : Program} {w : World} {K : PySem.W.Frag} {mg : Str → Option Value} {base : Heap}
theorem Fun.okH {x qual : Str} {st : Stmt} {f : Addr} {fd : FuncData} {N ps : List Str} {k : Nat} {sp : Sp} (F : Fun K x qual st f fd) (S : FnScope N ps (defScope st)) (len : ∀ vs H Q E, sp vs H Q E → vs.length = ps.length)
    (hbody : ∀ (cdv : Value) (A : Around) (outer : List Env) (s : Shared) (H : Hp) (vs : List V) (Q : VK) (E : XK), sp vs H Q E →
      ∃ t, PSs (cxOf CX0 P w K mg base N qual (defScope st) f cdv A outer s H E).uncalm.nox (defBody st) t ∧ t { nx := fun _ H' => Q .non H', rt := Q } (start N vs) H) : FnOkH P w K mg base (k + 1) f fd ps sp := by
  obtain ⟨oc, od, kV, doc, pm, an, cdv, ct, osl, rfl, lk, hcd⟩ := F.ex
  refine ⟨len, fun A outer s H args us vs Q E hr e0 hb r hsp => ?_⟩
  have hl := len _ _ _ _ hsp
  have KX : K.In s.heap := e0.mod.kin.keeps fun b o e => (e0.bs b o e).1
  have lim : s.heap.NoLimit := e0.mod.nolimit.keeps fun b o e => (e0.bs b o e).1
  have hkind : ∀ y ∈ ps.zip us, (defScope st).names.lookup y.1 = some .local ∨ ((defScope st).names.lookup y.1 = some .cell ∧ ((cellsFrom (s.heap.objs.size + 1) (defScope st).names []).lookup y.1).isSome = true) := fun ⟨n, v⟩ hy => by
    rcases S.par n (List.of_mem_zip hy).1 with q | q
    · exact .inl q
    · exact .inr ⟨q, PySem.W.cellsFrom_some _ _ _ (.inl q)⟩
  refine codeAny_call_function (by have := hr.dp; omega) (KX _ _ lk) rfl S.co S.gen rfl (PySem.W.codeRec_of KX hcd) (hb _ _ _ _ ?_)
  refine wpAny_newFunctionEnv_cells S.kind hkind fun env he s1 x => ?_
  subst he
  refine ⟨lim.keeps x.toInCall.keep, codeAny_func ?_⟩
  obtain ⟨t, ht, hq⟩ := hbody cdv A outer s H vs Q E hsp
  have e1 : Env0 P w K mg base { A with handled := none } outer s H := ⟨e0.frames, e0.mod, e0.bs, e0.bsz, e0.funs, e0.frf, e0.hok, e0.bare⟩
  have I0 : Inv (cxOf CX0 P w K mg base N qual (defScope st) f cdv { A with handled := none } outer s H E) [] (start N vs) H s1 := inv_start S rfl e1 hl r x
  have I : Inv (cxOf CX0 P w K mg base N qual (defScope st) f cdv A outer s H E).uncalm.nox [] (start N vs) H s1 :=
    ⟨⟨I0.ok.mod, I0.ok.kind, I0.ok.glob, I0.ok.blt, I0.ok.above, I0.ok.inj, I0.ok.has, I0.ok.cab, fun z => absurd (show false = true from z) Bool.false_ne_true, Around.frames_deeper e0.frames, I0.ok.stk, I0.ok.exf, I0.ok.bs, I0.ok.bsz, I0.ok.noex, I0.ok.exfs, I0.ok.funs, I0.ok.frf⟩, I0.os, I0.bare, I0.base, I0.loc, I0.cell, I0.free, I0.freeC, I0.pin, I0.hok, I0.len⟩
  refine wpAny_mono (ht [] s1 (start N vs) H _ I hq) (fun fl s' hs => ?_) fun e s' hs => False.elim hs
  have fin : ∀ {σ' : St} {H' : Hp} {v : V} {u : Value}, Inv (cxOf CX0 P w K mg base N qual (defScope st) f cdv A outer s H E).uncalm.nox [] σ' H' s' → RelV v u → Q v H' → CE outer P w H s Q u s' :=
    fun {σ' H' v u} J rv q => ⟨v, H', J.os, J.bare, J.base, J.hok, rv, q⟩
  cases fl with
  | ret u =>
    obtain ⟨v, σ', H', J, rv, q⟩ := hs
    exact fin J rv q
  | next =>
    obtain ⟨σ', H', J, q⟩ := hs
    exact fin (v := V.non) (u := Value.none) J rfl q
  | brk =>
    obtain ⟨_, _, _, q⟩ := hs
    exact False.elim q
  | cont =>
    obtain ⟨_, _, _, q⟩ := hs
    exact False.elim q
end
section
variable {X : Cx} {k : Nat} {f C : Addr} {fd : FuncData} {ps : List Str} {sp : Sp} {m : Str} {pos apos : Pos} {e o : Expr} {es : List Expr} {ta : TE} {t : TA}
theorem pe_methH {pl : Sem Bool} (he : PE X o ta) (c : Cls X.K C) (hm : Meth X.K C m f) (F : FnOkH X.prog X.w X.K X.mg X.base k f fd ps sp) (hr : RoomH k X.A) (hb : Binds X.K fd ps []) (ha : PA X (e :: es) t)
    (hst : starEach (e :: es) X.env = (false, eval e X.env) :: starEach es X.env := by rfl) (hpl : (backTo pos (starEach es X.env)).any (·.1) = false := by rfl)
    (ht : eval (.Call (.Attribute o m apos) (e :: es) [] pos) X.env = (do
      let ov ← eval o X.env
      standAt apos.atName
      let (f, first) ← holding [ov] (getMethod ov m pl)
      callWith pos f first (backTo pos (starEach (e :: es) X.env)) (backToKw pos (keywordEach [] X.env))) := by rfl) :
    PE X (.Call (.Attribute o m apos) (e :: es) [] pos) (tMeth C m sp [] E0 ta t) := by
  intro pins s σ H Q I h
  refine PySem.W.methodCall_KW (pl := pl) (thn (he pins s σ H _ I h) fun u s1 ⟨x, H1, I1, rx, a, dx, fs, ex, ea, l, q⟩ => ?_) ht
  subst ex
  obtain rfl : u = Value.ref a := rx
  refine getmeth_ok I1 ea c hm l ?_
  refine PySem.W.callWith_K (first := [.ref a]) (h₀ := X.base) I.ok.mod.kin hm.kp (thn (ha pos pins s1 σ H1 _ I1 q) fun us s2 ⟨vs, H2, I2, r, q2⟩ => ⟨I2.kIn, ?_⟩) hst hpl
  have q2 : sp (.ref a :: (vs ++ [])) H2 Q E0 := q2
  rw [List.append_nil] at q2
  have r2 : Vals (.ref a :: vs) (.ref a :: us) := .cons rfl r
  have hl : ((.ref a :: us) ++ ([] : List Value)).length = ps.length := by rw [List.append_nil, ← r2.length]; exact F.len _ _ _ _ q2
  have hb' := hb s2 (.ref a :: us) I2.kIn hl
  rw [List.append_nil] at hb'
  refine wpAny_call (codeAny_mono (F.run X.A X.stack s2 H2 ⟨.ref a :: us, []⟩ (.ref a :: us) (.ref a :: vs) Q E0 hr I2.env0 hb' r2 q2) fun r s' hq => ?_)
  cases r with
  | error e => exact False.elim hq
  | ok fl =>
    cases fl with
    | ret u => exact I2.after hq
    | next => exact False.elim hq
    | brk => exact False.elim hq
    | cont => exact False.elim hq
end
section
variable {P : Program} {w : World} {K : PySem.W.Frag} {mg : Str → Option Value} {base : Heap} {N : List Str} {qual : Str} {scope : Scope} {f' : Addr} {cd : Value} {A : Around} {outer : List Env} {s₀ : Shared} {H₀ : Hp} {E : XK}
  {x : Str} {f : Addr} {fd : FuncData} {ps : List Str} {k k' : Nat} {sp : Sp} {e : Expr} {es : List Expr} {t : TA} {p pos : Pos}
theorem pe_fnX (F : FnX P w K mg base x f fd ps k sp) (hr : Room k' (cxOf (CXR P w) P w K mg base N qual scope f' cd A outer s₀ H₀ E).A) (ha : PA (cxOf (CXR P w) P w K mg base N qual scope f' cd A outer s₀ H₀ E) (e :: es) t) (hk : k ≤ k' := by first | decide | exact Nat.le_refl _) (hg : Gl (cxOf (CXR P w) P w K mg base N qual scope f' cd A outer s₀ H₀ E) x := by rfl) (hdb : (x == ("__debug__" : Str)) = false := by decide)
    (he : starEach (e :: es) (envOfC qual scope s₀.heap.objs.size f' cd) = (false, eval e (envOfC qual scope s₀.heap.objs.size f' cd)) :: starEach es (envOfC qual scope s₀.heap.objs.size f' cd) := by rfl) (hpl : (backTo pos (starEach es (envOfC qual scope s₀.heap.objs.size f' cd))).any (·.1) = false := by rfl) :
    PE (cxOf (CXR P w) P w K mg base N qual scope f' cd A outer s₀ H₀ E) (.Call (.Name x p) (e :: es) [] pos) (tCall sp [] E t) :=
  pe_call F.ok (hr.mono hk) hg F.mg F.kp F.bd .nil cx_pass ha hdb he hpl
end
section
variable {X : Cx} {x : Str} {f : Addr} {fd : FuncData} {ps : List Str} {k k' : Nat} {sp : Sp} {e : Expr} {es : List Expr} {t : TA} {p pos : Pos}
end
end L2
namespace L2
open PySem PySem.Spec PyProof.Rows
section
variable {X : Cx} {pos : Pos}
end
end L2
namespace L2
open PySem PySem.Spec PyProof.Rows
section
variable {X : Cx}
end
end L2
set_option maxRecDepth 100000
namespace L2
open PySem PySem.Spec PyProof.Rows
section
variable {X : Cx}
theorem call_sumT (hc : X.calm = true) : CallR X (.builtin "sum") (fun xs H Q => ∃ (p : Addr) (ns : List Int), xs = [.ref p] ∧ SqT X.K H p (ns.map V.int) ∧ Q (.int ns.sum) H) := by
  intro pins s σ H xs us Q I r h
  obtain ⟨p, ns, rfl, hq, q⟩ := h
  obtain ⟨u, rfl, rx⟩ := vals1 r
  cases rx
  obtain ⟨its, rv, pl, hz⟩ := I.tuple hq
  have pl' : s.heap.IsTuple p its.toArray := pl
  have hlen : its.length = ns.length := by rw [← rv.length, List.length_map]
  have plt : p < s.heap.objs.size := by
    obtain ⟨o, ho, _⟩ := pl'
    exact Heap.lt_size ho
  have hh : X.A.in1.handled = none := I.ok.hd hc
  refine call_sum_walkG (wpAny_pyIter_tuple pl' ⟨s.heap.objs.size, _, _, _, _, _, fun i => ns.getD i 0, rfl, Walks.tuple hh s.heap.objs.size p (Nat.ne_of_lt plt) its.toArray, ⟨⟨_, Heap.get?_push_size _ rfl, rfl, rfl⟩, pl'.push _⟩, fun b hb => ?_, fun i v hv => ?_, fun h' tk t' k => ?_⟩)
  · show b < (s.heap.push _).objs.size
    rw [Heap.size_push]
    have : b = s.heap.objs.size ∨ b = p := by simpa using hb
    rcases this with rfl | rfl
    · exact Nat.lt_succ_self _
    · exact Nat.lt_succ_of_lt plt
  · have hv' : its[i]? = some v := by simpa using hv
    have hi : i < ns.length := by rw [← hlen]; exact (List.getElem?_eq_some_iff.mp hv').1
    obtain ⟨u, hu, ru⟩ := rv.get (i := i) (x := .int ns[i]) (by rw [List.getElem?_map, List.getElem?_eq_getElem hi]; rfl)
    rw [hv'] at hu; cases hu
    obtain ⟨t, rfl⟩ := ru
    refine ⟨t, ?_⟩
    show Value.int ns[i] t = Value.int (ns.getD i 0) t
    rw [List.getD_eq_getElem?_getD, List.getElem?_eq_getElem hi]
    rfl
  · have e : its.toArray.size = ns.length := by rw [List.size_toArray, hlen]
    rw [e, preSum_getD, List.take_length]
    refine ⟨.int ns.sum, H, ?_, ⟨_, rfl⟩, q⟩
    have I1 : Inv X pins σ H { s with heap := s.heap.push { cls := .type "tuple_iterator", data := .fields #[.ref p, .int 0 0] } } := I.kept (t' := s.toks) fun b o z => Heap.get?_push_of_some _ z
    refine I1.turnMany (t' := tk) (ch := [s.heap.objs.size]) (fun b hb => ?_) fun b o hb z => k b o (by simpa using hb) z
    have : b = s.heap.objs.size := by simpa using hb
    subst this
    exact I.fpOk (Nat.le_refl _) (I.hok.fresh (Nat.le_refl _))
theorem PI.or {tg l : Expr} {w1 w2 : TI} (h1 : PI X tg l w1) (h2 : PI X tg l w2) : PI X tg l (fun σ H R => w1 σ H R ∨ w2 σ H R) := by
  intro pins s σ H R I h
  rcases h with h | h
  · exact h1 pins s σ H R I h
  · exact h2 pins s σ H R I h
end
section
variable {prog : Program} {w : World} {A : Around} {E : Value → Shared → Prop} {s : Shared}
theorem tindex_loop {us : List Value} {ns : List Int} {z : Int} {tz : Tok} {j : Nat} {Q : Option Fin × Unit → Shared → Prop} (hi : IntsAre us ns) (hj : ns[j]? = some z) (hno : ∀ i, i < j → ns[i]? ≠ some z) (q : ∀ r, r = .done (.ret (.int j s.toks)) → Q (some r, ()) { s with toks := s.toks + 1 }) :
    ∀ (k i : Nat), i + k = us.length → i ≤ j → wpAny (model prog w) A (forIn (List.range' i k) ((none, ()) : Option Fin × Unit) fun (i : Nat) __s =>
            match us.toArray[i]? with
            | some y => do
              let __do_lift ← eqBool y (Value.int z tz)
              if __do_lift = true then do
                  let __do_lift ← retInt ↑i
                  pure (ForInStep.done (some __do_lift, ()))
                else pure (ForInStep.yield (none, ()))
            | _ => pure (ForInStep.yield (none, ()))) Q E s := by
  have hlen : us.length = ns.length := by
    clear hj hno q
    induction hi with
    | nil => rfl
    | cons _ _ _ ih => simp [ih]
  have get : ∀ i (h : i < ns.length), ∃ t, us[i]? = some (Value.int ns[i] t) := by
    clear hj hno q hlen
    induction hi with
    | nil => intro i h; exact absurd h (Nat.not_lt_zero _)
    | cons m t r ih =>
      intro i h
      cases i with
      | zero => exact ⟨t, rfl⟩
      | succ i => obtain ⟨t', e⟩ := ih i (by simpa using h); exact ⟨t', by simpa using e⟩
  have hjl : j < ns.length := (List.getElem?_eq_some_iff.mp hj).1
  intro k
  induction k with
  | zero => intro i e h; omega
  | succ k ih =>
    intro i e h
    rw [List.range'_succ, List.forIn_cons]
    obtain ⟨t, et⟩ := get i (by omega)
    have et' : us.toArray[i]? = some (Value.int ns[i] t) := by simpa using et
    rw [et']
    refine wpAny_bind (wpAny_bind (wpAny_eqBool_int ?_))
    by_cases c : i = j
    · subst c
      have ez : ns[i] = z := by rw [List.getElem?_eq_getElem hjl] at hj; exact Option.some.inj hj
      rw [if_pos (by simp [ez])]
      unfold retInt
      refine wpAny_bind (wpAny_bind (wpAny_mkInt (wpAny_pure (wpAny_pure (wpAny_pure (q _ rfl))))))
    · have ne : ¬ ns[i] = z := fun y => hno i (by omega) (by rw [List.getElem?_eq_getElem (by omega), y])
      rw [if_neg (by simpa using ne)]
      exact wpAny_pure (ih (i + 1) (by omega) (by omega))
theorem tindex_body {t : Addr} {us : List Value} {ns : List Int} {z : Int} {tz : Tok} {j : Nat} {Q : Value → Shared → Prop} (hT : s.heap.IsTuple t us.toArray) (hi : IntsAre us ns) (hj : ns[j]? = some z) (hno : ∀ i, i < j → ns[i]? ≠ some z)
    (q : Q (.int j s.toks) { s with toks := s.toks + 1 }) : wpAny (model prog w) A (Builtin.«tuple.index» ⟨[.ref t, .int z tz], []⟩) (fun fin s' => ∃ v, fin = .done (.ret v) ∧ Q v s') E s := by
  obtain ⟨hp, g, d, tk, os⟩ := s
  obtain ⟨⟨cls, dd, data, sl⟩, ho, hc, n, hd⟩ := hT
  simp only at hc hd
  subst hc hd
  unfold Builtin.«tuple.index»
  simp only [Std.Legacy.Range.forIn_eq_forIn_range']
  wp_walk using AutoSeq1.wpAny_loadPart' ho
  have sz : [:min us.toArray.size us.toArray.size].size = us.length := by simp [Std.Legacy.Range.size]
  rw [sz]
  refine tindex_loop (us := us) (ns := ns) (z := z) (tz := tz) (j := j) hi hj hno (fun r er => ?_) us.length 0 (Nat.zero_add _) (Nat.zero_le _)
  subst er
  exact wpAny_pure ⟨_, rfl, q⟩
end
section
variable {X : Cx}
theorem mt_tindex : MtR X "tuple.index" (fun x xs H Q => ∃ (a : Addr) (ns : List Int) (z : Int) (j : Nat), x = .ref a ∧ xs = [.int z] ∧ SqT X.K H a (ns.map V.int) ∧ ns[j]? = some z ∧ (∀ i, i < j → ns[i]? ≠ some z) ∧ Q (.int (j : Int)) H) := by
  intro pins s σ H x xs v us Q I rx rv h
  obtain ⟨a, ns, z, j, rfl, rfl, hq, hj, hno, q⟩ := h
  cases rx
  obtain ⟨u, rfl, ru⟩ := rv.one
  obtain ⟨tz, rfl⟩ := ru
  obtain ⟨its, r, pt, _⟩ := I.tuple hq
  exact wpAny_call_entry PySem.F.slot_tuple_index pt.typeIs PySem.F.entry_tuple_index (tindex_body pt (intsAre_of r) hj hno ⟨.int (j : Int), H, I.tok _, ⟨_, rfl⟩, q⟩) (PySem.F.args_tuple_index_2 _ _)
variable {o e : Expr} {es : List Expr} {to : TE} {t : TA} {name : Str} {apos cpos : Pos} {id : String} {r : V → List V → Hp → VK → Prop}
noncomputable def tBMT (r : V → List V → Hp → VK → Prop) (to : TE) (t : TA) : TE := fun σ H Q => to σ H fun x H1 => (∃ p xs, x = .ref p ∧ H1 p = some (.tup xs)) ∧ t σ H1 fun xs H2 => r x xs H2 Q
theorem pe_bmT (pa : PlainAttrs "tuple") (slot : Slot "tuple" name id) (hty : typeOf (.builtin id) = pure (.type "method_descriptor")) (hm : MtR X id r) (ho : PE X o to) (ha : PA X (e :: es) t)
    (hbase : attributeBase o name X.env (eval o X.env) = eval o X.env := by rfl)
    (hfew : ((backTo cpos (starEach (e :: es) X.env)).all (fun x => !x.1) && (backToKw cpos (keywordEach [] X.env)).all (fun x => x.1.isSome)
      && decide ((e :: es).length + ([] : List Keyword).length + (if ([] : List Keyword).isEmpty then 0 else 1) < 30)) = true := by rfl)
    (hline : (apos.endLine == cpos.line) = true := by rfl) (hs : starEach (e :: es) X.env = (false, eval e X.env) :: starEach es X.env := by rfl) (hplain : (backTo cpos (starEach es X.env)).any (·.1) = false := by rfl) :
    PE X (.Call (.Attribute o name apos) (e :: es) [] cpos) (tBMT r to t) := by
  intro pins s σ H Q I h
  refine wpAny_Call_method_late hbase hfew hline rfl (thn (ho pins s σ H _ I h) fun v s1 ⟨x, H1, I1, r1, ⟨p, xs, ex, hp⟩, q1⟩ => ?_)
  subst ex
  cases r1
  obtain ⟨_, its, _, pt, ob, h2, h3⟩ := (show ObjOk X.prog X.w H1 s1.heap p (.tup xs) from I1.hok p _ hp)
  refine ⟨"tuple", id, pa, slot, hty, pt.typeIs, fun a ea => by cases ea; exact ⟨ob, h2, h3⟩, ?_⟩
  have hA := ha cpos pins s1 σ H1 _ I1 q1
  rw [hs] at hA ⊢
  refine Calls.callWith_builtin (by show (false || (backTo cpos (starEach es X.env)).any (·.1)) = false; rw [hplain] <;> rfl) (Calls.evalArgs_plain ?_)
  exact thn hA fun us s2 ⟨vs, H2, I2, r2, q2⟩ => hm pins s2 σ H2 (.ref p) vs (.ref p) us Q I2 rfl r2 q2
end
end L2
namespace L2
open PySem PySem.Spec PyProof.Rows
noncomputable def IteL (K : PySem.W.Frag) (a : Addr) : It :=
  ⟨fun i H => ∃ xs x, SqL K H a xs ∧ xs[i]? = some x, fun i H v H' => ∃ p x, H p = none ∧ v = .ref p ∧ H' = upd H p (.tup [.int i, x]) ∧ ∀ xs, SqL K H a xs → xs[i]? = some x, fun i H => ∃ xs, SqL K H a xs ∧ xs.length ≤ i⟩
theorem turn_enumL {P : Program} {w : World} {K : PySem.W.Frag} {elts : List Expr} {x1} {tp : Pos} {e it a : Addr} (hne : e ≠ it) (hae : a ≠ e) (hai : a ≠ it) :
    Turn P w K (.Tuple elts x1 tp) (IteL K a) [e, it] e (fun i h => (∃ old, IsEnum h e it i old) ∧ h.IsListIter it a i) where
  mem := by simp
  obj := fun i h st b hb => by
    obtain ⟨⟨old, q⟩, ⟨o, e1, c, d⟩⟩ := st
    rcases List.mem_cons.mp hb with z | z
    · subst z; exact ⟨_, q, fun v z => by have z' : Data.fields _ = Data.cell v := z; cases z'⟩
    · have z : b = it := by simpa using z
      subst z; exact ⟨o, e1, fun v z => by rw [d] at z; cases z⟩
  keep := fun i h h' ⟨⟨old, q⟩, r⟩ k => ⟨⟨old, k e (by simp) _ q⟩, r.at fun o z => k it (by simp) o z⟩
  item := by
    intro X hP hw hK hc i pins s σ H E I hf st hg
    subst hP hw hK
    obtain ⟨⟨old, he⟩, hit⟩ := st
    obtain ⟨xs, x, hq, hx⟩ := hg
    obtain ⟨its, rv, p, hz⟩ := I.list hq
    obtain ⟨u, hu, ru⟩ := rv.get hx
    refine wpAny_pyNext_enum_item he hit p.isList (x := u) (by simpa using hu) hne fun h' o1 a1 tp1 sz k1 => ⟨_, rfl, ?_⟩
    refine wpAny_letOwnedTupleGo_enum o1 fun h2 e2 k2 => ?_
    have hT : s.heap.objs.size ≠ e := Nat.ne_of_gt (Heap.lt_size he)
    have kk : ∀ b v, b ∉ [e, it] → s.heap.get? b = some v → h2.get? b = some v := fun b v hb q => by
      have n1 : b ≠ e := fun z => hb (by simp [z])
      have n2 : b ≠ it := fun z => hb (by simp [z])
      exact (k2.2 b n1).trans (k1 b v n1 n2 q)
    have new : ObjOk X.prog X.w (upd H s.heap.objs.size (.tup [.int i, x])) h2 s.heap.objs.size (.tup [.int i, x]) :=
      ⟨by show 2 ≤ sizeLine; decide, [.int i s.toks, u], .cons ⟨_, rfl⟩ (.cons ru .nil), ⟨_, (k2.2 _ hT).trans tp1, rfl, _, rfl⟩, _, (k2.2 _ hT).trans tp1, rfl⟩
    have IL : Inv X pins σ (upd H s.heap.objs.size (.tup [.int i, x])) { s with heap := h2, toks := s.toks + 1 } := I.turnLay (t' := s.toks + 1) (ch := [e, it]) hf kk (Nat.le_refl _) new
    refine ⟨.ref s.heap.objs.size, _, IL, rfl, ⟨_, x, I.hok.fresh (Nat.le_refl _), rfl, rfl, fun ys hy => by rw [I.list_inj hy hq]; exact hx⟩, ⟨⟨u, ?_⟩, a1.at fun o z => (k2.2 it hne.symm).trans z⟩, fun b hb => ?_⟩
    · have e3 : IsEnum h2 e it ((i : Int) + 1) u := e2
      rw [show (((i + 1 : Nat) : Int)) = (i : Int) + 1 by omega]
      exact e3
    · rw [upd_ne (Nat.ne_of_lt ?_)]
      · exact (hf b hb).1
      · rcases List.mem_cons.mp hb with z | z
        · rw [z]; exact Heap.lt_size he
        · have z : b = it := by simpa using z
          obtain ⟨o, q, _⟩ := hit
          rw [z]; exact Heap.lt_size q
  done := by
    intro X hP hw hK hc i pins s σ H E I hf st hg
    subst hP hw hK
    obtain ⟨⟨old, he⟩, hit⟩ := st
    obtain ⟨xs, hq, hx⟩ := hg
    obtain ⟨its, rv, p, hz⟩ := I.list hq
    have hl := rv.length
    refine wpAny_pyNext_enum_end (I.ok.hd hc) he hit p.isList (by simp; omega) fun h' k => ⟨rfl, I.turnMany (t' := s.toks) (ch := [e, it]) hf fun b v hb q => k b v (fun z => hb (by simp [z])) q⟩
  self := fun _ _ _ _ _ ⟨⟨_, q⟩, _⟩ h => wpAny_pyIter_enum q h
section
variable {X : Cx}
noncomputable def iEnumL (K : PySem.W.Frag) (ta : TA) : TI := fun σ H R => ta σ H fun vs H1 => ∃ a, vs = [.ref a] ∧ (∃ xs, SqL K H1 a xs) ∧ R (IteL K a) H1
theorem pi_enumL {a : Expr} {ta : TA} {p pos tp : Pos} {elts : List Expr} {x1} (hg : Gl X "enumerate") (hm : X.mg "enumerate" = none) (ha : PA X [a] ta) (hs : starEach [a] X.env = [(false, eval a X.env)] := by rfl) :
    PI X (.Tuple elts x1 tp) (.Call (.Name "enumerate" p) [a] [] pos) (iEnumL X.K ta) := by
  intro pins s σ H R I h
  refine Call_ (ld_blt I hg hm boot_enumerate (PyProof.Rows.callWith_type1 (thn (ha pos pins s σ H _ I h) fun us s1 ⟨vs, H1, I1, r1, q1⟩ => ?_) hs rfl))
  obtain ⟨t, e, ⟨xs, hq⟩, q⟩ := q1
  subst e
  cases r1 with
  | cons r rr =>
    cases rr
    cases r
    obtain ⟨its, rv, pt, hz⟩ := I1.list hq
    have tlt : t < s1.heap.objs.size := by obtain ⟨o, ho, _⟩ := pt.isList; exact Heap.lt_size ho
    refine call_enumerate_list pt.isList fun h' he a0 sz k => ?_
    have I2 : Inv X pins σ H1 { s1 with heap := h' } := I1.kept (t' := s1.toks) k
    refine wpAny_pyIter_enum (it := s1.heap.objs.size) (i := 0) (old := .none) he ⟨_, [s1.heap.objs.size + 1, s1.heap.objs.size], _, _, H1, rfl, I2, turn_enumL (a := t) (Nat.ne_of_gt (Nat.lt_succ_self _)) (Nat.ne_of_lt (Nat.lt_succ_of_lt tlt)) (Nat.ne_of_lt tlt), ⟨⟨_, he⟩, a0⟩, fun b hb => ?_, q⟩
    have hb' : s1.heap.objs.size ≤ b := by
      simp only [List.mem_cons, List.not_mem_nil, or_false] at hb
      rcases hb with rfl | rfl
      · exact Nat.le_succ _
      · exact Nat.le_refl _
    exact I1.fpOk hb' (I1.hok.fresh hb')
end
end L2
namespace L2
open PySem PySem.Spec PyProof.Rows
section
variable {X : Cx}
end
end L2
set_option maxRecDepth 100000
namespace PySem
namespace R4
end R4
open PyProof.Rows
section
variable {prog : Program} {w : World} {A : Around} {E : Value → Shared → Prop} {s : Shared}
end
section
variable {prog : Program} {w : World} {A : Around} {E : Value → Shared → Prop} {s : Shared} {I : Addr} {fp wr : List Addr} {G : Array GenState → Array GenState → Prop} {n : Nat} {P : Nat → Value → Prop} {St : Nat → Shared → Prop}
end
end PySem
namespace L2
open PySem PySem.Spec PyProof.Rows
section
variable {X : Cx}
end
end L2
namespace HT
open PySem PyProof.Rows
section
open PySem.SeqAt
open PySem.AutoSeq1 (wpAny_loadPart')
open PySem.MeetsSeq PySem.MeetsSeq2 PySem.MeetsSeq3
end
section
variable {prog : Program} {w : World} {A : Around} {E : Value → Shared → Prop} {s : Shared}
end
end HT
namespace L2
open PySem PySem.Spec PyProof.Rows
section
variable {X : Cx}
end
noncomputable def ItrS (lo st : Int) (n : Nat) : It := ⟨fun i _ => i < n, fun i H x H' => H' = H ∧ x = .int (lo + i * st), fun i _ => n ≤ i⟩
theorem turn_rangeS {P : Program} {w : World} {K : PySem.W.Frag} {tg : Expr} (it : Addr) (lo st : Int) (n : Nat) : Turn P w K tg (ItrS lo st n) [it] it (fun i h => IsRangeIter h it (lo + (i : Nat) * st) ((n : Int) - (i : Nat)) st) where
  mem := by simp
  obj := fun i h st b hb => by
    have e : b = it := by simpa using hb
    subst e
    exact ⟨_, st, fun v z => by
      have z' : Data.fields _ = Data.cell v := z
      cases z'⟩
  keep := fun i h h' st k => k it (by simp) _ st
  item := by
    intro X hP hw hK hc i pins s σ H E I hf sti hg
    subst hP hw hK
    obtain ⟨f0, f1, f2, f3, f4, f5⟩ := hf it (by simp)
    have W := Walks.range (prog := X.prog) (w := X.w) (I.ok.hd hc) it lo st n
    refine W.item i s _ _ hg sti fun v h' tk hv st' kk => ?_
    obtain ⟨t, rfl⟩ := hv
    have I1 : Inv X pins σ H { s with heap := h', toks := tk } := I.turned (fun b o hb e => kk b o (by simpa using hb) e) f0 f1 f3 f4 f5
    exact ⟨_, rfl, go_of (s := { s with heap := h', toks := tk }) (n := "range_iterator") st' rfl rfl (by decide) ⟨.int (lo + i * st), H, I1, ⟨t, rfl⟩, ⟨rfl, rfl⟩, st', fun b hb => (hf b hb).1⟩⟩
  done := by
    intro X hP hw hK hc i pins s σ H E I hf st hg
    subst hP hw hK
    obtain ⟨f0, f1, f2, f3, f4, f5⟩ := hf it (by simp)
    exact wpAny_pyNext_range_end (I.ok.hd hc) st (by have : n ≤ i := hg; omega) fun h' eb => ⟨rfl, I.turned (t' := s.toks) (fun b o hb e => eb b o hb e) f0 f1 f3 f4 f5⟩
  self := fun _ _ _ _ _ st h => wpAny_pyIter_rangeiter st h
theorem rangeSize_down (a b : Int) : Builtin.Range.rangeSize a b (-1) = if a > b then a - b else 0 := by
  unfold Builtin.Range.rangeSize
  rw [if_neg (by decide), show -(-1 : Int) = 1 from rfl, Int.ediv_one]
  split <;> omega
theorem small_down {a b : Int} (ha : -(2 ^ 62) ≤ a) (ha' : a < 2 ^ 62) (hb : -(2 ^ 62) ≤ b) (hb' : b < 2 ^ 62) : Builtin.Range.small a b (-1) = true := by
  unfold Builtin.Range.small
  rw [rangeSize_down]
  simp only [Builtin.Range.rangeFitsLong, Bool.and_eq_true, Bool.or_eq_true, decide_eq_true_eq, beq_iff_eq, show ¬ ((-1 : Int) > 0) by decide, if_false]
  split <;> omega
noncomputable def iRngDown (ta : TA) : TI := fun σ H R => ta σ H fun vs H1 => ∃ (lo hi : Int), vs = [.int lo, .int hi, .int (-1)] ∧ (-(2 ^ 62) ≤ lo ∧ lo < 2 ^ 62 ∧ -(2 ^ 62) ≤ hi ∧ hi < 2 ^ 62) ∧ R (ItrS lo (-1) (lo - hi).toNat) H1
section
variable {X : Cx} {tg : Expr}
theorem pi_rangeDown {a b c : Expr} {ta : TA} {p pos : Pos} (hg : Gl X "range") (hm : X.mg "range" = none) (ha : PA X [a, b, c] ta) (hs : starEach [a, b, c] X.env = [(false, eval a X.env), (false, eval b X.env), (false, eval c X.env)] := by rfl)
    (hs2 : starEach [b, c] X.env = [(false, eval b X.env), (false, eval c X.env)] := by rfl) : PI X tg (.Call (.Name "range" p) [a, b, c] [] pos) (iRngDown ta) := by
  intro pins s σ H R I h
  refine Call_ (ld_blt I hg hm boot_range (PyProof.Rows.callWith_type1 (thn (ha pos pins s σ H _ I h) fun us s1 ⟨vs, H1, I1, r1, q1⟩ => ?_) (by rw [hs, hs2]) (by rw [hs2]; rfl)))
  obtain ⟨lo, hi, e, ⟨q1, q2, q3, q4⟩, q⟩ := q1
  subst e
  cases r1 with
  | cons r rr =>
    cases rr with
    | cons r' rr =>
      cases rr with
      | cons r'' rr =>
        cases rr
        obtain ⟨t, rfl⟩ := r
        obtain ⟨t', rfl⟩ := r'
        obtain ⟨t'', rfl⟩ := r''
        refine call_range_3 (by decide) ?_ (Or.inl (PyProof.noPylong_small (by omega)))
        refine wpAny_pyIter_range (IsRange.new ..) (small_down q1 q2 q3 q4) ?_
        have I2 : Inv X pins σ H1 { s1 with heap := s1.heap.push { cls := .type "range", data := .fields #[.int lo t, .int hi t', .int (-1) t''] }, toks := s1.toks } := I1.kept fun b o e => Heap.get?_push_of_some _ e
        refine ⟨_, [(s1.heap.push { cls := .type "range", data := .fields #[.int lo t, .int hi t', .int (-1) t''] }).objs.size], _, _, H1, rfl, I2.kept (t' := s1.toks) fun b o e => Heap.get?_push_of_some _ e, turn_rangeS _ lo (-1) (lo - hi).toNat, ?_, fun b hb => ?_, q⟩
        · have e1 : lo + ((0 : Nat) : Int) * (-1) = lo := by simp
          have e2 : (((lo - hi).toNat : Nat) : Int) - ((0 : Nat) : Int) = Builtin.Range.rangeSize lo hi (-1) := by rw [rangeSize_down]; omega
          show IsRangeIter _ _ (lo + ((0 : Nat) : Int) * (-1)) ((((lo - hi).toNat : Nat) : Int) - ((0 : Nat) : Int)) (-1)
          rw [e1, e2]
          exact Heap.get?_push_size _ rfl
        · have e : b = (s1.heap.push { cls := .type "range", data := .fields #[.int lo t, .int hi t', .int (-1) t''] }).objs.size := by simpa using hb
          subst e
          exact I2.fpOk (Nat.le_refl _) (I2.hok.fresh (Nat.le_refl _))
end
end L2
namespace L2
open PySem PySem.Spec PyProof.Rows
theorem for_rangeS {lo st : Int} {n : Nat} {g : TG} {tb : TS} {D : Ends} {σ : St} {H : Hp} (Pv : Nat → St → Hp → Prop) (h0 : Pv 0 σ H)
    (hs : ∀ i σ H, i < n → Pv i σ H → g (.int (lo + i * st)) σ H fun σ2 H2 => tb { D with nx := Pv (i + 1), ct := Pv (i + 1), bk := D.nx } σ2 H2) (hd : ∀ σ H, Pv n σ H → D.nx σ H) :
    ∃ W : Nat → Nat → St → Hp → Prop, (∃ m, W 0 m σ H) ∧ ∀ i m σ H, W i m σ H →
      ((ItrS lo st n).stop i H ∧ D.nx σ H) ∨ ((ItrS lo st n).go i H ∧ ∃ N : St → Hp → Prop, (∀ σ' H', N σ' H' → ∃ m', m' < m ∧ W (i + 1) m' σ' H') ∧ ∀ x H', (ItrS lo st n).yld i H x H' → g x σ H' fun σ2 H2 => tb { D with nx := N, ct := N, bk := D.nx } σ2 H2) := by
  refine ⟨fun i m σ H => m = n - i ∧ i ≤ n ∧ Pv i σ H, ⟨n, by simp, Nat.zero_le _, h0⟩, ?_⟩
  rintro i m σ H ⟨rfl, hi, p⟩
  by_cases hlt : i < n
  · refine .inr ⟨hlt, Pv (i + 1), fun σ' H' p' => ⟨n - (i + 1), by omega, rfl, hlt, p'⟩, fun x H' y => ?_⟩
    obtain ⟨e, e2⟩ := y
    subst e e2
    exact hs i σ _ hlt p
  · have e : i = n := by omega
    subst e
    exact .inl ⟨Nat.le_refl _, hd σ H p⟩
end L2
set_option maxRecDepth 100000
set_option maxHeartbeats 2000000
namespace L2
open PySem PySem.Spec PyProof.Rows
section
variable {κ : Type} [DecidableEq κ]
end
section
variable {P : Program} {w : World} {H : Hp} {h : Heap} {a : Addr}
theorem rd_of {u : HO} (ok : HOk P w H h) (e : Rd H a u) : ObjOk P w H h a u := e.ok ok
end
section
variable {X : Cx} {pins : List (Addr × Obj)} {σ : St} {H : Hp} {s : Shared} {a : Addr} {y v : V} {u r : Value} {o : Option V} {A : Around} {E : Value → Shared → Prop}
theorem Inv.big (I : Inv X pins σ H s) : sysModules < s.heap.objs.size := by
  have h : mainGlobals < s.heap.objs.size := (I.mod.glob.keeps I.bk).lt
  exact Nat.lt_trans (by decide) h
theorem d_write {h' : Heap} {t' : Nat} {ob : HO} (I : Inv X pins σ H s) (mu : Mut (H a)) (hs : Heap.SameBut a s.heap h') (he : ∃ q, h'.get? a = some q) (new : ObjOk X.prog X.w (upd H a ob) h' a ob) :
    Inv X pins σ (upd H a ob) { s with heap := h', toks := t' } :=
  I.write (x := a) (e := a) mu (.inl rfl) (fun b q hb z => (hs.2 b hb).trans z) he new
end
section
variable {X : Cx} {pins : List (Addr × Obj)} {σ : St} {H : Hp} {s : Shared} {a : Addr} {kvs : List (Key × V)} {k : Key} {u : Value} {A : Around} {E : Value → Shared → Prop}
end
noncomputable def NoSl (i : Expr) : Prop := ∀ ov iv, subscripted i false ov iv = operate [ov, iv] (getItem ov iv)
theorem subD_of {prog : Program} {w : World} {A : Around} {E : Value → Shared → Prop} {s : Shared} {env : Env} {value slice : Expr} {pos : Pos} {T id : String} {Q : Value → Shared → Prop}
    (hl : typeLookup (.type T) "__getitem__" = pure (some (.builtin id))) (hs : NoSl slice)
    (h : wpAny (model prog w) A (eval value env) (fun o s₁ => wpAny (model prog w) A (eval slice env) (fun i s₂ => s₂.TypeIs o T ∧ wpAny (model prog w) A (getItem o i) Q E s₂) E s₁) E s) :
    wpAny (model prog w) A (eval (.Subscript value slice pos) env) Q E s := by
  refine Subscript_ (wpAny_mono h (fun o s₁ h₁ => wpAny_mono h₁ (fun i s₂ h₂ => ?_) fun _ _ x => x) fun _ _ x => x)
  obtain ⟨hT, h₂⟩ := h₂
  unfold subscriptTail
  refine wpAny_bind ?_
  rw [getitemInPython_of_ne hT.not_modules]
  refine wpAny_bind (wpAny_specialOf hT hl ?_)
  have fin : wpAny (model prog w) A (subscripted slice false o i) (fun r s₃ => wpAny (model prog w) A (letTemporaryGo value o r >>= fun _ => pure r) Q E s₃) E s₂ := by
    rw [hs o i]
    exact wpAny_operating (wpAny_mono h₂ (fun r s₃ h₃ => wpAny_bind (wpAny_letTemporaryGo (wpAny_pure h₃))) fun _ _ x => x)
  first
    | exact wpAny_pure (wpAny_bind fin)
    | exact wpAny_bind (wpAny_pure (wpAny_bind fin))
    | exact wpAny_bind fin
section
variable {X : Cx} {o i e value : Expr} {pos pos' tpos : Pos} {td ty tv : TE}
end
section
variable {X : Cx} {pos : Pos}
end
noncomputable def tPairs : List (TE × TE) → St → Hp → (List (V × V) → Hp → Prop) → Prop
  | [], _, H, Q => Q [] H
  | (tk, tv) :: r, σ, H, Q => tk σ H fun x H1 => tv σ H1 fun y H2 => tPairs r σ H2 fun ps H3 => Q ((x, y) :: ps) H3
noncomputable abbrev VV : List (V × V) → List (Value × Value) → Prop := Paired fun p q => RelV p.1 q.1 ∧ RelV p.2 q.2
noncomputable def PPs (X : Cx) (pos : Pos) (keys : List (Option Expr)) (values : List Expr) (trs : List (TE × TE)) : Prop :=
  ∀ (pins : List (Addr × Obj)) (s : Shared) (σ : St) (H : Hp) (Q : List (V × V) → Hp → Prop), Inv X pins σ H s → tPairs trs σ H Q →
    wpAny (model X.prog X.w) X.A (evalPairs (pairTrees keys values X.env pos)) (fun vs s' => ∃ ps H', Inv X pins σ H' s' ∧ VV ps vs ∧ Q ps H') X.xe s
theorem pps_nil {X : Cx} {pos : Pos} : PPs X pos [] [] [] := fun pins s σ H Q I h => pairTrees_nil_walk ⟨[], H, I, .nil, h⟩
theorem pps_cons {X : Cx} {pos : Pos} {k v : Expr} {ks : List (Option Expr)} {vs : List Expr} {tk tv : TE} {trs : List (TE × TE)} (hk : PE X k tk) (hv : PE X v tv) (hr : PPs X pos ks vs trs) :
    PPs X pos (some k :: ks) (v :: vs) ((tk, tv) :: trs) := fun pins s σ H Q I h =>
  pairTrees_cons_walk (thn (hk pins s σ H _ I h) fun u s1 ⟨x, H1, I1, rx, q1⟩ => thn (hv pins s1 σ H1 _ I1 q1) fun w2 s2 ⟨y, H2, I2, ry, q2⟩ =>
    thn (hr pins s2 σ H2 _ I2 q2) fun ws s3 ⟨ps, H3, I3, rel, q3⟩ => ⟨(x, y) :: ps, H3, I3, .cons ⟨rx, ry⟩ rel, q3⟩)
section
variable {X : Cx} {pins : List (Addr × Obj)} {σ : St} {H : Hp} {s : Shared} {a : Addr} {y d : V} {u r : Value} {o : Option V} {A : Around} {E : Value → Shared → Prop}
end
section
variable {X : Cx} {o e f : Expr} {apos cpos : Pos} {td ty tx : TE}
end
section
variable {X : Cx} {pins : List (Addr × Obj)} {σ : St} {H : Hp} {s : Shared} {a : Addr} {kvs : List (Key × V)} {A : Around} {E : Value → Shared → Prop}
end
section
variable {X : Cx} {pins : List (Addr × Obj)} {σ : St} {H : Hp} {s : Shared} {a : Addr} {y : V} {u : Value} {A : Around} {E : Value → Shared → Prop}
end
end L2
namespace L2
open PySem PySem.Spec PyProof.Rows
section
variable {X : Cx}
end
section
variable {κ : Type} [DecidableEq κ]
end
end L2
namespace L2
open PySem PySem.Spec PyProof.Rows
section
variable {X : Cx}
theorem vals_of : ∀ {xs : List V} {us : List Value}, xs.length = us.length → (∀ (i : Nat) x u, xs[i]? = some x → us[i]? = some u → RelV x u) → Vals xs us
  | [], [], _, _ => .nil
  | [], _ :: _, h, _ => by simp at h
  | _ :: _, [], h, _ => by simp at h
  | x :: xs, u :: us, h, f => .cons (f 0 x u rfl rfl) (vals_of (by simpa using h) fun i y v hy hv => f (i + 1) y v (by simpa using hy) (by simpa using hv))
end
end L2
namespace L2
open PySem
theorem se_Tuple {es : List Expr} {env : Env} {elts : List Expr} {k : Nat} {pos : Pos} : starEach (.Tuple elts k pos :: es) env = (false, eval (.Tuple elts k pos) env) :: starEach es env := rfl
theorem se_List {es : List Expr} {env : Env} {elts : List Expr} {pos : Pos} : starEach (.List elts pos :: es) env = (false, eval (.List elts pos) env) :: starEach es env := rfl
theorem se_Name {es : List Expr} {env : Env} {id : Str} {pos : Pos} : starEach (.Name id pos :: es) env = (false, eval (.Name id pos) env) :: starEach es env := rfl
end L2
namespace L3
open PySem
open Sem (wp)
section
variable {prog : Program} {w : World} {A : Around} {E : Value → Shared → Prop} {s : Shared}
end
end L3
namespace L3
open PySem
section
variable {prog : Program} {w : World} {A : Around} {E : Value → Shared → Prop} {s : Shared}
end
end L3
namespace L2
open PySem PySem.Spec PyProof.Rows
end L2
namespace L2
open PySem PySem.Spec PyProof.Rows
end L2
namespace L2
open PySem PySem.Spec PyProof.Rows
section
variable {X : Cx} {tg : Expr}
end
end L2
namespace L2
open PySem PySem.Spec PyProof.Rows
noncomputable abbrev tJoin (t : TS) : TS := fun D σ H => ∃ J : St → Hp → Prop, (∀ σ' H', J σ' H' → D.nx σ' H') ∧ t { D with nx := J } σ H
theorem ps_joinN {X : Cx} {st : Stmt} {t : TS} (h : PS X st t) : PS X st (tJoin t) := ps_join h
end L2
namespace L2
open PySem PySem.Spec PyProof.Rows
section
variable {X : Cx}
end
end L2
namespace L2
open PySem PySem.Spec PyProof.Rows
end L2
namespace L2
open PySem PySem.Spec PyProof.Rows
section
variable {X : Cx}
end
end L2
namespace L2
open PySem PySem.Spec PyProof.Rows
end L2
namespace L2
open PySem PySem.Spec PyProof.Rows
theorem comp_of {J : It} {n : Nat} {g : TG} {tt : TT} {te : TE} {σ : St} {H : Hp} {Q : VK} (Pv : Nat → List V → St → Hp → Prop) (h0 : Pv 0 [] σ H) (hl : ∀ i acc σ H, i ≤ n → Pv i acc σ H → acc.length ≤ 1000000)
    (hgo : ∀ i acc σ H, i < n → Pv i acc σ H → J.go i H) (hstop : ∀ acc σ H, Pv n acc σ H → J.stop n H)
    (hs : ∀ i acc σ H, i < n → Pv i acc σ H → ∀ x H2, J.yld i H x H2 → g x σ H2 fun σ2 H3 => tt σ2 H3 fun b H4 => if b = true then te σ2 H4 fun y H5 => Pv (i + 1) (acc ++ [y]) σ2 H5 else Pv (i + 1) acc σ2 H4)
    (hd : ∀ acc σ H D, Pv n acc σ H → H D = none → Q (.ref D) (upd H D (.lst acc))) : compW J g tt te σ H Q := by
  refine ⟨fun i m acc σ H => m = n - i ∧ i ≤ n ∧ Pv i acc σ H, ⟨n, by simp, Nat.zero_le _, h0⟩, ?_⟩
  rintro i m acc σ H ⟨rfl, hi, p⟩
  have hz := hl i acc σ H hi p
  by_cases hlt : i < n
  · exact .inr ⟨hgo i acc σ H hlt p, smallL hz, Pv (i + 1), fun acc' σ' H' p' => ⟨n - (i + 1), by omega, rfl, hlt, p'⟩, hs i acc σ H hlt p⟩
  · have e : i = n := by omega
    subst e
    exact .inl ⟨hstop acc σ H p, small hz, fun D fD => hd acc σ H D p fD⟩
theorem comp_range {lo : Int} {n : Nat} {g : TG} {tt : TT} {te : TE} {σ : St} {H : Hp} {Q : VK} (Pv : Nat → List V → St → Hp → Prop) (h0 : Pv 0 [] σ H) (hl : ∀ i acc σ H, i ≤ n → Pv i acc σ H → acc.length ≤ 1000000)
    (hs : ∀ i acc σ H, i < n → Pv i acc σ H → g (.int (lo + i)) σ H fun σ2 H3 => tt σ2 H3 fun b H4 => if b = true then te σ2 H4 fun y H5 => Pv (i + 1) (acc ++ [y]) σ2 H5 else Pv (i + 1) acc σ2 H4)
    (hd : ∀ acc σ H D, Pv n acc σ H → H D = none → Q (.ref D) (upd H D (.lst acc))) : compW (Itr lo n) g tt te σ H Q :=
  comp_of Pv h0 hl (fun i acc σ H h _ => h) (fun acc σ H _ => Nat.le_refl _) (fun i acc σ H h p x H2 y => by
    obtain ⟨e, y⟩ := y
    subst e y
    exact hs i acc σ _ h p) hd
theorem comp_list {K : PySem.W.Frag} {a : Addr} {xs : List V} {g : TG} {tt : TT} {te : TE} {σ : St} {H : Hp} {Q : VK} (Pv : Nat → List V → St → Hp → Prop) (h0 : Pv 0 [] σ H) (hl : ∀ i acc σ H, i ≤ xs.length → Pv i acc σ H → acc.length ≤ 1000000)
    (ha : ∀ i acc σ H, i ≤ xs.length → Pv i acc σ H → SqL K H a xs)
    (hs : ∀ i x acc σ H, xs[i]? = some x → Pv i acc σ H → g x σ H fun σ2 H3 => tt σ2 H3 fun b H4 => if b = true then te σ2 H4 fun y H5 => Pv (i + 1) (acc ++ [y]) σ2 H5 else Pv (i + 1) acc σ2 H4)
    (hd : ∀ acc σ H D, Pv xs.length acc σ H → H D = none → Q (.ref D) (upd H D (.lst acc))) : compW (Itl K a) g tt te σ H Q :=
  comp_of Pv h0 hl (fun i acc σ H h p => ⟨xs, xs[i], ha i acc σ H (Nat.le_of_lt h) p, List.getElem?_eq_getElem h⟩) (fun acc σ H p => ⟨xs, ha _ acc σ H (Nat.le_refl _) p, Nat.le_refl _⟩) (fun i acc σ H h p x H2 y => by
    obtain ⟨e, y⟩ := y
    subst e
    exact hs i x acc σ _ (y xs (ha i acc σ _ (Nat.le_of_lt h) p)) p) hd
theorem for_of {J : It} {n : Nat} {g : TG} {tb : TS} {D : Ends} {σ : St} {H : Hp} (Pv : Nat → St → Hp → Prop) (h0 : Pv 0 σ H) (hgo : ∀ i σ H, i < n → Pv i σ H → J.go i H) (hstop : ∀ σ H, Pv n σ H → J.stop n H)
    (hs : ∀ i σ H, i < n → Pv i σ H → ∀ x H2, J.yld i H x H2 → g x σ H2 fun σ2 H3 => tb { D with nx := Pv (i + 1), ct := Pv (i + 1), bk := D.nx } σ2 H3) (hd : ∀ σ H, Pv n σ H → D.nx σ H) :
    ∃ W : Nat → Nat → St → Hp → Prop, (∃ m, W 0 m σ H) ∧ ∀ i m σ H, W i m σ H →
      (J.stop i H ∧ D.nx σ H) ∨ (J.go i H ∧ ∃ N : St → Hp → Prop, (∀ σ' H', N σ' H' → ∃ m', m' < m ∧ W (i + 1) m' σ' H') ∧ ∀ x H', J.yld i H x H' → g x σ H' fun σ2 H2 => tb { D with nx := N, ct := N, bk := D.nx } σ2 H2) := by
  refine ⟨fun i m σ H => m = n - i ∧ i ≤ n ∧ Pv i σ H, ⟨n, by simp, Nat.zero_le _, h0⟩, ?_⟩
  rintro i m σ H ⟨rfl, hi, p⟩
  by_cases hlt : i < n
  · exact .inr ⟨hgo i σ H hlt p, Pv (i + 1), fun σ' H' p' => ⟨n - (i + 1), by omega, rfl, hlt, p'⟩, hs i σ H hlt p⟩
  · have e : i = n := by omega
    subst e
    exact .inl ⟨hstop σ H p, hd σ H p⟩
end L2
namespace L2
open PySem PySem.Spec PyProof.Rows
section
variable {X : Cx}
end
end L2
namespace PySem
open PySem.W PyProof.Rows
section
variable {prog : Program} {w : World} {A : Around} {E : Value → Shared → Prop} {s : Shared} {T : String} {r d : Addr} {n : Nat} {P : Nat → Value → Prop} {OK : Heap → Prop}
end
end PySem
namespace L2
open PySem PySem.Spec PyProof.Rows PySem.W
section
variable {X : Cx}
end
end L2
namespace L2
open PySem PySem.Spec PyProof.Rows
section
variable {X : Cx}
end
end L2
namespace L2
open PySem PySem.Spec PyProof.Rows
end L2
namespace L2
open PySem PySem.Spec PyProof.Rows
section
variable {X : Cx}
end
end L2
namespace L2
open PySem PySem.Spec PyProof.Rows
end L2
set_option maxRecDepth 100000
namespace L2
open PySem PySem.Spec PyProof.Rows
noncomputable abbrev Cx.tr (X : Cx) (ps : List (Addr × Obj)) (Kx : Value → Shared → Prop) : Cx := { X with pn := X.pn ++ ps, xe := fun e s' => wpAny (model X.prog X.w) X.A (noteFrame e X.env) (fun _ s'' => Kx e s'') X.xe s' }
section
variable {X : Cx} {ps pins : List (Addr × Obj)} {Kx : Value → Shared → Prop} {σ : St} {H : Hp} {s : Shared} {Ex : St → XK}
theorem Inv.tr (I : Inv X ps σ H s) (Kx : Value → Shared → Prop) : Inv (X.tr ps Kx) [] σ H s :=
  ⟨⟨I.ok.mod, I.ok.kind, I.ok.glob, I.ok.blt, I.ok.above, I.ok.inj, I.ok.has, I.ok.cab, I.ok.hd, I.ok.frames, I.ok.stk, I.ok.exf, I.ok.bs, I.ok.bsz, I.ok.noex, I.ok.exfs, I.ok.funs, I.ok.frf⟩, I.os, I.bare, I.base, I.loc, I.cell, I.free, I.freeC, fun p hp => I.pin p (by
    have : p ∈ (X.pn ++ ps) ++ [] := hp
    rwa [List.append_nil] at this), I.hok, I.len⟩
theorem Inv.untr (I : Inv (X.tr ps Kx) pins σ H s) : Inv X ps σ H s :=
  ⟨⟨I.ok.mod, I.ok.kind, I.ok.glob, I.ok.blt, I.ok.above, I.ok.inj, I.ok.has, I.ok.cab, I.ok.hd, I.ok.frames, I.ok.stk, I.ok.exf, I.ok.bs, I.ok.bsz, I.ok.noex, I.ok.exfs, I.ok.funs, I.ok.frf⟩, I.os, I.bare, I.base, I.loc, I.cell, I.free, I.freeC, fun p hp => I.pin p (List.mem_append_left _ hp), I.hok, I.len⟩
theorem SP.untr {D : Ends} {f : Flow} {s' : Shared} (h : SP (X.tr ps Kx) pins D f s') : SP X ps D f s' := by
  cases f with
  | next => obtain ⟨σ', H', I, q⟩ := h; exact ⟨σ', H', I.untr, q⟩
  | brk => obtain ⟨σ', H', I, q⟩ := h; exact ⟨σ', H', I.untr, q⟩
  | cont => obtain ⟨σ', H', I, q⟩ := h; exact ⟨σ', H', I.untr, q⟩
  | ret u => obtain ⟨v, σ', H', I, r, q⟩ := h; exact ⟨v, σ', H', I.untr, r, q⟩
noncomputable def Pas (X : Cx) (ps : List (Addr × Obj)) (Kx : Value → Shared → Prop) (Ex : St → XK) : Prop := ∀ (σ' : St) (H1 : Hp) (s1 : Shared) (e : Value) (s' : Shared), Inv X ps σ' H1 s1 → CXR X.prog X.w X.stack H1 s1 (Ex σ') e s' → (X.tr ps Kx).xe e s'
theorem run_fnT {k : Nat} {f : Addr} {fd : FuncData} {qs : List Str} {sp : Sp} {Q : VK} {us : List Value} {vs : List V} (F : FnOk X.prog X.w X.K X.mg X.base (CXR X.prog X.w) k f fd qs sp) (hr : Room k X.A) (hb : Binds X.K fd qs []) (hp : Pas X ps Kx Ex)
    (I : Inv (X.tr ps Kx) pins σ H s) (r : Vals vs us) (h : sp vs H Q (Ex σ)) : wpAny (model X.prog X.w) X.A (call (.ref f) us) (EP (X.tr ps Kx) pins σ Q) (X.tr ps Kx).xe s :=
  wpAny_mono (run_fnx (X := X.tr ps Kx) F hr hb I r h) (fun _ _ z => z) fun e s' ⟨H1, s1, I1, c⟩ => hp σ H1 s1 e s' I1.untr c
end
section
variable {X : Cx} {ps : List (Addr × Obj)} {Kx : Value → Shared → Prop} {Ex : St → XK} {k k' : Nat} {f C : Addr} {fd : FuncData} {qs : List Str} {sp : Sp} {m x : Str} {p pos apos : Pos} {o e : Expr} {es : List Expr} {ta : TE} {t : TA}
theorem pe_fnT (hp : Pas X ps Kx Ex) (F : FnX X.prog X.w X.K X.mg X.base x f fd qs k sp) (hr : Room k' X.A) (ha : PA (X.tr ps Kx) (e :: es) t) (hk : k ≤ k' := by first | decide | exact Nat.le_refl _) (hg : Gl X x := by rfl) (hdb : (x == ("__debug__" : Str)) = false := by decide)
    (he : starEach (e :: es) X.env = (false, eval e X.env) :: starEach es X.env := by rfl) (hpl : (backTo pos (starEach es X.env)).any (·.1) = false := by rfl) :
    PE (X.tr ps Kx) (.Call (.Name x p) (e :: es) [] pos) (fun σ H Q => t σ H fun vs H1 => sp vs H1 Q (Ex σ)) := by
  intro pins s σ H Q I h
  refine wpAny_Call_Name_kw (ld_glob I hg F.mg ?_ hdb)
  refine PySem.W.callWith_K (h₀ := X.base) I.ok.mod.kin F.kp (thn (ha pos pins s σ H _ I h) fun us s1 ⟨vs, H1, I1, r, q⟩ => ⟨I1.kIn, ?_⟩) he hpl
  exact run_fnT F.ok (hr.mono hk) F.bd hp I1 r q
theorem pe_methT {pl : Sem Bool} (hp : Pas X ps Kx Ex) (he : PE (X.tr ps Kx) o ta) (c : Cls X.K C) (hm : Meth X.K C m f) (F : FnOk X.prog X.w X.K X.mg X.base (CXR X.prog X.w) k f fd qs sp) (hr : Room k X.A) (hb : Binds X.K fd qs []) (ha : PA (X.tr ps Kx) (e :: es) t)
    (hst : starEach (e :: es) X.env = (false, eval e X.env) :: starEach es X.env := by rfl) (hpl : (backTo pos (starEach es X.env)).any (·.1) = false := by rfl)
    (ht : eval (.Call (.Attribute o m apos) (e :: es) [] pos) X.env = (do
      let ov ← eval o X.env
      standAt apos.atName
      let (f, first) ← holding [ov] (getMethod ov m pl)
      callWith pos f first (backTo pos (starEach (e :: es) X.env)) (backToKw pos (keywordEach [] X.env))) := by rfl) :
    PE (X.tr ps Kx) (.Call (.Attribute o m apos) (e :: es) [] pos) (fun σ H Q => ta σ H fun x H1 => ∃ a dx fs, x = .ref a ∧ H1 a = some (.ins C dx fs) ∧ fs.lookup m = none ∧ t σ H1 fun vs H2 => sp (x :: vs) H2 Q (Ex σ)) := by
  intro pins s σ H Q I h
  refine PySem.W.methodCall_KW (pl := pl) (thn (he pins s σ H _ I h) fun u s1 ⟨x, H1, I1, rx, a, dx, fs, ex, ea, l, q⟩ => ?_) ht
  subst ex
  obtain rfl : u = Value.ref a := rx
  refine getmeth_ok I1 ea c hm l ?_
  refine PySem.W.callWith_K (first := [.ref a]) (h₀ := X.base) I.ok.mod.kin hm.kp (thn (ha pos pins s1 σ H1 _ I1 q) fun us s2 ⟨vs, H2, I2, r, q2⟩ => ⟨I2.kIn, ?_⟩) hst hpl
  exact run_fnT (us := .ref a :: us) (vs := .ref a :: vs) F hr hb hp I2 (.cons rfl r) q2
theorem pe_meth0T {pl : Sem Bool} (hp : Pas X ps Kx Ex) (he : PE (X.tr ps Kx) o ta) (c : Cls X.K C) (hm : Meth X.K C m f) (F : FnOk X.prog X.w X.K X.mg X.base (CXR X.prog X.w) k f fd qs sp) (hr : Room k X.A) (hb : Binds X.K fd qs [])
    (ht : eval (.Call (.Attribute o m apos) [] [] pos) X.env = (do
      let ov ← eval o X.env
      standAt apos.atName
      let (f, first) ← holding [ov] (getMethod ov m pl)
      callWith pos f first (backTo pos (starEach [] X.env)) (backToKw pos (keywordEach [] X.env))) := by rfl) :
    PE (X.tr ps Kx) (.Call (.Attribute o m apos) [] [] pos) (fun σ H Q => ta σ H fun x H1 => ∃ a dx fs, x = .ref a ∧ H1 a = some (.ins C dx fs) ∧ fs.lookup m = none ∧ sp [x] H1 Q (Ex σ)) := by
  intro pins s σ H Q I h
  refine PySem.W.methodCall_KW (pl := pl) (thn (he pins s σ H _ I h) fun u s1 ⟨x, H1, I1, rx, a, dx, fs, ex, ea, l, q⟩ => ?_) ht
  subst ex
  obtain rfl : u = Value.ref a := rx
  refine getmeth_ok I1 ea c hm l ?_
  exact PySem.W.callWith_K0 (first := [.ref a]) I1.kIn hm.kp (run_fnT (us := [.ref a]) (vs := [.ref a]) F hr hb hp I1 (.cons rfl .nil) q)
end
noncomputable def takeH (K : PySem.W.Frag) (mg : Str → Option Value) (l : List (Addr × TS)) (D : Ends) : St → XK := fun σ' c _ H1 => ∃ x C mro t, c = .ref C ∧ Exc K mg x C mro ∧ pickH mro l = some t ∧ t D σ' H1
noncomputable def tTryT (K : PySem.W.Frag) (mg : Str → Option Value) (te : List (Addr × Obj) → (Value → Shared → Prop) → (St → XK) → TS) (l : List (Addr × TS)) : TS := fun D σ H => ∀ ps Kx, te ps Kx (takeH K mg l D) D σ H
theorem ps_tryT {X : Cx} {sts : List Stmt} {te : List (Addr × Obj) → (Value → Shared → Prop) → (St → XK) → TS} {h₀ : ExceptHandler} {hs : List ExceptHandler} {l : List (Addr × TS)} {pos : Pos} (he : ∀ ps Kx Ex, Pas X ps Kx Ex → PSs (X.tr ps Kx) sts (te ps Kx Ex)) (hh : Hs X (h₀ :: hs) l) (hf : X.env.frame = some X.env.locals) (hst : X.stack = X.env :: X.outer)
    (hpa : ∀ v, PassesOwnAt (model X.prog X.w) (X.A.mark v) X.A X.env X.xe) : PS X (.Try sts (h₀ :: hs) [] [] pos) (tTryT X.K X.mg te l) := by
  intro pins s σ H D I h
  refine wpAny_Try_except ?_
  have pas : Pas X pins (fun e s₂ => wpAny (model X.prog X.w) X.A (setFlight e none) (fun _ s₃ => wpAny (model X.prog X.w) X.A (handleBy e X.env (h₀ :: hs)) (SP X pins D) X.xe s₃) X.xe s₂) (takeH X.K X.mg l D) := by
    intro σ' H1 s2 ev s1 I1 q
    obtain ⟨xa, C, c, B, H', rfl, F, nmx, C', mro, t, ec, O, pk, qt⟩ := q
    cases ec
    have F' : Flown X.prog X.w (X.env :: X.outer) H1 s2 xa C c B H' s1 := by
      have : Flown X.prog X.w X.stack H1 s2 xa C c B H' s1 := F
      rw [hst] at this; exact this
    have hfr : X.A.frames = some (X.env :: X.outer) := by rw [← hst]; exact I.ok.frames
    have I1' : Inv X pins σ' H1 s2 := I1
    refine fl_note hfr hf F'.fly fun h4 held4 up4 => ?_
    refine fl_land (s := { s1 with heap := h4 }) held4 fun h5 fl5 up5' => ?_
    have up5 := up4.trans up5'
    have inv : ∀ {h : Heap}, B.StaysIn h → s1.heap.UpToSlots h → Inv X pins σ' H' { s1 with heap := h } := fun {h} st up => by
      have u := F.un st up
      exact I1'.call' (s' := { s1 with heap := h }) (ch := []) F.os u (F.hok.kept st) F.bare fun b z => absurd z (by simp)
    have ok := I.ok
    have main : ∀ {hs' : List ExceptHandler} {l' : List (Addr × TS)}, Hs X hs' l' → pickH mro l' = some t → wpAny (model X.prog X.w) X.A (handleBy (.ref xa) X.env hs') (SP X pins D) X.xe { s1 with heap := h5 } := by
      intro hs' l' hH
      induction hH with
      | nil => intro z; cases z
      | @cons nm2 C2 mro2 b₀ suite p2 np rest ts l2 O2 hg hdb hsu r ih =>
        intro z
        have I5 : Inv X pins σ' H' { s1 with heap := h5 } := inv fl5.1 up5
        refine wpAny_handleBy_cons (codeAny_handlers_test ?_) (by intro q; cases q)
        have Ic : Inv (X.caught xa []) pins σ' H' { s1 with heap := h5 } := I5.caught fun p hp => absurd hp (by simp)
        refine wpAny_mono (E := fun _ _ => False) (ld_glob Ic hg O2.bound (Q := fun c s' => c = .ref C2 ∧ s' = { s1 with heap := h5 }) ⟨rfl, rfl⟩ hdb) (fun c s' hc => ?_) fun _ _ z => z.elim
        obtain ⟨rfl, rfl⟩ := hc
        obtain ⟨bm, N1, nm, q1, bs, hdct, sn, sub, ab, col, dd, k0, k1, k2, k3, k5, mN, hC, _, _, T, em⟩ := O.obj I5.kIn
        obtain ⟨bm', N1', nm', q1', bs', hdct', sn', sub', ab', col', dd', l0, l1, l2', l3, l5, mN', hC', _, _, T', em'⟩ := O2.obj I5.kIn
        obtain ⟨ob, vs5, _, _, _, hob, hobc, _⟩ := fl5.2.2.2
        refine exc_matches (oe := ob) hC hC' hob hobc (T'.hasType PySem.F.excBase_ValueError.hasBase) ?_
        rw [← em]
        cases hb : mro.contains (.ref C2) with
        | true =>
          have z' : (if mro.contains (.ref C2) = true then some ts else pickH mro l2) = some t := z
          rw [hb, if_pos rfl] at z'
          cases z'
          refine codeAny_handlers_suite ?_
          refine fl_land (s := { s1 with heap := h5 }) fl5 fun h6 fl6 up6 => ?_
          have I6 : Inv X pins σ' H' { s1 with heap := h6 } := inv fl6.1 (up5.trans up6)
          obtain ⟨oe, vs, _, _, _, g1, g2, g3, g4, _⟩ := fl6.2.2.2
          obtain ⟨n, chn⟩ := F.ch
          have chn6 : Chain h6 (fun a => H' a = none) (n + 1) (.ref xa) := .inr ⟨xa, oe, vs, c, rfl, g1, F.new, g3, g4, chn.imp fun a o ws na ea _ => ⟨fl6.1 a o ea, na⟩⟩
          obtain ⟨ps, pk1, pk2⟩ := chn6.pins
          have Ic6 : Inv (X.caught xa ps) pins σ' H' { s1 with heap := h6 } := I6.caught fun p hp => by
            obtain ⟨a1, a2, ws, a3⟩ := pk1 p hp
            refine ⟨a1, a2, fun y => ?_, fun y => ?_, fun v y => ?_⟩
            · obtain ⟨m, ⟨o', es, ep, ho', hd', _⟩, _⟩ := I6.loc
              rw [y] at a1
              have a1' : h6.get? X.env.locals = some o' := ho'
              rw [a1'] at a1; cases a1
              rw [hd'] at a3; cases a3
            · obtain ⟨_, o', ho', n'⟩ := I6.funs.mem y
              have a1' : h6.get? p.1 = some o' := ho'
              rw [a1'] at a1; cases a1
              exact n' ws a3
            · rw [a3] at y; cases y
          refine wpAny_passesOwnAt (hpa _) ?_
          exact wpAny_mono (hsu xa ps ok ⟨n, pk2⟩ pins _ σ' H' D Ic6 qt) (fun f s' q => SP.uncaught ok q) fun _ _ q => q
        | false =>
          have z' : (if mro.contains (.ref C2) = true then some ts else pickH mro l2) = some t := z
          rw [hb, if_neg Bool.false_ne_true] at z'
          exact ih z'
    exact main hh pk
  refine wpAny_mono (he pins _ _ pas [] s σ H D (I.tr _) (h _ _)) (fun f s1 q => ?_) fun _ _ q => q
  cases f with
  | next => exact wpAny_execs_nil q.untr
  | ret v => exact SP.untr q
  | brk => exact SP.untr q
  | cont => exact SP.untr q
end L2
namespace L3
open PySem
open Sem (wp)
open AutoSeq1 (wpAny_loadPart')
noncomputable def AtQ (c : Bool) (it t : Addr) (xs : Array Value) (i : Nat) (h : Heap) : Prop := (c = true ∧ AtT it t xs i h) ∨ (c = false ∧ h.IsListIter it t i ∧ h.IsList t xs)
theorem AtQ.move {c : Bool} {it t b : Addr} {xs : Array Value} {i : Nat} {h h' : Heap} (a : AtQ c it t xs i h) (k : Heap.ExtBut b h h') (h1 : it ≠ b) (h2 : t ≠ b) : AtQ c it t xs i h' := by
  rcases a with ⟨e, a⟩ | ⟨e, a, a'⟩
  · exact .inl ⟨e, a.move k h1 h2⟩
  · exact .inr ⟨e, a.extBut k h1, a'.extBut k h2⟩
theorem AtQ.keeps {c : Bool} {it t : Addr} {xs : Array Value} {i : Nat} {h h' : Heap} (a : AtQ c it t xs i h) (k1 : ∀ o, h.get? it = some o → h'.get? it = some o) (k2 : ∀ o, h.get? t = some o → h'.get? t = some o) : AtQ c it t xs i h' := by
  rcases a with ⟨e, a⟩ | ⟨e, ⟨o, ho, r⟩, o', ho', r'⟩
  · exact .inl ⟨e, a.keeps k1 k2⟩
  · exact .inr ⟨e, ⟨o, k1 o ho, r⟩, o', k2 o' ho', r'⟩
noncomputable def ItQ (c : Bool) (it t : Addr) (i : Nat) (h : Heap) : Prop := (c = true ∧ h.IsTupleIter it t i) ∨ (c = false ∧ h.IsListIter it t i)
theorem AtQ.iter {c : Bool} {it t : Addr} {xs : Array Value} {i : Nat} {h : Heap} (a : AtQ c it t xs i h) : ItQ c it t i h := by
  rcases a with ⟨e, a⟩ | ⟨e, a, _⟩
  · exact .inl ⟨e, a.iter⟩
  · exact .inr ⟨e, a⟩
theorem ItQ.at {c : Bool} {it t : Addr} {i : Nat} {h h' : Heap} (a : ItQ c it t i h) (k : ∀ o, h.get? it = some o → h'.get? it = some o) : ItQ c it t i h' := by
  rcases a with ⟨e, o, ho, r⟩ | ⟨e, o, ho, r⟩
  · exact .inl ⟨e, o, k o ho, r⟩
  · exact .inr ⟨e, o, k o ho, r⟩
theorem ItQ.obj {c : Bool} {it t : Addr} {i : Nat} {h : Heap} (a : ItQ c it t i h) : ∃ o, h.get? it = some o ∧ ∀ v, o.data ≠ .cell v := by
  rcases a with ⟨_, o, ho, _, d⟩ | ⟨_, o, ho, _, d⟩
  · exact ⟨o, ho, fun v z => by rw [d] at z; cases z⟩
  · exact ⟨o, ho, fun v z => by rw [d] at z; cases z⟩
noncomputable def SeqQ (c : Bool) (t : Addr) (xs : Array Value) (h : Heap) : Prop := (c = true ∧ h.IsTuple t xs) ∨ (c = false ∧ h.IsList t xs)
theorem AtQ.of {c : Bool} {it t : Addr} {xs : Array Value} {i : Nat} {h : Heap} (a : ItQ c it t i h) (b : SeqQ c t xs h) : AtQ c it t xs i h := by
  rcases a with ⟨e, a⟩ | ⟨e, a⟩ <;> rcases b with ⟨e', b⟩ | ⟨e', b⟩
  · exact .inl ⟨e, a, b⟩
  · rw [e] at e'; cases e'
  · rw [e] at e'; cases e'
  · exact .inr ⟨e, a, b⟩
theorem SeqQ.lt {c : Bool} {t : Addr} {xs : Array Value} {h : Heap} (b : SeqQ c t xs h) : t < h.objs.size := by
  rcases b with ⟨_, o, ho, _⟩ | ⟨_, o, ho, _⟩ <;> exact Heap.lt_size ho
theorem SeqQ.keeps {c : Bool} {t : Addr} {xs : Array Value} {h h' : Heap} (b : SeqQ c t xs h) (k : ∀ o, h.get? t = some o → h'.get? t = some o) : SeqQ c t xs h' := by
  rcases b with ⟨e, o, ho, r⟩ | ⟨e, o, ho, r⟩
  · exact .inl ⟨e, o, k o ho, r⟩
  · exact .inr ⟨e, o, k o ho, r⟩
section
variable {prog : Program} {w : World} {A : Around} {E : Value → Shared → Prop} {s : Shared}
theorem qnext_item {c : Bool} {it t : Addr} {i : Nat} {xs : Array Value} {x : Value} {Q : Value → Shared → Prop} (a : AtQ c it t xs i s.heap) (hne : t ≠ it) (hx : xs[i]? = some x)
    (hQ : ∀ h', AtQ c it t xs (i + 1) h' → Heap.SameBut it s.heap h' → Q x { s with heap := h' }) : wpAny (model prog w) A (Builtin.SmallTypes.nextOf (.ref it)) Q E s := by
  rcases a with ⟨e, a⟩ | ⟨e, a, a'⟩
  · exact tnext_item a hne hx fun h' y k => hQ h' (.inl ⟨e, y⟩) k
  · exact wpAny_nextOf_list_item a a' hx fun h' y k => hQ h' (.inr ⟨e, y, a'.extBut k.extBut hne⟩) k
theorem qnext_end {c : Bool} {it t : Addr} {i : Nat} {xs : Array Value} {Q : Value → Shared → Prop} (hh : A.handled = none) (a : AtQ c it t xs i s.heap) (hx : xs[i]? = none)
    (hE : ∀ h' e, Heap.ExtBut it s.heap h' → (∃ o, h'.get? e = some o ∧ o.cls = .type "StopIteration") → E (.ref e) { s with heap := h' }) : wpAny (model prog w) A (Builtin.SmallTypes.nextOf (.ref it)) Q E s := by
  rcases a with ⟨e, a⟩ | ⟨e, a, a'⟩
  · exact tnext_end hh a hx hE
  · exact wpAny_nextOf_list_end hh a a' hx hE
structure ZipQ (c1 c2 : Bool) (z TI TO i1 i2 t1 t2 : Addr) (xs ys : Array Value) (i : Nat) (f0 : Value) (h : Heap) : Prop where
  z : IsZip h z TI TO f0
  TI : IsPair h TI (.ref i1) (.ref i2)
  TO : ∃ a b, IsPair h TO a b
  one : AtQ c1 i1 t1 xs i h
  two : AtQ c2 i2 t2 ys i h
theorem zipQ_next {c1 c2 : Bool} {z TI TO i1 i2 t1 t2 : Addr} {xs ys : Array Value} {i : Nat} {x y : Value} {Q : Value → Shared → Prop} (D : ZipApart z TI TO i1 i2 t1 t2) (Z : ZipQ c1 c2 z TI TO i1 i2 t1 t2 xs ys i .none s.heap) (hx : xs[i]? = some x) (hy : ys[i]? = some y)
    (hQ : ∀ h', ZipQ c1 c2 z TI TO i1 i2 t1 t2 xs ys (i + 1) (rawInt s.heap.objs.size) h' → IsPair h' s.heap.objs.size x y → h'.objs.size = s.heap.objs.size + 1 →
      (∀ c o, c ≠ z → c ≠ TO → c ≠ i1 → c ≠ i2 → s.heap.get? c = some o → h'.get? c = some o) → Q (.ref s.heap.objs.size) { s with heap := h' }) :
    wpAny (model prog w) A (Builtin.«zip.__next__» ⟨[.ref z], []⟩) (fun fin s' => ∃ v, fin = .done (.ret v) ∧ Q v s') E s := by
  obtain ⟨hz, hTI, ⟨a, b, hTO⟩, h1, h2⟩ := Z
  show wpAny _ _ (field (.ref z) 2 >>= _) _ _ _
  refine wpAny_bind (wpAny_field hz rfl (x := .bool false) rfl ?_)
  show wpAny _ _ (field (.ref z) 3 >>= _) _ _ _
  refine wpAny_bind (wpAny_field hz rfl (x := .ref TI) rfl ?_)
  refine wpAny_bind (wpAny_seqItems hTI rfl ?_)
  show wpAny _ _ (Builtin.SmallTypes.ownedTupleIsFree (.ref z) >>= _) _ _ _
  refine wpAny_bind ?_
  unfold Builtin.SmallTypes.ownedTupleIsFree
  refine wpAny_bind (wpAny_field hz rfl (x := .none) rfl (wpAny_pure ?_))
  simp only [if_true]
  refine wpAny_bind (wpAny_rule (wpAny_bind (wpAny_field hz rfl (x := .ref TO) rfl (wpAny_bind (wpAny_setField_rec hz (by simp) fun g1 z1 k1 => ?_)))))
  replace z1 : IsZip g1 z TI TO .ellipsis := z1
  refine wpAny_bind ?_
  simp only [List.forIn_cons, List.forIn_nil, List.zipIdx_cons, List.zipIdx_nil]
  refine wpAny_bind (wpAny_bind (wpAny_onRaise ?_))
  show wpAny _ _ (Builtin.SmallTypes.nextOf (.ref i1) >>= _) _ _ _
  refine wpAny_bind (qnext_item (h1.move k1.extBut D.i1z D.l1z) D.l1i1 hx fun g2 p2 k2 => wpAny_pure ?_)
  have O2 : IsPair g2 TO a b := k2.extBut _ _ D.TOi1 (k1.extBut _ _ D.TOz hTO)
  refine wpAny_bind (wpAny_seqItems O2 rfl (wpAny_bind (wpAny_updateSeq_pair O2 fun g3 O3 k3 => ?_)))
  replace O3 : IsPair g3 TO x b := O3
  refine wpAny_bind (wpAny_letGo (wpAny_pure (wpAny_bind (wpAny_bind (wpAny_onRaise ?_)))))
  show wpAny _ _ (Builtin.SmallTypes.nextOf (.ref i2) >>= _) _ _ _
  refine wpAny_bind (qnext_item (((h2.move k1.extBut D.i2z D.l2z).move k2.extBut D.i12.symm D.l2i1).move k3.extBut D.TOi2.symm D.l2TO) D.l2i2 hy fun g4 p4 k4 => wpAny_pure ?_)
  have O4 : IsPair g4 TO x b := k4.extBut _ _ D.TOi2 O3
  refine wpAny_bind (wpAny_seqItems O4 rfl (wpAny_bind (wpAny_updateSeq_pair O4 fun g5 O5 k5 => ?_)))
  replace O5 : IsPair g5 TO x y := O5
  refine wpAny_bind (wpAny_letGo (wpAny_pure (wpAny_pure (wpAny_bind (wpAny_seqItems O5 rfl (wpAny_bind (wpAny_newTuple ?_)))))))
  have sz : g5.objs.size = s.heap.objs.size := by rw [k5.1, k4.1, k3.1, k2.1, k1.1]
  have z5 : IsZip g5 z TI TO .ellipsis := k5.extBut _ _ D.TOz.symm (k4.extBut _ _ D.i2z.symm (k3.extBut _ _ D.TOz.symm (k2.extBut _ _ D.i1z.symm z1)))
  have kp5 : ∀ c o, c ≠ z → c ≠ TO → c ≠ i1 → c ≠ i2 → s.heap.get? c = some o → g5.get? c = some o := fun c o n1 n2 n3 n4 e => k5.extBut _ _ n2 (k4.extBut _ _ n4 (k3.extBut _ _ n2 (k2.extBut _ _ n3 (k1.extBut _ _ n1 e))))
  have a5 : AtQ c1 i1 t1 xs (i + 1) g5 := ((p2.move k3.extBut D.TOi1.symm D.l1TO).move k4.extBut D.i12 D.l1i2).move k5.extBut D.TOi1.symm D.l1TO
  have b5 : AtQ c2 i2 t2 ys (i + 1) g5 := p4.move k5.extBut D.TOi2.symm D.l2TO
  have zlt : z < g5.objs.size := Heap.lt_size z5
  show wpAny _ _ (Builtin.SmallTypes.ownedTupleHandOut (.ref z) (.ref g5.objs.size) >>= _) _ _ _
  refine wpAny_bind ?_
  unfold Builtin.SmallTypes.ownedTupleHandOut
  have z6 : IsZip (g5.push { cls := .type "tuple", data := .seq #[x, y] }) z TI TO .ellipsis := Heap.get?_push_of_some _ z5
  refine wpAny_bind (wpAny_setField_rec z6 (by simp) fun g7 z7 k7 => ?_)
  replace z7 : IsZip g7 z TI TO (rawInt g5.objs.size) := z7
  refine wpAny_setField_rec z7 (by simp) fun g8 z8 k8 => ?_
  replace z8 : IsZip g8 z TI TO (rawInt g5.objs.size) := z8
  have up : ∀ c o, c ≠ z → g5.get? c = some o → g8.get? c = some o := fun c o n1 e => k8.extBut _ _ n1 (k7.extBut _ _ n1 (Heap.get?_push_of_some _ e))
  have T8 : IsPair g8 g5.objs.size x y := k8.extBut _ _ (Nat.ne_of_gt zlt) (k7.extBut _ _ (Nat.ne_of_gt zlt) (Heap.get?_push_size _ rfl))
  have s8 : g8.objs.size = g5.objs.size + 1 := by rw [k8.1, k7.1, Heap.size_push]
  rw [sz] at z8 T8 s8
  refine wpAny_pure ⟨_, rfl, ?_⟩
  show Q (.ref g5.objs.size) _
  rw [sz]
  exact hQ g8 ⟨z8, up _ _ D.TIz (kp5 _ _ D.TIz D.TITO D.TIi1 D.TIi2 hTI), ⟨x, y, up _ _ D.TOz O5⟩, a5.keeps (fun o q => up _ o D.i1z q) (fun o q => up _ o D.l1z q), b5.keeps (fun o q => up _ o D.i2z q) fun o q => up _ o D.l2z q⟩ T8 s8
    fun c o n1 n2 n3 n4 e => up c o n1 (kp5 c o n1 n2 n3 n4 e)
theorem zipQ_stop {c1 c2 : Bool} {z TI TO i1 i2 t1 t2 : Addr} {xs ys : Array Value} {i : Nat} {Q : Fin → Shared → Prop} (hh : A.handled = none) (D : ZipApart z TI TO i1 i2 t1 t2) (Z : ZipQ c1 c2 z TI TO i1 i2 t1 t2 xs ys i .none s.heap) (hend : xs[i]? = none ∨ ys[i]? = none)
    (hE : ∀ h' e, (∀ c o, c ≠ z → c ≠ TO → c ≠ i1 → c ≠ i2 → s.heap.get? c = some o → h'.get? c = some o) → (∃ o, h'.get? e = some o ∧ o.cls = .type "StopIteration") → E (.ref e) { s with heap := h' }) :
    wpAny (model prog w) A (Builtin.«zip.__next__» ⟨[.ref z], []⟩) Q E s := by
  obtain ⟨hz, hTI, ⟨a, b, hTO⟩, h1, h2⟩ := Z
  show wpAny _ _ (field (.ref z) 2 >>= _) _ _ _
  refine wpAny_bind (wpAny_field hz rfl (x := .bool false) rfl ?_)
  show wpAny _ _ (field (.ref z) 3 >>= _) _ _ _
  refine wpAny_bind (wpAny_field hz rfl (x := .ref TI) rfl ?_)
  refine wpAny_bind (wpAny_seqItems hTI rfl ?_)
  show wpAny _ _ (Builtin.SmallTypes.ownedTupleIsFree (.ref z) >>= _) _ _ _
  refine wpAny_bind ?_
  unfold Builtin.SmallTypes.ownedTupleIsFree
  refine wpAny_bind (wpAny_field hz rfl (x := .none) rfl (wpAny_pure ?_))
  simp only [if_true]
  refine wpAny_bind (wpAny_rule (wpAny_bind (wpAny_field hz rfl (x := .ref TO) rfl (wpAny_bind (wpAny_setField_rec hz (by simp) fun g1 z1 k1 => ?_)))))
  replace z1 : IsZip g1 z TI TO .ellipsis := z1
  refine wpAny_bind ?_
  simp only [List.forIn_cons, List.forIn_nil, List.zipIdx_cons, List.zipIdx_nil]
  refine wpAny_bind (wpAny_bind (wpAny_onRaise ?_))
  show wpAny _ _ (Builtin.SmallTypes.nextOf (.ref i1) >>= _) _ _ _
  cases hx : xs[i]? with
  | none =>
    refine wpAny_bind (qnext_end hh (h1.move k1.extBut D.i1z D.l1z) hx fun g2 e k2 he => ?_)
    obtain ⟨oe, hoe, hce⟩ := he
    have z2 : IsZip g2 z TI TO .ellipsis := k2 _ _ D.i1z.symm z1
    have hez : e ≠ z := fun q => by subst q; rw [z2] at hoe; cases hoe; simp at hce
    exact wpAny_setField_rec z2 (by simp) fun g3 _ k3 => hE g3 e (fun c o n1 _ n3 _ q => k3.extBut _ _ n1 (k2 _ _ n3 (k1.extBut _ _ n1 q))) ⟨oe, k3.extBut _ _ hez hoe, hce⟩
  | some x =>
    have hy : ys[i]? = none := by rcases hend with q | q; rw [hx] at q; cases q; exact q
    refine wpAny_bind (qnext_item (h1.move k1.extBut D.i1z D.l1z) D.l1i1 hx fun g2 p2 k2 => wpAny_pure ?_)
    have O2 : IsPair g2 TO a b := k2.extBut _ _ D.TOi1 (k1.extBut _ _ D.TOz hTO)
    refine wpAny_bind (wpAny_seqItems O2 rfl (wpAny_bind (wpAny_updateSeq_pair O2 fun g3 O3 k3 => ?_)))
    refine wpAny_bind (wpAny_letGo (wpAny_pure (wpAny_bind (wpAny_bind (wpAny_onRaise ?_)))))
    show wpAny _ _ (Builtin.SmallTypes.nextOf (.ref i2) >>= _) _ _ _
    refine wpAny_bind (qnext_end hh (((h2.move k1.extBut D.i2z D.l2z).move k2.extBut D.i12.symm D.l2i1).move k3.extBut D.TOi2.symm D.l2TO) hy fun g4 e k4 he => ?_)
    obtain ⟨oe, hoe, hce⟩ := he
    have z4 : IsZip g4 z TI TO .ellipsis := k4 _ _ D.i2z.symm (k3.extBut _ _ D.TOz.symm (k2.extBut _ _ D.i1z.symm z1))
    have hez : e ≠ z := fun q => by subst q; rw [z4] at hoe; cases hoe; simp at hce
    exact wpAny_setField_rec z4 (by simp) fun g5 _ k5 => hE g5 e (fun c o n1 n2 n3 n4 q => k5.extBut _ _ n1 (k4 _ _ n4 (k3.extBut _ _ n2 (k2.extBut _ _ n3 (k1.extBut _ _ n1 q))))) ⟨oe, k5.extBut _ _ hez hoe, hce⟩
theorem zipQ_pyNext {c1 c2 : Bool} {z TI TO i1 i2 t1 t2 : Addr} {xs ys : Array Value} {i : Nat} {x y : Value} {Q : Option Value → Shared → Prop} (D : ZipApart z TI TO i1 i2 t1 t2) (Z : ZipQ c1 c2 z TI TO i1 i2 t1 t2 xs ys i .none s.heap) (hx : xs[i]? = some x) (hy : ys[i]? = some y)
    (hQ : ∀ h', ZipQ c1 c2 z TI TO i1 i2 t1 t2 xs ys (i + 1) (rawInt s.heap.objs.size) h' → IsPair h' s.heap.objs.size x y → h'.objs.size = s.heap.objs.size + 1 →
      (∀ c o, c ≠ z → c ≠ TO → c ≠ i1 → c ≠ i2 → s.heap.get? c = some o → h'.get? c = some o) → Q (some (.ref s.heap.objs.size)) { s with heap := h' }) : wpAny (model prog w) A (pyNext (.ref z)) Q E s := by
  have hT : s.TypeIs (.ref z) "zip" := ⟨_, Z.z, rfl⟩
  unfold pyNext
  exact wpAny_bind (wpAny_attempt (wpAny_callSpecial?_slot (name := Str.ofString "__next__") hT F.slot_zip_next (wpAny_call_entry F.slot_zip_next hT F.entry_zip_next
    (zipQ_next D Z hx hy fun h' p1 p2 p3 p4 => wpAny_pure (hQ h' p1 p2 p3 p4)) (F.args_zip_next_1 _))))
theorem zipQ_pyEnd {c1 c2 : Bool} {z TI TO i1 i2 t1 t2 : Addr} {xs ys : Array Value} {i : Nat} {Q : Option Value → Shared → Prop} (hh : A.handled = none) (D : ZipApart z TI TO i1 i2 t1 t2) (Z : ZipQ c1 c2 z TI TO i1 i2 t1 t2 xs ys i .none s.heap) (hend : xs[i]? = none ∨ ys[i]? = none)
    (hQ : ∀ h', (∀ c o, c ≠ z → c ≠ TO → c ≠ i1 → c ≠ i2 → s.heap.get? c = some o → h'.get? c = some o) → Q none { s with heap := h' }) : wpAny (model prog w) A (pyNext (.ref z)) Q E s := by
  have hT : s.TypeIs (.ref z) "zip" := ⟨_, Z.z, rfl⟩
  unfold pyNext
  refine wpAny_bind (wpAny_attempt (wpAny_callSpecial?_slot (name := Str.ofString "__next__") hT F.slot_zip_next (wpAny_call_entry F.slot_zip_next hT F.entry_zip_next
    (zipQ_stop hh D Z hend fun h' e hk he => ?_) (F.args_zip_next_1 _))))
  obtain ⟨o, ho, hc⟩ := he
  exact wpAny_bind (wpAny_isInstance (T := "StopIteration") (b := true) ⟨o, ho, hc⟩ isSubtype_stop (wpAny_pure (hQ _ hk)))
noncomputable def itObj (c : Bool) (t : Addr) : Obj := { cls := .type (if c = true then "tuple_iterator" else "list_iterator"), data := .fields #[.ref t, .int 0 0] }
theorem pyIter_q {c : Bool} {t : Addr} {xs : Array Value} {Q : Value → Shared → Prop} (b : SeqQ c t xs s.heap) (hQ : Q (.ref s.heap.objs.size) { s with heap := s.heap.push (itObj c t) }) : wpAny (model prog w) A (pyIter (.ref t)) Q E s := by
  rcases b with ⟨rfl, b⟩ | ⟨rfl, b⟩
  · exact wpAny_pyIter_tuple b hQ
  · exact wpAny_pyIter_list b hQ
theorem itObj_at {c : Bool} {t it : Addr} {h : Heap} (e : h.get? it = some (itObj c t)) : ItQ c it t 0 h := by
  cases c
  · exact .inr ⟨rfl, _, e, rfl, rfl⟩
  · exact .inl ⟨rfl, _, e, rfl, rfl⟩
noncomputable abbrev qh1 (c1 : Bool) (h : Heap) (t1 : Addr) : Heap := h.push (itObj c1 t1)
noncomputable abbrev qh2 (c1 c2 : Bool) (h : Heap) (t1 t2 : Addr) : Heap := (qh1 c1 h t1).push (itObj c2 t2)
noncomputable abbrev qh3 (c1 c2 : Bool) (h : Heap) (t1 t2 : Addr) : Heap := (qh2 c1 c2 h t1 t2).push { cls := .type "tuple", data := .seq #[.ref h.objs.size, .ref (qh1 c1 h t1).objs.size] }
noncomputable abbrev qh4 (c1 c2 : Bool) (h : Heap) (t1 t2 : Addr) : Heap := (qh3 c1 c2 h t1 t2).push { cls := .type "tuple", data := .seq #[.none, .none] }
noncomputable abbrev qh5 (c1 c2 : Bool) (h : Heap) (t1 t2 : Addr) : Heap := (qh4 c1 c2 h t1 t2).push { cls := .type "zip", data := .fields #[.none, .bool false, .bool false, .ref (qh2 c1 c2 h t1 t2).objs.size, .ref (qh3 c1 c2 h t1 t2).objs.size] }
end
theorem zipQ_new (c1 c2 : Bool) (t1 t2 : Addr) (xs ys : Array Value) :
    Meets (Builtin.«zip.__new__» ⟨[.type "zip", .ref t1, .ref t2], []⟩) (fun _ R s => SeqQ c1 t1 xs s.heap ∧ SeqQ c2 t2 ys s.heap ∧ R (.ok (.ret (.ref (qh4 c1 c2 s.heap t1 t2).objs.size))) { s with heap := qh5 c1 c2 s.heap t1 t2 }) :=
  .of_wp fun prog w A R s h => by
    obtain ⟨hp, g, d, tk, os⟩ := s; obtain ⟨ht1, ht2, h⟩ := h
    have hsub := sub_zip
    have T1 : SeqQ c1 t1 xs (Shared.heap ⟨hp, g, d, tk, os⟩) := ht1
    have T2 : SeqQ c2 t2 ys (Shared.heap ⟨hp.push (itObj c1 t1), g, d, tk, os⟩) := ht2.keeps fun o e => Heap.get?_push_of_some _ e
    wp_walk using pyIter_q T1, pyIter_q T2
    exact ⟨_, rfl, h⟩
section
variable {prog : Program} {w : World} {A : Around} {E : Value → Shared → Prop} {s : Shared}
theorem call_zipQ {c1 c2 : Bool} {t1 t2 : Addr} {xs ys : Array Value} {Q : Value → Shared → Prop} (ht1 : SeqQ c1 t1 xs s.heap) (ht2 : SeqQ c2 t2 ys s.heap)
    (h : ∀ h', ZipQ c1 c2 (s.heap.objs.size + 4) (s.heap.objs.size + 2) (s.heap.objs.size + 3) s.heap.objs.size (s.heap.objs.size + 1) t1 t2 xs ys 0 .none h' → h'.objs.size = s.heap.objs.size + 5 →
      (∀ c o, s.heap.get? c = some o → h'.get? c = some o) → Q (.ref (s.heap.objs.size + 4)) { s with heap := h' }) : wpAny (model prog w) A (call (.type "zip") [.ref t1, .ref t2]) Q E s := by
  refine callType_new F.called_zip (by decide) (F.typeCall_zip_2 _ _) (F.newCall_zip_2 _ _) (fun obj => F.args_object_init_3 obj _ _) F.entry_zip_new (zipQ_new c1 c2 t1 t2 xs ys) ⟨ht1, ht2, ?_⟩
  have z1 : (qh1 c1 s.heap t1).objs.size = s.heap.objs.size + 1 := Heap.size_push ..
  have z2 : (qh2 c1 c2 s.heap t1 t2).objs.size = s.heap.objs.size + 2 := by rw [Heap.size_push, z1]
  have z3 : (qh3 c1 c2 s.heap t1 t2).objs.size = s.heap.objs.size + 3 := by rw [Heap.size_push, z2]
  have z4 : (qh4 c1 c2 s.heap t1 t2).objs.size = s.heap.objs.size + 4 := by rw [Heap.size_push, z3]
  have z5 : (qh5 c1 c2 s.heap t1 t2).objs.size = s.heap.objs.size + 5 := by rw [Heap.size_push, z4]
  have up : ∀ c o, s.heap.get? c = some o → (qh5 c1 c2 s.heap t1 t2).get? c = some o := fun c o q => Heap.get?_push_of_some _ (Heap.get?_push_of_some _ (Heap.get?_push_of_some _ (Heap.get?_push_of_some _ (Heap.get?_push_of_some _ q))))
  have g5 : (qh5 c1 c2 s.heap t1 t2).get? (qh4 c1 c2 s.heap t1 t2).objs.size = some _ := Heap.get?_push_size _ rfl
  have g4 : (qh5 c1 c2 s.heap t1 t2).get? (qh3 c1 c2 s.heap t1 t2).objs.size = some _ := Heap.get?_push_of_some _ (Heap.get?_push_size _ rfl)
  have g3 : (qh5 c1 c2 s.heap t1 t2).get? (qh2 c1 c2 s.heap t1 t2).objs.size = some _ := Heap.get?_push_of_some _ (Heap.get?_push_of_some _ (Heap.get?_push_size _ rfl))
  have g2 : (qh5 c1 c2 s.heap t1 t2).get? (qh1 c1 s.heap t1).objs.size = some (itObj c2 t2) := Heap.get?_push_of_some _ (Heap.get?_push_of_some _ (Heap.get?_push_of_some _ (Heap.get?_push_size _ rfl)))
  have g1 : (qh5 c1 c2 s.heap t1 t2).get? s.heap.objs.size = some (itObj c1 t1) := Heap.get?_push_of_some _ (Heap.get?_push_of_some _ (Heap.get?_push_of_some _ (Heap.get?_push_of_some _ (Heap.get?_push_size _ rfl))))
  show _ ∧ _
  rw [z2, z3, z4] at g5
  rw [z1, z2] at g3
  rw [z3] at g4
  rw [z1] at g2
  rw [z4]
  exact ⟨⟨_, g5, rfl⟩, h _ ⟨g5, g3, ⟨_, _, g4⟩, .of (itObj_at g1) (ht1.keeps fun o q => up _ o q), .of (itObj_at g2) (ht2.keeps fun o q => up _ o q)⟩ z5 up⟩
end
end L3
namespace L2
open PySem PySem.Spec PyProof.Rows
noncomputable def SqQ (c : Bool) (K : PySem.W.Frag) (H : Hp) (a : Addr) (xs : List V) : Prop := (c = true ∧ SqT K H a xs) ∨ (c = false ∧ SqL K H a xs)
theorem SqQ.lst {K : PySem.W.Frag} {H : Hp} {a : Addr} {xs : List V} (h : SqL K H a xs) : SqQ false K H a xs := .inr ⟨rfl, h⟩
theorem Inv.seqQ {c : Bool} {X : Cx} {pins : List (Addr × Obj)} {σ : St} {H : Hp} {s : Shared} {a : Addr} {xs : List V} (I : Inv X pins σ H s) (h : SqQ c X.K H a xs) : ∃ its : List Value, Vals xs its ∧ L3.SeqQ c a its.toArray s.heap ∧ xs.length ≤ sizeLine := by
  rcases h with ⟨e, h⟩ | ⟨e, h⟩
  · obtain ⟨its, r, p, z⟩ := I.tuple h
    exact ⟨its, r, .inl ⟨e, p⟩, z⟩
  · obtain ⟨its, r, p, z⟩ := I.list h
    exact ⟨its, r, .inr ⟨e, p.isList⟩, z⟩
theorem Inv.seqQ_inj {c : Bool} {X : Cx} {pins : List (Addr × Obj)} {σ : St} {H : Hp} {s : Shared} {a : Addr} {xs ys : List V} (I : Inv X pins σ H s) (h : SqQ c X.K H a xs) (h' : SqQ c X.K H a ys) : xs = ys := by
  rcases h with ⟨e, h⟩ | ⟨e, h⟩ <;> rcases h' with ⟨e', h'⟩ | ⟨e', h'⟩
  · exact I.tuple_inj h h'
  · rw [e] at e'; cases e'
  · rw [e] at e'; cases e'
  · exact I.list_inj h h'
noncomputable def ItzQ (c1 c2 : Bool) (K : PySem.W.Frag) (a b : Addr) : It :=
  ⟨fun i H => ∃ xs ys x y, SqQ c1 K H a xs ∧ SqQ c2 K H b ys ∧ xs[i]? = some x ∧ ys[i]? = some y,
   fun i H v H' => ∃ p x y, H p = none ∧ v = .ref p ∧ H' = upd H p (.tup [x, y]) ∧ (∀ xs, SqQ c1 K H a xs → xs[i]? = some x) ∧ ∀ ys, SqQ c2 K H b ys → ys[i]? = some y,
   fun i H => ∃ xs ys, SqQ c1 K H a xs ∧ SqQ c2 K H b ys ∧ (xs.length ≤ i ∨ ys.length ≤ i)⟩
theorem turn_zipQ {c1 c2 : Bool} {P : Program} {w : World} {K : PySem.W.Frag} {elts : List Expr} {x1} {tp : Pos} {z TI TO i1 i2 a b : Addr} (D : ZipApart z TI TO i1 i2 a b) :
    Turn P w K (.Tuple elts x1 tp) (ItzQ c1 c2 K a b) [z, TI, TO, i1, i2] z (fun i h => IsZip h z TI TO .none ∧ IsPair h TI (.ref i1) (.ref i2) ∧ (∃ u v, IsPair h TO u v) ∧ L3.ItQ c1 i1 a i h ∧ L3.ItQ c2 i2 b i h) where
  mem := by simp
  obj := fun i h st c hc => by
    obtain ⟨q1, q2, ⟨u, v, q3⟩, i4, i5⟩ := st
    obtain ⟨o4, e4, d4⟩ := i4.obj
    obtain ⟨o5, e5, d5⟩ := i5.obj
    simp only [List.mem_cons, List.not_mem_nil, or_false] at hc
    rcases hc with rfl | rfl | rfl | rfl | rfl
    · exact ⟨_, q1, fun v z => by have z' : Data.fields _ = Data.cell v := z; cases z'⟩
    · exact ⟨_, q2, fun v z => by have z' : Data.seq _ _ = Data.cell v := z; cases z'⟩
    · exact ⟨_, q3, fun v z => by have z' : Data.seq _ _ = Data.cell v := z; cases z'⟩
    · exact ⟨o4, e4, d4⟩
    · exact ⟨o5, e5, d5⟩
  keep := fun i h h' ⟨q1, q2, ⟨u, v, q3⟩, r4, r5⟩ k => ⟨k _ (by simp) _ q1, k _ (by simp) _ q2, ⟨u, v, k _ (by simp) _ q3⟩, r4.at fun o q => k _ (by simp) o q, r5.at fun o q => k _ (by simp) o q⟩
  item := by
    intro X hP hw hK hc i pins s σ H E I hf st hg
    subst hP hw hK
    have st0 := st
    obtain ⟨q1, q2, q3, r4, r5⟩ := st
    obtain ⟨xs, ys, x, y, hq, hq', hx, hy⟩ := hg
    obtain ⟨its, rv, p, _⟩ := I.seqQ hq
    obtain ⟨its', rv', p', _⟩ := I.seqQ hq'
    obtain ⟨u, hu, ru⟩ := rv.get hx
    obtain ⟨v, hv, rw'⟩ := rv'.get hy
    refine L3.zipQ_pyNext D ⟨q1, q2, q3, .of r4 p, .of r5 p'⟩ (x := u) (y := v) (by simpa using hu) (by simpa using hv) fun h' Z tp1 sz k1 => ⟨_, rfl, ?_⟩
    refine wpAny_letOwnedTupleGo_zip Z.z fun h2 z2 k2 => ?_
    have lt : ∀ c ∈ [z, TI, TO, i1, i2], c < s.heap.objs.size := fun c hc => by
      obtain ⟨w1, w2, ⟨_, _, w3⟩, j4, j5⟩ := st0
      obtain ⟨_, w4, _⟩ := j4.obj
      obtain ⟨_, w5, _⟩ := j5.obj
      simp only [List.mem_cons, List.not_mem_nil, or_false] at hc
      rcases hc with rfl | rfl | rfl | rfl | rfl
      · exact Heap.lt_size w1
      · exact Heap.lt_size w2
      · exact Heap.lt_size w3
      · exact Heap.lt_size w4
      · exact Heap.lt_size w5
    have hT : s.heap.objs.size ≠ z := Nat.ne_of_gt (lt z (by simp))
    have kk : ∀ c w', c ∉ [z, TI, TO, i1, i2] → s.heap.get? c = some w' → h2.get? c = some w' := fun c w' hc q => by
      have n1 : c ≠ z := fun e => hc (by simp [e])
      exact (k2.2 c n1).trans (k1 c w' n1 (fun e => hc (by simp [e])) (fun e => hc (by simp [e])) (fun e => hc (by simp [e])) q)
    have new : ObjOk X.prog X.w (upd H s.heap.objs.size (.tup [x, y])) h2 s.heap.objs.size (.tup [x, y]) :=
      ⟨by show 2 ≤ sizeLine; decide, [u, v], .cons ru (.cons rw' .nil), ⟨_, (k2.2 _ hT).trans tp1, rfl, _, rfl⟩, _, (k2.2 _ hT).trans tp1, rfl⟩
    have IL : Inv X pins σ (upd H s.heap.objs.size (.tup [x, y])) { s with heap := h2, toks := s.toks } := I.turnLay (t' := s.toks) (ch := [z, TI, TO, i1, i2]) hf kk (Nat.le_refl _) new
    refine ⟨.ref s.heap.objs.size, _, IL, rfl,
      ⟨_, x, y, I.hok.fresh (Nat.le_refl _), rfl, rfl, fun ys hy' => by rw [I.seqQ_inj hy' hq]; exact hx, fun ys hy' => by rw [I.seqQ_inj hy' hq']; exact hy⟩,
      ⟨z2, (k2.2 _ D.TIz).trans Z.TI, ?_, Z.one.iter.at fun o q => (k2.2 _ D.i1z).trans q, Z.two.iter.at fun o q => (k2.2 _ D.i2z).trans q⟩, fun c hc => ?_⟩
    · obtain ⟨a', b', q⟩ := Z.TO
      exact ⟨a', b', (k2.2 _ D.TOz).trans q⟩
    · rw [upd_ne (Nat.ne_of_lt (lt c hc))]; exact (hf c hc).1
  done := by
    intro X hP hw hK hc i pins s σ H E I hf st hg
    subst hP hw hK
    obtain ⟨q1, q2, q3, r4, r5⟩ := st
    obtain ⟨xs, ys, hq, hq', hx⟩ := hg
    obtain ⟨its, rv, p, _⟩ := I.seqQ hq
    obtain ⟨its', rv', p', _⟩ := I.seqQ hq'
    have hl := rv.length
    have hl' := rv'.length
    refine L3.zipQ_pyEnd (I.ok.hd hc) D ⟨q1, q2, q3, .of r4 p, .of r5 p'⟩ ?_ fun h' k => ⟨rfl, I.turnMany (t' := s.toks) (ch := [z, TI, TO, i1, i2]) hf fun c v hc q =>
      k c v (fun e => hc (by simp [e])) (fun e => hc (by simp [e])) (fun e => hc (by simp [e])) (fun e => hc (by simp [e])) q⟩
    rcases hx with hx | hx
    · exact .inl (by simp; omega)
    · exact .inr (by simp; omega)
  self := fun _ _ _ _ _ ⟨q, _⟩ h => wpAny_pyIter_zip q h
section
variable {X : Cx}
noncomputable def iZipQ (c1 c2 : Bool) (K : PySem.W.Frag) (ta : TA) : TI := fun σ H R => ta σ H fun vs H1 => ∃ a b, vs = [.ref a, .ref b] ∧ (∃ xs, SqQ c1 K H1 a xs) ∧ (∃ ys, SqQ c2 K H1 b ys) ∧ R (ItzQ c1 c2 K a b) H1
theorem pi_zipQ (c1 c2 : Bool) {a b : Expr} {ta : TA} {p pos tp : Pos} {elts : List Expr} {x1} (hg : Gl X "zip") (hm : X.mg "zip" = none) (ha : PA X [a, b] ta)
    (hs : starEach [a, b] X.env = [(false, eval a X.env), (false, eval b X.env)] := by rfl) (hs2 : starEach [b] X.env = [(false, eval b X.env)] := by rfl) : PI X (.Tuple elts x1 tp) (.Call (.Name "zip" p) [a, b] [] pos) (iZipQ c1 c2 X.K ta) := by
  intro pins s σ H R I h
  refine Call_ (ld_blt I hg hm boot_zip (PyProof.Rows.callWith_type1 (thn (ha pos pins s σ H _ I h) fun us s1 ⟨vs, H1, I1, r1, q1⟩ => ?_) (by rw [hs, hs2]) (by rw [hs2]; rfl)))
  obtain ⟨t, t2, e, ⟨xs, hq⟩, ⟨ys, hq'⟩, q⟩ := q1
  subst e
  cases r1 with
  | cons r rr =>
    cases rr with
    | cons r' rr =>
      cases rr
      cases r
      cases r'
      obtain ⟨its, rv, pt, hz⟩ := I1.seqQ hq
      obtain ⟨its', rv', pt', hz'⟩ := I1.seqQ hq'
      have T1 : L3.SeqQ c1 t its.toArray s1.heap := pt
      have T2 : L3.SeqQ c2 t2 its'.toArray s1.heap := pt'
      have l1 : t < s1.heap.objs.size := T1.lt
      have l2 : t2 < s1.heap.objs.size := T2.lt
      refine L3.call_zipQ T1 T2 fun h' Z sz k => ?_
      have I2 : Inv X pins σ H1 { s1 with heap := h' } := I1.kept (t' := s1.toks) k
      have D : ZipApart (s1.heap.objs.size + 4) (s1.heap.objs.size + 2) (s1.heap.objs.size + 3) s1.heap.objs.size (s1.heap.objs.size + 1) t t2 := PyProof.Rows.zipApart_new l1 l2
      refine wpAny_pyIter_zip Z.z ⟨_, [s1.heap.objs.size + 4, s1.heap.objs.size + 2, s1.heap.objs.size + 3, s1.heap.objs.size, s1.heap.objs.size + 1], _, _, H1, rfl, I2, turn_zipQ D, ⟨Z.z, Z.TI, Z.TO, Z.one.iter, Z.two.iter⟩, fun c hc => ?_, q⟩
      have hc' : s1.heap.objs.size ≤ c := by
        simp only [List.mem_cons, List.not_mem_nil, or_false] at hc
        rcases hc with rfl | rfl | rfl | rfl | rfl <;> first | exact Nat.le_refl _ | exact Nat.le_add_right _ _
      exact I1.fpOk hc' (I1.hok.fresh hc')
end
theorem for_zipQ {c1 c2 : Bool} {K : PySem.W.Frag} {a b : Addr} {xs ys : List V} {g : TG} {tb : TS} {D : Ends} {σ : St} {H : Hp} (Pv : Nat → St → Hp → Prop) (h0 : Pv 0 σ H) (ha : ∀ i σ H, i ≤ min xs.length ys.length → Pv i σ H → SqQ c1 K H a xs ∧ SqQ c2 K H b ys)
    (hs : ∀ i x z σ H p, xs[i]? = some x → ys[i]? = some z → Pv i σ H → H p = none → g (.ref p) σ (upd H p (.tup [x, z])) fun σ2 H3 => tb { D with nx := Pv (i + 1), ct := Pv (i + 1), bk := D.nx } σ2 H3) (hd : ∀ σ H, Pv (min xs.length ys.length) σ H → D.nx σ H) :
    ∃ W : Nat → Nat → St → Hp → Prop, (∃ m, W 0 m σ H) ∧ ∀ i m σ H, W i m σ H →
      ((ItzQ c1 c2 K a b).stop i H ∧ D.nx σ H) ∨ ((ItzQ c1 c2 K a b).go i H ∧ ∃ N : St → Hp → Prop, (∀ σ' H', N σ' H' → ∃ m', m' < m ∧ W (i + 1) m' σ' H') ∧ ∀ x H', (ItzQ c1 c2 K a b).yld i H x H' → g x σ H' fun σ2 H2 => tb { D with nx := N, ct := N, bk := D.nx } σ2 H2) :=
  for_of (n := min xs.length ys.length) Pv h0 (fun i σ H h p => ⟨xs, ys, _, _, (ha i σ H (Nat.le_of_lt h) p).1, (ha i σ H (Nat.le_of_lt h) p).2, List.getElem?_eq_getElem (by omega), List.getElem?_eq_getElem (by omega)⟩) (fun σ H p => ⟨xs, ys, (ha _ σ H (Nat.le_refl _) p).1, (ha _ σ H (Nat.le_refl _) p).2, by omega⟩) (fun i σ H h p x H2 y => by
    obtain ⟨q, z1, z2, fq, rfl, rfl, y1, y2⟩ := y
    exact hs i z1 z2 σ _ q (y1 xs (ha i σ _ (Nat.le_of_lt h) p).1) (y2 ys (ha i σ _ (Nat.le_of_lt h) p).2) p fq) hd
end L2
namespace PySem
open PySem.W PyProof.Rows
section
variable {prog : Program} {w : World} {A : Around} {E : Value → Shared → Prop} {s : Shared} {r : Addr} {a b c : Int} {t u v : Tok} {n : Nat}
theorem collect_range {Q : List Value → Shared → Prop} (hh : A.handled = none) (hr : IsRange s.heap r a b c t u v) (hsmall : Builtin.Range.small a b c = true) (hn : Builtin.Range.rangeSize a b c = n) (hlen : n ≤ 2 ^ 24)
    (hQ : ∀ (h' : Heap) (tk : Nat) (acc : Array Value), (∀ b o, s.heap.get? b = some o → h'.get? b = some o) → ItemsOf (fun i v => ∃ t, v = .int (a + i * c) t) acc n → Q acc.toList { s with heap := h', toks := tk }) : wpAny (model prog w) A (collect (.ref r)) Q E s := by
  unfold collect
  refine wpAny_bind (wpAny_runValue (codeAny_builtin F.entry_proto_collect ?_))
  rw [Around.under_plainId F.plain_proto_collect _]
  show wpAny _ A.in1 (newList [] >>= fun l => again (.builtin "list.__iadd__" ⟨[l, .ref r], []⟩)) _ _ s
  refine wpAny_bind (wpAny_newObj_type ?_)
  refine wpAny_pure ⟨plainId_quiet F.plain_list_iadd _, codeAny_builtin F.entry_list_iadd ?_⟩
  rw [Around.under_plainId F.plain_list_iadd _]
  show wpAny _ A.in1 (Builtin.List.listExtendWith (.ref s.heap.objs.size) (.ref r) (.ref s.heap.objs.size)) _ _ _
  have hS0 : (s.heap.push { cls := .type "list", data := .seq ([] : List Value).toArray }).get? s.heap.objs.size = some { cls := .type "list", data := .seq #[] 0 } := Heap.get?_push_size _ rfl
  refine wpAny_extend_range (R := fun r s' => match r with
    | .ok (.ret v) => wpAny (model prog w) A (match v with
      | .ref a => do
        let o ← load a
        match o.data with
          | .seq xs _ => pure xs.toList
          | _ => unsupported "internal:collect"
      | _ => unsupported "internal:collect") Q E s'
    | .ok _ => False
    | .error e => E e s') (s := { s with heap := s.heap.push { cls := .type "list", data := .seq ([] : List Value).toArray } }) hh (Heap.get?_push_of_some _ hr) hsmall hn hlen _ _ 0 hS0 (fun h' tk acc c hk hS hacc => ?_)
  show wpAny _ A (load s.heap.objs.size >>= _) _ _ _
  refine wpAny_bind (wpAny_load hS ?_)
  exact wpAny_pure (hQ h' tk acc (fun b o e => hk b o (Nat.ne_of_lt (Heap.lt_size e)) (Heap.get?_push_of_some _ e)) hacc)
theorem range_not_tuple : isSubtype (.type "range") (.type "tuple") = pure false := by rw [isSubtype_type]; kernel_rfl
theorem code_tuple_range {Q₁ : Value → Shared → Prop} (hh : A.in1.handled = none) (hr : IsRange s.heap r a b c t u v) (hsmall : Builtin.Range.small a b c = true) (hn : Builtin.Range.rangeSize a b c = n) (hlen : n ≤ 2 ^ 24)
    (h : ∀ (h' : Heap) (tk : Nat) (acc : Array Value), (∀ b o, s.heap.get? b = some o → h'.get? b = some o) → ItemsOf (fun i v => ∃ t, v = .int (a + i * c) t) acc n → Q₁ (.ref h'.objs.size) { s with heap := h'.push { cls := .type "tuple", data := .seq acc }, toks := tk }) :
    codeAny (model prog w) A (.call (.builtin "tuple.__new__") ⟨[.type "tuple", .ref r], []⟩) (wants Q₁ E) s := by
  refine codeAny_of_tree ?_
  show wpAny _ A.in1 (do checkBuiltinCall "tuple.__new__" ⟨[.type "tuple", .ref r], []⟩; again (.builtin "tuple.__new__" ⟨[.type "tuple", .ref r], []⟩)) _ _ s
  refine wpAny_bind (wpAny_of_eq (F.newCall_tuple_1 _) (wpAny_pure ⟨plainId_quiet F.plain_tuple_new _, codeAny_builtin F.entry_tuple_new ?_⟩))
  rw [Around.under_plainId F.plain_tuple_new _]
  have hsub := sub_tuple_self
  have hinit := init_tuple_lookup
  have hmh := madeHere_tuple
  have hTI : s.TypeIs (.ref r) "range" := ⟨_, hr, rfl⟩
  have hnt := range_not_tuple
  wp_walk using wpAny_typeOf hTI, collect_range hh hr hsmall hn hlen
  intro h' tk acc hm hacc
  show wpAny _ _ (Builtin.Tuple.tupleExact acc.toList.toArray >>= fun v => ret v) _ _ _
  unfold Builtin.Tuple.tupleExact
  refine wpAny_bind (wpAny_newObj_type ?_ (by show acc.toList.toArray.size ≤ sizeLine; simp only [Array.toArray_toList]; rw [hacc.1, sizeLine_eq]; omega))
  refine wpAny_pure ?_
  have e : acc.toList.toArray = acc := by simp
  rw [e]
  exact h h' tk acc hm hacc
theorem call_tuple_range {Q : Value → Shared → Prop} (hh : A.in1.in1.handled = none) (hr : IsRange s.heap r a b c t u v) (hsmall : Builtin.Range.small a b c = true) (hn : Builtin.Range.rangeSize a b c = n) (hlen : n ≤ 2 ^ 24)
    (hQ : ∀ (h' : Heap) (tk : Nat) (acc : Array Value), (∀ b o, s.heap.get? b = some o → h'.get? b = some o) → ItemsOf (fun i v => ∃ t, v = .int (a + i * c) t) acc n → Q (.ref h'.objs.size) { s with heap := h'.push { cls := .type "tuple", data := .seq acc }, toks := tk }) :
    wpAny (model prog w) A (call (.type "tuple") [.ref r]) Q E s := by
  refine callType_codes (Q₁ := fun obj s₁ => s₁.TypeIs obj "tuple" ∧ Q obj s₁) F.called_tuple (F.typeCall_tuple_1 _) F.entry_object_init
    (code_tuple_range hh hr hsmall hn hlen fun h' tk acc hm hacc => ⟨⟨_, Heap.get?_push_size _ rfl, rfl⟩, hQ h' tk acc hm hacc⟩) fun obj s₁ h₁ => ?_
  exact ⟨h₁.1, F.args_object_init_2 obj _, object_init_meets F.called_tuple.init.lookup F.called_tuple.made (by decide) prog w A.in1 _ s₁ ⟨h₁.1, rfl, h₁.2⟩⟩
end
end PySem
namespace PyProof.Rows
open PySem
section
variable {prog : Program} {w : World} {A : Around} {E : Value → Shared → Prop} {s : Shared}
end
end PyProof.Rows
namespace L2
open PySem PySem.Spec PyProof.Rows
section
variable {X : Cx}
noncomputable def downL (lo hi : Int) : List V := (List.range (lo - hi).toNat).map fun (j : Nat) => V.int (lo - (j : Int))
noncomputable def tLstDown (ta : TA) : TE := fun σ H Q => ta σ H fun vs H1 => ∃ lo hi : Int, vs = [.int lo, .int hi, .int (-1)] ∧ (-1000 ≤ lo ∧ lo ≤ 1000000 ∧ -1000 ≤ hi ∧ hi ≤ 1000000) ∧ ∀ p, H1 p = none → Q (.ref p) (upd H1 p (.lst (downL lo hi)))
theorem downL_len (lo hi : Int) : (downL lo hi).length = (lo - hi).toNat := by rw [downL, List.length_map, List.length_range]
theorem down_vals {lo hi : Int} {acc : Array Value} (hacc : ItemsOf (fun i v => ∃ t, v = .int (lo + i * (-1)) t) acc (lo - hi).toNat) : Vals (downL lo hi) acc.toList := by
  refine vals_of (by rw [downL_len, Array.length_toList, hacc.1]) fun i x u hx hu => ?_
  rw [Array.getElem?_toList] at hu
  obtain ⟨t2, rfl⟩ := hacc.2 i u hu
  have hi : i < (lo - hi).toNat := by
    rw [← hacc.1]
    exact (Array.getElem?_eq_some_iff.mp hu).1
  rw [downL, List.getElem?_map, List.getElem?_eq_getElem (by rw [List.length_range]; exact hi), List.getElem_range] at hx
  cases hx
  exact ⟨t2, by congr 1; omega⟩
theorem pe_lstDown {a b c : Expr} {ta : TA} {p pos p2 pos2 : Pos} (hc : X.calm = true) (hg : Gl X "list") (hm : X.mg "list" = none) (hg2 : Gl X "range") (hm2 : X.mg "range" = none) (ha : PA X [a, b, c] ta) (hs : starEach [a, b, c] X.env = [(false, eval a X.env), (false, eval b X.env), (false, eval c X.env)] := by rfl)
    (hs1 : starEach [b, c] X.env = [(false, eval b X.env), (false, eval c X.env)] := by rfl)
    (hs2 : starEach [.Call (.Name "range" p2) [a, b, c] [] pos2] X.env = [(false, eval (.Call (.Name "range" p2) [a, b, c] [] pos2) X.env)] := by rfl) : PE X (.Call (.Name "list" p) [.Call (.Name "range" p2) [a, b, c] [] pos2] [] pos) (tLstDown ta) := by
  intro pins s σ H Q I h
  refine Call_ (ld_blt I hg hm L3.bt_list (PyProof.Rows.callWith_type1 ?_ hs2 rfl))
  rw [hs2]
  show wpAny _ _ (spliced ((false, eval (.Call (.Name "range" p2) [a, b, c] [] pos2) X.env) :: backTo pos [])) _ _ s
  refine Calls.spliced_cons ?_
  refine Call_ (ld_blt I hg2 hm2 boot_range (PyProof.Rows.callWith_type1 (thn (ha pos2 pins s σ H _ I h) fun us s1 ⟨vs, H1, I1, r1, q1⟩ => ?_) (by rw [hs, hs1]) (by rw [hs1]; rfl)))
  obtain ⟨lo, hi, e, ⟨b1, b2, b3, b4⟩, q⟩ := q1
  subst e
  cases r1 with
  | cons r rr =>
    cases rr with
    | cons r' rr =>
      cases rr with
      | cons r'' rr =>
        cases rr
        obtain ⟨t, rfl⟩ := r
        obtain ⟨t', rfl⟩ := r'
        obtain ⟨t'', rfl⟩ := r''
        refine call_range_3 (by decide) ?_ (Or.inl (PyProof.noPylong_small (by omega)))
        refine Calls.spliced_nil ?_
        have hsz : Builtin.Range.rangeSize lo hi (-1) = ((lo - hi).toNat : Nat) := by rw [rangeSize_down]; omega
        refine call_list_range (n := (lo - hi).toNat) (I.ok.hd hc) (IsRange.new ..) (small_down (by omega) (by omega) (by omega) (by omega)) hsz (by omega) fun h' tk acc c' kp e hacc => ?_
        have I2 : Inv X pins σ H1 { s1 with heap := s1.heap.push { cls := .type "range", data := .fields #[.int lo t, .int hi t', .int (-1) t''] }, toks := s1.toks } := I1.kept fun b o e => Heap.get?_push_of_some _ e
        refine ⟨.ref _, _, I2.laid (t' := tk) (o := .lst (downL lo hi)) kp (Nat.le_refl _) ?_, rfl, q _ (I2.hok.fresh (Nat.le_refl _))⟩
        exact ⟨by rw [downL_len]; exact Nat.le_trans (show (lo - hi).toNat ≤ 1001000 by omega) (by decide), acc.toList, c', down_vals hacc, by rw [Array.toArray_toList]; exact e⟩
end
end L2
namespace PySem
open Sem (wp)
end PySem
namespace PySem.F
end PySem.F
namespace L2
open PySem PySem.Spec PyProof.Rows
end L2
namespace L2
open PySem PySem.Spec PyProof.Rows
section
variable {X : Cx} {tg : Expr}
end
end L2
namespace L2
open PySem PySem.Spec PyProof.Rows
section
variable {X : Cx}
end
end L2
namespace PySem
open Sem (wp)
section
variable {prog : Program} {w : World} {A : Around} {E : Value → Shared → Prop} {s : Shared}
end
end PySem
namespace L2
open PySem PySem.Spec PyProof.Rows PySem.W
section
variable {X : Cx} {tg : Expr}
end
end L2
namespace PySem
open Sem (wp)
section
variable {prog : Program} {w : World} {K : Type} [DecidableEq K] {knd : KeyKind prog w K} {A : Around} {E : Value → Shared → Prop} {s : Shared}
end
end PySem
namespace L2
open PySem PySem.Spec PyProof.Rows PySem.W
section
variable {X : Cx} {o e f : Expr} {apos cpos : Pos} {td ty tx : TE}
end
end L2
namespace L2
open PySem PySem.Spec PyProof.Rows PySem.W
section
variable {X : Cx}
end
end L2
namespace L2
open PySem PySem.Spec PyProof.Rows PySem.W
section
variable {X : Cx}
end
end L2
namespace PySem
open Sem (wp)
section
variable {prog : Program} {w : World} {A : Around} {E : Value → Shared → Prop} {s : Shared}
theorem wpAny_pyHash_none {Q : Int → Shared → Prop} (h : Q 4238894112 { s with toks := s.toks + 1 }) : wpAny (model prog w) A (pyHash .none) Q E s := by
  unfold pyHash
  have hv : [Value.none].any Value.onHeap = false := rfl
  refine wpAny_bind ?_
  rw [cRoomFor, if_neg (by rw [hv]; exact Bool.false_ne_true)]; refine wpAny_pure ?_
  refine wpAny_bind (wpAny_specialOf (typeIs_none s) F.slot_NoneType_hash.lookup ?_)
  show wpAny _ _ (if (some (Value.builtin "NoneType.__hash__") == some Value.none) = true then _ else _) Q E s
  rw [if_neg (by rw [beq_builtin_none]; exact Bool.false_ne_true)]
  refine wpAny_bind (wpAny_specialOf (typeIs_none s) F.slot_NoneType_hash.lookup ?_)
  show wpAny _ _ (callSpecialIfBoundUnlessNone? .none "__hash__" _ >>= _) Q E s
  refine wpAny_bind (wpAny_callSpecialIfBoundUnlessNone?_slot (typeIs_none s) F.slot_NoneType_hash
    (wpAny_call_entry F.slot_NoneType_hash (typeIs_none s) F.entry_NoneType_hash
      (show wpAny _ _ (do ret (← mkInt 4238894112)) _ _ s from wpAny_ret_mkInt ?_) (F.args_NoneType_hash_1 _)))
  show wpAny _ _ (if (decide (-(2 : Int) ^ 63 ≤ 4238894112) && decide ((4238894112 : Int) < 2 ^ 63)) = true then _ else _) Q E _
  rw [if_pos (by decide)]
  exact wpAny_pure h
end
end PySem
namespace L2
open PySem PySem.Spec PyProof.Rows
section
variable {X : Cx}
end
end L2
namespace L2
open PySem PySem.Spec PyProof.Rows
end L2
namespace L2
open PySem PySem.Spec PyProof.Rows
section
variable {X : Cx}
end
end L2
namespace L2
open PySem PySem.Spec PyProof.Rows
section
variable {X : Cx}
end
end L2
namespace L2
open PySem PySem.Spec PyProof.Rows
section
variable {X : Cx}
end
end L2
set_option maxRecDepth 100000
namespace L2
open PySem PyProof.Rows
section
variable {prog : Program} {w : World} {A : Around} {E : Value → Shared → Prop} {s : Shared} {kd : SortKind} {k : Keyed → Int} {G : Keyed → Prop}
end
end L2
namespace L2
open PySem PyProof.Rows
namespace MI
variable {k : Keyed → Int} {tot L ra rb : List Keyed}
end MI
section
variable {prog : Program} {w : World} {A : Around} {E : Value → Shared → Prop} {s : Shared} {kd : SortKind} {k : Keyed → Int} {G : Keyed → Prop}
end
end L2
namespace L2
open PySem PyProof.Rows
section
variable {prog : Program} {w : World} {A : Around} {E : Value → Shared → Prop} {s : Shared} {kd : SortKind} {k : Keyed → Int} {G : Keyed → Prop}
end
end L2
namespace L2
open PySem PyProof.Rows
section
variable {prog : Program} {w : World} {A : Around} {E : Value → Shared → Prop} {s : Shared} {kd : SortKind} {k : Keyed → Int} {G : Keyed → Prop}
end
end L2
namespace L2
open PySem PyProof.Rows
section
variable {prog : Program} {w : World} {A : Around} {E : Value → Shared → Prop} {s : Shared} {kd : SortKind} {k : Keyed → Int} {G : Keyed → Prop} {ps : Array (Nat × Nat × Nat)} {g : Nat}
end
end L2
namespace L2
open PySem PyProof.Rows
section
variable {prog : Program} {w : World} {A : Around} {E : Value → Shared → Prop} {s : Shared} {kd : SortKind} {k : Keyed → Int} {G : Keyed → Prop}
end
end L2
namespace L2
open PySem PyProof.Rows
section
variable {prog : Program} {w : World} {A : Around} {E : Value → Shared → Prop} {s : Shared} {kd : SortKind} {k : Keyed → Int} {G : Keyed → Prop}
end
section
variable {prog : Program} {w : World} {A : Around} {E : Value → Shared → Prop} {s : Shared}
end
section
variable {prog : Program} {w : World} {A : Around} {E : Value → Shared → Prop} {s : Shared}
end
end L2
namespace L2
open PySem PySem.Spec PyProof.Rows
section
variable {X : Cx}
end
end L2
namespace L2
open PySem PySem.Spec PyProof.Rows
section
variable {X : Cx}
end
end L2
namespace L2
open PySem PySem.Spec PyProof.Rows
section
variable {X : Cx}
end
end L2
namespace L2
open PySem PySem.Spec PyProof.Rows
section
variable {X : Cx}
end
end L2
namespace L2
open PySem PySem.Spec PyProof.Rows
section
variable {X : Cx}
noncomputable def tTupRange (ta : TA) : TE := fun σ H Q => ta σ H fun vs H1 => ∃ n : Nat, vs = [.int (n : Int)] ∧ n ≤ 1000000 ∧ ∀ p, H1 p = none → Q (.ref p) (upd H1 p (.tup ((List.range n).map fun (j : Nat) => V.int (j : Int))))
theorem pe_tupRange {a : Expr} {ta : TA} {p pos p2 pos2 : Pos} (hc : X.calm = true) (hg : Gl X "tuple") (hm : X.mg "tuple" = none) (hg2 : Gl X "range") (hm2 : X.mg "range" = none) (ha : PA X [a] ta) (hs : starEach [a] X.env = [(false, eval a X.env)] := by rfl)
    (hs2 : starEach [.Call (.Name "range" p2) [a] [] pos2] X.env = [(false, eval (.Call (.Name "range" p2) [a] [] pos2) X.env)] := by rfl) : PE X (.Call (.Name "tuple" p) [.Call (.Name "range" p2) [a] [] pos2] [] pos) (tTupRange ta) := by
  intro pins s σ H Q I h
  refine Call_ (ld_blt I hg hm L3.bt_tuple (PyProof.Rows.callWith_type1 ?_ hs2 rfl))
  rw [hs2]
  show wpAny _ _ (spliced ((false, eval (.Call (.Name "range" p2) [a] [] pos2) X.env) :: backTo pos [])) _ _ s
  refine Calls.spliced_cons ?_
  refine Call_ (ld_blt I hg2 hm2 boot_range (PyProof.Rows.callWith_type1 (thn (ha pos2 pins s σ H _ I h) fun us s1 ⟨vs, H1, I1, r1, q1⟩ => ?_) hs rfl))
  obtain ⟨n, e, hn, q⟩ := q1
  subst e
  obtain ⟨u, rfl, t, rfl⟩ := vals1 r1
  refine call_range_1 ?_
  refine Calls.spliced_nil ?_
  have hsz : Builtin.Range.rangeSize 0 (n : Int) 1 = (n : Nat) := by rw [rangeSize_one]; split <;> omega
  refine call_tuple_range (n := n) (I.ok.hd hc) (IsRange.new ..) (small_one (by omega) (by omega) (by omega) (by omega)) hsz (by omega) fun h' tk acc kp hacc => ?_
  have I2 : Inv X pins σ H1 { s1 with heap := s1.heap.push { cls := .type "range", data := .fields #[.int 0 (s1.toks), .int (n : Int) t, .int 1 (s1.toks + 1)] }, toks := s1.toks + 1 + 1 } := I1.kept fun b o e => Heap.get?_push_of_some _ e
  have I3 : Inv X pins σ H1 { s1 with heap := h', toks := tk } := I2.kept fun b o e => kp b o e
  refine ⟨.ref h'.objs.size, _, I3.laid (t' := tk) (o := .tup ((List.range n).map fun (j : Nat) => V.int (j : Int))) (fun b o e => Heap.get?_push_of_some _ e) (Nat.le_refl _) ?_, rfl, q _ (I3.hok.fresh (Nat.le_refl _))⟩
  refine ⟨by rw [List.length_map, List.length_range]; exact Nat.le_trans hn (by decide), acc.toList, ?_, ⟨_, Heap.get?_push_size _ rfl, rfl, 0, by simp⟩, _, Heap.get?_push_size _ rfl, rfl⟩
  refine vals_of (by rw [List.length_map, List.length_range, Array.length_toList, hacc.1]) fun i x u hx hu => ?_
  rw [Array.getElem?_toList] at hu
  obtain ⟨t2, rfl⟩ := hacc.2 i u hu
  rw [List.getElem?_map] at hx
  have hi : i < n := by
    rw [← hacc.1]
    exact (Array.getElem?_eq_some_iff.mp hu).1
  rw [List.getElem?_eq_getElem (by rw [List.length_range]; exact hi), List.getElem_range] at hx
  cases hx
  exact ⟨t2, by rw [Int.zero_add, Int.mul_one]⟩
end
end L2
set_option maxRecDepth 100000
namespace PySem
open Sem (wp)
mutual
noncomputable def hashD (w : World) : PyData → Int
  | .none => 4238894112
  | .int i => hashInt i
  | .str x => hashStr w x
  | .tuple xs => reduceHash (Builtin.Tuple.tupleHashOf (hashDs w xs))
  | .bool _ => 0
  | .list _ => 0
  | .dict _ => 0
noncomputable def hashDs (w : World) : List PyData → List Int
  | [] => []
  | x :: xs => hashD w x :: hashDs w xs
end
noncomputable def kOk : Nat → PyData → Bool
  | _, .none => true
  | _, .int _ => true
  | _, .str x => PyData.strOk x
  | n + 1, .tuple xs => xs.all (kOk n)
  | _, _ => false
theorem kOk_lay : ∀ (n : Nat) (d : PyData), kOk n d = true → d.canLay0 = true ∧ d.depth ≤ n
  | _, .none, _ => ⟨rfl, Nat.zero_le _⟩
  | _, .int _, _ => ⟨rfl, Nat.zero_le _⟩
  | n, .str x, h => by
    refine ⟨?_, Nat.zero_le _⟩
    cases n <;> simpa [kOk, PyData.canLay0] using h
  | 0, .tuple _, h => by simp [kOk] at h
  | n + 1, .tuple xs, h => by
    have hx : ∀ x ∈ xs, kOk n x = true := List.all_eq_true.mp (by simpa [kOk] using h)
    have go : ∀ ys : List PyData, (∀ x ∈ ys, kOk n x = true) → PyData.canLayAll0 ys = true ∧ PyData.depthAll ys ≤ n := by
      intro ys
      induction ys with
      | nil => exact fun _ => ⟨rfl, Nat.zero_le _⟩
      | cons y ys ih =>
        intro hy
        have h1 := kOk_lay n y (hy y List.mem_cons_self)
        have h2 := ih fun x hx => hy x (List.mem_cons_of_mem _ hx)
        exact ⟨by simp only [PyData.canLayAll0, h1.1, h2.1, Bool.and_self], by simp only [PyData.depthAll]; exact Nat.max_le.mpr ⟨h1.2, h2.2⟩⟩
    have g := go xs hx
    exact ⟨by simpa [PyData.canLay0] using g.1, by simp only [PyData.depth]; omega⟩
  | n, .bool _, h => by cases n <;> simp [kOk] at h
  | n, .list _, h => by cases n <;> simp [kOk] at h
  | n, .dict _, h => by cases n <;> simp [kOk] at h
theorem hashDs_append (w : World) : ∀ xs ys : List PyData, hashDs w (xs ++ ys) = hashDs w xs ++ hashDs w ys
  | [], _ => rfl
  | x :: xs, ys => by
    show hashD w x :: hashDs w (xs ++ ys) = hashD w x :: (hashDs w xs ++ hashDs w ys)
    rw [hashDs_append w xs ys]
theorem pyHash_dat {prog : Program} {w : World} : ∀ (n : Nat) (d : PyData), kOk n d = true → ∀ {A : Around} {E : Value → Shared → Prop} {s : Shared} {v : Value} {as : List Addr} {Q : Int → Shared → Prop}, Reads s.heap v d as → A.units + n < cLine →
    (∀ tk, Q (hashD w d) { s with toks := tk }) → wpAny (model prog w) A (pyHash v) Q E s := by
  intro n
  induction n with
  | zero =>
    intro d hk A E s v as Q r hu h
    cases r with
    | none => exact wpAny_pyHash_none (h _)
    | int i t => exact wpAny_pyHash_int (h _)
    | str x t => exact wpAny_pyHash_str (h _)
    | bool b => simp [kOk] at hk
    | list => simp [kOk] at hk
    | tuple => simp [kOk] at hk
    | dict => simp [kOk] at hk
  | succ n ih =>
    intro d hk A E s v as Q r hu h
    cases r with
    | none => exact wpAny_pyHash_none (h _)
    | int i t => exact wpAny_pyHash_int (h _)
    | str x t => exact wpAny_pyHash_str (h _)
    | bool b => simp [kOk] at hk
    | list => simp [kOk] at hk
    | dict => simp [kOk] at hk
    | @tuple a o items k xs as ho hc hd hi =>
      have hx : ∀ x ∈ xs, kOk n x = true := List.all_eq_true.mp (by simpa [kOk] using hk)
      have hT : s.TypeIs (.ref a) "tuple" := ⟨o, ho, hc⟩
      unfold pyHash
      first | unfold pyHashByItsType | skip
      first | refine wpAny_bind (wpAny_cRoomFor_or (.inr (by omega)) ?_) | skip
      refine wpAny_bind (wpAny_specialOf hT F.slot_tuple_hash.lookup ?_)
      show wpAny _ _ (if (some (Value.builtin "tuple.__hash__") == some Value.none) = true then _ else _) _ _ _
      rw [if_neg (by rw [beq_builtin_none]; exact Bool.false_ne_true)]
      refine wpAny_bind (wpAny_specialOf hT F.slot_tuple_hash.lookup ?_)
      show wpAny _ _ (callSpecialIfBoundUnlessNone? (.ref a) "__hash__" _ >>= _) _ _ _
      refine wpAny_bind (wpAny_callSpecialIfBoundUnlessNone?_slot hT F.slot_tuple_hash (wpAny_call_entry F.slot_tuple_hash hT F.entry_tuple_hash ?_ (F.args_tuple_hash_1 _)))
      show wpAny _ _ (Builtin.Tuple.tupleItemsOf (.ref a) >>= _) _ _ _
      refine wpAny_bind (wpAny_tupleItemsOf ho hd (wpAny_bind ?_))
      rw [← Array.forIn_toList]
      refine wpAny_forIn_list _ (fun rest (b : Array Int) s' => ∃ done left bs, xs = done ++ left ∧ ReadsAll s.heap rest left bs ∧ b.toList = hashDs w done ∧ ∃ tk, s' = { s with toks := tk }) _ ?_ ?_ _ _ ⟨[], xs, as, rfl, hi, rfl, s.toks, rfl⟩
      · rintro x rest b s' ⟨done, left, bs, rfl, hl, hb, tk, rfl⟩
        cases hl with
        | @cons _ _ d ds b1 b2 h1 hl' =>
          refine wpAny_bind (ih d (hx d (by simp)) h1 (by show A.units + 1 + n < cLine; omega) fun tk2 => ?_)
          have e : ∀ {P : Prop}, (P ↔ P) := Iff.rfl
          first
            | exact wpAny_pure ⟨done ++ [d], ds, b2, by simp, hl', by rw [hashDs_append]; simp [hb, hashDs], tk2, rfl⟩
            | exact wpAny_bind (wpAny_pure (wpAny_pure ⟨done ++ [d], ds, b2, by simp, hl', by rw [hashDs_append]; simp [hb, hashDs], tk2, rfl⟩))
      · rintro b s' ⟨done, left, bs, rfl, hl, hb, tk, rfl⟩
        cases hl
        rw [List.append_nil] at h
        show wpAny _ _ (retInt (Builtin.Tuple.tupleHashOf b.toList)) _ _ _
        rw [hb]
        refine wpAny_ret_mkInt ?_
        have hh : hashD w (.tuple done) = reduceHash (Builtin.Tuple.tupleHashOf (hashDs w done)) := by simp only [hashD]
        rw [hh] at h
        generalize Builtin.Tuple.tupleHashOf (hashDs w done) = z at h ⊢
        unfold reduceHash at h
        show wpAny _ _ (if (decide (-(2 : Int) ^ 63 ≤ z) && decide (z < 2 ^ 63)) = true then _ else _) _ _ _
        by_cases hr : (decide (-(2 : Int) ^ 63 ≤ z) && decide (z < 2 ^ 63)) = true
        · rw [if_pos hr]
          rw [if_pos hr] at h
          exact wpAny_pure (h _)
        · rw [if_neg hr]
          rw [if_neg hr] at h
          exact wpAny_bind (wpAny_rule (wpAny_pure (h _)))
theorem quiet_dat {prog : Program} {w : World} : ∀ (n : Nat) (d : PyData), kOk n d = true → ∀ {A : Around} {E : Value → Shared → Prop} {s : Shared} {v : Value} {as : List Addr} {Q : Bool → Shared → Prop} {m : Nat}, Reads s.heap v d as → n ≤ m →
    Q true s → wpAny (model prog w) A (eqIsQuiet m v) Q E s := by
  intro n
  induction n with
  | zero =>
    intro d hk A E s v as Q m r hm h
    cases r with
    | none => rw [eqIsQuiet_byValue _ rfl]; exact wpAny_pure h
    | int i t => rw [eqIsQuiet_byValue _ rfl]; exact wpAny_pure h
    | str x t => rw [eqIsQuiet_byValue _ rfl]; exact wpAny_pure h
    | bool b => simp [kOk] at hk
    | list => simp [kOk] at hk
    | tuple => simp [kOk] at hk
    | dict => simp [kOk] at hk
  | succ n ih =>
    intro d hk A E s v as Q m r hm h
    cases r with
    | none => rw [eqIsQuiet_byValue _ rfl]; exact wpAny_pure h
    | int i t => rw [eqIsQuiet_byValue _ rfl]; exact wpAny_pure h
    | str x t => rw [eqIsQuiet_byValue _ rfl]; exact wpAny_pure h
    | bool b => simp [kOk] at hk
    | list => simp [kOk] at hk
    | dict => simp [kOk] at hk
    | @tuple a o items k xs as ho hc hd hi =>
      have hx : ∀ x ∈ xs, kOk n x = true := List.all_eq_true.mp (by simpa [kOk] using hk)
      have hT : s.TypeIs (.ref a) "tuple" := ⟨o, ho, hc⟩
      obtain ⟨m', rfl⟩ : ∃ m', m = m' + 1 := ⟨m - 1, by omega⟩
      unfold eqIsQuiet
      refine wpAny_bind (wpAny_specialOf hT F.slot_tuple_eq.lookup ?_)
      show wpAny _ _ (isInstance (.ref a) (.type "tuple") >>= _) _ _ _
      refine wpAny_bind (wpAny_isInstance hT isSubtype_tuple_tuple ?_)
      simp only [Bool.not_true, Bool.false_eq_true, if_false]
      refine wpAny_bind (wpAny_seqItems ho hd (wpAny_bind ?_))
      show wpAny _ _ (forIn items _ _) _ _ _
      rw [← Array.forIn_toList]
      refine wpAny_forIn_list _ (fun rest r s' => r.1 = none ∧ s' = s ∧ ∃ left bs, (∀ x ∈ left, kOk n x = true) ∧ ReadsAll s.heap rest left bs) _ ?_ ?_ _ _ ⟨rfl, rfl, xs, as, hx, hi⟩
      · rintro v rest r s' ⟨hr, rfl, left, bs, hl, hrd⟩
        cases hrd with
        | @cons _ _ d ds b1 b2 h1 h2 =>
          refine wpAny_bind (ih d (hl d List.mem_cons_self) h1 (by omega) ?_)
          simp only [Bool.not_true, Bool.false_eq_true, if_false]
          exact wpAny_pure ⟨rfl, rfl, ds, b2, fun x hx => hl x (List.mem_cons_of_mem _ hx), h2⟩
      · rintro ⟨r1, r2⟩ s' ⟨hr, rfl, _⟩
        simp only at hr
        subst hr
        exact wpAny_pure h
structure KD (K : Type) [DecidableEq K] where
  dat : K → PyData
  ok : ∀ k, kOk 8 (dat k) = true
  eq : ∀ x y, PyData.eqv (dat x) (dat y) = decide (x = y)
section
variable {prog : Program} {w : World} {K : Type} [DecidableEq K] {kd : KD K}
noncomputable def KD.At (kd : KD K) (h : Heap) (k : K) (v : Value) : Prop := ∃ as, Reads h v (kd.dat k) as
theorem KD.inj {h : Heap} {x y : K} {v : Value} (hx : kd.At h x v) (hy : kd.At h y v) : x = y := by
  obtain ⟨as, r⟩ := hx
  obtain ⟨bs, q⟩ := hy
  have e := SeqAt.Reads.unique _ _ _ _ _ (kOk_lay 8 _ (kd.ok x)).1 r q
  have h1 := kd.eq x y
  rw [← e, SeqAt.eqv_refl _ (kOk_lay 8 _ (kd.ok x)).1] at h1
  exact of_decide_eq_true h1.symm
variable {A : Around} {E : Value → Shared → Prop} {s : Shared}
theorem KD.same {x y : K} {u v : Value} {Q : Bool → Shared → Prop} (hu : A.units + 8 < cLine) (hx : kd.At s.heap x u) (hy : kd.At s.heap y v) (h : Q (decide (x = y)) s) : wpAny (model prog w) A (eqBool u v) Q E s := by
  obtain ⟨as, r⟩ := hx
  obtain ⟨bs, q⟩ := hy
  have h1 := kOk_lay 8 _ (kd.ok x)
  have h2 := kOk_lay 8 _ (kd.ok y)
  refine SeqAt.eqAt_reads _ _ A s u v as bs r q h1.1 h2.1 ?_ prog w E Q (by rw [kd.eq]; exact h)
  have := Nat.min_le_left (kd.dat x).depth (kd.dat y).depth
  omega
theorem KD.hashed {k : K} {v : Value} {Q : Int → Shared → Prop} (hu : A.units + 8 < cLine) (hk : kd.At s.heap k v) (h : ∀ tk, Q (hashD w (kd.dat k)) { s with toks := tk }) : wpAny (model prog w) A (pyHash v) Q E s :=
  let ⟨_, r⟩ := hk
  pyHash_dat 8 _ (kd.ok k) r hu h
end
end PySem
namespace PySem
open Sem (wp)
section
variable {prog : Program} {w : World} {K : Type} [DecidableEq K] {kd : KD K} {A : Around} {E : Value → Shared → Prop} {s : Shared}
noncomputable def KD.ent (kd : KD K) (w : World) (x : K × Value × Value) : DictEntry := ⟨hashD w (kd.dat x.1), x.2.1, x.2.2⟩
structure KD.Ents (kd : KD K) (w : World) (h : Heap) (xs : List (K × Value × Value)) (es : Array DictEntry) : Prop where
  es : es.toList = xs.map (kd.ent w)
  is : ∀ x ∈ xs, kd.At h x.1 x.2.1
  nd : (xs.map (·.1)).Nodup
theorem KD.Ents.at {h : Heap} {xs : List (K × Value × Value)} {es : Array DictEntry} (e : kd.Ents w h xs es) (j : Nat) : es[j]? = (xs[j]?).map (kd.ent w) := by
  rw [← Array.getElem?_toList, e.es, List.getElem?_map]
theorem KD.Ents.size {h : Heap} {xs : List (K × Value × Value)} {es : Array DictEntry} (e : kd.Ents w h xs es) : es.size = xs.length := by
  rw [← Array.length_toList, e.es, List.length_map]
theorem ix_one {xs : List (K × Value × Value)} (hn : (xs.map (·.1)).Nodup) {i j : Nat} {k : K} {p q : Value × Value} (hi : xs[i]? = some (k, p)) (hj : xs[j]? = some (k, q)) : i = j := by
  have hi' : (xs.map (·.1))[i]? = some k := by rw [List.getElem?_map, hi]; rfl
  have hj' : (xs.map (·.1))[j]? = some k := by rw [List.getElem?_map, hj]; rfl
  exact (List.getElem?_inj (List.getElem?_eq_some_iff.mp hi').1 hn).mp (hi'.trans hj'.symm)
theorem KD.mayTell {k : K} {key : Value} {stored : List Value} {Q : Bool → Shared → Prop} (hkey : kd.At s.heap k key) (hst : ∀ v ∈ stored, ∃ k', kd.At s.heap k' v) (h : Q false s) : wpAny (model prog w) A (tableMayTell key stored) Q E s := by
  unfold tableMayTell
  split
  · exact wpAny_pure h
  · obtain ⟨_, r⟩ := hkey
    refine wpAny_bind (quiet_dat 8 _ (kd.ok k) r (Nat.le_refl _) ?_)
    simp only [Bool.not_true, Bool.false_eq_true, if_false]
    refine wpAny_bind ?_
    refine wpAny_forIn_list _ (fun rest r s' => s' = s ∧ r = (none, ()) ∧ ∀ v ∈ rest, ∃ k', kd.At s.heap k' v) _ ?_ ?_ _ _ ⟨rfl, rfl, hst⟩
    · rintro x rest r s' ⟨rfl, rfl, hr⟩
      obtain ⟨k', _, hb⟩ := hr x List.mem_cons_self
      refine wpAny_bind (quiet_dat 8 _ (kd.ok k') hb (Nat.le_refl _) ?_)
      simp only [Bool.not_true, Bool.false_eq_true, if_false]
      exact wpAny_pure ⟨rfl, rfl, fun v hv => hr v (List.mem_cons_of_mem _ hv)⟩
    · rintro r s' ⟨rfl, rfl, _⟩
      exact wpAny_pure h
theorem KD.shape {h : Heap} {k : K} {v : Value} (hk : kd.At h k v) : v = .none ∨ (∃ i t, v = .int i t) ∨ (∃ x t, v = .str x t ∧ kd.dat k = .str x) ∨ ∃ a, v = .ref a := by
  obtain ⟨as, r⟩ := hk
  have ok := kd.ok k
  generalize kd.dat k = d at r ok
  cases r with
  | none => exact .inl rfl
  | int i t => exact .inr (.inl ⟨_, _, rfl⟩)
  | str x t => exact .inr (.inr (.inl ⟨_, _, rfl, rfl⟩))
  | bool b => simp [kOk] at ok
  | list => exact .inr (.inr (.inr ⟨_, rfl⟩))
  | dict => exact .inr (.inr (.inr ⟨_, rfl⟩))
  | tuple => exact .inr (.inr (.inr ⟨_, rfl⟩))
theorem wp_ite {M : Model} {A : Around} {α : Type} {Q : α → Shared → Prop} {E : Value → Shared → Prop} {s : Shared} {c : Prop} [Decidable c] {x y : Sem α} (h1 : c → wpAny M A x Q E s) (h2 : ¬ c → wpAny M A y Q E s) : wpAny M A (if c then x else y) Q E s := by
  by_cases h : c
  · rw [if_pos h]; exact h1 h
  · rw [if_neg h]; exact h2 h
theorem KD.found {d : Addr} {o : Obj} {es : Array DictEntry} {ep : Nat} {xs : List (K × Value × Value)} {k : K} {key : Value} {Q : Option Nat → Shared → Prop} (hu : A.units + 8 < cLine) (hkey : kd.At s.heap k key) (ho : s.heap.get? d = some o) (hd : o.data = .dict es ep) (he : kd.Ents w s.heap xs es)
    (hnone : (∀ (j : Nat) (p : Value × Value), xs[j]? ≠ some (k, p)) → Q none s) (hsome : ∀ (j : Nat) (p : Value × Value), xs[j]? = some (k, p) → Q (some j) s) : wpAny (model prog w) A (dictFind d key (hashD w (kd.dat k))) Q E s := by
  have hat := he.at
  have hpl : ∀ j ∈ placesWithHash es.size (fun i => es[i]?.map (·.hash)) (hashD w (kd.dat k)), ∃ k' v z, xs[j]? = some (k', v, z) ∧ es[j]? = some ⟨hashD w (kd.dat k'), v, z⟩ ∧ kd.At s.heap k' v ∧ (hashD w (kd.dat k') == hashD w (kd.dat k)) = true := by
    intro j hj
    obtain ⟨h1, h2⟩ := List.mem_filter.mp hj
    have hlt : j < xs.length := by rw [← he.size]; exact List.mem_range.mp h1
    have hx : xs[j]? = some xs[j] := List.getElem?_eq_getElem hlt
    dsimp only at h2
    rw [hat j, hx] at h2
    refine ⟨xs[j].1, xs[j].2.1, xs[j].2.2, hx, by rw [hat j, hx]; rfl, he.is _ (List.getElem_mem hlt), ?_⟩
    simpa [KD.ent] using h2
  have hin : ∀ (j : Nat) (p : Value × Value), xs[j]? = some (k, p) → j ∈ placesWithHash es.size (fun i => es[i]?.map (·.hash)) (hashD w (kd.dat k)) := by
    intro j p hj
    have hlt : j < xs.length := (List.getElem?_eq_some_iff.mp hj).1
    refine List.mem_filter.mpr ⟨List.mem_range.mpr (by rw [he.size]; exact hlt), ?_⟩
    show ((es[j]?.map (·.hash)) == some (hashD w (kd.dat k))) = true
    rw [hat j, hj]
    simp [KD.ent]
  have hst : ∀ v ∈ (placesWithHash es.size (fun i => es[i]?.map (·.hash)) (hashD w (kd.dat k))).filterMap (fun i => es[i]?.map (·.key)), ∃ k', kd.At s.heap k' v := by
    intro v hv
    obtain ⟨i, hi, e⟩ := List.mem_filterMap.mp hv
    obtain ⟨k', v', z, _, h2, h3, _⟩ := hpl i hi
    rw [h2] at e
    cases e
    exact ⟨k', h3⟩
  have hnd : (placesWithHash es.size (fun i => es[i]?.map (·.hash)) (hashD w (kd.dat k))).Nodup := List.Nodup.sublist List.filter_sublist List.nodup_range
  generalize hps : placesWithHash es.size (fun i => es[i]?.map (·.hash)) (hashD w (kd.dat k)) = ps at hpl hin hst hnd
  have plain : wpAny (model prog w) A (dictWalkPlain d key (hashD w (kd.dat k)) es ps) Q E s := by
    refine wpAny_bind ?_
    refine wpAny_forIn_list _ (fun rest b s' => s' = s ∧ b = (none, ()) ∧ ∃ pre, ps = pre ++ rest ∧ ∀ j ∈ pre, ∀ p : Value × Value, xs[j]? ≠ some (k, p)) _ ?_ ?_ _ _ ⟨rfl, rfl, [], rfl, fun j hj => nomatch hj⟩
    · rintro x rest b s' ⟨rfl, rfl, pre, hpre, hno⟩
      obtain ⟨k', v, z, hx, hex, hv, hh⟩ := hpl x (by rw [hpre]; simp)
      rw [hex]
      dsimp only
      rw [if_pos hh]
      refine wpAny_bind (wpAny_dictEpoch ho hd (wpAny_bind (kd.same (x := k') (y := k) hu hv hkey (wpAny_bind (wpAny_dictEpoch ho hd ?_)))))
      show wpAny _ _ (if (ep != ep) = true then _ else _) _ _ _
      rw [if_neg (by simp)]
      by_cases hkk : k' = k
      · rw [decide_eq_true hkk]
        subst hkk
        exact wpAny_bind (wpAny_rule (wpAny_pure (wpAny_pure (hsome x _ hx))))
      · rw [decide_eq_false hkk]
        refine wpAny_bind (wpAny_rule (wpAny_pure ⟨rfl, rfl, pre ++ [x], by simp [hpre], fun j hj p hp => ?_⟩))
        rcases List.mem_append.mp hj with y | y
        · exact hno j y p hp
        · obtain rfl : j = x := by simpa using y
          rw [hx] at hp
          injection hp with hp
          injection hp with hp
          exact hkk hp
    · rintro b s' ⟨rfl, rfl, pre, hpre, hno⟩
      refine wpAny_pure (hnone fun j p hj => ?_)
      have := hin j p hj
      rw [hpre, List.append_nil] at this
      exact hno j this p hj
  unfold dictFind
  try with_reducible refine wpAny_holding ?_
  refine wpAny_bind (wpAny_dictEntries ho hd ?_)
  dsimp only
  rw [hps]
  have byTxt : ∀ (x : Str) (t : Tok), key = .str x t → kd.dat k = .str x → es.all (fun e => isExactStrKey e.key) = true → wpAny (model prog w) A (foundByValue d key es x) Q E s := by
    rintro x t rfl hdk hall
    unfold foundByValue
    cases hf : es.findIdx? (fun e => e.key.isStr x) with
    | none =>
      refine wpAny_pure (hnone fun j p hj => ?_)
      have h1 := Array.findIdx?_eq_none_iff.mp hf
      have h2 := hat j
      rw [hj] at h2
      have h3 := h1 _ (Array.mem_of_getElem? h2)
      obtain ⟨as, r⟩ := he.is _ (List.mem_of_getElem? hj)
      obtain ⟨p1, p2⟩ := p
      rw [show kd.dat (k, p1, p2).1 = _ from hdk] at r
      replace h3 : ¬ p1.isStr x = true := by simpa [KD.ent] using h3
      replace r : Reads s.heap p1 (.str x) as := r
      cases r
      simp [Value.isStr] at h3
    | some i =>
      obtain ⟨hlt, hi, _⟩ := Array.findIdx?_eq_some_iff_getElem.mp hf
      have hx : xs[i]? = some (xs[i]'(by rw [← he.size]; exact hlt)) := List.getElem?_eq_getElem _
      have h2 := hat i
      rw [hx, Array.getElem?_eq_getElem hlt] at h2
      have h3 : es[i] = kd.ent w (xs[i]'(by rw [← he.size]; exact hlt)) := Option.some.inj h2
      have hA := he.is _ (List.mem_of_getElem? hx)
      rw [h3] at hi
      have hkk : (xs[i]'(by rw [← he.size]; exact hlt)).1 = k := by
        generalize xs[i]'(by rw [← he.size]; exact hlt) = y at hi hA
        obtain ⟨k', v, z⟩ := y
        rcases KD.shape hA with e | ⟨j, u, e⟩ | ⟨y, u, e, e2⟩ | ⟨a, e⟩
        · rw [show (kd.ent w (k', v, z)).key = v from rfl, show v = _ from e] at hi; simp [Value.isStr] at hi
        · rw [show (kd.ent w (k', v, z)).key = v from rfl, show v = _ from e] at hi; simp [Value.isStr] at hi
        · rw [show (kd.ent w (k', v, z)).key = v from rfl, show v = _ from e] at hi
          have e3 : y = x := by simpa [Value.isStr] using hi
          have h5 := kd.eq k' k
          rw [show kd.dat k' = _ from e2, hdk, e3, SeqAt.eqv_refl (.str x) (by rw [← hdk]; exact (kOk_lay 8 _ (kd.ok k)).1)] at h5
          exact of_decide_eq_true h5.symm
        · rw [show (kd.ent w (k', v, z)).key = v from rfl, show v = _ from e] at hi; simp [Value.isStr] at hi
      simp only [Array.getElem?_eq_getElem hlt]
      rw [h3]
      refine wpAny_bind (wpAny_dictEpoch ho hd (wpAny_bind (kd.same (y := k) hu hA hkey (wpAny_bind (wpAny_dictEpoch ho hd ?_)))))
      show wpAny _ _ (if (ep != ep) = true then _ else _) _ _ _
      rw [if_neg (by simp), decide_eq_true hkk]
      refine wpAny_bind (wpAny_rule (wpAny_pure (hsome i (xs[i]'(by rw [← he.size]; exact hlt)).2 ?_)))
      rw [hx, ← hkk]
  have hany : ∀ a, key = .ref a → ¬ (es.any fun e => e.key == Value.ref a && e.hash != hashD w (kd.dat k)) = true := by
    rintro a rfl hc
    rw [← Array.any_toList, List.any_eq_true] at hc
    obtain ⟨e, hin', hc⟩ := hc
    rw [he.es] at hin'
    obtain ⟨y, hy, rfl⟩ := List.mem_map.mp hin'
    simp only [KD.ent, Bool.and_eq_true, beq_iff_eq, bne_iff_ne, ne_eq] at hc
    have h1 := he.is y hy
    rw [hc.1] at h1
    exact hc.2 (by rw [KD.inj h1 hkey])
  by_cases hstr : ∃ x t, key = .str x t ∧ kd.dat k = .str x ∧ es.all (fun e => isExactStrKey e.key) = true
  · obtain ⟨x, t, rfl, hdk, hall⟩ := hstr
    dsimp only
    rw [if_pos hall]
    exact byTxt x t rfl hdk hall
  rcases KD.shape hkey with rfl | ⟨i, t, rfl⟩ | ⟨x, t, rfl, hdk⟩ | ⟨a, rfl⟩
  all_goals
    dsimp only
    first | rw [if_neg (fun y => hstr ⟨_, _, rfl, hdk, y⟩)] | skip
  all_goals
    first | refine (wp_ite (fun _ => plain) fun hall => ?_) | skip
  all_goals
    first | rw [if_neg (hany _ rfl)] | skip
  all_goals
    refine (fun key0 => wp_ite (fun _ => wpAny_bind (wpAny_pure key0)) fun _ => wpAny_bind (KD.mayTell hkey hst key0)) ?_
  all_goals
    rw [if_neg (by simp)]
    refine wpAny_bind ?_
    refine wpAny_forIn_list _ (fun rest b s' => s' = s ∧ ∃ hit, b = (none, hit) ∧ ∃ pre, ps = pre ++ rest ∧ ((hit = none ∧ ∀ j ∈ pre, ∀ p : Value × Value, xs[j]? ≠ some (k, p)) ∨ ∃ j p, j ∈ pre ∧ hit = some j ∧ xs[j]? = some (k, p))) _ ?_ ?_ _ _ ⟨rfl, none, rfl, [], rfl, .inl ⟨rfl, fun j hj => nomatch hj⟩⟩
    · rintro x rest b s' ⟨rfl, hit, rfl, pre, hpre, hH⟩
      obtain ⟨k', v, z, hx, hex, hv, hh⟩ := hpl x (by rw [hpre]; simp)
      rw [hex]
      dsimp only
      rw [if_pos hh]
      refine wpAny_bind (wpAny_dictEpoch ho hd (wpAny_bind (kd.same (x := k') (y := k) hu hv hkey (wpAny_bind (wpAny_dictEpoch ho hd ?_)))))
      show wpAny _ _ (if (ep != ep) = true then _ else _) _ _ _
      rw [if_neg (by simp)]
      by_cases hkk : k' = k
      · rw [decide_eq_true hkk]
        subst hkk
        rcases hH with ⟨rfl, _⟩ | ⟨j, p, hj, _, hjx⟩
        · first | rw [if_pos rfl] | skip
          simp only [Option.isSome_none, Bool.false_eq_true, if_false]
          first | refine wpAny_bind (wpAny_pure ?_) | skip
          refine wpAny_bind (wpAny_rule ?_)
          split
          · exact wpAny_pure (wpAny_pure (hsome x _ hx))
          · exact wpAny_pure ⟨rfl, some x, rfl, pre ++ [x], by simp [hpre], .inr ⟨x, _, by simp, rfl, hx⟩⟩
        · exfalso
          have e := ix_one he.nd hjx hx
          rw [hpre] at hnd
          have := (List.nodup_append.mp hnd).2.2 x (by rw [← e]; exact hj) x (by simp)
          exact this rfl
      · rw [decide_eq_false hkk]
        simp only [Bool.false_eq_true, if_false]
        have nx : (hit = none ∧ ∀ j ∈ pre ++ [x], ∀ p : Value × Value, xs[j]? ≠ some (k, p)) ∨ ∃ j p, j ∈ pre ++ [x] ∧ hit = some j ∧ xs[j]? = some (k, p) := by
          rcases hH with ⟨h1, hno⟩ | ⟨j, p, hj, h1, h2⟩
          · refine .inl ⟨h1, fun j hj p hp => ?_⟩
            rcases List.mem_append.mp hj with y | y
            · exact hno j y p hp
            · obtain rfl : j = x := by simpa using y
              rw [hx] at hp
              injection hp with hp
              injection hp with hp
              exact hkk hp
          · exact .inr ⟨j, p, List.mem_append_left _ hj, h1, h2⟩
        refine wpAny_bind (wpAny_rule ?_)
        first | rw [if_neg (by simp)] | skip
        first
          | exact wpAny_pure ⟨rfl, hit, rfl, pre ++ [x], by simp [hpre], nx⟩
          | exact wpAny_bind (wpAny_pure (wpAny_pure ⟨rfl, hit, rfl, pre ++ [x], by simp [hpre], nx⟩))
    · rintro b s' ⟨rfl, hit, rfl, pre, hpre, hH⟩
      rw [List.append_nil] at hpre
      rcases hH with ⟨rfl, hno⟩ | ⟨j, p, _, rfl, hj⟩
      · exact wpAny_pure (hnone fun j p hj => hno j (by rw [← hpre]; exact hin j p hj) p hj)
      · exact wpAny_pure (hsome j p hj)
noncomputable def KD.Dict (kd : KD K) (w : World) (h : Heap) (d : Addr) (xs : List (K × Value × Value)) : Prop := ∃ o es ep, h.get? d = some o ∧ o.ExactDict ∧ o.data = .dict es ep ∧ kd.Ents w h xs es
theorem KD.Dict.typeIs {d : Addr} {xs : List (K × Value × Value)} (hm : kd.Dict w s.heap d xs) : s.TypeIs (.ref d) "dict" := let ⟨o, _, _, ho, hc, _⟩ := hm; ⟨o, ho, hc.1⟩
noncomputable def atX {α : Type} (xs : List (K × α)) (k : K) : Option α := (xs.find? fun x => decide (x.1 = k)).map (·.2)
theorem atX_none {α : Type} {xs : List (K × α)} {k : K} (h : ∀ (j : Nat) (p : α), xs[j]? ≠ some (k, p)) : atX xs k = none := by
  have : (xs.find? fun x => decide (x.1 = k)) = none := by
    rw [List.find?_eq_none]
    intro x hx hk
    obtain ⟨j, hj⟩ := List.mem_iff_getElem?.mp hx
    have hk' : x.1 = k := of_decide_eq_true hk
    exact h j x.2 (by rw [hj, ← hk'])
  simp [atX, this]
theorem atX_some {α : Type} : ∀ {xs : List (K × α)} {j : Nat} {k : K} {p : α}, (xs.map (·.1)).Nodup → xs[j]? = some (k, p) → atX xs k = some p
  | [], _, _, _, _, h => by simp at h
  | x :: xs, 0, k, p, _, h => by
    simp only [List.getElem?_cons_zero, Option.some.injEq] at h
    subst h
    simp [atX]
  | x :: xs, j + 1, k, p, hn, h => by
    rw [List.map_cons, List.nodup_cons] at hn
    simp only [List.getElem?_cons_succ] at h
    have hne : ¬ x.1 = k := fun e => hn.1 (e ▸ List.mem_map.mpr ⟨(k, p), List.mem_of_getElem? h, rfl⟩)
    have := atX_some hn.2 h
    simpa [atX, List.find?_cons, hne] using this
theorem KD.get {d : Addr} {xs : List (K × Value × Value)} {k : K} {key : Value} {Q : Option Value → Shared → Prop} (hu : A.units + 8 < cLine) (hkey : kd.At s.heap k key) (hm : kd.Dict w s.heap d xs) (h : ∀ tk, Q ((atX xs k).map (·.2)) { s with toks := tk }) : wpAny (model prog w) A (dictGet d key) Q E s := by
  obtain ⟨o, es, ep, ho, _, hd, he⟩ := hm
  unfold dictGet
  try with_reducible refine wpAny_holding ?_
  refine wpAny_bind (KD.hashed hu hkey fun tk => wpAny_bind (KD.found (s := { s with toks := tk }) hu hkey ho hd he ?_ ?_))
  · intro hno
    rw [atX_none hno] at h
    exact wpAny_pure (h tk)
  · intro j p hj
    rw [atX_some he.nd hj] at h
    refine wpAny_bind (wpAny_dictEntries (s := { s with toks := tk }) ho hd ?_)
    rw [he.at j, hj]
    exact wpAny_pure (h tk)
noncomputable def putX {α β : Type} : List (K × β × α) → K → β → α → List (K × β × α)
  | [], k, u, v => [(k, u, v)]
  | x :: xs, k, u, v => if x.1 = k then (x.1, x.2.1, v) :: xs else x :: putX xs k u v
theorem putX_new {α β : Type} (f : K × Value × α → β) {k : K} {u : Value} {v : α} : ∀ {xs : List (K × Value × α)}, (∀ (j : Nat) (p : Value × α), xs[j]? ≠ some (k, p)) → (putX xs k u v).map f = xs.map f ++ [f (k, u, v)]
  | [], _ => rfl
  | x :: xs, h => by
    have hne : ¬ x.1 = k := fun e => h 0 x.2 (by rw [← e]; rfl)
    rw [putX, if_neg hne, List.map_cons, putX_new f (xs := xs) fun j p => h (j + 1) p]
    rfl
theorem putX_old {α β : Type} (f : K × Value × α → β) (g : β → β) {k : K} {u : Value} {v : α} (hg : ∀ a b, g (f (k, a, b)) = f (k, a, v)) : ∀ {xs : List (K × Value × α)} {j : Nat} {p : Value × α}, (xs.map (·.1)).Nodup → xs[j]? = some (k, p) → (putX xs k u v).map f = (xs.map f).modify j g
  | [], _, _, _, h => by simp at h
  | x :: xs, 0, p, _, h => by
    simp only [List.getElem?_cons_zero, Option.some.injEq] at h
    subst h
    rw [putX, if_pos rfl, List.map_cons, List.map_cons, List.modify_zero_cons, hg]
  | x :: xs, j + 1, p, hn, h => by
    rw [List.map_cons, List.nodup_cons] at hn
    simp only [List.getElem?_cons_succ] at h
    have hne : ¬ x.1 = k := fun e => hn.1 (e ▸ List.mem_map.mpr ⟨(k, p), List.mem_of_getElem? h, rfl⟩)
    rw [putX, if_neg hne, List.map_cons, putX_old f g hg hn.2 h, List.map_cons, List.modify_succ_cons]
theorem putX_keys {α : Type} {k : K} {u : Value} {v : α} {x : K} : ∀ {xs : List (K × Value × α)}, x ∈ (putX xs k u v).map (·.1) → x = k ∨ x ∈ xs.map (·.1)
  | [], h => .inl (by simpa [putX] using h)
  | y :: xs, h => by
    unfold putX at h
    split at h
    · exact .inr (by simpa using h)
    · rw [List.map_cons, List.mem_cons] at h
      rcases h with e | e
      · exact .inr (by simp [e])
      · rcases putX_keys e with z | z
        · exact .inl z
        · exact .inr (by rw [List.map_cons]; exact List.mem_cons_of_mem _ z)
theorem putX_nd {α : Type} {k : K} {u : Value} {v : α} : ∀ {xs : List (K × Value × α)}, (xs.map (·.1)).Nodup → ((putX xs k u v).map (·.1)).Nodup
  | [], _ => by simp [putX]
  | y :: xs, h => by
    rw [List.map_cons, List.nodup_cons] at h
    unfold putX
    split
    · exact List.nodup_cons.mpr h
    · rename_i hne
      refine List.nodup_cons.mpr ⟨fun z => ?_, putX_nd h.2⟩
      rcases putX_keys z with e | e
      · exact hne e
      · exact h.1 e
theorem putX_mem {α : Type} {k : K} {u : Value} {v : α} {x : K × Value × α} : ∀ {xs : List (K × Value × α)}, x ∈ putX xs k u v → x = (k, u, v) ∨ ∃ y ∈ xs, y.1 = x.1 ∧ y.2.1 = x.2.1
  | [], h => .inl (by simpa [putX] using h)
  | y :: xs, h => by
    unfold putX at h
    split at h
    · rcases List.mem_cons.mp h with e | e
      · exact .inr ⟨y, by simp, by rw [e], by rw [e]⟩
      · exact .inr ⟨x, by simp [e], rfl, rfl⟩
    · rcases List.mem_cons.mp h with e | e
      · exact .inr ⟨y, by simp, by rw [e], by rw [e]⟩
      · rcases putX_mem e with z | ⟨c, hc, e1⟩
        · exact .inl z
        · exact .inr ⟨c, List.mem_cons_of_mem _ hc, e1⟩
theorem KD.At.keeps {h h' : Heap} {k : K} {v : Value} {d : Addr} {o : Obj} {es : Array DictEntry} {ep : Nat} (x : kd.At h k v) (ho : h.get? d = some o) (hd : o.data = .dict es ep) (hs : Heap.SameBut d h h') : kd.At h' k v := by
  obtain ⟨as, r⟩ := x
  have go : ∀ (n : Nat) (e : PyData), kOk n e = true → ∀ {v : Value} {as : List Addr}, Reads h v e as → Reads h' v e as := by
    intro n
    induction n with
    | zero =>
      intro e he v as r
      cases r with
      | none => exact .none
      | int i t => exact .int i t
      | str x t => exact .str x t
      | bool b => exact .bool b
      | list => simp [kOk] at he
      | tuple => simp [kOk] at he
      | dict => simp [kOk] at he
    | succ n ih =>
      intro e he v as r
      cases r with
      | none => exact .none
      | int i t => exact .int i t
      | str x t => exact .str x t
      | bool b => exact .bool b
      | list => simp [kOk] at he
      | dict => simp [kOk] at he
      | @tuple a o' items k xs as h1 h2 h3 h4 =>
        have hx : ∀ x ∈ xs, kOk n x = true := List.all_eq_true.mp (by simpa [kOk] using he)
        have hne : a ≠ d := by
          rintro rfl
          rw [h1] at ho
          cases ho
          rw [h3] at hd
          cases hd
        refine .tuple ((hs.2 a hne).trans h1) h2 h3 ?_
        have all : ∀ {vs : List Value} {ds : List PyData} {bs : List Addr}, (∀ x ∈ ds, kOk n x = true) → ReadsAll h vs ds bs → ReadsAll h' vs ds bs := by
          intro vs ds
          induction ds generalizing vs with
          | nil => intro bs _ r; cases r; exact .nil
          | cons d ds ih2 =>
            intro bs hd r
            cases r with
            | cons r1 r2 => exact .cons (ih d (hd d List.mem_cons_self) r1) (ih2 (fun x hx => hd x (List.mem_cons_of_mem _ hx)) r2)
        exact all hx h4
  exact ⟨as, go 8 _ (kd.ok k) r⟩
theorem KD.set {d : Addr} {xs : List (K × Value × Value)} {k : K} {key v : Value} {Q : Unit → Shared → Prop} (hu : A.units + 8 < cLine) (hkey : kd.At s.heap k key) (hm : kd.Dict w s.heap d xs) (hsz : xs.length ≤ sizeLine)
    (hQ : ∀ h' tk, kd.Dict w h' d (putX xs k key v) → Heap.SameBut d s.heap h' → Q () { s with heap := h', toks := tk }) : wpAny (model prog w) A (dictSet d key v) Q E s := by
  obtain ⟨o, es, ep, ho, hc, hd, he⟩ := hm
  have hall : ∀ h', Heap.SameBut d s.heap h' → ∀ x ∈ putX xs k key v, kd.At h' x.1 x.2.1 := fun h' hs x hx => by
    rcases putX_mem hx with e | ⟨y, hy, e1, e2⟩
    · rw [e]; exact hkey.keeps ho hd hs
    · rw [← e1, ← e2]; exact (he.is y hy).keeps ho hd hs
  unfold dictSet
  try with_reducible refine wpAny_holding ?_
  refine wpAny_bind (KD.hashed hu hkey fun tk => ?_)
  unfold dictSetHashed
  try with_reducible refine wpAny_holding ?_
  refine wpAny_bind (KD.found (s := { s with toks := tk }) hu hkey ho hd he ?_ ?_)
  · intro hno
    refine wpAny_bind (wpAny_rule (wpAny_updateDictKeys (hz := by rw [he.size]; exact hsz) (s := { s with toks := tk }) ho hd (hQ _ _ ⟨_, _, ep + 1, Heap.get?_update_self _ ho (Obj.isFreed_of_dict (Obj.data_mapDictKeys hd _)), hc.mapDictKeys _, Obj.data_mapDictKeys hd _, ?_, hall _ (Heap.SameBut.update ..), putX_nd he.nd⟩ (Heap.SameBut.update ..))))
    rw [putX_new (kd.ent w) hno]
    simp [he.es, KD.ent]
  · intro j p hj
    refine wpAny_bind (wpAny_rule (wpAny_bind (wpAny_updateDict (s := { s with toks := tk }) ho hd (wpAny_point (hQ _ _ ⟨_, _, ep, Heap.get?_update_self _ ho (Obj.isFreed_of_dict (Obj.data_mapDict hd _)), hc.mapDict _, Obj.data_mapDict hd _, ?_, hall _ (Heap.SameBut.update ..), putX_nd he.nd⟩ (Heap.SameBut.update ..))))))
    rw [putX_old (kd.ent w) (fun e : DictEntry => { e with val := v }) (fun _ _ => rfl) he.nd hj, ← he.es]
    obtain ⟨l⟩ := es
    simp
end
end PySem
namespace L2
open PySem PySem.Spec PyProof.Rows PySem.W
mutual
inductive KeyAt (H : Hp) : PyData → V → Prop
  | non : KeyAt H .none .non
  | int (i : Int) : KeyAt H (.int i) (.int i)
  | str (x : Str) : KeyAt H (.str x) (.str x)
  | tup {a : Addr} {vs : List V} {ds : List PyData} : H a = some (.tup vs) → KeysAt H ds vs → KeyAt H (.tuple ds) (.ref a)
inductive KeysAt (H : Hp) : List PyData → List V → Prop
  | nil : KeysAt H [] []
  | cons {d : PyData} {v : V} {ds : List PyData} {vs : List V} : KeyAt H d v → KeysAt H ds vs → KeysAt H (d :: ds) (v :: vs)
end
theorem KeyAt.reads {P : Program} {w : World} {H : Hp} {h : Heap} (ok : HOk P w H h) : ∀ (n : Nat) (d : PyData), kOk n d = true → ∀ {v : V} {u : Value}, KeyAt H d v → RelV v u → ∃ as, Reads h u d as := by
  intro n
  induction n with
  | zero =>
    intro d hd v u k r
    cases k with
    | non => cases (show u = _ from r); exact ⟨_, .none⟩
    | int i => obtain ⟨t, rfl⟩ := r; exact ⟨_, .int i t⟩
    | str x => obtain ⟨t, rfl⟩ := r; exact ⟨_, .str x t⟩
    | tup => simp [kOk] at hd
  | succ n ih =>
    intro d hd v u k r
    cases k with
    | non => cases (show u = _ from r); exact ⟨_, .none⟩
    | int i => obtain ⟨t, rfl⟩ := r; exact ⟨_, .int i t⟩
    | str x => obtain ⟨t, rfl⟩ := r; exact ⟨_, .str x t⟩
    | @tup a vs ds e ks =>
      cases (show u = _ from r)
      have hx : ∀ x ∈ ds, kOk n x = true := List.all_eq_true.mp (by simpa [kOk] using hd)
      obtain ⟨_, its, rv, ⟨o, h1, h2, m, h3⟩, _⟩ := (show ObjOk P w H h a (.tup vs) from ok a _ e)
      have all : ∀ {ds : List PyData} {vs : List V} {us : List Value}, (∀ x ∈ ds, kOk n x = true) → KeysAt H ds vs → Vals vs us → ∃ as, ReadsAll h us ds as := by
        intro ds
        induction ds with
        | nil => intro vs us _ k r; cases k; cases r; exact ⟨_, .nil⟩
        | cons d ds ih2 =>
          intro vs us hx k r
          cases k with
          | cons k1 k2 =>
            cases r with
            | cons r1 r2 =>
              obtain ⟨b1, q1⟩ := ih d (hx d List.mem_cons_self) k1 r1
              obtain ⟨b2, q2⟩ := ih2 (fun x hh => hx x (List.mem_cons_of_mem _ hh)) k2 r2
              exact ⟨_, .cons q1 q2⟩
      obtain ⟨as, q⟩ := all hx ks rv
      exact ⟨as, .tuple h1 h2 h3 (by simpa using q)⟩
theorem KeyAt.keeps {H H' : Hp} (ht : ∀ b xs, H b = some (.tup xs) → H' b = some (.tup xs)) : ∀ (n : Nat) (d : PyData), kOk n d = true → ∀ {v : V}, KeyAt H d v → KeyAt H' d v := by
  intro n
  induction n with
  | zero =>
    intro d hd v k
    cases k with
    | non => exact .non
    | int i => exact .int i
    | str x => exact .str x
    | tup => simp [kOk] at hd
  | succ n ih =>
    intro d hd v k
    cases k with
    | non => exact .non
    | int i => exact .int i
    | str x => exact .str x
    | @tup a vs ds e ks =>
      have hx : ∀ x ∈ ds, kOk n x = true := List.all_eq_true.mp (by simpa [kOk] using hd)
      have all : ∀ {ds : List PyData} {vs : List V}, (∀ x ∈ ds, kOk n x = true) → KeysAt H ds vs → KeysAt H' ds vs := by
        intro ds
        induction ds with
        | nil => intro vs _ k; cases k; exact .nil
        | cons d ds ih2 =>
          intro vs hx k
          cases k with
          | cons k1 k2 => exact .cons (ih d (hx d List.mem_cons_self) k1) (ih2 (fun x hh => hx x (List.mem_cons_of_mem _ hh)) k2)
      exact .tup (ht _ _ e) (all hx ks)
section
variable {K : Type} [DecidableEq K]
noncomputable abbrev DX (kd : KD K) (w : World) (a : Addr) (kvs : List (K × V × V)) : HO := .ext fun h => kvs.length ≤ sizeLine ∧ (a == sysModules) = false ∧ ∃ xs : List (K × Value × Value),
  Paired (fun (p : K × V × V) (q : K × Value × Value) => p.1 = q.1 ∧ RelV p.2.1 q.2.1 ∧ RelV p.2.2 q.2.2) kvs xs ∧ ∃ o es ep, h.get? a = some o ∧ o.ExactDict ∧ o.data = .dict es ep ∧ es.toList = xs.map (kd.ent w) ∧ (xs.map (·.1)).Nodup
noncomputable def KsIn (H : Hp) (kd : KD K) (kvs : List (K × V × V)) : Prop := ∀ p ∈ kvs, KeyAt H (kd.dat p.1) p.2.1
theorem KsIn.keeps {H H' : Hp} {kd : KD K} {kvs : List (K × V × V)} (k : KsIn H kd kvs) (ht : ∀ b xs, H b = some (.tup xs) → H' b = some (.tup xs)) : KsIn H' kd kvs := fun p hp => (k p hp).keeps ht 8 _ (kd.ok p.1)
theorem dx_stay {kd : KD K} {w : World} {a : Addr} {kvs : List (K × V × V)} (h1 h2 : Heap) (q : kvs.length ≤ sizeLine ∧ (a == sysModules) = false ∧ ∃ xs : List (K × Value × Value),
  Paired (fun (p : K × V × V) (q : K × Value × Value) => p.1 = q.1 ∧ RelV p.2.1 q.2.1 ∧ RelV p.2.2 q.2.2) kvs xs ∧ ∃ o es ep, h1.get? a = some o ∧ o.ExactDict ∧ o.data = .dict es ep ∧ es.toList = xs.map (kd.ent w) ∧ (xs.map (·.1)).Nodup) (k : ∀ o, h1.get? a = some o → h2.get? a = some o) :
    kvs.length ≤ sizeLine ∧ (a == sysModules) = false ∧ ∃ xs : List (K × Value × Value), Paired (fun (p : K × V × V) (q : K × Value × Value) => p.1 = q.1 ∧ RelV p.2.1 q.2.1 ∧ RelV p.2.2 q.2.2) kvs xs ∧ ∃ o es ep, h2.get? a = some o ∧ o.ExactDict ∧ o.data = .dict es ep ∧ es.toList = xs.map (kd.ent w) ∧ (xs.map (·.1)).Nodup := by
  obtain ⟨z, y, xs, r, o, es, ep, e, c⟩ := q
  exact ⟨z, y, xs, r, o, es, ep, k _ e, c⟩
theorem dx_mem {P : Program} {w : World} {H : Hp} {h : Heap} {kd : KD K} (ok : HOk P w H h) : ∀ {kvs : List (K × V × V)} {xs : List (K × Value × Value)}, Paired (fun (p : K × V × V) (q : K × Value × Value) => p.1 = q.1 ∧ RelV p.2.1 q.2.1 ∧ RelV p.2.2 q.2.2) kvs xs → KsIn H kd kvs → ∀ x ∈ xs, kd.At h x.1 x.2.1
  | _, _, .nil, _, x, hx => nomatch hx
  | p :: _, q :: _, .cons r t, k, x, hx => by
    rcases List.mem_cons.mp hx with e | hx
    · subst e
      have := KeyAt.reads ok 8 _ (kd.ok p.1) (k p List.mem_cons_self) r.2.1
      rw [r.1] at this
      exact this
    · exact dx_mem ok t (fun p hp => k p (List.mem_cons_of_mem _ hp)) x hx
theorem dx_rd {P : Program} {w : World} {H : Hp} {h : Heap} {a : Addr} {kd : KD K} {kvs : List (K × V × V)} (ok : HOk P w H h) (e : Rd H a (DX kd w a kvs)) (k : KsIn H kd kvs) :
    kvs.length ≤ sizeLine ∧ (a == sysModules) = false ∧ ∃ xs : List (K × Value × Value), Paired (fun (p : K × V × V) (q : K × Value × Value) => p.1 = q.1 ∧ RelV p.2.1 q.2.1 ∧ RelV p.2.2 q.2.2) kvs xs ∧ kd.Dict w h a xs := by
  obtain ⟨⟨z, y, xs, r, o, es, ep, h1, h2, h3, h4, h5⟩, _⟩ := (show ObjOk P w H h a (DX kd w a kvs) from rd_of ok e)
  exact ⟨z, y, xs, r, o, es, ep, h1, h2, h3, h4, dx_mem ok r k, h5⟩
noncomputable def valX (kvs : List (K × V × V)) (k : K) : Option V := (atX kvs k).map (·.2)
theorem rel_val {k : K} : ∀ {kvs : List (K × V × V)} {xs : List (K × Value × Value)}, Paired (fun (p : K × V × V) (q : K × Value × Value) => p.1 = q.1 ∧ RelV p.2.1 q.2.1 ∧ RelV p.2.2 q.2.2) kvs xs → RelO (valX kvs k) ((atX xs k).map (·.2))
  | _, _, .nil => True.intro
  | p :: ps, q :: qs, .cons r t => by
    have ih := rel_val (k := k) t
    by_cases e : p.1 = k
    · have e2 : q.1 = k := by rw [← r.1]; exact e
      have h1 : valX (p :: ps) k = some p.2.2 := by simp [valX, atX, e]
      have h2 : (atX (q :: qs) k).map (·.2) = some q.2.2 := by simp [atX, e2]
      rw [h1, h2]
      exact r.2.2
    · have e2 : ¬ q.1 = k := by rw [← r.1]; exact e
      have h1 : valX (p :: ps) k = valX ps k := by simp [valX, atX, e]
      have h2 : (atX (q :: qs) k).map (·.2) = (atX qs k).map (·.2) := by simp [atX, e2]
      rw [h1, h2]
      exact ih
theorem rel_put {k : K} {u v : V} {u' v' : Value} (hu : RelV u u') (hv : RelV v v') : ∀ {kvs : List (K × V × V)} {xs : List (K × Value × Value)}, Paired (fun (p : K × V × V) (q : K × Value × Value) => p.1 = q.1 ∧ RelV p.2.1 q.2.1 ∧ RelV p.2.2 q.2.2) kvs xs →
    Paired (fun (p : K × V × V) (q : K × Value × Value) => p.1 = q.1 ∧ RelV p.2.1 q.2.1 ∧ RelV p.2.2 q.2.2) (putX kvs k u v) (putX xs k u' v')
  | _, _, .nil => .cons ⟨rfl, hu, hv⟩ .nil
  | p :: ps, q :: qs, .cons r t => by
    by_cases e : p.1 = k
    · have e2 : q.1 = k := by rw [← r.1]; exact e
      rw [putX, if_pos e, putX, if_pos e2]
      exact .cons ⟨r.1, r.2.1, hv⟩ t
    · have e2 : ¬ q.1 = k := by rw [← r.1]; exact e
      rw [putX, if_neg e, putX, if_neg e2]
      exact .cons r (rel_put hu hv t)
theorem putX_le {α β : Type} {k : K} {u : β} {v : α} : ∀ (xs : List (K × β × α)), (putX xs k u v).length ≤ xs.length + 1
  | [] => Nat.le_refl _
  | x :: xs => by
    unfold putX
    split
    · simp
    · simpa using putX_le xs
theorem putX_memV {k : K} {u v : V} {x : K × V × V} : ∀ {xs : List (K × V × V)}, x ∈ putX xs k u v → x = (k, u, v) ∨ ∃ y ∈ xs, y.1 = x.1 ∧ y.2.1 = x.2.1
  | [], h => .inl (by simpa [putX] using h)
  | y :: xs, h => by
    unfold putX at h
    split at h
    · rcases List.mem_cons.mp h with e | e
      · exact .inr ⟨y, by simp, by rw [e], by rw [e]⟩
      · exact .inr ⟨x, by simp [e], rfl, rfl⟩
    · rcases List.mem_cons.mp h with e | e
      · exact .inr ⟨y, by simp, by rw [e], by rw [e]⟩
      · rcases putX_memV e with z | ⟨c, hc, e1⟩
        · exact .inl z
        · exact .inr ⟨c, List.mem_cons_of_mem _ hc, e1⟩
theorem KsIn.put {H : Hp} {kd : KD K} {kvs : List (K × V × V)} {k : K} {u v : V} (ks : KsIn H kd kvs) (hk : KeyAt H (kd.dat k) u) : KsIn H kd (putX kvs k u v) := fun p hp => by
  rcases putX_memV hp with e | ⟨y, hy, e1, e2⟩
  · rw [e]; exact hk
  · rw [← e1, ← e2]; exact ks y hy
theorem dx_new {P : Program} {w : World} {H' : Hp} {h' : Heap} {a : Addr} {kd : KD K} {kvs : List (K × V × V)} {xs : List (K × Value × Value)} (z : kvs.length ≤ sizeLine) (hd : (a == sysModules) = false)
    (rel : Paired (fun (p : K × V × V) (q : K × Value × Value) => p.1 = q.1 ∧ RelV p.2.1 q.2.1 ∧ RelV p.2.2 q.2.2) kvs xs) (dd : kd.Dict w h' a xs) : ObjOk P w H' h' a (DX kd w a kvs) := by
  obtain ⟨o, es, ep, h1, h2, h3, h4⟩ := dd
  exact ⟨⟨z, hd, xs, rel, o, es, ep, h1, h2, h3, h4.es, h4.nd⟩, ⟨o, h1⟩, fun a b q k => dx_stay a b q k⟩
variable {X : Cx} {pins : List (Addr × Obj)} {σ : St} {H : Hp} {s : Shared} {a : Addr} {kd : KD K} {kvs : List (K × V × V)} {k : K} {y v d : V} {u r : Value} {A : Around} {E : Value → Shared → Prop}
noncomputable def DH (H : Hp) (kd : KD K) (w : World) (a : Addr) (kvs : List (K × V × V)) : Prop := Rd H a (DX kd w a kvs) ∧ KsIn H kd kvs
theorem dx_at (I : Inv X pins σ H s) (e : DH H kd X.w a kvs) (hk : KeyAt H (kd.dat k) y) (ry : RelV y u) : kd.At s.heap k u := KeyAt.reads I.hok 8 _ (kd.ok k) hk ry
theorem x_getItem {Q : Value → Shared → Prop} (hu : A.units + 64 < cLine) (I : Inv X pins σ H s) (e : DH H kd X.w a kvs) (hk : KeyAt H (kd.dat k) y) (hv : valX kvs k = some v) (ry : RelV y u) (h : ∀ w' s', Inv X pins σ H s' → RelV v w' → Q w' s') :
    wpAny (model X.prog X.w) A (getItem (.ref a) u) Q E s := by
  obtain ⟨z, hd, xs, rel, dd⟩ := dx_rd I.hok e.1 e.2
  obtain ⟨w', hw, rw'⟩ := RelO.some_of (v := v) (o := (atX xs k).map (·.2)) (by rw [← hv]; exact rel_val rel)
  have hT : s.TypeIs (.ref a) "dict" := dd.typeIs
  unfold getItem
  try with_reducible refine wpAny_holding ?_
  refine wpAny_bind (wpAny_sequenceKey hT (by decide) ?_)
  refine wpAny_bind (wpAny_callSpecial?_slot (name := Str.ofString "__getitem__") hT slot_dict_getitem (wpAny_call_entry slot_dict_getitem hT entry_dict_getitem ?_ (args_dict_getitem _ _)))
  show wpAny _ _ (dictGet a u >>= _) _ _ s
  refine wpAny_bind (KD.get (by show A.units + 1 + 8 < cLine; omega) (dx_at I e hk ry) dd fun tk => ?_)
  rw [hw]
  exact wpAny_pure ⟨w', rfl, wpAny_pure (h w' _ (I.tok _) rw')⟩
theorem x_setItem {Q : Unit → Shared → Prop} (hu : A.units + 64 < cLine) (I : Inv X pins σ H s) (e : H a = some (DX kd X.w a kvs)) (ks : KsIn H kd kvs) (hk : KeyAt H (kd.dat k) y) (hl : kvs.length < sizeLine) (ry : RelV y u) (rv : RelV v r) (h : ∀ s', Inv X pins σ (upd H a (DX kd X.w a (putX kvs k y v))) s' → Q () s') :
    wpAny (model X.prog X.w) A (setItem (.ref a) u r) Q E s := by
  obtain ⟨z, hd, xs, rel, dd⟩ := dx_rd I.hok (.inl e) ks
  have hT : s.TypeIs (.ref a) "dict" := dd.typeIs
  unfold setItem
  try with_reducible refine wpAny_holding ?_
  refine wpAny_bind (wpAny_sequenceKey hT (by decide) ?_)
  refine wpAny_bind (wpAny_callSpecial?_slot (name := Str.ofString "__setitem__") hT slot_dict_setitem (wpAny_call_entry slot_dict_setitem hT entry_dict_setitem ?_ (args_dict_setitem _ _ _)))
  show wpAny _ _ (Builtin.Dict.notOrdered "__setitem__" ⟨[.ref a, u, r], []⟩ >>= _) _ _ s
  refine wpAny_bind (wpAny_notOrdered_dict hT ?_)
  show wpAny _ _ (dictSet a u r >>= _) _ _ s
  refine wpAny_bind (KD.set (by show A.units + 1 + 8 < cLine; omega) (dx_at I ⟨.inl e, ks⟩ hk ry) dd (by rw [← Paired.length rel]; exact z) fun h' tk dd' hs => wpAny_pure ⟨.none, rfl, wpAny_pure (h _ ?_)⟩)
  have he : ∃ q, h'.get? a = some q := let ⟨q, _, _, hq, _⟩ := dd'; ⟨q, hq⟩
  refine d_write I (by rw [e]; exact True.intro) hs he (dx_new ?_ hd (rel_put ry rv rel) dd')
  have := putX_le (k := k) (u := y) (v := v) kvs
  omega
end
end L2
namespace L2
open PySem PySem.Spec PyProof.Rows PySem.W
section
variable {K : Type} [DecidableEq K]
theorem dx_empty {P : Program} {w : World} {H : Hp} (kd : KD K) (h : Heap) (hb : sysModules < h.objs.size) : ObjOk P w H (h.push { cls := .type "dict", data := .dict #[] }) h.objs.size (DX kd w h.objs.size []) :=
  ⟨⟨Nat.zero_le _, beq_eq_false_iff_ne.mpr (Ne.symm (Nat.ne_of_lt hb)), [], .nil, _, #[], 0, Heap.get?_push_size _ rfl, ⟨rfl, rfl, rfl⟩, rfl, rfl, List.nodup_nil⟩, ⟨_, Heap.get?_push_size _ rfl⟩, fun a b q k => dx_stay a b q k⟩
noncomputable def IsX (H : Hp) (kd : KD K) (w : World) (a : Addr) : Prop := ∃ kvs, Rd H a (DX kd w a kvs)
theorem isX_at {X : Cx} {pins : List (Addr × Obj)} {σ : St} {H : Hp} {s : Shared} {a : Addr} {kd : KD K} (I : Inv X pins σ H s) (d : IsX H kd X.w a) :
    s.TypeIs (.ref a) "dict" ∧ (∀ b, Value.ref a = .ref b → ∃ ob, s.heap.get? b = some ob ∧ ob.dict = none) ∧ (a == sysModules) = false := by
  obtain ⟨kvs, e⟩ := d
  obtain ⟨⟨z, y, xs, r, o, es, ep, h1, h2, h3, h4, h5⟩, _⟩ := (show ObjOk X.prog X.w H s.heap a (DX kd X.w a kvs) from rd_of I.hok e)
  refine ⟨⟨o, h1, h2.1⟩, fun b q => ?_, y⟩
  cases q
  exact ⟨o, h1, h2.2.1⟩
noncomputable def tXGet (kd : KD K) (w : World) (td ty : TE) : TE := fun σ H Q => td σ H fun x H1 => ty σ H1 fun y H2 => ∃ a kvs k v, x = .ref a ∧ DH H2 kd w a kvs ∧ KeyAt H2 (kd.dat k) y ∧ valX kvs k = some v ∧ Q v H2
noncomputable def sXPut (kd : KD K) (w : World) (td ty tv : TE) : TS := fun D σ H => tv σ H fun v H1 => td σ H1 fun x H2 => ty σ H2 fun y H3 => ∃ a kvs k, x = .ref a ∧ H3 a = some (DX kd w a kvs) ∧ KsIn H3 kd kvs ∧ KeyAt H3 (kd.dat k) y ∧ kvs.length < sizeLine ∧ D.nx σ (upd H3 a (DX kd w a (putX kvs k y v)))
variable {X : Cx} {o i e f value : Expr} {pos pos' apos cpos : Pos} {td ty tx tv : TE} (kd : KD K)
theorem pe_dgetX (hu : X.A.units + 64 < cLine) (ho : PE X o td) (hi : PE X i ty) (hs : NoSl i) : PE X (.Subscript o i pos) (tXGet kd X.w td ty) := by
  intro pins s σ H Q I h
  refine subD_of PySem.F.slot_dict_getitem.lookup hs (thn (ho pins s σ H _ I h) fun u s1 ⟨x, H1, I1, rx, q1⟩ => thn (hi pins s1 σ H1 _ I1 q1) fun iv s2 ⟨y, H2, I2, ry, a, kvs, k, v, ex, g, hk, hv, q2⟩ => ?_)
  subst ex
  obtain rfl : u = Value.ref a := rx
  exact ⟨(isX_at I2 ⟨kvs, g.1⟩).1, x_getItem hu I2 g hk hv ry fun w' s3 I3 rw' => ⟨v, H2, I3, rw', q2⟩⟩
theorem ps_dputX (hu : X.A.units + 64 < cLine) (ho : PE X o td) (hi : PE X i ty) (hv : PE X value tv) (hs : swapsWith value (some (.Subscript o i pos')) pos.line X.env = pure false) :
    PS X (.Assign [.Subscript o i pos'] value pos) (sXPut kd X.w td ty tv) := by
  intro pins s σ H D I h
  refine wpAny_Assign_Subscript (thn (hv pins s σ H _ I h) fun r s1 ⟨v, H1, I1, rv, q1⟩ => thn (ho pins s1 σ H1 _ I1 q1) fun u s2 ⟨x, H2, I2, rx, q2⟩ => thn (hi pins s2 σ H2 _ I2 q2) fun iv s3 ⟨y, H3, I3, ry, a, kvs, k, ex, g, ks, hk, hl, q3⟩ => ?_) hs
  subst ex
  obtain rfl : u = Value.ref a := rx
  exact x_setItem hu I3 g ks hk hl ry rv fun s4 I4 => ⟨σ, _, I4, q3⟩
noncomputable def putAllX (kvs more : List (K × V × V)) : List (K × V × V) := more.foldl (fun acc p => putX acc p.1 p.2.1 p.2.2) kvs
theorem store_all {kd : KD K} {pins : List (Addr × Obj)} {σ : St} {a : Addr} {A : Around} {E : Value → Shared → Prop} (hu : A.units + 64 < cLine) : ∀ (more : List (K × V × V)) (ws : List (Value × Value)) (kvs : List (K × V × V)) (H : Hp) (s : Shared) (Q : PUnit → Shared → Prop), Inv X pins σ H s → H a = some (DX kd X.w a kvs) → KsIn H kd kvs → KsIn H kd more →
    VV (more.map (·.2)) ws → kvs.length + more.length < sizeLine → (∀ s', Inv X pins σ (upd H a (DX kd X.w a (putAllX kvs more))) s' → Q PUnit.unit s') → wpAny (model X.prog X.w) A (storeAll a ws) Q E s := by
  intro more
  induction more with
  | nil =>
    intro ws kvs H s Q I e ks km r hl h
    cases r
    unfold storeAll
    rw [List.forIn_nil]
    refine wpAny_pure (h s ?_)
    have : upd H a (DX kd X.w a (putAllX kvs [])) = H := by
      funext b
      unfold upd
      split
      · rename_i hb; rw [hb, e]; rfl
      · rfl
    rw [this]
    exact I
  | cons p more ih =>
    intro ws kvs H s Q I e ks km r hl h
    rw [List.map_cons] at r
    cases r with
    | @cons _ q _ qs hq t =>
      obtain ⟨q1, q2⟩ := q
      obtain ⟨z, hd, xs, rel, dd⟩ := dx_rd I.hok (.inl e) ks
      have hl' : kvs.length + (more.length + 1) < sizeLine := by simpa using hl
      unfold storeAll
      rw [List.forIn_cons]
      refine wpAny_bind (wpAny_bind (KD.set (by omega) (dx_at I ⟨.inl e, ks⟩ (km p List.mem_cons_self) hq.1) dd (by rw [← Paired.length rel]; exact z) fun h' tk dd' hs => wpAny_pure ?_))
      have he : ∃ q, h'.get? a = some q := let ⟨q, _, _, hq, _⟩ := dd'; ⟨q, hq⟩
      have hpl := putX_le (k := p.1) (u := p.2.1) (v := p.2.2) kvs
      have I2 := d_write (t' := tk) I (by rw [e]; exact True.intro) hs he (dx_new (P := X.prog) (w := X.w) (H' := upd H a (DX kd X.w a (putX kvs p.1 p.2.1 p.2.2))) (by omega) hd (rel_put (k := p.1) hq.1 hq.2 rel) dd')
      have kt : ∀ b xs, H b = some (.tup xs) → upd H a (DX kd X.w a (putX kvs p.1 p.2.1 p.2.2)) b = some (.tup xs) := fun b xs eb => by
        rw [upd_ne (ne_of eb e (fun z => nomatch z))]
        exact eb
      refine ih qs (putX kvs p.1 p.2.1 p.2.2) _ _ Q I2 upd_same ((ks.put (km p List.mem_cons_self)).keeps kt) (KsIn.keeps (fun x hx => km x (List.mem_cons_of_mem _ hx)) kt) t (by omega) fun s' I' => h s' ?_
      rw [upd_upd] at I'
      exact I'
noncomputable def tDispX (kd : KD K) (w : World) (trs : List (TE × TE)) : TE := fun σ H Q => ∀ p, H p = none → tPairs trs σ (upd H p (DX kd w p [])) fun ps H2 => H2 p = some (DX kd w p []) ∧ ∃ kvs : List (K × V × V), ps = kvs.map (·.2) ∧ KsIn H2 kd kvs ∧ kvs.length ≤ 15 ∧ Q (.ref p) (upd H2 p (DX kd w p (putAllX [] kvs)))
theorem pe_dispX (hu : X.A.units + 64 < cLine) {keys : List (Option Expr)} {values : List Expr} {trs : List (TE × TE)} (h : PPs X pos keys values trs) (hall : keys.all (·.isSome) = true) (hl : keys.length = values.length) (h0 : keys ≠ []) (h15 : keys.length ≤ 15) : PE X (.Dict keys values pos) (tDispX kd X.w trs) := by
  intro pins s σ H Q I q
  have hn := I.hok.fresh (Nat.le_refl s.heap.objs.size)
  have I1 := I.laid (a := s.heap.objs.size) (h' := s.heap.push { cls := .type "dict", data := .dict #[] }) (t' := s.toks) (fun _ _ q => Heap.get?_push_of_some _ q) (Nat.le_refl _) (dx_empty kd s.heap I.big)
  refine wpAny_Dict_any hall hl h0 h15 (thn (h pins _ σ _ _ I1 (q _ hn)) fun ws s2 ⟨ps, H2, I2, rel, e, kvs, ep, ks, lk, q2⟩ => ?_)
  subst ep
  refine store_all hu kvs ws [] H2 s2 _ I2 e (fun x hx => nomatch hx) ks rel (by rw [sizeLine_eq]; simp only [List.length_nil]; omega) fun s' I' => ⟨.ref s.heap.objs.size, _, I', rfl, q2⟩
end
end L2
namespace PyProof.Rows
open PySem PySem.Spec
section
variable {prog : Program} {w : World} {A : Around} {E : Value → Shared → Prop}
end
end PyProof.Rows
namespace L2
open PySem PySem.Spec PyProof.Rows PySem.W
section
variable {X : Cx} {pos : Pos}
end
end L2
namespace L2
open PySem PySem.Spec PyProof.Rows
section
variable {M : Model} {A : Around} {E : Value → Shared → Prop} {s : Shared} {B : Heap} {env : Env} {outer : List Env} {L e : Addr} {cls c : Value} {Q : Unit → Shared → Prop}
theorem fl_landV {l : List Env} {fl : Value} (fr : Option Addr) (x : Fl B l e cls c fl s.heap) (q : ∀ g, Fl B l e cls c (fr.elim Value.none fun f => rawInt f) g → s.heap.UpToSlots g → Q () { s with heap := g }) : wpAny M A (setFlight (.ref e) fr) Q E s := by
  obtain ⟨sB, eB, fF, oe, vs, T, oT, ts, e1, ek, ed, ec, et, tB, tn, t1, td, t3⟩ := x
  have z3 : 3 < ts.size := (Array.getElem?_eq_some_iff.mp t3).1
  have oth : ∀ b, b ≠ T → (s.heap.update T (Obj.mapFields (·.setIfInBounds 3 (fr.elim Value.none fun f => rawInt f)))).get? b = s.heap.get? b := fun b n => Heap.get?_update_other _ _ (Ne.symm n)
  have rec0 : ∀ b o, s.heap.get? b = some o → (∀ ws, o.data ≠ .fields ws) → b ≠ T := fun b o y n z => by
    subst z; rw [t1] at y; cases y; exact n ts td
  unfold setFlight
  refine wpAny_bind (wpAny_field e1 ed et ?_)
  rw [if_pos (show (Value.ref T != Value.none) = true by simp)]
  refine wpAny_setField t1 td z3 (q _ ⟨fun b o y => (oth b fun z => by subst z; rw [tB] at y; cases y).trans (sB b o y), eB, fF.of_keeps fun b o y n => ⟨o, (oth b (rec0 b o y n)).trans y, rfl⟩, oe, vs, T, _, _, (oth e (Ne.symm tn)).trans e1, ek, ed, ec, et, tB, tn, Heap.get?_update_self _ t1 (Obj.isFreed_of_fields (Obj.data_mapFields td _)), Obj.data_mapFields td _, ?_⟩ fun b o y n => ⟨o.slots, (oth b (rec0 b o y n)).trans y⟩)
  simp [z3]
theorem fl_noteV {fl : Value} (fA : A.frames = some (env :: outer)) (fL : env.frame = some L) (x : Fl B (env :: outer) e cls c fl s.heap)
    (q : ∀ g, Fl B (env :: outer) e cls c (rawInt L) g → s.heap.UpToSlots g → Q () { s with heap := g }) : wpAny M A (noteFrame (.ref e) env) Q E s := by
  obtain ⟨sB, eB, fF, oe, vs, T, oT, ts, e1, rfl, ed, ec, et, tB, tn, t1, td, t3⟩ := id x
  unfold noteFrame
  simp only [fL]
  refine wpAny_bind (wpAny_field e1 ed et ?_)
  rw [if_pos (show (Value.ref T != Value.none) = true by simp)]
  refine wpAny_bind (wpAny_field t1 td t3 ?_)
  by_cases hfl : (fl == rawInt L) = true
  · rw [if_pos hfl]
    have e2 : fl = rawInt L := eq_of_beq hfl
    rw [e2] at x
    exact wpAny_pure (q s.heap x fun b o z _ => ⟨o.slots, z⟩)
  rw [if_neg hfl]
  refine wpAny_bind (wpAny_setField t1 td (Array.getElem?_eq_some_iff.mp t3).1 ?_)
  have oth : ∀ b, b ≠ T → (s.heap.update T (Obj.mapFields (·.setIfInBounds 3 Value.none))).get? b = s.heap.get? b := fun b n => Heap.get?_update_other _ _ (Ne.symm n)
  have rec0 : ∀ b o, s.heap.get? b = some o → (∀ ws, o.data ≠ .fields ws) → b ≠ T := fun b o y n z => by
    subst z; rw [t1] at y; cases y; exact n ts td
  refine fl_entry (s := { s with heap := s.heap.update T (Obj.mapFields (·.setIfInBounds 3 Value.none)) }) fA (fF.of_keeps fun b o y n => ⟨o, (oth b (rec0 b o y n)).trans y, rfl⟩) fL ((oth e (Ne.symm tn)).trans e1) (fun b o y => (oth b fun z => by subst z; rw [tB] at y; cases y).trans (sB b o y)) eB ed ec
    fun g y1 y2 => q g y1 fun b o z n => y2 b o ((oth b (rec0 b o z n)).trans z) n
theorem fl_leaveV {fl : Value} (fA : A.frames = some (env :: outer)) (fL : env.frame = some L) (x : Fl B (env :: outer) e cls c fl s.heap)
    (q : ∀ g, Fl B outer e cls c .none g → s.heap.UpToSlots g → Q () { s with heap := g }) : wpAny M A (leaving env (.ref e)) Q E s := by
  unfold leaving
  exact wpAny_bind (fl_noteV fA fL x fun g1 y1 u1 => fl_land (s := { s with heap := g1 }) y1 fun g2 y2 u2 => q g2 y2.rest (u1.trans u2))
end
theorem ff_but {g h' B B' : Heap} (hB : ∀ b, B.get? b = none → B'.get? b = none) (k : ∀ b o, B.get? b = none → g.get? b = some o → h'.get? b = some o) : ∀ {l : List Env}, g.FunFrames B l → h'.FunFrames B' l
  | [], _ => trivial
  | _ :: _, ⟨hk, ⟨L, o, hf, hn, ho, hd⟩, hr⟩ => ⟨hk, ⟨L, o, hf, hB _ hn, k _ _ hn ho, hd⟩, ff_but hB k hr⟩
noncomputable def ErrArm (M : Model) (A : Around) (XE : Value → Shared → Prop) (C : Addr) (x : Value) (s' : Shared) : Prop := ∃ m, s'.heap.Ns C m ∧ ∀ h', Heap.SameBut C s'.heap h' → ∀ cenv : Env, cenv.locals = C → wpAny M A (PySem.passOn "comprehension.variables-let-go" x cenv : Sem Value) (fun _ _ => False) XE { s' with heap := h' }
section
variable {P : Program} {w : World} {K : PySem.W.Frag} {mg : Str → Option Value} {base : Heap} {N : List Str} {qual : Str} {scope : Scope} {f : Addr} {cd : Value} {A : Around} {outer : List Env} {s : Shared} {H : Hp} {E : XK}
theorem cx_compX {scope' : Scope} {N' : List Str} {C : Addr} {fp : List Addr} {pins pl : List (Addr × Obj)} {σ0 σ : St} {s2 s1 : Shared} {H2 H1 : Hp} (I2 : Inv (cxOf (CXR P w) P w K mg base N qual scope f cd A outer s H E) pins σ0 H2 s2) (hC : s2.heap.objs.size ≤ C) (f2 : ∀ b ∈ fp, FpOk (cxOf (CXR P w) P w K mg base N qual scope f cd A outer s H E) pins H2 b)
    (I : Inv ((cxOf (CXR P w) P w K mg base N qual scope f cd A outer s H E).comp scope' N' C fp pins s2 H2) pl σ H1 s1) {e : Value} {s' : Shared} (h : CXR P w (cxOf (CXR P w) P w K mg base N qual scope f cd A outer s H E).stack H1 s1 E e s') :
    notedBy (model P w) (A.deeper (envOfC qual scope s.heap.objs.size f cd)) (envOfC qual scope s.heap.objs.size f cd) (ErrArm (model P w) (A.deeper (envOfC qual scope s.heap.objs.size f cd)) (cxOf (CXR P w) P w K mg base N qual scope f cd A outer s H E).xe C) e s' := by
  obtain ⟨x, Ce, c, B, H', rfl, F, q⟩ := h
  have noex : ∀ b : Addr, b ∉ (cxOf (CXR P w) P w K mg base N qual scope f cd A outer s H E).ex := fun b z => absurd (show b ∈ ([] : List Addr) from z) (by simp)
  have notF : ∀ b o, s.heap.get? b = some o → b ∉ frs outer → b ∉ frs (envOfC qual scope s.heap.objs.size f cd :: outer) := fun b o e hb z => by
    rcases List.mem_cons.mp (I2.stkSub b z) with y | y
    · exact absurd (Heap.lt_size e) (by rw [y]; exact Nat.lt_irrefl _)
    · exact hb y
  have ge2 : s.heap.objs.size ≤ s2.heap.objs.size := Nat.le_trans (show s.heap.objs.size ≤ (cxOf (CXR P w) P w K mg base N qual scope f cd A outer s H E).env.locals from I2.ok.above) (Nat.le_of_lt I2.lt)
  have notP : ∀ b o, s.heap.get? b = some o → b ∉ fp := fun b o e hb => by
    rcases (f2 b hb).2.2.2.1 with z | z
    · exact noex b z
    · exact absurd (Heap.lt_size e) (Nat.not_lt.mpr z)
  have neC : ∀ b o, s.heap.get? b = some o → b ≠ C := fun b o e z => by
    have y := Heap.lt_size e
    rw [z] at y
    exact absurd (Nat.lt_of_lt_of_le y (Nat.le_trans ge2 hC)) (Nat.lt_irrefl _)
  obtain ⟨m, ⟨oC, es, ep, hoC, r⟩, _⟩ := I.loc
  have nC : H1 C = none := I.free
  have CF : C ∉ frs (envOfC qual scope s.heap.objs.size f cd :: outer) := fun z => by
    obtain ⟨_, o, ho, _⟩ := I2.stack.mem z
    exact absurd (Heap.lt_size ho) (Nat.not_lt.mpr hC)
  have hB : B.get? C = some oC := F.k1 C oC hoC nC CF
  have hC' : H' C = none := F.free C oC hoC nC
  refine fl_noteV (outer := outer) (L := s.heap.objs.size) I2.ok.frames rfl F.fly fun g fl up => ?_
  refine ⟨m, ⟨oC, es, ep, fl.1 C oC hB, r⟩, fun h' sb cenv hcenv => ?_⟩
  have neB : ∀ b, B.get? b = none → b ≠ C := fun b e z => by rw [z, hB] at e; cases e
  have sub : ∀ b, B.get? b = none → (PySem.W.hideAll B [C]).get? b = none := fun b e => by
    cases z : (PySem.W.hideAll B [C]).get? b with
    | none => rfl
    | some o => rw [PySem.W.of_hideAll _ z] at e; cases e
  have hideNe : ∀ b o, (PySem.W.hideAll B [C]).get? b = some o → b ≠ C := fun b o e z => by
    rw [z, PySem.W.hideAll_none [C] (by simp)] at e
    cases e
  have fl' : Fl (PySem.W.hideAll B [C]) (envOfC qual scope s.heap.objs.size f cd :: outer) x (.ref Ce) c (rawInt s.heap.objs.size) h' := by
    obtain ⟨sB, eB, fF, oe, vs, T, oT, ts, e1, ek, ed, ec, et, tB, tn, t1, td, t3⟩ := fl
    exact ⟨fun b o z => (sb.2 b (hideNe b o z)).trans (sB b o (PySem.W.of_hideAll _ z)), sub x eB, ff_but sub (fun b o n z => (sb.2 b (neB b n)).trans z) fF, oe, vs, T, oT, ts, (sb.2 x (neB x eB)).trans e1, ek, ed, ec, et, sub T tB, tn, (sb.2 T (neB T tB)).trans t1, td, t3⟩
  unfold PySem.passOn
  obtain ⟨oe, vs, T, oT, ts, e1, ek, ed, ec, et, _⟩ := fl'.2.2.2
  refine wpAny_bind (wpAny_field (s := { s' with heap := h' }) e1 ed et ?_)
  rw [if_neg (show ¬ (Value.ref T == Value.none) = true by simp)]
  refine wpAny_bind (fl_landV (s := { s' with heap := h' }) cenv.frame fl' fun g2 fl2 up2 => wpAny_throw ?_)
  show wpAny _ _ (leaving (envOfC qual scope s.heap.objs.size f cd) (.ref x)) _ _ _
  refine fl_leaveV (s := { s' with heap := g2 }) (outer := outer) (L := s.heap.objs.size) I2.ok.frames rfl fl2 fun h3 fl3 up3 => ⟨x, Ce, c, PySem.W.hideAll B [C], H', rfl, ⟨fl3, F.os.trans (I.os.trans I2.os), F.bare, fun b o e n hb => ?_, fun b o e n hb => ?_, fun b o e hb => ?_, fun b o e n => ?_, fun b xs e => F.tups b xs (I.base.tups b xs (I2.base.tups b xs e)), fun b o u e => F.frzs b o u (I.base.frzs b o u (I2.base.frzs b o u e)), fun b ps e => ?_, ?_, F.new, ?_⟩, q⟩
  · have b1 := I2.base.keep b o e n hb (noex b)
    have b2 := I2.base.free b o e n (noex b)
    have b3 := I.base.keep b o b1 b2 (notF b o e hb) (notP b o e)
    have b4 := I.base.free b o b1 b2 (notP b o e)
    exact PySem.W.hideAll_get _ (F.k1 b o b3 b4 (notF b o e hb)) (by simpa using neC b o e)
  · obtain ⟨sl1, b1⟩ := I2.base.slot b o e n hb (noex b)
    have b2 := I2.base.free b o e n (noex b)
    have hb' : b ∈ frs (envOfC qual scope s.heap.objs.size f cd :: outer) := frs_cons hb
    obtain ⟨sl2, b3⟩ := I.base.slot b _ b1 b2 hb' (notP b o e)
    have b4 := I.base.free b _ b1 b2 (notP b o e)
    obtain ⟨sl3, b5⟩ := F.k2 b _ b3 b4 hb'
    obtain ⟨_, o2, ho2, nf2⟩ := F.fly.2.2.1.mem hb'
    rw [b5] at ho2; cases ho2
    obtain ⟨sl4, b6⟩ := up b _ b5 nf2
    have b7 := (sb.2 b (neC b o e)).trans b6
    obtain ⟨sl5, b8⟩ := up2 b _ b7 nf2
    obtain ⟨sl6, b9⟩ := up3 b _ b8 nf2
    exact ⟨sl6, b9⟩
  · obtain ⟨o1, b1⟩ := I2.base.there b o e (noex b)
    obtain ⟨o2, b2⟩ := I.base.there b o1 b1 (notP b o e)
    obtain ⟨o3, b3⟩ := F.k3 b o2 b2 (notF b o e hb)
    exact ⟨o3, PySem.W.hideAll_get _ b3 (by simpa using neC b o e)⟩
  · obtain ⟨o1, b1⟩ := I2.base.there b o e (noex b)
    obtain ⟨o2, b2⟩ := I.base.there b o1 b1 (notP b o e)
    exact F.free b o2 b2 (I.base.free b o1 b1 (I2.base.free b o e n (noex b)) (notP b o e))
  · obtain ⟨m1, q1⟩ := I2.base.tbls b ps e
    obtain ⟨m2, q2⟩ := I.base.tbls b _ q1
    obtain ⟨m3, q3⟩ := F.tbls b _ q2
    exact ⟨m1 ++ m2 ++ m3, by rw [q3, Array.append_assoc, Array.append_assoc, Array.append_assoc]⟩
  · intro a u ea
    refine (F.hok a u ea).stay (fun b o hb z => PySem.W.hideAll_get _ z ?_) (fun _ z => z) fun _ _ z => z
    rcases hb with y | y
    · rw [y]
      simp only [List.mem_singleton]
      intro z
      rw [z, hC'] at ea
      cases ea
    · simp only [List.mem_singleton]
      intro z
      rw [z, hC'] at y
      cases y
  · obtain ⟨n, ch⟩ := F.ch
    refine ⟨n, ch.imp fun a o ws na ea da => ⟨PySem.W.hideAll_get _ ea ?_, na⟩⟩
    simp only [List.mem_singleton]
    intro z
    rw [z, hB] at ea
    cases ea
    rw [r.1] at da
    cases da
end
section
variable {prog : Program} {w : World} {A : Around} {R : Result → Shared → Prop} {s : Shared}
theorem comp_loopX {elt tg iter : Expr} {ifs : List Expr} {scope : Scope} {pos : Pos} {it acc : Value} {env : Env} (I : Nat → Shared → Prop)
    (turn : ∀ n s, I n s → wpAny (model prog w) A (pyNext it) (fun r s1 => match r with
      | none => R (.ok .next) s1
      | some v => wpAny (model prog w) A (letOwnedTupleGo tg it v) (fun _ s2 => wpAny (model prog w) A (assign tg env v) (fun _ s3 => wpAny (model prog w) A (L3.testsOf ifs env) (fun ok s4 =>
          if ok = true then wpAny (model prog w) A (eval elt env) (fun x s5 => wpAny (model prog w) A (call (.builtin "list.append") [acc, x]) (fun _ s6 => ∃ m, m < n ∧ I m s6) (notedBy (model prog w) A env fun x s' => R (.error x) s') s5) (notedBy (model prog w) A env fun x s' => R (.error x) s') s4
          else ∃ m, m < n ∧ I m s4) (notedBy (model prog w) A env fun x s' => R (.error x) s') s3) (notedBy (model prog w) A env fun x s' => R (.error x) s') s2) (notedBy (model prog w) A env fun x s' => R (.error x) s') s1) (notedBy (model prog w) A env fun x s' => R (.error x) s') s)
    (n : Nat) (h : I n s) : codeAny (model prog w) A (.compLoop (.ListComp elt [⟨tg, iter, ifs, 0⟩] scope pos) 0 it acc env) R s := by
  refine codeAny_loop rfl I (fun n s hI => ?_) n h
  show wpAny _ A ((compTurn (.ListComp elt [⟨tg, iter, ifs, 0⟩] scope pos) 0 it acc env).onRaise (fun x => do noteFrame x env; theTreesLotGoes x)) _ _ s
  refine wpAny_noted ?_
  rw [compTurn_list]
  refine wpAny_bind (wpAny_standAt (wpAny_bind (wpAny_mono (turn n s hI) (fun r s1 h1 => ?_) fun _ _ z => z)))
  cases r with
  | none => exact wpAny_pure h1
  | some v =>
    refine wpAny_bind (wpAny_mono h1 (fun _ s2 h2 => ?_) fun _ _ z => z)
    refine wpAny_bind (wpAny_mono h2 (fun _ s3 h3 => wpAny_bind (wpAny_mono h3 (fun ok s4 h4 => ?_) fun _ _ z => z)) fun _ _ z => z)
    cases ok with
    | false => exact wpAny_pure ⟨rfl, h4⟩
    | true =>
      refine wpAny_bind (wpAny_bind (wpAny_mono h4 (fun x s5 h5 => wpAny_bind (wpAny_mono h5 (fun _ s6 h6 => wpAny_pure (wpAny_pure ⟨rfl, h6⟩)) fun _ _ z => z)) fun _ _ z => z))
end
theorem comp_anyX {X : Cx} {elt tg iter : Expr} {ifs : List Expr} {scope : Scope} {pos pos' : Pos} {wi : TI} {g : TG} {tt : TT} {te : TE} {sh : List Nat} {N' : List Str} {more : Nat} (hcalm : X.calm = true) (hi : PI X tg iter wi)
    (hg : ∀ C fp pins s H, PG (X.comp scope N' C fp pins s H) tg g) (ht : ∀ C fp pins s H, PIf (X.comp scope N' C fp pins s H) ifs tt) (he : ∀ (C : Addr) (fp : List Addr) (pins : List (Addr × Obj)) (s2 : Shared) (H2 : Hp) (σ0 : St), Inv X pins σ0 H2 s2 → s2.heap.objs.size ≤ C → (∀ b ∈ fp, FpOk X pins H2 b) → PE ((X.comp scope N' C fp pins s2 H2).wish (notedBy (model X.prog X.w) X.A X.env (ErrArm (model X.prog X.w) X.A X.xe C))) elt te)
    (hc : L3.compOk X.env.scope scope X.N N' sh = true) (hm : N'.length = X.N.length + more) (hs : ∀ x, foldedSetIterable iter X.env x = pure x) {Qv : Value → Shared → Prop}
    {pins : List (Addr × Obj)} {s : Shared} {σ : St} {H : Hp} {Q : VK} (I : Inv X pins σ H s) (h : tComp wi g tt te sh more σ H Q)
    (fin : ∀ (D C : Addr) (s2 : Shared) (H2 : Hp) (fp : List Addr) (pl : List (Addr × Obj)) (σ4 : St) (H4 : Hp) (s4 : Shared) (n : Nat) (ys : Array Value) (acc : List V), Inv X pins σ H2 s2 → (∀ b ∈ fp, FpOk X pins H2 b) → s2.heap.objs.size ≤ C → s2.heap.objs.size ≤ D → D ≠ C →
      Inv (X.comp scope N' C fp pins s2 H2) pl σ4 H4 s4 → s4.heap.get? D = some { cls := .type "list", data := .seq ys n } → Vals acc ys.toList → H4 D = none → acc.length ≤ sizeLine → Q (.ref D) (upd H4 D (.lst acc)) → compPost (model X.prog X.w) X.A X.xe none Qv (.ref D) C (.ok .next) s4) :
    wpAny (model X.prog X.w) X.A (comprehension (.ListComp elt [⟨tg, iter, ifs, 0⟩] scope pos) scope X.env pos' (newList []) false (eval iter X.env) none) Qv X.xe s := by
  have cp := L3.compOk_parts hc
  refine wpAny_comprehension_free (cl := L3.closL X.env.cells scope.names []) rfl hs (L3.closureFor_eq fun x hx hk => ?_) cp.kind cp.loc ?_
  · obtain ⟨c, q⟩ := I.ok.has x.1 (.inl (cp.free x hx hk))
    rw [q]; rfl
  show wpAny _ X.A (eval iter X.env) _ _ s
  refine thn (hi pins s σ H _ I h) fun v s1 h1 => thn h1 fun itv s2 h2 => ?_
  obtain ⟨it, fp, tn, J, H2, e, I2, T, st2, f2, W, ⟨m0, w0⟩, turn⟩ := h2
  subst e
  have hlt : ∀ b ∈ fp, b < s2.heap.objs.size := fun b hb => by
    obtain ⟨o, q, _⟩ := T.obj 0 _ st2 b hb
    exact Heap.lt_size q
  refine wpAny_newObj_type (wpAny_newFunctionEnv cp.cell (by intro y hy; simp at hy) (fun h₁ hns hsb => ?_) cp.kind)
  dsimp only at hns hsb ⊢
  generalize hG : s2.heap.push { cls := .type "list", dict := none, data := .seq ([] : List Value).toArray } = G at hns hsb ⊢
  have hz : G.objs.size = s2.heap.objs.size + 1 := by rw [← hG, Heap.size_push]
  have hC : s2.heap.objs.size ≤ G.objs.size := by omega
  have hDC : s2.heap.objs.size ≠ G.objs.size := by omega
  have old : ∀ b o, s2.heap.get? b = some o → h₁.get? b = some o := fun b o q => by
    have hb := Heap.lt_size q
    exact hsb.extBut b o (Nat.ne_of_lt (Nat.lt_of_lt_of_le hb hC)) (Heap.get?_push_of_some _ (hG ▸ Heap.get?_push_of_some _ q))
  have acc0 : h₁.PlainList s2.heap.objs.size #[] := ⟨_, hsb.extBut _ _ hDC (Heap.get?_push_of_some _ (hG ▸ Heap.get?_push_size _ rfl))⟩
  have nfD : s2.heap.objs.size ∉ frs X.stack := fun z => by
    obtain ⟨_, o, ho, _⟩ := I2.stack.mem z
    exact absurd (Heap.lt_size ho) (Nat.lt_irrefl _)
  have fpD : ∀ b ∈ fp, s2.heap.objs.size ≠ b := fun b hb => Nat.ne_of_gt (hlt b hb)
  have cD : ∀ x c, (L3.closL X.env.cells scope.names []).lookup x = some c → c ≠ s2.heap.objs.size := fun x c q z => by
    obtain ⟨w', z'⟩ := I2.cell x c (comp_look q)
    rw [z] at z'
    exact absurd z'.lt (Nat.lt_irrefl _)
  have pnD : ∀ p ∈ X.pn ++ pins, p.1 ≠ s2.heap.objs.size := fun p hp z => by
    have q := (I2.pin p hp).1
    rw [z] at q
    exact absurd (Heap.lt_size q) (Nat.lt_irrefl _)
  have okX : (X.comp scope N' G.objs.size fp pins s2 H2).Ok := comp_ok I2 cp hC f2 hlt
  -- the iterator's records, seen from the block
  have stat : ∀ {o : Obj} {H' : Hp}, (∀ b ∈ fp, H' b = none) → ∀ b ∈ fp, FpOk (X.comp scope N' G.objs.size fp pins s2 H2) [(s2.heap.objs.size, o)] H' b := fun {o H'} hn b hb => by
    refine ⟨hn b hb, (okX.exf b hb).1, okX.exfs b hb, .inl hb, (okX.exf b hb).2, fun p hp => ?_⟩
    rcases List.mem_append.mp hp with z | z
    · exact (f2 b hb).2.2.2.2.2 p z
    · have : p = (s2.heap.objs.size, o) := by simpa using z
      rw [this]; exact fpD b hb
  -- the list so far, held as it is
  have hold : ∀ {σ' : St} {H' : Hp} {s' : Shared} {o : Obj}, Inv (X.comp scope N' G.objs.size fp pins s2 H2) [] σ' H' s' → s'.heap.get? s2.heap.objs.size = some o → H' s2.heap.objs.size = none → (∀ v, o.data ≠ .cell v) →
      Inv (X.comp scope N' G.objs.size fp pins s2 H2) [(s2.heap.objs.size, o)] σ' H' s' := fun {σ' H' s' o} I' q n d => I'.pins_of fun p hp => by
    have : p = (s2.heap.objs.size, o) := by simpa using hp
    subst this
    exact ⟨q, n, hDC, nfD, d⟩
  have loop : ∀ s₃ : Shared, s₃ = { s2 with heap := h₁, toks := s2.toks + ([] : List (Str × Value)).length } →
      codeAny (model X.prog X.w) X.A (.compLoop (.ListComp elt [⟨tg, iter, ifs, 0⟩] scope pos) 0 (.ref it) (.ref s2.heap.objs.size) (compEnvC scope (L3.closL X.env.cells scope.names []) G.objs.size X.env))
        (compPost (model X.prog X.w) X.A X.xe none Qv (.ref s2.heap.objs.size) G.objs.size) s₃ := by
    rintro s₃ rfl
    refine comp_loopX (fun n s' => ∃ i acc ys σ' H', Inv (X.comp scope N' G.objs.size fp pins s2 H2) [] σ' H' s' ∧ tn i s'.heap ∧ (∀ b ∈ fp, H' b = none) ∧ s'.heap.PlainList s2.heap.objs.size ys ∧ Vals acc ys.toList ∧ H' s2.heap.objs.size = none ∧ W i n acc σ' H') ?_ m0
      ⟨0, [], #[], _, H2, comp_in I2 cp hm hC f2 hlt old hns, T.keep _ _ _ st2 (fun b _ o q => old b o q), fun b hb => (f2 b hb).1, acc0, .nil, I2.hok.fresh (Nat.le_refl _), w0⟩
    rintro n s3 ⟨i, acc, ys, σ3, H3, I3, st3, fr3, ⟨nn, gD⟩, va, fD, w3⟩
    have dD : ∀ v, ({ cls := .type "list", data := .seq ys nn } : Obj).data ≠ .cell v := fun v z => by
      have z' : Data.seq ys nn = Data.cell v := z
      cases z'
    have I3' := hold I3 gD fD dD
    rcases turn i n acc σ3 H3 w3 with ⟨stop, hl, q⟩ | ⟨go, hl, N, hN, step⟩
    · refine thn (wpAny_noRaise (T.done (X.comp scope N' G.objs.size fp pins s2 H2) rfl rfl rfl hcalm i _ s3 σ3 H3 (fun _ _ => False) I3' (stat fr3) st3 stop)) fun r s4 ⟨hr, I4⟩ => ?_
      subst hr
      have g4 := (I4.pin (s2.heap.objs.size, _) (List.mem_append_right _ List.mem_cons_self)).1
      exact fin _ _ s2 H2 fp _ _ _ s4 _ _ acc I2 f2 hC (Nat.le_refl _) hDC I4 g4 va fD hl (q _ fD)
    · refine thn (wpAny_noRaise (T.item (X.comp scope N' G.objs.size fp pins s2 H2) rfl rfl rfl hcalm i _ s3 σ3 H3 (fun _ _ => False) I3' (stat fr3) st3 go)) fun r s4 ⟨u, hr, h4⟩ => ?_
      subst hr
      refine thn (wpAny_noRaise h4) fun _ s5 ⟨x, H5, I5, r5, y5, st5, fr5⟩ => ?_
      have I5' := I5.pinned (stat fr5) (T.obj _ _ st5)
      refine thn (wpAny_noRaise (hg _ _ _ _ _ _ s5 σ3 H5 x u _ I5' r5 (step x H5 y5))) fun _ s6 ⟨σ6, H6, I6, q6⟩ => ?_
      refine thn (wpAny_noRaise (ht _ _ _ _ _ _ s6 σ6 H6 _ I6 q6)) fun b s7 ⟨H7, I7, q7⟩ => ?_
      have inD : ∀ {o : Obj}, (s2.heap.objs.size, o) ∈ [(s2.heap.objs.size, o)] ++ pinsAt fp s5.heap := List.mem_append_left _ List.mem_cons_self
      have turned : ∀ {σ' : St} {H' : Hp} {s' : Shared}, Inv (X.comp scope N' G.objs.size fp pins s2 H2) ([(s2.heap.objs.size, ({ cls := .type "list", data := .seq ys nn } : Obj))] ++ pinsAt fp s5.heap) σ' H' s' →
          (∀ b ∈ fp, ∀ o, s5.heap.get? b = some o → s'.heap.get? b = some o) ∧ ∀ b ∈ fp, H' b = none := fun I' => by
        refine ⟨fun b hb o q => (I'.pin (b, o) (List.mem_append_right _ (List.mem_append_right _ (mem_pinsAt hb q)))).1, fun b hb => ?_⟩
        obtain ⟨o, q, _⟩ := T.obj _ _ st5 b hb
        exact (I'.pin (b, o) (List.mem_append_right _ (List.mem_append_right _ (mem_pinsAt hb q)))).2.1
      cases b with
      | false =>
        rw [if_neg Bool.false_ne_true] at q7 ⊢
        obtain ⟨m', hm', w7⟩ := hN _ _ _ q7
        have p7 := I7.pin (s2.heap.objs.size, _) (List.mem_append_right _ inD)
        exact ⟨m', hm', i + 1, acc, ys, σ6, H7, I7.pins_of (fun p hp => absurd hp (by simp)), T.keep _ _ _ st5 (turned I7).1, (turned I7).2, ⟨nn, p7.1⟩, va, p7.2.1, w7⟩
      | true =>
        rw [if_pos rfl] at q7 ⊢
        refine thn (he _ _ _ _ _ _ I2 hC f2 _ s7 σ6 H7 _ (I7.wish _) q7) fun yv s8 ⟨y, H8, I8', r8, q8⟩ => ?_
        have I8 := I8'.unwish
        obtain ⟨m', hm', w8⟩ := hN _ _ _ q8
        have p8 := I8.pin (s2.heap.objs.size, _) (List.mem_append_right _ inD)
        have lenv := va.length
        refine wpAny_list_append_plain (hsz := by rw [← Array.length_toList, ← lenv]; exact Nat.le_of_lt hl) ⟨nn, p8.1⟩ fun h9 pl9 sb9 => ?_
        have J8 : Inv (X.comp scope N' G.objs.size fp pins s2 H2) [] σ6 H8 s8 := I8.pins_of fun p hp => absurd hp (by simp)
        refine ⟨m', hm', i + 1, acc ++ [y], ys.push yv, σ6, H8, J8.turned (t' := s8.toks) (fun b o hb q => (sb9.2 b hb).trans q) p8.2.1 hDC (.inr (Nat.le_refl _)) cD (fun p hp => pnD p (by simpa [Cx.comp] using hp)), ?_, (turned I8).2, pl9, ?_, p8.2.1, w8⟩
        · exact T.keep _ _ _ st5 fun b hb o q => (sb9.2 b (fpD b hb).symm).trans ((turned I8).1 b hb o q)
        · rw [Array.toList_push]
          exact va.append (.cons r8 .nil)
  exact codeAny_compStart_list (loop _ rfl) (T.self _ 0 _ _ _ (T.keep _ _ _ st2 fun b _ o q => old b o q) (loop _ rfl))
theorem pe_compX {X : Cx} {elt tg iter : Expr} {ifs : List Expr} {scope : Scope} {pos : Pos} {wi : TI} {g : TG} {tt : TT} {te : TE} (sh : List Nat) (N' : List Str) (more : Nat) (hcalm : X.calm = true) (hi : PI X tg iter wi)
    (hg : ∀ C fp pins s H, PG (X.comp scope N' C fp pins s H) tg g) (ht : ∀ C fp pins s H, PIf (X.comp scope N' C fp pins s H) ifs tt) (he : ∀ (C : Addr) (fp : List Addr) (pins : List (Addr × Obj)) (s2 : Shared) (H2 : Hp) (σ0 : St), Inv X pins σ0 H2 s2 → s2.heap.objs.size ≤ C → (∀ b ∈ fp, FpOk X pins H2 b) → PE ((X.comp scope N' C fp pins s2 H2).wish (notedBy (model X.prog X.w) X.A X.env (ErrArm (model X.prog X.w) X.A X.xe C))) elt te)
    (hc : L3.compOk X.env.scope scope X.N N' sh = true := by rfl) (hm : N'.length = X.N.length + more := by rfl) (hs : ∀ x, foldedSetIterable iter X.env x = pure x := by intro _; rfl) :
    PE X (.ListComp elt [⟨tg, iter, ifs, 0⟩] scope pos) (tComp wi g tt te sh more) := by
  intro pins s σ H Q I h
  rw [eval_ListComp]
  refine comp_anyX hcalm hi hg ht he hc hm hs I h fun D C s2 H2 fp pl σ4 H4 s4 n ys acc I2 f2 hC hD hDC I4 g4 va fD hl q => ?_
  obtain ⟨m4, hn4, _⟩ := I4.loc
  exact ⟨m4, hn4, fun h' sb => ⟨.ref D, _, comp_out I2 hC f2 I4 hD hDC g4 va fD hl sb, rfl, q⟩⟩
section
variable {P : Program} {w : World} {K : PySem.W.Frag} {mg : Str → Option Value} {base : Heap} {N : List Str} {qual : Str} {scope : Scope} {f' : Addr} {cd : Value} {A : Around} {outer : List Env} {s₀ : Shared} {H₀ : Hp} {E : XK}
  {x : Str} {f : Addr} {fd : FuncData} {ps : List Str} {k k' : Nat} {sp : Sp} {e : Expr} {es : List Expr} {t : TA} {p pos : Pos} {scope' : Scope} {N' : List Str} {C : Addr} {fp : List Addr} {pins : List (Addr × Obj)} {σ0 : St} {s2 : Shared} {H2 : Hp}
noncomputable abbrev cxC (P : Program) (w : World) (K : PySem.W.Frag) (mg : Str → Option Value) (base : Heap) (N : List Str) (qual : Str) (scope : Scope) (f' : Addr) (cd : Value) (A : Around) (outer : List Env) (s₀ : Shared) (H₀ : Hp) (E : XK) (scope' : Scope) (N' : List Str) (C : Addr) (fp : List Addr) (pins : List (Addr × Obj)) (s2 : Shared) (H2 : Hp) : Cx :=
  ((cxOf (CXR P w) P w K mg base N qual scope f' cd A outer s₀ H₀ E).comp scope' N' C fp pins s2 H2).wish (notedBy (model P w) (A.deeper (envOfC qual scope s₀.heap.objs.size f' cd)) (envOfC qual scope s₀.heap.objs.size f' cd) (ErrArm (model P w) (A.deeper (envOfC qual scope s₀.heap.objs.size f' cd)) (cxOf (CXR P w) P w K mg base N qual scope f' cd A outer s₀ H₀ E).xe C))
theorem cx_passC (I2 : Inv (cxOf (CXR P w) P w K mg base N qual scope f' cd A outer s₀ H₀ E) pins σ0 H2 s2) (hC : s2.heap.objs.size ≤ C) (f2 : ∀ b ∈ fp, FpOk (cxOf (CXR P w) P w K mg base N qual scope f' cd A outer s₀ H₀ E) pins H2 b) : Passes (CXR P w) (cxC P w K mg base N qual scope f' cd A outer s₀ H₀ E scope' N' C fp pins s2 H2) E := fun pl σ H1 s1 e s' I h => cx_compX I2 hC f2 I.unwish h
theorem pe_fnXC (I2 : Inv (cxOf (CXR P w) P w K mg base N qual scope f' cd A outer s₀ H₀ E) pins σ0 H2 s2) (hC : s2.heap.objs.size ≤ C) (f2 : ∀ b ∈ fp, FpOk (cxOf (CXR P w) P w K mg base N qual scope f' cd A outer s₀ H₀ E) pins H2 b) (F : FnX P w K mg base x f fd ps k sp) (hr : Room k' (cxOf (CXR P w) P w K mg base N qual scope f' cd A outer s₀ H₀ E).A) (ha : PA (cxC P w K mg base N qual scope f' cd A outer s₀ H₀ E scope' N' C fp pins s2 H2) (e :: es) t) (hk : k ≤ k' := by first | decide | exact Nat.le_refl _) (hg : Gl (cxC P w K mg base N qual scope f' cd A outer s₀ H₀ E scope' N' C fp pins s2 H2) x := by rfl) (hdb : (x == ("__debug__" : Str)) = false := by decide)
    (he : starEach (e :: es) (cxC P w K mg base N qual scope f' cd A outer s₀ H₀ E scope' N' C fp pins s2 H2).env = (false, eval e (cxC P w K mg base N qual scope f' cd A outer s₀ H₀ E scope' N' C fp pins s2 H2).env) :: starEach es (cxC P w K mg base N qual scope f' cd A outer s₀ H₀ E scope' N' C fp pins s2 H2).env := by rfl) (hpl : (backTo pos (starEach es (cxC P w K mg base N qual scope f' cd A outer s₀ H₀ E scope' N' C fp pins s2 H2).env)).any (·.1) = false := by rfl) :
    PE (cxC P w K mg base N qual scope f' cd A outer s₀ H₀ E scope' N' C fp pins s2 H2) (.Call (.Name x p) (e :: es) [] pos) (tCall sp [] E t) :=
  pe_call F.ok (hr.mono hk) hg F.mg F.kp F.bd .nil (cx_passC I2 hC f2) ha hdb he hpl
end
end L2
namespace L2
open PySem PySem.Spec PyProof.Rows PySem.W
section
variable {K : Type} [DecidableEq K]
end
end L2
namespace PySem
open Sem (wp)
section
variable {prog : Program} {w : World} {K : Type} [DecidableEq K] {kd : KD K} {A : Around} {E : Value → Shared → Prop} {s : Shared}
end
end PySem
namespace L2
open PySem PySem.Spec PyProof.Rows PySem.W
section
variable {K : Type} [DecidableEq K] {kd : KD K} {X : Cx} {pins : List (Addr × Obj)} {σ : St} {H : Hp} {s : Shared} {A : Around} {E : Value → Shared → Prop} {a : Addr} {kvs : List (K × V × V)} {k : K} {y v d : V} {u r : Value}
end
section
variable {K : Type} [DecidableEq K] (kd : KD K) {X : Cx} {o e f : Expr} {apos cpos : Pos} {td ty tx : TE}
end
end L2
namespace L2
open PySem PySem.Spec PyProof.Rows PySem.W
section
variable {K : Type} [DecidableEq K] (kd : KD K) {X : Cx}
end
end L2
namespace L2
open PySem PySem.Spec PyProof.Rows PySem.W
section
variable {X : Cx}
noncomputable def rNotInTS (K : PySem.W.Frag) : R2 := fun x y H Q => ∃ (p : Addr) (zs : List Str), y = .ref p ∧ SqT K H p (zs.map V.str) ∧ ((flatV x = true ∧ Q (.bl (!inV x (zs.map V.str))) H) ∨ ∃ a ys, x = .ref a ∧ SqT K H a ys ∧ Q (.bl true) H)
theorem vals_strs : ∀ {zs : List Str} {us : List Value}, Vals (zs.map V.str) us → ∀ u ∈ us, ∃ z t, u = Value.str z t
  | [], _, .nil => fun u hu => by cases hu
  | z :: zs, u :: us, .cons r t => fun u' hu => by
    rcases List.mem_cons.mp hu with rfl | hu
    · obtain ⟨t, rfl⟩ := r
      exact ⟨z, t, rfl⟩
    · exact vals_strs t u' hu
theorem op_notInTS (hu : X.A.units + 64 < cLine) : OpR X (compareOp .NotIn) (rNotInTS X.K) := by
  intro pins s σ H x y v u Q I rx ry h
  obtain ⟨p, zs, rfl, hq, h⟩ := h
  rcases h with ⟨fx, q⟩ | ⟨a, ys, rfl, ha, q⟩
  · exact op_notIn_seq pins s σ H x _ v u Q I rx ry ⟨p, _, rfl, .inr hq, fx, by simp [flatV], q⟩
  · cases ry
    cases rx
    obtain ⟨its, r, pl, hz⟩ := I.tuple hq
    obtain ⟨its2, r2, p2, _⟩ := I.tuple ha
    refine SeqAt.notIn_tupleAt (fun _ => false) pl (fun w hw => ?_) ⟨.bl true, H, I, by simp [RelV], q⟩
    obtain ⟨z, t, rfl⟩ := vals_strs r w (by simpa using hw)
    exact SeqAt.EqAt.str_tuple z t (show s.heap.IsTuple a its2.toArray from p2) (by show X.A.units + _ < _ ; omega)
end
end L2
set_option maxHeartbeats 4000000
namespace Lw
open PySem L2
structure PB (X : Cx) (es : List Expr) (t : TA) : Prop where
  go : PA X es t
theorem pb_nil {X : Cx} : PB X [] tNil := ⟨pa_nil⟩
theorem pb_cons {X : Cx} {e : Expr} {es : List Expr} {te : TE} {t : TA} (ha : PE X e te) (hr : PB X es t) (hs : starEach (e :: es) X.env = (false, eval e X.env) :: starEach es X.env := by rfl) : PB X (e :: es) (tCons te t) := ⟨pa_cons ha hr.go hs⟩
noncomputable def top (i : Nat) : Stmt := PySem.Challenge.pw_bitdraws_k37_whole_drawers.main.body.getD i (.Pass ⟨0, 0, 0, 0⟩)
noncomputable abbrev s_drawn_whole : Stmt := top 11
noncomputable abbrev p_drawn_whole : List Str := ["bits", "draw", "shape"]
theorem sc_drawn_whole : FnScope ["bits", "draw", "shape", "used_before"] ["bits", "draw", "shape"] (defScope s_drawn_whole) := ⟨rfl, rfl, rfl, by decide +kernel, rfl, by decide +kernel, by decide +kernel⟩
noncomputable abbrev s_next_state : Stmt := top 12
noncomputable abbrev p_next_state : List Str := ["state"]
theorem sc_next_state : FnScope ["state"] ["state"] (defScope s_next_state) := ⟨rfl, rfl, rfl, by decide +kernel, rfl, by decide +kernel, by decide +kernel⟩
noncomputable abbrev s_bits_of : Stmt := top 13
noncomputable abbrev p_bits_of : List Str := ["seed", "many"]
theorem sc_bits_of : FnScope ["seed", "many", "state", "row"] ["seed", "many"] (defScope s_bits_of) := ⟨rfl, rfl, rfl, by decide +kernel, rfl, by decide +kernel, by decide +kernel⟩
noncomputable abbrev s_even : Stmt := top 15
noncomputable abbrev p_even : List Str := ["bits", "many"]
theorem sc_even : FnScope ["bits", "many"] ["bits", "many"] (defScope s_even) := ⟨rfl, rfl, rfl, by decide +kernel, rfl, by decide +kernel, by decide +kernel⟩
noncomputable abbrev s_take_even : Stmt := top 17
noncomputable abbrev p_take_even : List Str := ["bits", "many"]
theorem sc_take_even : FnScope ["bits", "many", "number", "size"] ["bits", "many"] (defScope s_take_even) := ⟨rfl, rfl, rfl, by decide +kernel, rfl, by decide +kernel, by decide +kernel⟩
noncomputable abbrev s_check_place : Stmt := top 19
noncomputable abbrev p_check_place : List Str := ["place", "many"]
theorem sc_check_place : FnScope ["place", "many"] ["place", "many"] (defScope s_check_place) := ⟨rfl, rfl, rfl, by decide +kernel, rfl, by decide +kernel, by decide +kernel⟩
noncomputable abbrev s_places_of_swaps : Stmt := top 20
noncomputable abbrev p_places_of_swaps : List Str := ["many"]
theorem sc_places_of_swaps : FnScope ["many"] ["many"] (defScope s_places_of_swaps) := ⟨rfl, rfl, rfl, by decide +kernel, rfl, by decide +kernel, by decide +kernel⟩
noncomputable abbrev s_exchange : Stmt := top 21
noncomputable abbrev p_exchange : List Str := ["things", "one", "other"]
theorem sc_exchange : FnScope ["things", "one", "other", "thing"] ["things", "one", "other"] (defScope s_exchange) := ⟨rfl, rfl, rfl, by decide +kernel, rfl, by decide +kernel, by decide +kernel⟩
noncomputable abbrev s_by_swaps : Stmt := top 22
noncomputable abbrev p_by_swaps : List Str := ["row", "figures"]
theorem sc_by_swaps : FnScope ["row", "figures", "things", "place", "figure"] ["row", "figures"] (defScope s_by_swaps) := ⟨rfl, rfl, rfl, by decide +kernel, rfl, by decide +kernel, by decide +kernel⟩
noncomputable abbrev s_ways : Stmt := top 23
noncomputable abbrev p_ways : List Str := ["many", "some"]
theorem sc_ways : FnScope ["many", "some", "count", "turn"] ["many", "some"] (defScope s_ways) := ⟨rfl, rfl, rfl, by decide +kernel, rfl, by decide +kernel, by decide +kernel⟩
noncomputable abbrev s_choice_at : Stmt := top 24
noncomputable abbrev p_choice_at : List Str := ["many", "some", "place"]
theorem sc_choice_at : FnScope ["many", "some", "place", "count", "behind", "last_ones", "numbers", "lacking"] ["many", "some", "place"] (defScope s_choice_at) := ⟨rfl, rfl, rfl, by decide +kernel, rfl, by decide +kernel, by decide +kernel⟩
noncomputable abbrev s_last_ones_within : Stmt := top 25
noncomputable abbrev p_last_ones_within : List Str := ["below", "some", "most"]
theorem sc_last_ones_within : FnScope ["below", "some", "most", "high", "step", "low", "middle"] ["below", "some", "most"] (defScope s_last_ones_within) := ⟨rfl, rfl, rfl, by decide +kernel, rfl, by decide +kernel, by decide +kernel⟩
noncomputable abbrev s_shuffled : Stmt := top 26
noncomputable abbrev p_shuffled : List Str := ["bits", "row"]
theorem sc_shuffled : FnScope ["bits", "row"] ["bits", "row"] (defScope s_shuffled) := ⟨rfl, rfl, rfl, by decide +kernel, rfl, by decide +kernel, by decide +kernel⟩
noncomputable abbrev s_take_shuffled : Stmt := top 28
noncomputable abbrev p_take_shuffled : List Str := ["bits", "row"]
theorem sc_take_shuffled : FnScope ["bits", "row"] ["bits", "row"] (defScope s_take_shuffled) := ⟨rfl, rfl, rfl, by decide +kernel, rfl, by decide +kernel, by decide +kernel⟩
noncomputable abbrev s_choice : Stmt := top 29
noncomputable abbrev p_choice : List Str := ["bits", "many", "some"]
theorem sc_choice : FnScope ["bits", "many", "some", "count"] ["bits", "many", "some"] (defScope s_choice) := ⟨rfl, rfl, rfl, by decide +kernel, rfl, by decide +kernel, by decide +kernel⟩
noncomputable abbrev s_pick : Stmt := top 32
noncomputable abbrev p_pick : List Str := ["bits", "weights"]
theorem sc_pick : FnScope ["bits", "weights", "total"] ["bits", "weights"] (defScope s_pick) := ⟨rfl, rfl, rfl, by decide +kernel, rfl, by decide +kernel, by decide +kernel⟩
noncomputable abbrev s_take_pick : Stmt := top 34
noncomputable abbrev p_take_pick : List Str := ["bits", "weights"]
theorem sc_take_pick : FnScope ["bits", "weights", "total", "rests", "place", "ends"] ["bits", "weights"] (defScope s_take_pick) := ⟨rfl, rfl, rfl, by decide +kernel, rfl, by decide +kernel, by decide +kernel⟩
noncomputable abbrev s__law_same : Stmt := top 38
noncomputable abbrev p__law_same : List Str := ["_law_got", "_law_due"]
theorem sc__law_same : FnScope ["_law_got", "_law_due"] ["_law_got", "_law_due"] (defScope s__law_same) := ⟨rfl, rfl, rfl, by decide +kernel, rfl, by decide +kernel, by decide +kernel⟩
noncomputable abbrev s__law_draw : Stmt := top 39
noncomputable abbrev p__law_draw : List Str := ["_law_script", "_law_town", "_law_many"]
theorem sc__law_draw : FnScope ["_law_script", "_law_town", "_law_many", "_law_k", "_law_cell", "_law_number", "_law_more"] ["_law_script", "_law_town", "_law_many"] (defScope s__law_draw) := ⟨rfl, rfl, rfl, by decide +kernel, rfl, by decide +kernel, by decide +kernel⟩
noncomputable abbrev s__law_one : Stmt := top 40
noncomputable abbrev p__law_one : List Str := ["_law_script", "_law_town", "_law_some"]
theorem sc__law_one : FnScope ["_law_script", "_law_town", "_law_some"] ["_law_script", "_law_town", "_law_some"] (defScope s__law_one) := ⟨rfl, rfl, rfl, by decide +kernel, rfl, by decide +kernel, by decide +kernel⟩
noncomputable abbrev s__law_act : Stmt := top 41
noncomputable abbrev p__law_act : List Str := ["_law_drawer", "_law_deed_here"]
theorem sc__law_act : FnScope ["_law_drawer", "_law_deed_here", "_law_got"] ["_law_drawer", "_law_deed_here"] (defScope s__law_act) := ⟨rfl, rfl, rfl, by decide +kernel, rfl, by decide +kernel, by decide +kernel⟩
noncomputable abbrev s__law_by_bits : Stmt := top 42
noncomputable abbrev p__law_by_bits : List Str := ["_law_row", "_law_at", "_law_deed_here"]
theorem sc__law_by_bits : FnScope ["_law_row", "_law_at", "_law_deed_here", "_law_bits", "_law_got"] ["_law_row", "_law_at", "_law_deed_here"] (defScope s__law_by_bits) := ⟨rfl, rfl, rfl, by decide +kernel, rfl, by decide +kernel, by decide +kernel⟩
noncomputable abbrev s__law_do : Stmt := top 43
noncomputable abbrev p__law_do : List Str := ["_law_side", "_law_deed_here"]
theorem sc__law_do : FnScope ["_law_side", "_law_deed_here", "_law_got", "_law_after"] ["_law_side", "_law_deed_here"] (defScope s__law_do) := ⟨rfl, rfl, rfl, by decide +kernel, rfl, by decide +kernel, by decide +kernel⟩
noncomputable abbrev s__law_deed : Stmt := top 44
noncomputable abbrev p__law_deed : List Str := ["_law_script", "_law_town"]
theorem sc__law_deed : FnScope ["_law_script", "_law_town", "_law_kind", "_law_many", "_law_deeds"] ["_law_script", "_law_town"] (defScope s__law_deed) := ⟨rfl, rfl, rfl, by decide +kernel, rfl, by decide +kernel, by decide +kernel⟩
noncomputable abbrev s_law : Stmt := top 45
noncomputable abbrev p_law : List Str := ["_law_script"]
theorem sc_law : FnScope ["_law_script", "_law_town", "_law_sides", "_law_both", "_law_seed", "_law_j", "_law_many", "_law_k", "_law_at", "_law_deed_here", "_law_due"] ["_law_script"] (defScope s_law) := ⟨rfl, rfl, rfl, by decide +kernel, rfl, by decide +kernel, by decide +kernel⟩
noncomputable abbrev s_Bits___init__ : Stmt := inClass (top 10) 0
noncomputable abbrev p_Bits___init__ : List Str := ["self", "row"]
theorem sc_Bits___init__ : FnScope ["self", "row"] ["self", "row"] (defScope s_Bits___init__) := ⟨rfl, rfl, rfl, by decide +kernel, rfl, by decide +kernel, by decide +kernel⟩
noncomputable abbrev s_Bits_take : Stmt := inClass (top 10) 1
noncomputable abbrev p_Bits_take : List Str := ["self"]
theorem sc_Bits_take : FnScope ["self", "bit"] ["self"] (defScope s_Bits_take) := ⟨rfl, rfl, rfl, by decide +kernel, rfl, by decide +kernel, by decide +kernel⟩
noncomputable abbrev s_Bits_used : Stmt := inClass (top 10) 2
noncomputable abbrev p_Bits_used : List Str := ["self"]
theorem sc_Bits_used : FnScope ["self"] ["self"] (defScope s_Bits_used) := ⟨rfl, rfl, rfl, by decide +kernel, rfl, by decide +kernel, by decide +kernel⟩
noncomputable abbrev s_Bits_left : Stmt := inClass (top 10) 3
noncomputable abbrev p_Bits_left : List Str := ["self"]
theorem sc_Bits_left : FnScope ["self"] ["self"] (defScope s_Bits_left) := ⟨rfl, rfl, rfl, by decide +kernel, rfl, by decide +kernel, by decide +kernel⟩
noncomputable abbrev s_Bits_go_back : Stmt := inClass (top 10) 4
noncomputable abbrev p_Bits_go_back : List Str := ["self", "many"]
theorem sc_Bits_go_back : FnScope ["self", "many"] ["self", "many"] (defScope s_Bits_go_back) := ⟨rfl, rfl, rfl, by decide +kernel, rfl, by decide +kernel, by decide +kernel⟩
noncomputable abbrev s_Drawer___init__ : Stmt := inClass (top 36) 0
noncomputable abbrev p_Drawer___init__ : List Str := ["self", "seed", "many"]
theorem sc_Drawer___init__ : FnScope ["self", "seed", "many"] ["self", "seed", "many"] (defScope s_Drawer___init__) := ⟨rfl, rfl, rfl, by decide +kernel, rfl, by decide +kernel, by decide +kernel⟩
noncomputable abbrev s_Drawer_even : Stmt := inClass (top 36) 1
noncomputable abbrev p_Drawer_even : List Str := ["self", "many"]
theorem sc_Drawer_even : FnScope ["self", "many"] ["self", "many"] (defScope s_Drawer_even) := ⟨rfl, rfl, rfl, by decide +kernel, rfl, by decide +kernel, by decide +kernel⟩
noncomputable abbrev s_Drawer_pick : Stmt := inClass (top 36) 2
noncomputable abbrev p_Drawer_pick : List Str := ["self", "weights"]
theorem sc_Drawer_pick : FnScope ["self", "weights"] ["self", "weights"] (defScope s_Drawer_pick) := ⟨rfl, rfl, rfl, by decide +kernel, rfl, by decide +kernel, by decide +kernel⟩
noncomputable abbrev s_Drawer_shuffled : Stmt := inClass (top 36) 3
noncomputable abbrev p_Drawer_shuffled : List Str := ["self", "row"]
theorem sc_Drawer_shuffled : FnScope ["self", "row"] ["self", "row"] (defScope s_Drawer_shuffled) := ⟨rfl, rfl, rfl, by decide +kernel, rfl, by decide +kernel, by decide +kernel⟩
noncomputable abbrev s_Drawer_choice : Stmt := inClass (top 36) 4
noncomputable abbrev p_Drawer_choice : List Str := ["self", "many", "some"]
theorem sc_Drawer_choice : FnScope ["self", "many", "some"] ["self", "many", "some"] (defScope s_Drawer_choice) := ⟨rfl, rfl, rfl, by decide +kernel, rfl, by decide +kernel, by decide +kernel⟩
noncomputable abbrev s_Drawer_noted : Stmt := inClass (top 36) 5
noncomputable abbrev p_Drawer_noted : List Str := ["self", "used_ahead", "thing"]
theorem sc_Drawer_noted : FnScope ["self", "used_ahead", "thing"] ["self", "used_ahead", "thing"] (defScope s_Drawer_noted) := ⟨rfl, rfl, rfl, by decide +kernel, rfl, by decide +kernel, by decide +kernel⟩
noncomputable abbrev s_Drawer_history : Stmt := inClass (top 36) 6
noncomputable abbrev p_Drawer_history : List Str := ["self"]
theorem sc_Drawer_history : FnScope ["self"] ["self"] (defScope s_Drawer_history) := ⟨rfl, rfl, rfl, by decide +kernel, rfl, by decide +kernel, by decide +kernel⟩
noncomputable abbrev s_Drawer_used : Stmt := inClass (top 36) 7
noncomputable abbrev p_Drawer_used : List Str := ["self"]
theorem sc_Drawer_used : FnScope ["self"] ["self"] (defScope s_Drawer_used) := ⟨rfl, rfl, rfl, by decide +kernel, rfl, by decide +kernel, by decide +kernel⟩
noncomputable abbrev s_Drawer_back : Stmt := inClass (top 36) 8
noncomputable abbrev p_Drawer_back : List Str := ["self"]
theorem sc_Drawer_back : FnScope ["self", "step"] ["self"] (defScope s_Drawer_back) := ⟨rfl, rfl, rfl, by decide +kernel, rfl, by decide +kernel, by decide +kernel⟩
theorem nd_1 : (["_law_got", "_law_due", "_law_one_here", "_law_other"] : List Str).Nodup := by decide +kernel
theorem nd_2 : (["bits", "row", "place"] : List Str).Nodup := by decide +kernel
theorem nd_3 : (["bits", "weights", "total", "rests", "place", "ends", "number", "rest"] : List Str).Nodup := by decide +kernel
theorem nd_4 : (["bits", "weights", "total", "rests", "place", "ends", "rest"] : List Str).Nodup := by decide +kernel
theorem nd_5 : (["self", "used_ahead", "thing"] : List Str).Nodup := by decide +kernel
theorem nd_6 : (["_law_script", "_law_town", "_law_kind", "_law_many", "_law_deeds", "_law_j"] : List Str).Nodup := by decide +kernel
structure Bl (mg : Str → Option Value) : Prop where
  all_ : mg "all" = none
  bool_ : mg "bool" = none
  enumerate_ : mg "enumerate" = none
  int_ : mg "int" = none
  isinstance_ : mg "isinstance" = none
  len_ : mg "len" = none
  list_ : mg "list" = none
  max_ : mg "max" = none
  min_ : mg "min" = none
  range_ : mg "range" = none
  str_ : mg "str" = none
  sum_ : mg "sum" = none
  tuple_ : mg "tuple" = none
  zip_ : mg "zip" = none
structure Cn (mg : Str → Option Value) : Prop where
  STATES : ∃ t, mg "STATES" = some (.int 4294967296 t)
  HALF_OF_STATES : ∃ t, mg "HALF_OF_STATES" = some (.int 2147483648 t)
  FACTOR : ∃ t, mg "FACTOR" = some (.int 1664525 t)
  ADDED : ∃ t, mg "ADDED" = some (.int 1013904223 t)
theorem cell_at {ns : List Int} (h : ns ≠ []) (k : Nat) : atI (ns.map V.int) ((k : Int) % ((ns.map V.int).length : Int)) = some (.int (lcell ns k)) := by
  have hp : 0 < ns.length := List.length_pos_iff.mpr h
  have e : ((k : Int) % ((ns.map V.int).length : Int)) = (((k % ns.length : Nat)) : Int) := by rw [List.length_map]; omega
  have hk : k % ns.length < ns.length := Nat.mod_lt _ hp
  rw [e]
  refine atI_nat ?_
  rw [List.getElem?_map, List.getElem?_eq_getElem hk]
  unfold lcell
  rw [if_neg h, List.getD_eq_getElem?_getD, List.getElem?_eq_getElem hk]
  rfl
theorem emod_bd (i : Int) {m : Int} (h : 0 < m) (h2 : m < 18446744073709551616) : -(2 ^ 64) < i % m ∧ i % m < 2 ^ 64 := by
  have a := Int.emod_nonneg i (show m ≠ 0 by omega)
  have b := Int.emod_lt_of_pos i h
  exact ⟨by omega, by omega⟩
section
variable {P : Program} {w : World} {K : PySem.W.Frag} {mg : Str → Option Value} {base : Heap} {f : Addr} {fd : FuncData}
theorem ok__law_draw (F__law_draw : Fun K "_law_draw" "_law_draw" s__law_draw f fd) (B : Bl mg) : FnOk P w K mg base CX0 1 f fd p__law_draw (spDraw K) := by
  refine F__law_draw.ok sc__law_draw (fun vs H Q E h => ?_) (fun cdv A outer s H vs Q E hr h => ?_)
  · obtain ⟨a, t, ns, k, m, rfl, _⟩ := h
    rfl
  obtain ⟨a, t, ns, k, m, rfl, hS, h63, hT, hk, hm, q⟩ := h
  refine ⟨_, (pss_cons (ps_expr (pe_bm PySem.F.plainAttrs_list PySem.F.slot_list_append PySem.F.type_list_append mt_append (pv 1) (pa_cons pe_int pa_nil)))
      (pss_cons (ps_set (i := 3) sc__law_draw.nd rfl (Or.inl rfl) (pe_callB call_len_seq rfl B.len_ L3.bt_len (pa_cons (pv 1) pa_nil)))
      (pss_cons (ps_set (i := 4) sc__law_draw.nd rfl (Or.inl rfl) pe_int)
      (pss_cons (ps_join (ps_if (pt_truth (pv 0) (fun _ => rfl)) (pss_one (ps_set (i := 4) sc__law_draw.nd rfl (Or.inl rfl) (pe_ix ix_list (pv 0) (pe_op op_mod (pv 3) (pe_callB call_len_seq rfl B.len_ L3.bt_len (pa_cons (pv 0) pa_nil))) (fun _ _ => rfl)))) pss_nil))
      (pss_cons (ps_set (i := 5) sc__law_draw.nd rfl (Or.inl rfl) (pe_op op_mod (pe_op op_add (pv 4) (pe_op op_mul pe_int (pv 3))) pe_int))
      (pss_cons (ps_set (i := 5) sc__law_draw.nd rfl (Or.inl rfl) (pe_op op_mod (pe_op op_mul (pe_op op_mod (pe_op op_mul (pv 5) (pv 5)) pe_int) pe_int) pe_int))
      (pss_cons (ps_set (i := 6) sc__law_draw.nd rfl (Or.inl rfl) (pe_op op_mod (pe_op op_mul (pe_op op_mod (pe_op op_mul (pv 5) (pv 5)) pe_int) pe_int) pe_int))
      (pss_one (ps_ret (pe_op op_mod (pe_op op_add (pe_op op_mul (pe_op op_fdiv (pv 5) pe_int) pe_int) (pe_op op_fdiv (pv 6) pe_int)) (pv 2))))))))))), ?_⟩
  have hT' : H t = some (.lst (zeros k)) := hT
  have g1 : Grow t H (upd H t (.lst (zeros k ++ [V.int 0]))) := Grow.upd _
  have t1 : Twn (upd H t (.lst (zeros k ++ [V.int 0]))) t (k + 1) := by
    unfold Twn
    rw [upd_same]
    show some (HO.lst (List.replicate k (V.int 0) ++ [V.int 0])) = some (HO.lst (List.replicate (k + 1) (V.int 0)))
    rw [List.replicate_succ']
  have s1 := g1.scr hT hS
  have hl : (((zeros k ++ [V.int 0]).length : Nat) : Int) = ((k + 1 : Nat) : Int) := by simp
  refine ⟨_, rfl, .inl ⟨rfl, _, SqL.of hT'⟩, t, _, _, rfl, rfl, hT', (by rw [List.length_replicate]; exact smallL (by omega)), ?_⟩
  refine ⟨_, rfl, t, _, rfl, .inl (SqL.of upd_same), ?_⟩
  rw [hl]
  refine ⟨fun σ' H' => σ' = [some (.ref a), some (.ref t), some (.int m), some (.int ((k + 1 : Nat) : Int)), some (.int (lcell ns (k + 1))), none, none] ∧ H' = upd H t (.lst (zeros k ++ [V.int 0])), ?_, ?_⟩
  · rintro σ' H' ⟨rfl, rfl⟩
    refine ⟨_, rfl, _, rfl, _, _, rfl, rfl, .inl ⟨by decide, by decide⟩, _, _, rfl, rfl, _, _, rfl, rfl, (by show (0 : Int) < 4294967291; decide), ?_⟩
    refine ⟨_, rfl, _, rfl, _, _, rfl, rfl, .inl (emod_bd _ (by decide) (by decide)), _, _, rfl, rfl, (by show (0 : Int) < 4294967279; decide), _, _, rfl, rfl, .inr ⟨by decide, by decide⟩, _, _, rfl, rfl, (by show (0 : Int) < 4294967291; decide), ?_⟩
    refine ⟨_, rfl, _, rfl, _, _, rfl, rfl, .inl (emod_bd _ (by decide) (by decide)), _, _, rfl, rfl, (by show (0 : Int) < 4294967279; decide), _, _, rfl, rfl, .inr ⟨by decide, by decide⟩, _, _, rfl, rfl, (by show (0 : Int) < 4294967291; decide), ?_⟩
    refine ⟨_, rfl, _, _, rfl, rfl, ⟨by decide, by decide⟩, _, _, rfl, rfl, .inr ⟨by decide, by decide⟩, _, rfl, _, _, rfl, rfl, ⟨by decide, by decide⟩, _, _, rfl, rfl, _, rfl, _, _, rfl, rfl, hm, ?_⟩
    exact q _ g1 t1
  · by_cases hn : ns = []
    · refine ⟨_, rfl, false, .inl ⟨_, s1.seq, by rw [hn]; rfl⟩, iteF ⟨?_, rfl⟩⟩
      unfold lcell
      rw [if_pos hn]
      rfl
    · refine ⟨_, rfl, true, .inl ⟨_, s1.seq, by cases ns with | nil => exact absurd rfl hn | cons _ _ => rfl⟩, iteT ?_⟩
      refine ⟨_, rfl, _, rfl, _, rfl, a, _, rfl, .inl s1.seq, _, _, rfl, rfl, ?_, a, _, _, _, rfl, rfl, s1.seq, cell_at hn (k + 1), rfl, rfl⟩
      show (0 : Int) < (((ns.map V.int).length : Nat) : Int)
      rw [List.length_map]
      have := List.length_pos_iff.mpr hn
      omega
end
noncomputable def spOne (K : PySem.W.Frag) : Sp := fun vs H Q _ => ∃ (a t l : Addr) (ns : List Int) (k : Nat) (xs : List V), vs = [.ref a, .ref t, .ref l] ∧ Scr K H a ns ∧ ns.length ≤ 63 ∧ Twn H t k ∧ k ≤ 800000 ∧ H l = some (.lst xs) ∧ l ≠ t ∧ 0 < xs.length ∧ xs.length ≤ 1000 ∧
  ∀ (i : Nat) (v : V) H', i = (drw ns (k + 1) (xs.length : Int)).toNat → xs[i]? = some v → Grow t H H' → Twn H' t (k + 1) → Q v H'
section
variable {P : Program} {w : World} {K : PySem.W.Frag} {mg : Str → Option Value} {base : Heap} {f : Addr} {fd : FuncData}
theorem ok__law_one (F__law_one : Fun K "_law_one" "_law_one" s__law_one f fd) (B : Bl mg) (g__law_draw : Fn P w K mg base "_law_draw" p__law_draw 1 (spDraw K)) : FnOk P w K mg base CX0 2 f fd p__law_one (spOne K) := by
  refine F__law_one.ok sc__law_one (fun vs H Q E h => ?_) (fun cdv A outer s H vs Q E hr h => ?_)
  · obtain ⟨a, t, l, ns, k, xs, rfl, _⟩ := h
    rfl
  obtain ⟨a, t, l, ns, k, xs, rfl, hS, h63, hT, hk, hL, hlt, hx, hx2, q⟩ := h
  refine ⟨_, (pss_one (ps_ret (pe_ix ix_list (pv 2) (pe_fn g__law_draw hr (pa_cons (pv 0) (pa_cons (pv 1) (pa_cons (pe_callB call_len_seq rfl B.len_ L3.bt_len (pa_cons (pv 2) pa_nil)) pa_nil)))) (fun _ _ => rfl)))), ?_⟩
  refine ⟨_, rfl, _, rfl, _, rfl, _, rfl, l, _, rfl, .inl (SqL.of hL), a, t, ns, k, _, rfl, hS, h63, hT, by omega, by omega, fun H1 g1 t1 => ?_⟩
  have n0 := drw_nn ns (k + 1) (show (0 : Int) < (xs.length : Int) by omega)
  have n1 := drw_lt ns (k + 1) (show (0 : Int) < (xs.length : Int) by omega)
  have hi : (drw ns (k + 1) (xs.length : Int)).toNat < xs.length := by omega
  have key : ∀ (d : Int) (i : Nat) (hi : i < xs.length), d = (i : Int) → atI xs d = some xs[i] := fun d i hi e => by
    subst e
    exact atI_nat (List.getElem?_eq_getElem hi)
  have at' := key (drw ns (k + 1) (xs.length : Int)) _ hi (by omega)
  exact ⟨l, _, _, _, rfl, rfl, SqL.of (g1 _ _ hlt hL), at', q _ _ _ rfl (List.getElem?_eq_getElem hi) g1 t1⟩
end
section
variable {P : Program} {w : World} {K : PySem.W.Frag} {mg : Str → Option Value} {base : Heap} {f : Addr} {fd : FuncData}
theorem ko_bb (K : PySem.W.Frag) : PySem.W.kitOne K (.type "bool") (.type "bool") = some true := by kernel_rfl
theorem ko_ib (K : PySem.W.Frag) : PySem.W.kitOne K (.type "int") (.type "bool") = some false := by kernel_rfl
theorem ko_it (K : PySem.W.Frag) : PySem.W.kitOne K (.type "int") (.type "tuple") = some false := by kernel_rfl
theorem ko_is (K : PySem.W.Frag) : PySem.W.kitOne K (.type "int") (.type "str") = some false := by kernel_rfl
theorem ko_ii (K : PySem.W.Frag) : PySem.W.kitOne K (.type "int") (.type "int") = some true := by kernel_rfl
theorem ko_sb (K : PySem.W.Frag) : PySem.W.kitOne K (.type "str") (.type "bool") = some false := by kernel_rfl
theorem ko_st (K : PySem.W.Frag) : PySem.W.kitOne K (.type "str") (.type "tuple") = some false := by kernel_rfl
theorem ko_ss (K : PySem.W.Frag) : PySem.W.kitOne K (.type "str") (.type "str") = some true := by kernel_rfl
theorem ko_tb (K : PySem.W.Frag) : PySem.W.kitOne K (.type "tuple") (.type "bool") = some false := by kernel_rfl
theorem ko_tt (K : PySem.W.Frag) : PySem.W.kitOne K (.type "tuple") (.type "tuple") = some true := by kernel_rfl
theorem paired_at {α β : Type} {F : α → β → Prop} : ∀ {l : List α} {m : List β} {i : Nat} {x : α} {y : β}, Paired F l m → l[i]? = some x → m[i]? = some y → F x y
  | _, _, _, _, _, .nil, h, _ => by simp at h
  | _, _, 0, _, _, .cons r _, h, h' => by
    simp at h h'; subst h; subst h'; exact r
  | _, _, i + 1, _, _, .cons _ t, h, h' => paired_at (i := i) t (by simpa using h) (by simpa using h')
theorem ok__law_same1 {n : Nat} (F__law_same : Fun K "_law_same" "_law_same" s__law_same f fd) (B : Bl mg) (g__law_same : Fn P w K mg base "_law_same" p__law_same n (spSame n)) : FnOk P w K mg base CX0 (n + 1) f fd p__law_same (spSame (n + 1)) := by
  refine F__law_same.ok sc__law_same (fun vs H Q E h => ?_) (fun cdv A outer s H vs Q E hr h => ?_)
  · obtain ⟨x, y, rfl, _⟩ := h
    rfl
  obtain ⟨x, y, rfl, hE, q⟩ := h
  refine ⟨_, (pss_cons (ps_if (pt_cmpR op_isN (pv 1) pe_non (nomark _)) (pss_one (ps_ret (pe_cmpR op_isN (pv 0) pe_non (nomark _)))) pss_nil)
      (pss_cons (ps_if (pt_truth (pe_callB call_isi rfl B.isinstance_ L3.bt_isinstance (pa_cons (pv 1) (pa_cons (pe_bltn (v := .ty "bool") rfl B.bool_ L3.bt_bool rfl) pa_nil))) (fun _ => rfl)) (pss_one (ps_ret (pe_and (pe_callB call_isi rfl B.isinstance_ L3.bt_isinstance (pa_cons (pv 0) (pa_cons (pe_bltn (v := .ty "bool") rfl B.bool_ L3.bt_bool rfl) pa_nil))) (pe_one (pe_cmpR op_eq (pv 0) (pv 1) (nomark _)))))) pss_nil)
      (pss_cons (ps_if (pt_truth (pe_callB call_isi rfl B.isinstance_ L3.bt_isinstance (pa_cons (pv 1) (pa_cons (pe_bltn (v := .ty "tuple") rfl B.tuple_ L3.bt_tuple rfl) pa_nil))) (fun _ => rfl)) (pss_cons (ps_if (PW.pt (pw_or (pt_not (pt_truth (pe_callB call_isi rfl B.isinstance_ L3.bt_isinstance (pa_cons (pv 0) (pa_cons (pe_bltn (v := .ty "tuple") rfl B.tuple_ L3.bt_tuple rfl) pa_nil))) (fun _ => rfl))) (pw_or1 (pt_cmpR op_ne (pe_callB call_len_seq rfl B.len_ L3.bt_len (pa_cons (pv 0) pa_nil)) (pe_callB call_len_seq rfl B.len_ L3.bt_len (pa_cons (pv 1) pa_nil)) (nomark _))))) (pss_one (ps_ret pe_bl)) pss_nil)
      (pss_one (ps_ret (pe_callB (call_allL rfl) rfl B.all_ L3.bt_all (pa_cons (pe_comp [] ["_law_got", "_law_due", "_law_one_here", "_law_other"] 2 rfl (pi_zipT rfl B.zip_ (pa_cons (pv 0) (pa_cons (pv 1) pa_nil))) (fun _ _ _ _ _ => (pg_tupK K 2 rfl (pgs_cons (pg_name (i := 2) nd_1 rfl (Or.inl rfl) (Or.inr rfl)) (pgs_cons (pg_name (i := 3) nd_1 rfl (Or.inl rfl) (Or.inr rfl)) pgs_nil)) rfl rfl rfl)) (fun _ _ _ _ _ => pif_nil) (fun _ _ _ _ _ => (pe_fn g__law_same hr (pa_cons (pv 2) (pa_cons (pv 3) pa_nil))))) pa_nil))))) pss_nil)
      (pss_cons (ps_if (pt_truth (pe_callB call_isi rfl B.isinstance_ L3.bt_isinstance (pa_cons (pv 1) (pa_cons (pe_bltn (v := .ty "str") rfl B.str_ L3.bt_str rfl) pa_nil))) (fun _ => rfl)) (pss_one (ps_ret (pe_and (pe_callB call_isi rfl B.isinstance_ L3.bt_isinstance (pa_cons (pv 0) (pa_cons (pe_bltn (v := .ty "str") rfl B.str_ L3.bt_str rfl) pa_nil))) (pe_one (pe_cmpR op_eq (pv 0) (pv 1) (nomark _)))))) pss_nil)
      (pss_one (ps_ret (pe_and (pe_callB call_isi rfl B.isinstance_ L3.bt_isinstance (pa_cons (pv 0) (pa_cons (pe_bltn (v := .ty "int") rfl B.int_ L3.bt_int rfl) pa_nil))) (pe_and (pe_not (pe_callB call_isi rfl B.isinstance_ L3.bt_isinstance (pa_cons (pv 0) (pa_cons (pe_bltn (v := .ty "bool") rfl B.bool_ L3.bt_bool rfl) pa_nil)))) (pe_one (pe_cmpR op_eq (pv 0) (pv 1) (nomark _))))))))))), ?_⟩
  rcases hE with ⟨rfl, hs⟩ | ⟨a, b, xs, ys, rfl, rfl, h1, h2, hz, hp⟩
  · cases x with
    | non =>
      refine ⟨_, rfl, rfl, _, rfl, iteT ?_⟩
      refine ⟨_, rfl, rfl, ?_⟩
      exact q H (Same.refl _)
    | bl c =>
      refine ⟨_, rfl, rfl, _, rfl, iteF ?_⟩
      refine ⟨_, rfl, _, _, _, _, rfl, .bl c, ko_bb _, _, rfl, iteT ?_⟩
      refine ⟨_, rfl, _, _, _, _, rfl, .bl c, ko_bb _, _, rfl, iteT ?_⟩
      refine ⟨_, rfl, _, rfl, rfl, ?_⟩
      rw [decide_eq_true rfl]
      exact q H (Same.refl _)
    | int i =>
      refine ⟨_, rfl, rfl, _, rfl, iteF ?_⟩
      refine ⟨_, rfl, _, _, _, _, rfl, .int i, ko_ib _, _, rfl, iteF ?_⟩
      refine ⟨_, rfl, _, _, _, _, rfl, .int i, ko_it _, _, rfl, iteF ?_⟩
      refine ⟨_, rfl, _, _, _, _, rfl, .int i, ko_is _, _, rfl, iteF ?_⟩
      refine ⟨_, rfl, _, _, _, _, rfl, .int i, ko_ii _, _, rfl, iteT ?_⟩
      refine ⟨_, rfl, _, _, _, _, rfl, .int i, ko_ib _, _, rfl, _, rfl, iteT ?_⟩
      refine ⟨_, rfl, _, rfl, rfl, ?_⟩
      rw [decide_eq_true rfl]
      exact q H (Same.refl _)
    | str z =>
      refine ⟨_, rfl, rfl, _, rfl, iteF ?_⟩
      refine ⟨_, rfl, _, _, _, _, rfl, .str z, ko_sb _, _, rfl, iteF ?_⟩
      refine ⟨_, rfl, _, _, _, _, rfl, .str z, ko_st _, _, rfl, iteF ?_⟩
      refine ⟨_, rfl, _, _, _, _, rfl, .str z, ko_ss _, _, rfl, iteT ?_⟩
      refine ⟨_, rfl, _, _, _, _, rfl, .str z, ko_ss _, _, rfl, iteT ?_⟩
      refine ⟨_, rfl, _, rfl, rfl, ?_⟩
      rw [decide_eq_true rfl]
      exact q H (Same.refl _)
    | byt _ => cases hs
    | flt _ => cases hs
    | ref _ => cases hs
    | ty _ => cases hs
  · have hl : xs.length = ys.length := hp.length
    refine ⟨_, rfl, rfl, _, rfl, iteF ?_⟩
    refine ⟨_, rfl, _, _, _, _, rfl, .tup h2, ko_tb _, _, rfl, iteF ?_⟩
    refine ⟨_, rfl, _, _, _, _, rfl, .tup h2, ko_tt _, _, rfl, iteT ?_⟩
    refine ⟨_, rfl, _, _, _, _, rfl, .tup h1, ko_tt _, _, rfl, iteF ?_⟩
    refine ⟨_, rfl, a, _, rfl, .inr (SqT.of h1), _, rfl, b, _, rfl, .inr (SqT.of h2), rfl, _, rfl, iteNS (by rw [hl]) ?_⟩
    refine ⟨_, rfl, _, rfl, a, b, rfl, ⟨_, SqT.of h1⟩, ⟨_, SqT.of h2⟩, ?_⟩
    refine ⟨fun i m acc σ' H' => m = xs.length - i ∧ i ≤ xs.length ∧ acc = List.replicate i (V.bl true) ∧ Same H H' ∧ σ'.length = 4, ⟨xs.length, rfl, Nat.zero_le _, rfl, Same.refl _, rfl⟩, ?_⟩
    rintro i m acc σ' H' ⟨rfl, hi, rfl, hs, hσ⟩
    by_cases hlt : i < xs.length
    · refine .inr ⟨⟨xs, ys, xs[i], ys[i], SqT.of (hs _ _ h1), SqT.of (hs _ _ h2), List.getElem?_eq_getElem hlt, List.getElem?_eq_getElem (by omega)⟩, ?_, fun acc' σ2 H2 => acc' = List.replicate (i + 1) (V.bl true) ∧ Same H H2 ∧ σ2.length = 4, ?_, ?_⟩
      · rw [List.length_replicate]; exact smallL (by omega)
      · rintro acc' σ2 H2 ⟨rfl, s2, l2⟩
        exact ⟨xs.length - (i + 1), by omega, rfl, hlt, rfl, s2, l2⟩
      · rintro v H2 ⟨p, u, v', fp, rfl, rfl, e1, e2⟩
        have u1 := e1 xs (SqT.of (hs _ _ h1))
        have u2 := e2 ys (SqT.of (hs _ _ h2))
        have s2 : Same H (upd H' p (.tup [u, v'])) := hs.trans (same_new fp _)
        obtain ⟨o1, o2, o3, o4, rfl⟩ : ∃ o1 o2 o3 o4, σ' = [o1, o2, o3, o4] := by
          match σ', hσ with
          | [o1, o2, o3, o4], _ => exact ⟨o1, o2, o3, o4, rfl⟩
        refine ⟨p, _, rfl, SqT.of upd_same, rfl, _, _, rfl, _, _, rfl, rfl, ?_⟩
        refine ⟨_, rfl, _, rfl, u, v', rfl, (paired_at hp u1 u2).same s2, fun H3 s3 => ⟨?_, s2.trans s3, rfl⟩⟩
        rw [List.replicate_succ']
    · have e : i = xs.length := by omega
      refine .inl ⟨⟨xs, ys, SqT.of (hs _ _ h1), SqT.of (hs _ _ h2), .inl (by omega)⟩, ?_, fun D fD => ?_⟩
      · rw [List.length_replicate]; exact small (by omega)
      · refine ⟨D, List.replicate i true, rfl, SqL.of (by rw [upd_same, List.map_replicate]), ?_⟩
        have e2 : (List.replicate i true).all id = true := by simp
        rw [e2]
        exact q _ (hs.trans (same_new fD _))
end
theorem ok__law_same0 {P : Program} {w : World} {K : PySem.W.Frag} {mg : Str → Option Value} {base : Heap} {f : Addr} {fd : FuncData} {ps : List Str} {sp : Sp} (no : ∀ vs H Q E, ¬ sp vs H Q E) : FnOk P w K mg base CX0 0 f fd ps sp :=
  ⟨fun vs H Q E h => absurd h (no vs H Q E), fun A outer s H args us vs Q E _ _ _ _ h => absurd h (no vs H Q E)⟩
theorem rp : ¬ (("row" : Str) = "place") := by decide +kernel
noncomputable def flds (r : Addr) (z : Int) : List (Str × V) := putF "place" (.int z) (putF "row" (.ref r) [])
theorem flds_eq (r : Addr) (z : Int) : flds r z = ([("row", V.ref r), ("place", V.int z)] : List (Str × V)) := by
  show (if ("row" : Str) = "place" then [(("row" : Str), V.int z)] else (("row" : Str), V.ref r) :: putF "place" (V.int z) []) = ([("row", V.ref r), ("place", V.int z)] : List (Str × V))
  rw [if_neg rp]
  all_goals rfl
theorem flds_row (r : Addr) (z : Int) : (flds r z).lookup ("row" : Str) = some (.ref r) := by
  unfold flds
  rw [lookup_putF, if_neg rp, lookup_putF, if_pos rfl]
theorem flds_place (r : Addr) (z : Int) : (flds r z).lookup ("place" : Str) = some (.int z) := by
  unfold flds
  rw [lookup_putF, if_pos rfl]
theorem flds_no (r : Addr) (z : Int) {m : Str} (h1 : ¬ m = "place") (h2 : ¬ m = "row") : (flds r z).lookup m = none := by
  unfold flds
  rw [lookup_putF, if_neg h1, lookup_putF, if_neg h2]
  all_goals rfl
theorem flds_put (r : Addr) (z y : Int) : putF "place" (.int y) (flds r z) = flds r y := by
  rw [flds_eq, flds_eq]
  show (if ("row" : Str) = "place" then _ else (("row" : Str), V.ref r) :: (if ("place" : Str) = "place" then [(("place" : Str), V.int y)] else _)) = ([("row", V.ref r), ("place", V.int y)] : List (Str × V))
  rw [if_neg rp, if_pos rfl]
theorem flds_lt (r : Addr) (z : Int) : (flds r z).length < 1000 := by
  rw [flds_eq]
  show 2 < 1000
  decide
structure Txt (K : PySem.W.Frag) (mg : Str → Option Value) (C fI fT fU fL fG : Addr) (dI dT dU dL dG : FuncData) : Prop where
  cl : Cls K C
  nR : NoAttr K C "row"
  nP : NoAttr K C "place"
  mgC : mg "Bits" = some (.ref C)
  made : Mk K C fI
  m_take : Meth K C "take" fT
  m_used : Meth K C "used" fU
  m_left : Meth K C "left" fL
  m_go_back : Meth K C "go_back" fG
  b_init : Binds K dI p_Bits___init__ []
  b_take : Binds K dT p_Bits_take []
  b_used : Binds K dU p_Bits_used []
  b_left : Binds K dL p_Bits_left []
  b_go_back : Binds K dG p_Bits_go_back []
noncomputable def spInit (C : Addr) : Sp := fun vs H Q _ => ∃ (p dx r : Addr) (xs : List V), vs = [.ref p, .ref r] ∧ H p = some (.ins C dx []) ∧ H r = some (.tup xs) ∧
  ∀ H', H' p = some (.ins C dx (flds r 0)) → (∀ b o, H b = some o → b ≠ p → H' b = some o) → Q .non H'
noncomputable def spUsed (C : Addr) : Sp := fun vs H Q _ => ∃ (p dx r : Addr) (z : Nat), vs = [.ref p] ∧ H p = some (.ins C dx (flds r z)) ∧ Q (.int z) H
noncomputable def spLeft (C : Addr) : Sp := fun vs H Q _ => ∃ (p dx r : Addr) (xs : List V) (z : Nat), vs = [.ref p] ∧ H p = some (.ins C dx (flds r z)) ∧ H r = some (.tup xs) ∧ Q (.int ((xs.length : Int) - (z : Int))) H
noncomputable def spTake (C CN : Addr) : Sp := fun vs H Q E => ∃ (p dx r : Addr) (xs : List V) (z : Nat), vs = [.ref p] ∧ H p = some (.ins C dx (flds r z)) ∧ H r = some (.tup xs) ∧ z ≤ xs.length ∧
  (∀ v, xs[z]? = some v → Q v (upd H p (.ins C dx (flds r ((z + 1 : Nat) : Int))))) ∧ (z = xs.length → E (.ref CN) none H)
noncomputable def spBack (C CP : Addr) : Sp := fun vs H Q E => ∃ (p dx r : Addr) (z : Nat) (m : Int), vs = [.ref p, .int m] ∧ H p = some (.ins C dx (flds r z)) ∧
  (0 ≤ m ∧ m ≤ (z : Int) → Q .non (upd H p (.ins C dx (flds r m)))) ∧ (¬ (0 ≤ m ∧ m ≤ (z : Int)) → E (.ref CP) none H)
noncomputable def spBackH (C : Addr) : Sp := fun vs H Q _ => ∃ (p dx r : Addr) (z m : Nat), vs = [.ref p, .int m] ∧ H p = some (.ins C dx (flds r z)) ∧ m ≤ z ∧ Q .non (upd H p (.ins C dx (flds r m)))
section
variable {P : Program} {w : World} {K : PySem.W.Frag} {mg : Str → Option Value} {base : Heap} {f C fI fT fU fL fG CN CP : Addr} {fd dI dT dU dL dG : FuncData} {mN mP : List Value}
theorem ok_init (F_Bits___init__ : Fun K "__init__" "Bits.__init__" s_Bits___init__ f fd) (B : Bl mg) (T : Txt K mg C fI fT fU fL fG dI dT dU dL dG) : FnOk P w K mg base CX0 1 f fd p_Bits___init__ (spInit C) := by
  refine F_Bits___init__.ok sc_Bits___init__ (fun vs H Q E h => ?_) (fun cdv A outer s H vs Q E hr h => ?_)
  · obtain ⟨p, dx, r, xs, rfl, _⟩ := h
    rfl
  obtain ⟨p, dx, r, xs, rfl, hp, hR, q⟩ := h
  refine ⟨_, (pss_cons (ps_fld (pv 0) (pe_callTy call_tuple_of rfl B.tuple_ L3.bt_tuple (pa_cons (pv 1) pa_nil)) rfl)
      (pss_one (ps_fld (pv 0) pe_int rfl))), ?_⟩
  refine ⟨_, rfl, r, xs, rfl, .inr ⟨SqT.of hR, _, rfl, p, C, dx, [], rfl, hp, T.cl, T.nR, (by show 0 < 1000; decide), ?_⟩⟩
  refine ⟨_, rfl, p, C, dx, _, rfl, upd_same, T.cl, T.nP, (by show 1 < 1000; decide), ?_⟩
  refine q _ upd_same fun b o e hb => ?_
  rw [upd_ne hb, upd_ne hb]
  exact e
theorem ok_used (F_Bits_used : Fun K "used" "Bits.used" s_Bits_used f fd) (T : Txt K mg C fI fT fU fL fG dI dT dU dL dG) : FnOk P w K mg base CX0 1 f fd p_Bits_used (spUsed C) := by
  refine F_Bits_used.ok sc_Bits_used (fun vs H Q E h => ?_) (fun cdv A outer s H vs Q E hr h => ?_)
  · obtain ⟨p, dx, r, z, rfl, _⟩ := h
    rfl
  obtain ⟨p, dx, r, z, rfl, hp, q⟩ := h
  refine ⟨_, (pss_one (ps_ret (pe_fld (pv 0) rfl))), ?_⟩
  exact ⟨_, rfl, p, C, dx, _, _, rfl, hp, T.cl, T.nP, flds_place _ _, q⟩
theorem ok_left (F_Bits_left : Fun K "left" "Bits.left" s_Bits_left f fd) (B : Bl mg) (T : Txt K mg C fI fT fU fL fG dI dT dU dL dG) : FnOk P w K mg base CX0 1 f fd p_Bits_left (spLeft C) := by
  refine F_Bits_left.ok sc_Bits_left (fun vs H Q E h => ?_) (fun cdv A outer s H vs Q E hr h => ?_)
  · obtain ⟨p, dx, r, xs, z, rfl, _⟩ := h
    rfl
  obtain ⟨p, dx, r, xs, z, rfl, hp, hR, q⟩ := h
  refine ⟨_, (pss_one (ps_ret (pe_op op_sub (pe_callB call_len_seq rfl B.len_ L3.bt_len (pa_cons (pe_fld (pv 0) rfl) pa_nil)) (pe_fld (pv 0) rfl)))), ?_⟩
  exact ⟨_, rfl, p, C, dx, _, _, rfl, hp, T.cl, T.nR, flds_row _ _, r, xs, rfl, .inr (SqT.of hR), _, rfl, p, C, dx, _, _, rfl, hp, T.cl, T.nP, flds_place _ _, _, _, rfl, rfl, q⟩
theorem ok_take (F_Bits_take : Fun K "take" "Bits.take" s_Bits_take f fd) (T : Txt K mg C fI fT fU fL fG dI dT dU dL dG) (X_NoBits : Exc K mg "NoBits" CN mN) (g_left : FnOk P w K mg base CX0 1 fL dL p_Bits_left (spLeft C)) : FnOk P w K mg base (CXR P w) 2 f fd p_Bits_take (spTake C CN) := by
  refine F_Bits_take.okX sc_Bits_take (fun vs H Q E h => ?_) (fun cdv A outer s H vs Q E hr h => ?_)
  · obtain ⟨p, dx, r, xs, z, rfl, _⟩ := h
    rfl
  obtain ⟨p, dx, r, xs, z, rfl, hp, hR, hz, q, e⟩ := h
  refine ⟨_, (pss_cons (ps_if (pt_cmpR op_eq (pe_meth0 (pv 0) T.cl T.m_left g_left (hr.mono (by first | decide | omega)) T.b_left .nil pass0) pe_int (nomark _)) (pss_one (ps_raise X_NoBits (pa_cons pe_str pa_nil))) pss_nil)
      (pss_cons (ps_set (i := 1) sc_Bits_take.nd rfl (Or.inl rfl) (pe_ix ix_tup (pe_fld (pv 0) rfl) (pe_fld (pv 0) rfl) (fun _ _ => rfl)))
      (pss_cons (ps_fld (pv 0) (pe_op op_add (pe_fld (pv 0) rfl) pe_int) rfl)
      (pss_one (ps_ret (pv 1)))))), ?_⟩
  refine ⟨_, rfl, p, dx, _, rfl, hp, flds_no _ _ (by decide +kernel) (by decide +kernel), p, dx, r, xs, z, rfl, hp, hR, rfl, _, rfl, ?_⟩
  refine ite2 (fun c => ?_) (fun c => ?_)
  · have c' : V.int ((xs.length : Int) - (z : Int)) = V.int 0 := of_decide_eq_true c
    injection c' with c'
    exact ⟨(by show 1 ≤ sizeLine; decide), e (by omega)⟩
  · have c' : ¬ V.int ((xs.length : Int) - (z : Int)) = V.int 0 := of_decide_eq_false (Bool.eq_false_iff.mpr c)
    have hlt : z < xs.length := by
      rcases Nat.lt_or_ge z xs.length with y | y
      · exact y
      · exact absurd (by rw [show (xs.length : Int) - (z : Int) = 0 by omega]) c'
    have hv := List.getElem?_eq_getElem hlt
    refine ⟨_, rfl, p, C, dx, _, _, rfl, hp, T.cl, T.nR, flds_row _ _, _, rfl, p, C, dx, _, _, rfl, hp, T.cl, T.nP, flds_place _ _, r, xs, _, _, rfl, rfl, SqT.of hR, atI_nat hv, ?_⟩
    refine ⟨_, rfl, p, C, dx, _, _, rfl, hp, T.cl, T.nP, flds_place _ _, _, _, rfl, rfl, _, rfl, p, C, dx, _, rfl, hp, T.cl, T.nP, flds_lt _ _, ?_⟩
    refine ⟨_, rfl, ?_⟩
    rw [flds_put]
    exact q _ hv
theorem okH_go_back (F_Bits_go_back : Fun K "go_back" "Bits.go_back" s_Bits_go_back f fd) (T : Txt K mg C fI fT fU fL fG dI dT dU dL dG) : FnOkH P w K mg base 1 f fd p_Bits_go_back (spBackH C) := by
  refine F_Bits_go_back.okH sc_Bits_go_back (fun vs H Q E h => ?_) (fun cdv A outer s H vs Q E h => ?_)
  · obtain ⟨p, dx, r, z, m, rfl, _⟩ := h
    rfl
  obtain ⟨p, dx, r, z, m, rfl, hp, hm, q⟩ := h
  refine ⟨_, (pss_cons (ps_if (PW.pt (pw_or (pt_cmpR op_lt (pv 1) pe_int (nomark _)) (pw_or1 (pt_cmpR op_gt (pv 1) (pe_fld (pv 0) rfl) (nomark _))))) (pss_one ps_never) pss_nil)
      (pss_one (ps_fld (pv 0) (pv 1) rfl))), ?_⟩
  refine ⟨_, rfl, _, _, rfl, rfl, _, rfl, ?_⟩
  refine ite2 (fun c => ?_) (fun c => ?_)
  · have c' : (m : Int) < 0 := of_decide_eq_true c
    omega
  · refine ⟨_, rfl, _, rfl, p, C, dx, _, _, rfl, hp, T.cl, T.nP, flds_place _ _, _, _, rfl, rfl, _, rfl, ?_⟩
    refine ite2 (fun c2 => ?_) (fun c2 => ?_)
    · have c3 : (m : Int) > (z : Int) := of_decide_eq_true c2
      omega
    · refine ⟨_, rfl, _, rfl, p, C, dx, _, rfl, hp, T.cl, T.nP, flds_lt _ _, ?_⟩
      rw [flds_put]
      exact q
end
theorem lo62 (n : Nat) : (-(2 ^ 62) : Int) ≤ (n : Int) := Int.le_trans (by decide) (Int.natCast_nonneg n)
theorem hi62 {n : Nat} (h : n ≤ 1000000) : (n : Int) < 2 ^ 62 := Int.lt_of_le_of_lt (Int.ofNat_le.mpr h) (by decide)
theorem nat_of {z : Int} (h : 0 ≤ z) : ∃ n : Nat, z = (n : Int) := ⟨z.toNat, by omega⟩
noncomputable abbrev vbits (bl : List Nat) : List V := bl.map fun (b : Nat) => V.int (b : Int)
structure At (C : Addr) (H : Hp) (b dx r : Addr) (bl : List Nat) (z : Nat) : Prop where
  obj : H b = some (.ins C dx (flds r z))
  row : H r = some (.tup (vbits bl))
  le : z ≤ bl.length
theorem At.same {C : Addr} {H H' : Hp} {b dx r : Addr} {bl : List Nat} {z : Nat} (h : At C H b dx r bl z) (s : Same H H') : At C H' b dx r bl z := ⟨s _ _ h.obj, s _ _ h.row, h.le⟩
theorem At.ne {C : Addr} {H : Hp} {b dx r : Addr} {bl : List Nat} {z : Nat} (h : At C H b dx r bl z) : r ≠ b := fun e => by
  have a := h.row
  rw [e, h.obj] at a
  cases a
theorem At.to {C : Addr} {H : Hp} {b dx r : Addr} {bl : List Nat} {z : Nat} (h : At C H b dx r bl z) {y : Nat} (hy : y ≤ bl.length) : At C (upd H b (.ins C dx (flds r y))) b dx r bl y := ⟨upd_same, by rw [upd_ne h.ne]; exact h.row, hy⟩
theorem vbits_at {bl : List Nat} {z : Nat} {v : V} (h : (vbits bl)[z]? = some v) : ∃ x, bl[z]? = some x ∧ v = .int (x : Int) := by
  rw [List.getElem?_map] at h
  cases e : bl[z]? with
  | none => rw [e] at h; cases h
  | some x => rw [e] at h; exact ⟨x, rfl, (Option.some.inj h).symm⟩
theorem vbits_len (bl : List Nat) : (vbits bl).length = bl.length := List.length_map _
noncomputable def spTakeB (C CN : Addr) : Sp := fun vs H Q E => ∃ (b dx r : Addr) (bl : List Nat) (z : Nat), vs = [.ref b] ∧ At C H b dx r bl z ∧
  (∀ x H', bl[z]? = some x → Grow b H H' → At C H' b dx r bl (z + 1) → Q (.int (x : Int)) H') ∧ (z = bl.length → E (.ref CN) none H)
theorem take_imp {C CN : Addr} : ∀ vs H Q E, spTakeB C CN vs H Q E → spTake C CN vs H Q E := by
  rintro vs H Q E ⟨b, dx, r, bl, z, rfl, hA, q, e⟩
  refine ⟨b, dx, r, vbits bl, z, rfl, hA.obj, hA.row, by rw [vbits_len]; exact hA.le, fun v hv => ?_, fun hz => e (by rw [vbits_len] at hz; exact hz)⟩
  obtain ⟨x, hx, rfl⟩ := vbits_at hv
  have hlt : z < bl.length := by
    rcases Nat.lt_or_ge z bl.length with y | y
    · exact y
    · rw [List.getElem?_eq_none y] at hx; cases hx
  exact q x _ hx (Grow.upd _) (hA.to hlt)
noncomputable def spRaw {α : Type} (C CN : Addr) (Sh : Hp → V → α → Prop) (F : α → List Nat → Option (V × Nat)) : Sp := fun vs H Q E => ∃ (b dx r : Addr) (bl : List Nat) (z : Nat) (x : V) (a : α), vs = [.ref b, x] ∧ At C H b dx r bl z ∧ Sh H x a ∧
  (∀ v u H', F a (bl.drop z) = some (v, u) → Grow b H H' → At C H' b dx r bl (z + u) → Q v H') ∧
  (∀ z' H', F a (bl.drop z) = none → z ≤ z' → Grow b H H' → At C H' b dx r bl z' → E (.ref CN) none H')
noncomputable def spDone {α : Type} (C CN : Addr) (Sh : Hp → V → α → Prop) (F : α → List Nat → Option (V × Nat)) : Sp := fun vs H Q E => ∃ (b dx r : Addr) (bl : List Nat) (z : Nat) (x : V) (a : α), vs = [.ref b, x] ∧ At C H b dx r bl z ∧ Sh H x a ∧
  (∀ v u H', F a (bl.drop z) = some (v, u) → Grow b H H' → At C H' b dx r bl (z + u) → Q v H') ∧
  (∀ H', F a (bl.drop z) = none → Grow b H H' → At C H' b dx r bl z → E (.ref CN) none H')
noncomputable def spDW (P : Program) (w : World) (K : PySem.W.Frag) (mg : Str → Option Value) (base : Heap) (k0 : Nat) (C CN : Addr) : Sp := fun vs H Q E => ∃ (b dx r f : Addr) (bl : List Nat) (z : Nat) (x : V) (fd : FuncData) (ps : List Str) (k : Nat) (sp : Sp),
  vs = [.ref b, .ref f, x] ∧ FnOk P w K mg base (CXR P w) k f fd ps sp ∧ k ≤ k0 ∧ PySem.W.keepIn K (.ref f) = true ∧ Binds K fd ps [] ∧ At C H b dx r bl z ∧
  ∀ Ex : XK, (∀ z' H1, z ≤ z' → At C H1 b dx r bl z' → (∀ H2, Grow b H1 H2 → At C H2 b dx r bl z → E (.ref CN) none H2) → Ex (.ref CN) none H1) → sp [.ref b, x] H Q Ex
theorem dw_of {α : Type} {P : Program} {w : World} {K : PySem.W.Frag} {mg : Str → Option Value} {base : Heap} {k k0 : Nat} {C CN f : Addr} {fd : FuncData} {ps : List Str} {x : Str} {Sh : Hp → V → α → Prop} {F : α → List Nat → Option (V × Nat)} (G : FnX P w K mg base x f fd ps k (spRaw C CN Sh F)) (hk : k ≤ k0)
    {b dx r : Addr} {bl : List Nat} {z : Nat} {y : V} {a : α} {H : Hp} {Q : VK} {E : XK} (hA : At C H b dx r bl z) (hS : Sh H y a) (q : ∀ v u H', F a (bl.drop z) = some (v, u) → Grow b H H' → At C H' b dx r bl (z + u) → Q v H')
    (e : ∀ H', F a (bl.drop z) = none → Grow b H H' → At C H' b dx r bl z → E (.ref CN) none H') : spDW P w K mg base k0 C CN [.ref b, .ref f, y] H Q E :=
  ⟨b, dx, r, f, bl, z, y, fd, ps, k, _, rfl, G.ok, hk, G.kp, G.bd, hA, fun Ex hE => ⟨b, dx, r, bl, z, y, a, rfl, hA, hS, q, fun z' H1 n1 l1 g1 a1 => hE z' H1 l1 a1 fun H2 g2 a2 => e H2 n1 (g1.trans g2) a2⟩⟩
section
variable {P : Program} {w : World} {K : PySem.W.Frag} {mg : Str → Option Value} {base : Heap} {f C fI fT fU fL fG CN : Addr} {fd dI dT dU dL dG : FuncData} {mN : List Value}
theorem ok_drawn_whole {k0 : Nat} (F_drawn_whole : Fun K "drawn_whole" "drawn_whole" s_drawn_whole f fd) (T : Txt K mg C fI fT fU fL fG dI dT dU dL dG) (X_NoBits : Exc K mg "NoBits" CN mN) (hNN : mN.contains (.ref CN) = true) (g_used : FnOk P w K mg base CX0 1 fU dU p_Bits_used (spUsed C)) (gH_go_back : FnOkH P w K mg base 1 fG dG p_Bits_go_back (spBackH C)) :
    FnOk P w K mg base (CXR P w) (k0 + 1 + 1) f fd p_drawn_whole (spDW P w K mg base (k0 + 1) C CN) := by
  refine F_drawn_whole.okX sc_drawn_whole (fun vs H Q E h => ?_) (fun cdv A outer s H vs Q E hr h => ?_)
  · obtain ⟨b, dx, r, f, bl, z, x, fd, ps, k, sp, rfl, _⟩ := h
    rfl
  obtain ⟨b, dx, r, f', bl, z, x, fd', ps', k, sp, rfl, F, hk, kp, hb, hA, q⟩ := h
  refine ⟨_, (pss_cons (ps_set (i := 3) sc_drawn_whole.nd rfl (Or.inl rfl) (pe_meth0 (pv 0) T.cl T.m_used g_used (hr.mono (by first | decide | omega)) T.b_used .nil pass0))
      (pss_one (ps_try (psx_ret (px_callV 1 (pv 1) hr (pa_cons (pv 0) (pa_cons (pv 2) pa_nil)))) (Hs.cons X_NoBits rfl (by decide) (fun y ps ok hd => (pss_cons (ps_expr (pe_methH (pv 0) T.cl T.m_go_back gH_go_back ((hr.mono (by first | decide | omega)).h _) T.b_go_back (pa_cons (pv 3) pa_nil)))
      (pss_one (ps_raiseH ok hd X_NoBits (pa_cons pe_str pa_nil))))) .nil) rfl rfl (fun _ => PassesOwnAt.leaving)))), ?_⟩
  refine ⟨_, rfl, b, dx, _, rfl, hA.obj, flds_no _ _ (by decide +kernel) (by decide +kernel), b, dx, r, z, rfl, hA.obj, ?_⟩
  refine ⟨f', fd', k, ps', sp, rfl, F, hk, kp, hb, _, rfl, _, rfl, q _ fun z' H1 hz hA1 e => ?_⟩
  refine ⟨"NoBits", CN, mN, _, rfl, X_NoBits, if_pos hNN, ?_⟩
  refine ⟨_, rfl, b, dx, _, rfl, hA1.obj, flds_no _ _ (by decide +kernel) (by decide +kernel), _, rfl, b, dx, r, z', z, rfl, hA1.obj, hz, ?_⟩
  exact ⟨(by show 1 ≤ sizeLine; decide), e _ (Grow.upd _) (hA1.to hA.le)⟩
end
noncomputable def evR (m : Nat) : Nat → Nat → Nat → List Nat → Option (Nat × Nat)
  | _, _, _, [] => none
  | n, s, u, b :: bs => if 2 * s < m then evR m (2 * n + b) (2 * s) (u + 1) bs else if 2 * n + b < m then some (2 * n + b, u + 1) else evR m (2 * n + b - m) (2 * s - m) (u + 1) bs
noncomputable def evG (m n s u : Nat) (bs : List Nat) : Option (Nat × Nat) := if s < m then evR m n s u bs else if n < m then some (n, u) else evR m (n - m) (s - m) u bs
noncomputable def evF (m : Nat) (bs : List Nat) : Option (Nat × Nat) := evG m 0 1 0 bs
noncomputable def evV (m : Nat) (bs : List Nat) : Option (V × Nat) := (evF m bs).map fun p => (V.int (p.1 : Int), p.2)
theorem evG_nil {m n s u : Nat} (h : s < m) : evG m n s u [] = none := by
  unfold evG
  rw [if_pos h]
  rfl
theorem evG_step {m n s u b : Nat} {bs : List Nat} (h : s < m) : evG m n s u (b :: bs) = evG m (2 * n + b) (2 * s) (u + 1) bs := by
  unfold evG
  rw [if_pos h]
  rfl
theorem evG_less {m n s u : Nat} {bs : List Nat} (h : ¬ s < m) (h2 : ¬ n < m) (h3 : s < 2 * m) : evG m n s u bs = evG m (n - m) (s - m) u bs := by
  unfold evG
  rw [if_neg h, if_neg h2, if_pos (by omega)]
theorem evG_end {m n s u : Nat} {bs : List Nat} (h : ¬ s < m) (h2 : n < m) : evG m n s u bs = some (n, u) := by
  unfold evG
  rw [if_neg h, if_pos h2]
theorem drop_at {bl : List Nat} {z x : Nat} (h : bl[z]? = some x) : bl.drop z = x :: bl.drop (z + 1) := by
  have hlt : z < bl.length := by
    rcases Nat.lt_or_ge z bl.length with y | y
    · exact y
    · rw [List.getElem?_eq_none y] at h; cases h
  rw [List.drop_eq_getElem_cons hlt]
  rw [List.getElem?_eq_getElem hlt] at h
  rw [Option.some.inj h]
noncomputable def ShN (_ : Hp) (x : V) (m : Nat) : Prop := x = .int (m : Int) ∧ 0 < m
section
variable {P : Program} {w : World} {K : PySem.W.Frag} {mg : Str → Option Value} {base : Heap} {f C fI fT fU fL fG CN : Addr} {fd dI dT dU dL dG : FuncData} {mN : List Value}
theorem ok_take_even (F_take_even : Fun K "take_even" "take_even" s_take_even f fd) (T : Txt K mg C fI fT fU fL fG dI dT dU dL dG) (g_take : FnOk P w K mg base (CXR P w) 2 fT dT p_Bits_take (spTakeB C CN)) :
    FnOk P w K mg base (CXR P w) 3 f fd p_take_even (spRaw C CN ShN evV) := by
  refine F_take_even.okX sc_take_even (fun vs H Q E h => ?_) (fun cdv A outer s H vs Q E hr h => ?_)
  · obtain ⟨b, dx, r, bl, z, x, a, rfl, _⟩ := h
    rfl
  obtain ⟨b, dx, r, bl, z, x, m, rfl, hA, ⟨rfl, hm⟩, q, e⟩ := h
  refine ⟨_, (pss_cons (ps_set (i := 2) sc_take_even.nd rfl (Or.inl rfl) pe_int)
      (pss_cons (ps_set (i := 3) sc_take_even.nd rfl (Or.inl rfl) pe_int)
      (pss_one (ps_while (PassesOwn.leaving (M := model P w)) (pt_truth pe_bl (fun _ => rfl)) (pss_cons (ps_while (PassesOwn.leaving (M := model P w)) (pt_cmpR op_lt (pv 3) (pv 1) (nomark _)) (pss_cons (ps_set (i := 2) sc_take_even.nd rfl (Or.inl rfl) (pe_op op_add (pe_op op_mul pe_int (pv 2)) (pe_meth0 (pv 0) T.cl T.m_take g_take (hr.mono (by first | decide | omega)) T.b_take .nil cx_pass)))
      (pss_one (ps_set (i := 3) sc_take_even.nd rfl (Or.inl rfl) (pe_op op_mul pe_int (pv 3))))))
      (pss_cons (ps_if (pt_cmpR op_lt (pv 2) (pv 1) (nomark _)) (pss_one (ps_ret (pv 2))) pss_nil)
      (pss_cons (ps_set (i := 2) sc_take_even.nd rfl (Or.inl rfl) (pe_op op_sub (pv 2) (pv 1)))
      (pss_one (ps_set (i := 3) sc_take_even.nd rfl (Or.inl rfl) (pe_op op_sub (pv 3) (pv 1))))))))))), ?_⟩
  refine ⟨fun mu σ' H' => ∃ (n sz u : Nat), mu = 2 * (bl.length - (z + u)) + (if sz < m then 0 else 1) ∧ σ' = [some (.ref b), some (.int (m : Int)), some (.int (n : Int)), some (.int (sz : Int))] ∧ Grow b H H' ∧ At C H' b dx r bl (z + u) ∧ sz < 2 * m ∧ evF m (bl.drop z) = evG m n sz u (bl.drop (z + u)), ⟨_, 0, 1, 0, rfl, rfl, Grow.refl _ _, hA, by omega, rfl⟩, ?_⟩
  rintro mu σ1 H1 ⟨n, sz, u, rfl, rfl, g1, a1, hsz, hev⟩
  refine ⟨_, rfl, iteT ?_⟩
  refine ⟨_, fun _ _ z => z, ?_⟩
  refine ⟨fun m2 σ' H' => ∃ (n2 sz2 u2 : Nat), m2 = bl.length - (z + u2) ∧ σ' = [some (.ref b), some (.int (m : Int)), some (.int (n2 : Int)), some (.int (sz2 : Int))] ∧ Grow b H H' ∧ At C H' b dx r bl (z + u2) ∧ sz2 < 2 * m ∧ evF m (bl.drop z) = evG m n2 sz2 u2 (bl.drop (z + u2)) ∧ u ≤ u2 ∧ (u2 = u → sz2 = sz), ⟨_, n, sz, u, rfl, rfl, g1, a1, hsz, hev, Nat.le_refl _, fun _ => rfl⟩, ?_⟩
  rintro m2 σ2 H2 ⟨n2, sz2, u2, rfl, rfl, g2, a2, hsz2, hev2, hu2, hk2⟩
  refine ⟨_, rfl, _, rfl, _, _, rfl, rfl, _, rfl, ite2 (fun c => ?_) (fun c => ?_)⟩
  · have c' : (sz2 : Int) < (m : Int) := of_decide_eq_true c
    have hlt : sz2 < m := by omega
    refine ⟨_, fun _ _ z => z, ?_⟩
    refine ⟨_, rfl, _, _, rfl, rfl, .inl ⟨by decide, by decide⟩, _, rfl, b, dx, _, rfl, a2.obj, flds_no _ _ (by decide +kernel) (by decide +kernel), b, dx, r, bl, z + u2, rfl, a2, fun x H3 hx g3 a3 => ?_, fun hz => ?_⟩
    · have hl3 := a3.le
      refine ⟨_, _, rfl, rfl, ?_⟩
      refine ⟨_, rfl, _, _, rfl, rfl, .inl ⟨by decide, by decide⟩, ?_⟩
      refine ⟨bl.length - (z + (u2 + 1)), by omega, 2 * n2 + x, 2 * sz2, u2 + 1, rfl, ?_, g2.trans g3, a3, by omega, ?_, by omega, fun h => by omega⟩
      · show _ = [some (V.ref b), some (V.int (m : Int)), some (V.int ((2 * n2 + x : Nat) : Int)), some (V.int ((2 * sz2 : Nat) : Int))]
        rw [Int.natCast_add, Int.natCast_mul, Int.natCast_mul]
        rfl
      · rw [hev2, drop_at hx, evG_step hlt]
        rfl
    · refine e (z + u2) H2 ?_ (by omega) g2 a2
      unfold evV
      rw [hev2, List.drop_eq_nil_of_le (by omega), evG_nil hlt]
      rfl
  · have c' : ¬ (sz2 : Int) < (m : Int) := of_decide_eq_false (Bool.eq_false_iff.mpr c)
    have hge : ¬ sz2 < m := by omega
    refine ⟨_, rfl, _, rfl, _, _, rfl, rfl, _, rfl, ite2 (fun c2 => ?_) (fun c2 => ?_)⟩
    · have c3 : (n2 : Int) < (m : Int) := of_decide_eq_true c2
      refine ⟨_, rfl, q _ u2 H2 ?_ g2 a2⟩
      unfold evV
      rw [hev2, evG_end hge (by omega)]
      rfl
    · have c3 : ¬ (n2 : Int) < (m : Int) := of_decide_eq_false (Bool.eq_false_iff.mpr c2)
      refine ⟨_, rfl, _, rfl, _, _, rfl, rfl, ?_⟩
      refine ⟨_, rfl, _, rfl, _, _, rfl, rfl, ?_⟩
      have l2 := a2.le
      refine ⟨2 * (bl.length - (z + u2)) + (if sz2 - m < m then 0 else 1), ?_, n2 - m, sz2 - m, u2, rfl, ?_, g2, a2, by omega, by rw [hev2, evG_less hge (by omega) hsz2]⟩
      · rw [if_pos (show sz2 - m < m by omega)]
        by_cases hu : u2 = u
        · have := hk2 hu
          subst this
          subst hu
          rw [if_neg hge]
          omega
        · omega
      · show _ = [some (V.ref b), some (V.int (m : Int)), some (V.int ((n2 - m : Nat) : Int)), some (V.int ((sz2 - m : Nat) : Int))]
        rw [Int.ofNat_sub (by omega), Int.ofNat_sub (by omega)]
        rfl
theorem ok_even (F_even : Fun K "even" "even" s_even f fd) {fD fR : Addr} {dD dR : FuncData} (g_drawn_whole : FnX P w K mg base "drawn_whole" fD dD p_drawn_whole 5 (spDW P w K mg base 4 C CN)) (g_take_even : FnX P w K mg base "take_even" fR dR p_take_even 3 (spRaw C CN ShN evV)) :
    FnOk P w K mg base (CXR P w) 6 f fd p_even (spDone C CN ShN evV) := by
  refine F_even.okX sc_even (fun vs H Q E h => ?_) (fun cdv A outer s H vs Q E hr h => ?_)
  · obtain ⟨b, dx, r, bl, z, x, a, rfl, _⟩ := h
    rfl
  obtain ⟨b, dx, r, bl, z, x, m, rfl, hA, hS, q, e⟩ := h
  refine ⟨_, (pss_one (ps_ret (pe_fnX g_drawn_whole hr (pa_cons (pv 0) (pa_cons (pe_glob (v := .ref _) rfl g_take_even.mg rfl) (pa_cons (pv 1) pa_nil)))))), ?_⟩
  exact ⟨_, rfl, _, rfl, dw_of g_take_even (by decide) hA hS q e⟩
end
noncomputable def vnats (l : List Nat) : List V := l.map fun (n : Nat) => V.int (n : Int)
theorem vnats_ints (l : List Nat) : vnats l = (l.map fun (n : Nat) => (n : Int)).map V.int := by rw [List.map_map]; rfl
theorem vnats_at {l : List Nat} {j : Nat} (h : j < l.length) : (vnats l)[j]? = some (V.int (l.getD j 0 : Int)) := by
  rw [vnats, List.getElem?_map, List.getElem?_eq_getElem h, List.getD_eq_getElem?_getD, List.getElem?_eq_getElem h]
  rfl
theorem vnats_len (l : List Nat) : (vnats l).length = l.length := List.length_map _
theorem sum_nats : ∀ l : List Nat, (l.map fun (n : Nat) => (n : Int)).sum = ((l.sum : Nat) : Int)
  | [] => rfl
  | a :: l => by rw [List.map_cons, List.sum_cons, List.sum_cons, sum_nats l, Int.natCast_add]
theorem vnats_app (a b : List Nat) : vnats (a ++ b) = vnats a ++ vnats b := List.map_append
theorem twn_tup {H : Hp} {t b : Addr} {k : Nat} {xs : List V} (h : Twn H t k) (hb : H b = some (.tup xs)) : b ≠ t := fun e => by
  unfold Twn at h
  rw [e, h] at hb
  cases hb
theorem twn_new {H : Hp} {t p : Addr} {k : Nat} (h : Twn H t k) (hp : H p = none) : p ≠ t := fun y => by
  unfold Twn at h
  rw [← y, hp] at h
  cases h
theorem fm_all {g : Nat → Option V} : ∀ {m : Nat}, (∀ k, k < m → (g k).isSome = true) → ((List.range m).filterMap g).length = m ∧ ∀ j, j < m → ((List.range m).filterMap g)[j]? = g j
  | 0, _ => ⟨rfl, fun j h => absurd h (Nat.not_lt_zero j)⟩
  | m + 1, h => by
    obtain ⟨h1, h2⟩ := fm_all (m := m) fun k hk => h k (by omega)
    obtain ⟨x, hx⟩ := Option.isSome_iff_exists.mp (h m (by omega))
    have e : (List.range (m + 1)).filterMap g = (List.range m).filterMap g ++ [x] := by
      rw [List.range_succ, List.filterMap_append, List.filterMap_cons, hx]
      rfl
    rw [e]
    refine ⟨by rw [List.length_append, h1]; rfl, fun j hj => ?_⟩
    by_cases c : j < m
    · rw [List.getElem?_append_left (by omega)]
      exact h2 j c
    · have : j = m := by omega
      subst this
      rw [List.getElem?_append_right (by omega), h1, Nat.sub_self, hx]
      rfl
noncomputable def sqF : List Nat → List Nat → Option (List Nat × Nat)
  | [], _ => some ([], 0)
  | r :: rs, bs => match evF r bs with
    | none => none
    | some (v, u) => (sqF rs (bs.drop u)).map fun p => (v :: p.1, u + p.2)
theorem evR_lt {m : Nat} : ∀ {bs : List Nat} {n s u v w : Nat}, evR m n s u bs = some (v, w) → v < m
  | [], _, _, _, _, _, h => by cases h
  | b :: bs, n, s, u, v, w, h => by
    unfold evR at h
    split at h
    · exact evR_lt h
    · split at h
      · cases h; assumption
      · exact evR_lt h
theorem evF_lt {m : Nat} {bs : List Nat} {v u : Nat} (h : evF m bs = some (v, u)) : v < m := by
  unfold evF evG at h
  split at h
  · exact evR_lt h
  · split at h
    · cases h; assumption
    · exact evR_lt h
theorem ixN_nat {n j : Nat} (h : j < n) : ixN n (j : Int) = some j := by
  unfold ixN
  rw [if_pos (by omega), if_pos (by omega)]
  simp
noncomputable def spCheck (CP : Addr) : Sp := fun vs H Q E => ∃ p m : Int, vs = [.int p, .int m] ∧ (0 ≤ p ∧ p < m → Q .non H) ∧ (¬ (0 ≤ p ∧ p < m) → E (.ref CP) none H)
section
variable {P : Program} {w : World} {K : PySem.W.Frag} {mg : Str → Option Value} {base : Heap} {f CP : Addr} {fd : FuncData} {mP : List Value}
theorem ok_check_place (F_check_place : Fun K "check_place" "check_place" s_check_place f fd) (X_NoPlace : Exc K mg "NoPlace" CP mP) : FnOk P w K mg base (CXR P w) 1 f fd p_check_place (spCheck CP) := by
  refine F_check_place.okX sc_check_place (fun vs H Q E h => ?_) (fun cdv A outer s H vs Q E hr h => ?_)
  · obtain ⟨p, m, rfl, _⟩ := h
    rfl
  obtain ⟨p, m, rfl, q, e⟩ := h
  refine ⟨_, (pss_one (ps_if (PW.pt (pw_or (pt_cmpR op_lt (pv 0) pe_int (nomark _)) (pw_or1 (pt_cmpR op_ge (pv 0) (pv 1) (nomark _))))) (pss_one (ps_raise X_NoPlace (pa_cons pe_str pa_nil))) pss_nil)), ?_⟩
  refine ⟨_, rfl, _, _, rfl, rfl, _, rfl, ite2 (fun c => ?_) (fun c => ?_)⟩
  · have c' : p < 0 := of_decide_eq_true c
    exact iteT ⟨(by show 1 ≤ sizeLine; decide), e (by omega)⟩
  · have c' : ¬ p < 0 := of_decide_eq_false (Bool.eq_false_iff.mpr c)
    refine ⟨_, rfl, _, rfl, _, _, rfl, rfl, _, rfl, ite2 (fun c2 => ?_) (fun c2 => ?_)⟩
    · have c3 : p ≥ m := of_decide_eq_true c2
      exact ⟨(by show 1 ≤ sizeLine; decide), e (by omega)⟩
    · have c3 : ¬ p ≥ m := of_decide_eq_false (Bool.eq_false_iff.mpr c2)
      exact q (by omega)
end
noncomputable def radsO : Nat → List Nat
  | 0 => []
  | n + 1 => (n + 1) :: radsO n
theorem radsO_len : ∀ n, (radsO n).length = n
  | 0 => rfl
  | n + 1 => by rw [radsO, List.length_cons, radsO_len n]
theorem radsO_at : ∀ {n i : Nat}, i < n → (radsO n).getD i 0 = n - i
  | n + 1, 0, _ => rfl
  | n + 1, i + 1, h => by
    rw [radsO, List.getD_cons_succ, radsO_at (by omega)]
    omega
theorem radsO_down (n : Nat) : downL (n : Int) 0 = vnats (radsO n) := by
  refine List.ext_getElem? fun i => ?_
  by_cases hi : i < n
  · rw [vnats_at (by rw [radsO_len]; exact hi), radsO_at hi, downL, List.getElem?_map, List.getElem?_range (by omega)]
    show some (V.int _) = some (V.int _)
    congr 2
    omega
  · rw [List.getElem?_eq_none (by rw [downL_len]; omega), List.getElem?_eq_none (by rw [vnats_len, radsO_len]; omega)]
section
variable {P : Program} {w : World} {K : PySem.W.Frag} {mg : Str → Option Value} {base : Heap} {f C CP CN : Addr} {fd : FuncData} {mP mN : List Value}
end
noncomputable def bino : Nat → Nat → Nat
  | _, 0 => 1
  | 0, _ + 1 => 0
  | n + 1, k + 1 => bino n k + bino n (k + 1)
theorem bino_zero (n : Nat) : bino n 0 = 1 := by cases n <;> rfl
theorem bino_lt : ∀ {n k : Nat}, n < k → bino n k = 0
  | 0, k + 1, _ => rfl
  | n + 1, k + 1, h => by rw [bino, bino_lt (by omega), bino_lt (by omega)]
theorem bino_self : ∀ n, bino n n = 1
  | 0 => rfl
  | n + 1 => by rw [bino, bino_self n, bino_lt (by omega)]
theorem bino_mul : ∀ n t, bino n (t + 1) * (t + 1) = bino n t * (n - t)
  | 0, 0 => rfl
  | 0, t + 1 => by rw [bino_lt (by omega), bino_lt (by omega), Nat.zero_mul, Nat.zero_mul]
  | n + 1, 0 => by
    have := bino_mul n 0
    rw [bino_zero] at this ⊢
    show (bino n 0 + bino n (0 + 1)) * 1 = _
    rw [bino_zero]
    omega
  | n + 1, t + 1 => by
    have h1 := bino_mul n t
    have h2 := bino_mul n (t + 1)
    rw [bino, bino]
    by_cases c : t + 1 ≤ n
    · obtain ⟨d, rfl⟩ : ∃ d, n = t + 1 + d := ⟨n - (t + 1), by omega⟩
      rw [show t + 1 + d - t = d + 1 by omega] at h1
      rw [show t + 1 + d - (t + 1) = d by omega] at h2
      rw [show t + 1 + d + 1 - (t + 1) = d + 1 by omega]
      grind
    · by_cases c2 : n = t
      · subst c2
        rw [bino_lt (show n < n + 1 by omega), bino_lt (show n < n + 1 + 1 by omega)]
        simp
      · rw [bino_lt (show n < t + 1 by omega), bino_lt (show n < t + 1 + 1 by omega), bino_lt (show n < t by omega)]
        simp
theorem bino_symm : ∀ {n k : Nat}, k ≤ n → bino n (n - k) = bino n k
  | 0, 0, _ => rfl
  | n + 1, 0, _ => by rw [Nat.sub_zero, bino_self, bino_zero]
  | n + 1, k + 1, h => by
    rw [show n + 1 - (k + 1) = n - k by omega]
    by_cases c : k = n
    · subst c
      rw [Nat.sub_self, bino_zero, bino_self]
    · obtain ⟨d, hd⟩ : ∃ d, n - k = d + 1 := ⟨n - k - 1, by omega⟩
      rw [hd, bino, bino, ← bino_symm (n := n) (k := k) (by omega), ← bino_symm (n := n) (k := k + 1) (by omega), hd, show n - (k + 1) = d by omega]
      omega
theorem bino_mono {k : Nat} : ∀ {n m : Nat}, n ≤ m → bino n k ≤ bino m k := by
  intro n m h
  induction h with
  | refl => exact Nat.le_refl _
  | @step m _ ih =>
    refine Nat.le_trans ih ?_
    cases k with
    | zero => rw [bino_zero, bino_zero]; exact Nat.le_refl _
    | succ k => rw [bino]; omega
noncomputable def wyG (n : Nat) : Nat → Nat
  | 0 => 1
  | t + 1 => wyG n t * (n - t) / (t + 1)
theorem wyG_bino (n : Nat) : ∀ t, wyG n t = bino n t
  | 0 => (bino_zero n).symm
  | t + 1 => by rw [wyG, wyG_bino n t, ← bino_mul, Nat.mul_div_cancel _ (by omega)]
theorem wy_bino {n k : Nat} (h : k ≤ n) : wyG n (min k (n - k)) = bino n k := by
  rw [wyG_bino]
  by_cases c : k ≤ n - k
  · rw [Nat.min_eq_left c]
  · rw [Nat.min_eq_right (by omega), bino_symm h]
noncomputable def plS (n : Nat) : List Nat → Nat
  | [] => 0
  | o :: os => bino (n - 1 - o) (os.length + 1) + plS n os
noncomputable def Ris (e : Nat) : Nat → List Nat → Prop
  | _, [] => True
  | b, o :: os => b ≤ o ∧ o < e ∧ Ris e (o + 1) os
theorem Ris.mono {e : Nat} : ∀ {os : List Nat} {b b' : Nat}, Ris e b os → b' ≤ b → Ris e b' os
  | [], _, _, _, _ => trivial
  | _ :: _, _, _, h, hb => ⟨Nat.le_trans hb h.1, h.2⟩
theorem plS_lt {e : Nat} : ∀ {os : List Nat} {b : Nat}, Ris e b os → b ≤ e → plS e os < bino (e - b) os.length
  | [], b, _, _ => by
    show 0 < bino (e - b) 0
    rw [bino_zero]; decide
  | o :: os, b, h, hb => by
    have h1 := h.1
    have h2 := h.2.1
    have ih := plS_lt h.2.2 (by omega)
    have h3 : bino (e - o) (os.length + 1) ≤ bino (e - b) (os.length + 1) := bino_mono (by omega)
    rw [plS, List.length_cons]
    obtain ⟨d, hd⟩ : ∃ d, e - o = d + 1 := ⟨e - o - 1, by omega⟩
    rw [hd, bino] at h3
    rw [show e - 1 - o = d by omega]
    rw [show e - (o + 1) = d by omega] at ih
    omega
noncomputable def chL : Nat → Nat → Nat → List (List Nat)
  | _, 0, _ => [[]]
  | 0, _ + 1, _ => []
  | n + 1, k + 1, b => (chL n k (b + 1)).map (b :: ·) ++ chL n (k + 1) (b + 1)
theorem chL_zero (n b : Nat) : chL n 0 b = [[]] := by cases n <;> rfl
theorem chL_len : ∀ n k b, (chL n k b).length = bino n k
  | n, 0, b => by rw [chL_zero, bino_zero]; rfl
  | 0, _ + 1, _ => rfl
  | n + 1, k + 1, b => by rw [chL, List.length_append, List.length_map, chL_len n k, chL_len n (k + 1), bino]
theorem chL_mem : ∀ {n k b : Nat} {os : List Nat}, os ∈ chL n k b → os.length = k ∧ Ris (b + n) b os
  | n, 0, b, os, h => by
    rw [chL_zero] at h
    obtain rfl := List.mem_singleton.mp h
    exact ⟨rfl, trivial⟩
  | 0, _ + 1, _, _, h => by cases h
  | n + 1, k + 1, b, os, h => by
    rw [chL] at h
    rcases List.mem_append.mp h with h | h
    · obtain ⟨r, hr, rfl⟩ := List.mem_map.mp h
      have := chL_mem hr
      refine ⟨by rw [List.length_cons, this.1], Nat.le_refl _, by omega, ?_⟩
      rw [show b + (n + 1) = b + 1 + n by omega]
      exact this.2
    · have := chL_mem h
      refine ⟨this.1, ?_⟩
      rw [show b + (n + 1) = b + 1 + n by omega]
      exact this.2.mono (by omega)
theorem chL_at : ∀ {n k b : Nat} {os : List Nat}, os.length = k → Ris (b + n) b os → (chL n k b)[bino n k - 1 - plS (b + n) os]? = some os
  | n, 0, b, [], _, _ => by rw [chL_zero, bino_zero]; rfl
  | n, 0, b, _ :: _, h, _ => by simp at h
  | 0, k + 1, b, [], h, _ => by simp at h
  | 0, k + 1, b, o :: os, _, h => by
    have := h.1
    have := h.2.1
    omega
  | n + 1, k + 1, b, [], h, _ => by simp at h
  | n + 1, k + 1, b, o :: os, hl, h => by
    have hl' : os.length = k := by simpa using hl
    have h1 := h.1
    have h2 := h.2.1
    rw [chL]
    by_cases c : o = b
    · subst c
      have hr : Ris (o + 1 + n) (o + 1) os := by
        have := h.2.2
        rwa [show o + (n + 1) = o + 1 + n by omega] at this
      have hlt := plS_lt hr (by omega)
      rw [show o + 1 + n - (o + 1) = n by omega, hl'] at hlt
      have e : bino (n + 1) (k + 1) - 1 - plS (o + (n + 1)) (o :: os) = bino n k - 1 - plS (o + 1 + n) os := by
        rw [plS, bino, hl', show o + (n + 1) - 1 - o = n by omega, show o + (n + 1) = o + 1 + n by omega]
        omega
      rw [e, List.getElem?_append_left (by rw [List.length_map, chL_len]; omega), List.getElem?_map, chL_at hl' hr]
      rfl
    · have hr : Ris (b + 1 + n) (b + 1) (o :: os) := by
        refine ⟨by omega, by omega, ?_⟩
        have := h.2.2
        rwa [show b + (n + 1) = b + 1 + n by omega] at this
      have hlt := plS_lt hr (by omega)
      rw [show b + 1 + n - (b + 1) = n by omega, hl] at hlt
      have e : bino (n + 1) (k + 1) - 1 - plS (b + (n + 1)) (o :: os) = bino n k + (bino n (k + 1) - 1 - plS (b + 1 + n) (o :: os)) := by
        rw [bino, show b + (n + 1) = b + 1 + n by omega]
        omega
      rw [e, List.getElem?_append_right (by rw [List.length_map, chL_len]; omega), List.length_map, chL_len, show bino n k + (bino n (k + 1) - 1 - plS (b + 1 + n) (o :: os)) - bino n k = bino n (k + 1) - 1 - plS (b + 1 + n) (o :: os) by omega]
      exact chL_at hl hr
noncomputable def nis (os : List Nat) : List Int := os.map fun (x : Nat) => (x : Int)
theorem ris_snoc {e : Nat} : ∀ {os : List Nat} {b j : Nat}, Ris j b os → b ≤ j → j < e → Ris e b (os ++ [j])
  | [], b, j, _, h1, h2 => ⟨h1, h2, trivial⟩
  | o :: os, b, j, h, h1, h2 => ⟨h.1, by have := h.2.1; omega, ris_snoc h.2.2 (by have := h.2.1; omega) h2⟩
theorem Ris.wide {e e' : Nat} : ∀ {os : List Nat} {b : Nat}, Ris e b os → e ≤ e' → Ris e' b os
  | [], _, _, _ => trivial
  | _ :: _, _, h, he => ⟨h.1, by have := h.2.1; omega, Ris.wide h.2.2 he⟩
noncomputable def vis (ns : List Int) : List V := ns.map V.int
theorem vis_len (ns : List Int) : (vis ns).length = ns.length := List.length_map _
theorem vis_at {ns : List Int} {j : Nat} (h : j < ns.length) : (vis ns)[j]? = some (V.int (ns.getD j 0)) := by
  rw [vis, List.getElem?_map, List.getElem?_eq_getElem h, List.getD_eq_getElem?_getD, List.getElem?_eq_getElem h]
  rfl
theorem vnats_vis (l : List Nat) : vnats l = vis (nis l) := vnats_ints l
noncomputable def swF (l : List Int) (i j : Nat) : List Int := (l.set i (l.getD j 0)).set j (l.getD i 0)
theorem swF_len (l : List Int) (i j : Nat) : (swF l i j).length = l.length := by unfold swF; rw [List.length_set, List.length_set]
noncomputable def bsw (l : List Int) (fs : List Nat) : Nat → List Int
  | 0 => l
  | t + 1 => swF (bsw l fs t) (l.length - 1 - t) (fs.getD t 0)
theorem bsw_len (l : List Int) (fs : List Nat) : ∀ t, (bsw l fs t).length = l.length
  | 0 => rfl
  | t + 1 => by rw [bsw, swF_len, bsw_len l fs t]
noncomputable def SwB (n : Nat) (fs : List Nat) : Prop := ∀ t, t < n - 1 → fs.getD t 0 ≤ n - 1 - t
theorem sqF_take {rs bs fs : List Nat} {u : Nat} {r : Nat} (h : sqF rs bs = some (fs, u)) : sqF (rs ++ [r]) bs = (evF r (bs.drop u)).map fun p => (fs ++ [p.1], u + p.2) := by
  induction rs generalizing bs fs u with
  | nil =>
    cases h
    show sqF [r] bs = _
    unfold sqF
    rw [List.drop_zero]
    cases evF r bs with
    | none => rfl
    | some p =>
      show ((sqF [] (bs.drop p.2)).map _) = some ([] ++ [p.1], 0 + p.2)
      rw [sqF, Nat.zero_add]
      rfl
  | cons a rs ih =>
    rw [List.cons_append]
    unfold sqF at h ⊢
    cases e : evF a bs with
    | none => rw [e] at h; cases h
    | some p =>
      obtain ⟨v, w⟩ := p
      rw [e] at h
      have h' : ((sqF rs (bs.drop w)).map fun p => (v :: p.1, w + p.2)) = some (fs, u) := h
      cases e2 : sqF rs (bs.drop w) with
      | none => rw [e2] at h'; cases h'
      | some q =>
        obtain ⟨gs, w2⟩ := q
        rw [e2] at h'
        cases h'
        show ((sqF (rs ++ [r]) (bs.drop w)).map fun p => (v :: p.1, w + p.2)) = _
        rw [ih e2, List.drop_drop, Option.map_map]
        cases evF r (bs.drop (w + w2)) with
        | none => rfl
        | some p =>
          show some (v :: (gs ++ [p.1]), w + (w2 + p.2)) = some (v :: gs ++ [p.1], w + w2 + p.2)
          rw [Nat.add_assoc]
          rfl
theorem sqF_none : ∀ {rs more bs : List Nat}, sqF rs bs = none → sqF (rs ++ more) bs = none
  | [], _, _, h => by cases h
  | a :: rs, more, bs, h => by
    rw [List.cons_append]
    unfold sqF at h ⊢
    cases e : evF a bs with
    | none => rfl
    | some p =>
      obtain ⟨v, w⟩ := p
      rw [e] at h
      have h' : ((sqF rs (bs.drop w)).map fun p => (v :: p.1, w + p.2)) = none := h
      have h2 : sqF rs (bs.drop w) = none := Option.map_eq_none_iff.mp h'
      show ((sqF (rs ++ more) (bs.drop w)).map fun p => (v :: p.1, w + p.2)) = none
      rw [sqF_none h2]
      rfl
theorem vis_set (l : List Int) (j : Nat) (x : Int) : (vis l).set j (V.int x) = vis (l.set j x) := by rw [vis, vis, List.map_set]
theorem upd_upd {H : Hp} {a : Addr} {o o' : HO} : upd (upd H a o) a o' = upd H a o' := by
  funext b
  by_cases c : b = a
  · subst c; rw [upd_same, upd_same]
  · rw [upd_ne c, upd_ne c, upd_ne c]
noncomputable def spPS : Sp := fun vs H Q _ => ∃ n : Nat, vs = [.int (n : Int)] ∧ n ≤ 1000 ∧ ∀ l H', Same H H' → H l = none → H' l = some (.lst (vnats (radsO (n - 1)))) → Q (.ref l) H'
noncomputable def spEx : Sp := fun vs H Q _ => ∃ (l : Addr) (xs : List Int) (i j : Nat), vs = [.ref l, .int (i : Int), .int (j : Int)] ∧ H l = some (.lst (vis xs)) ∧ i < xs.length ∧ j < xs.length ∧ Q .non (upd H l (.lst (vis (swF xs i j))))
section
variable {P : Program} {w : World} {K : PySem.W.Frag} {mg : Str → Option Value} {base : Heap} {f : Addr} {fd : FuncData}
theorem ok_places_of_swaps (F_places_of_swaps : Fun K "places_of_swaps" "places_of_swaps" s_places_of_swaps f fd) (B : Bl mg) : FnOk P w K mg base CX0 1 f fd p_places_of_swaps spPS := by
  refine F_places_of_swaps.ok sc_places_of_swaps (fun vs H Q E h => ?_) (fun cdv A outer s H vs Q E hr h => ?_)
  · obtain ⟨n, rfl, _⟩ := h
    rfl
  obtain ⟨n, rfl, hn, q⟩ := h
  refine ⟨_, (pss_one (ps_ret (pe_lstDown rfl rfl B.list_ rfl B.range_ (pa_cons (pe_op op_sub (pv 0) pe_int) (pa_cons pe_int (pa_cons (pe_un un_neg pe_int) pa_nil)))))), ?_⟩
  refine ⟨_, rfl, _, _, rfl, rfl, 1, rfl, (n : Int) - 1, 0, rfl, ⟨by omega, by omega, by omega, by omega⟩, fun p fp => q p _ (same_new fp _) fp ?_⟩
  have e : downL ((n : Int) - 1) 0 = vnats (radsO (n - 1)) := by
    cases n with
    | zero => rfl
    | succ n => rw [← radsO_down]; congr 1; omega
  rw [upd_same, e]
theorem ok_exchange (F_exchange : Fun K "exchange" "exchange" s_exchange f fd) (B : Bl mg) : FnOk P w K mg base CX0 1 f fd p_exchange spEx := by
  refine F_exchange.ok sc_exchange (fun vs H Q E h => ?_) (fun cdv A outer s H vs Q E hr h => ?_)
  · obtain ⟨l, xs, i, j, rfl, _⟩ := h
    rfl
  obtain ⟨l, xs, i, j, rfl, hl, hi, hj, q⟩ := h
  refine ⟨_, (pss_cons (ps_set (i := 3) sc_exchange.nd rfl (Or.inl rfl) (pe_ix ix_list (pv 0) (pv 1) (fun _ _ => rfl)))
      (pss_cons (ps_asg (pe_ix ix_list (pv 0) (pv 2) (fun _ _ => rfl)) (pg_sub (pv 0) (pv 1) set_list))
      (pss_one (ps_asg (pv 3) (pg_sub (pv 0) (pv 2) set_list))))), ?_⟩
  refine ⟨_, rfl, _, rfl, l, _, _, _, rfl, rfl, SqL.of hl, atI_nat (vis_at hi), ?_⟩
  refine ⟨_, rfl, _, rfl, l, _, _, _, rfl, rfl, SqL.of hl, atI_nat (vis_at hj), ?_⟩
  refine ⟨_, rfl, _, rfl, l, _, _, _, rfl, rfl, hl, ixN_nat (by rw [vis_len]; exact hi), ?_⟩
  rw [vis_set]
  refine ⟨_, rfl, _, rfl, _, rfl, l, _, _, _, rfl, rfl, upd_same, ixN_nat (by rw [vis_len, List.length_set]; exact hj), ?_⟩
  rw [vis_set, upd_upd]
  exact q
end
noncomputable def spBSL : Sp := fun vs H Q _ => ∃ (r t : Addr) (xs : List Int) (fs : List Nat), vs = [.ref r, .ref t] ∧ H r = some (.tup (vis xs)) ∧ H t = some (.lst (vnats fs)) ∧ xs.length ≤ 1000 ∧ fs.length = xs.length - 1 ∧ SwB xs.length fs ∧ ∀ p H', Same H H' → H' p = some (.tup (vis (bsw xs fs (xs.length - 1)))) → Q (.ref p) H'
section
variable {P : Program} {w : World} {K : PySem.W.Frag} {mg : Str → Option Value} {base : Heap} {f : Addr} {fd : FuncData}
theorem ok_by_swaps (F_by_swaps : Fun K "by_swaps" "by_swaps" s_by_swaps f fd) (B : Bl mg) (g_places_of_swaps : Fn P w K mg base "places_of_swaps" p_places_of_swaps 1 spPS) (g_exchange : Fn P w K mg base "exchange" p_exchange 1 spEx) : FnOk P w K mg base CX0 2 f fd p_by_swaps spBSL := by
  refine F_by_swaps.ok sc_by_swaps (fun vs H Q E h => ?_) (fun cdv A outer s H vs Q E hr h => ?_)
  · obtain ⟨r, t, xs, fs, rfl, _⟩ := h
    rfl
  obtain ⟨r, t, xs, fs, rfl, hr0, ht0, hz, hfl, hb, q⟩ := h
  refine ⟨_, (pss_cons (ps_set (i := 2) sc_by_swaps.nd rfl (Or.inl rfl) (pe_callTy call_list_of rfl B.list_ L3.bt_list (pa_cons (pv 0) pa_nil)))
      (pss_cons (ps_for PassesOwn.never rfl (pi_zipQ false false rfl B.zip_ (pa_cons (pe_fn g_places_of_swaps hr (pa_cons (pe_callB call_len_seq rfl B.len_ L3.bt_len (pa_cons (pv 2) pa_nil)) pa_nil)) (pa_cons (pv 1) pa_nil))) (pg_tup rfl (pgs_cons (pg_name (i := 3) sc_by_swaps.nd rfl (Or.inl rfl)) (pgs_cons (pg_name (i := 4) sc_by_swaps.nd rfl (Or.inl rfl)) pgs_nil))) (pss_one (ps_expr (pe_fn g_exchange hr (pa_cons (pv 2) (pa_cons (pv 3) (pa_cons (pv 4) pa_nil)))))))
      (pss_one (ps_ret (pe_callTy call_tuple_of rfl B.tuple_ L3.bt_tuple (pa_cons (pv 2) pa_nil)))))), ?_⟩
  refine ⟨_, rfl, r, _, rfl, .inr (SqT.of hr0), fun l fl => ?_⟩
  have y1 := same_new fl (.lst (vis xs))
  have w1 : (upd H l (.lst (vis xs))) l = some (.lst (vis xs)) := upd_same
  generalize upd H l (.lst (vis xs)) = H1 at y1 w1 ⊢
  refine ⟨_, rfl, l, _, rfl, .inl (SqL.of w1), xs.length, by rw [vis_len]; rfl, hz, fun pp H2 y2 fpp hpp => ?_⟩
  have nlp : pp ≠ l := fun z => by rw [z, w1] at fpp; cases fpp
  have ht2 := y2 _ _ (y1 _ _ ht0)
  have ntl : t ≠ l := fun z => by rw [z] at ht0; rw [ht0] at fl; cases fl
  have lp : (vnats (radsO (xs.length - 1))).length = xs.length - 1 := by rw [vnats_len, radsO_len]
  have lf : (vnats fs).length = xs.length - 1 := by rw [vnats_len, hfl]
  refine ⟨_, rfl, pp, t, rfl, ⟨_, SqQ.lst (SqL.of hpp)⟩, ⟨_, SqQ.lst (SqL.of ht2)⟩, for_zipQ (xs := vnats (radsO (xs.length - 1))) (ys := vnats fs) (fun i σ' H' => ∃ o3 o4 : Option V, σ' = [some (.ref r), some (.ref t), some (.ref l), o3, o4] ∧ Grow l H2 H' ∧ H' l = some (.lst (vis (bsw xs fs i)))) ⟨_, _, rfl, Grow.refl _ _, y2 _ _ w1⟩ (fun i σ' H' _ ⟨_, _, _, g, _⟩ => ⟨SqQ.lst (SqL.of (g _ _ nlp hpp)), SqQ.lst (SqL.of (g _ _ ntl ht2))⟩) ?_ ?_⟩
  · rintro i x z σ' H' p hx hz2 ⟨o3, o4, rfl, g, hl'⟩ fp
    have hi : i < xs.length - 1 := by rw [← lp]; exact (List.getElem?_eq_some_iff.mp hx).1
    rw [vnats_at (by rw [radsO_len]; exact hi), radsO_at hi] at hx
    rw [vnats_at (by rw [hfl]; exact hi)] at hz2
    obtain rfl := Option.some.inj hx
    obtain rfl := Option.some.inj hz2
    have hbi := hb i hi
    have yp := same_new fp (.tup [V.int ((xs.length - 1 - i : Nat) : Int), V.int ((fs.getD i 0 : Nat) : Int)])
    refine ⟨p, _, rfl, SqT.of upd_same, rfl, _, _, rfl, _, _, rfl, rfl, ?_⟩
    refine ⟨_, rfl, _, rfl, _, rfl, l, bsw xs fs i, xs.length - 1 - i, fs.getD i 0, rfl, yp _ _ hl', by rw [bsw_len]; omega, by rw [bsw_len]; omega, ?_⟩
    exact ⟨_, _, rfl, (g.trans (.same yp)).trans (Grow.upd _), upd_same⟩
  · rintro σ' H' ⟨o3, o4, rfl, g, hl'⟩
    rw [lp, lf, Nat.min_self] at hl'
    refine ⟨_, rfl, l, _, rfl, .inl ⟨SqL.of hl', fun p fp => q p _ (fun b o e => ?_) upd_same⟩⟩
    have nb : b ≠ l := ne_of_none e fl
    exact same_new fp _ _ _ (g _ _ nb (y2 _ _ (y1 _ _ e)))
end
noncomputable def radsS (n : Nat) : List Nat := (radsO (n - 1)).map (· + 1)
noncomputable def shP (xs : List Int) (bs : List Nat) : Option (List Int × Nat) := (sqF (radsS xs.length) bs).map fun p => (bsw xs p.1 (xs.length - 1), p.2)
noncomputable def spShR (C CN : Addr) : Sp := fun vs H Q E => ∃ (b dx r x : Addr) (bl : List Nat) (z : Nat) (xs : List Int), vs = [.ref b, .ref x] ∧ At C H b dx r bl z ∧ H x = some (.tup (vis xs)) ∧ xs.length ≤ 100 ∧
  (∀ ys u p H', shP xs (bl.drop z) = some (ys, u) → Grow b H H' → At C H' b dx r bl (z + u) → H' p = some (.tup (vis ys)) → Q (.ref p) H') ∧
  (∀ z' H', shP xs (bl.drop z) = none → z ≤ z' → Grow b H H' → At C H' b dx r bl z' → E (.ref CN) none H')
noncomputable def spSh (C CN : Addr) : Sp := fun vs H Q E => ∃ (b dx r x : Addr) (bl : List Nat) (z : Nat) (xs : List Int), vs = [.ref b, .ref x] ∧ At C H b dx r bl z ∧ H x = some (.tup (vis xs)) ∧ xs.length ≤ 100 ∧
  (∀ ys u p H', shP xs (bl.drop z) = some (ys, u) → Grow b H H' → At C H' b dx r bl (z + u) → H' p = some (.tup (vis ys)) → Q (.ref p) H') ∧
  (∀ H', shP xs (bl.drop z) = none → Grow b H H' → At C H' b dx r bl z → E (.ref CN) none H')
theorem sqF_len : ∀ {rs bs fs : List Nat} {u : Nat}, sqF rs bs = some (fs, u) → fs.length = rs.length
  | [], _, _, _, h => by cases h; rfl
  | r :: rs, bs, fs, u, h => by
    unfold sqF at h
    cases e : evF r bs with
    | none => rw [e] at h; cases h
    | some p =>
      obtain ⟨v, w⟩ := p
      rw [e] at h
      have h' : ((sqF rs (bs.drop w)).map fun p => (v :: p.1, w + p.2)) = some (fs, u) := h
      cases e2 : sqF rs (bs.drop w) with
      | none => rw [e2] at h'; cases h'
      | some q =>
        obtain ⟨gs, w2⟩ := q
        rw [e2] at h'
        cases h'
        rw [List.length_cons, List.length_cons, sqF_len e2]
theorem sqF_lt : ∀ {rs bs fs : List Nat} {u : Nat}, sqF rs bs = some (fs, u) → ∀ t, t < rs.length → fs.getD t 0 < rs.getD t 0
  | [], _, _, _, _, t, ht => by simp at ht
  | r :: rs, bs, fs, u, h, t, ht => by
    unfold sqF at h
    cases e : evF r bs with
    | none => rw [e] at h; cases h
    | some p =>
      obtain ⟨v, w⟩ := p
      rw [e] at h
      have h' : ((sqF rs (bs.drop w)).map fun p => (v :: p.1, w + p.2)) = some (fs, u) := h
      cases e2 : sqF rs (bs.drop w) with
      | none => rw [e2] at h'; cases h'
      | some q =>
        obtain ⟨gs, w2⟩ := q
        rw [e2] at h'
        cases h'
        cases t with
        | zero => exact evF_lt e
        | succ t => exact sqF_lt e2 t (by simpa using ht)
theorem radsS_len (n : Nat) : (radsS n).length = n - 1 := by rw [radsS, List.length_map, radsO_len]
theorem radsS_at {n t : Nat} (h : t < n - 1) : (radsS n).getD t 0 = n - t := by
  rw [radsS, List.getD_eq_getElem?_getD, List.getElem?_map, List.getElem?_eq_getElem (by rw [radsO_len]; exact h)]
  have e := radsO_at (n := n - 1) (i := t) h
  rw [List.getD_eq_getElem?_getD, List.getElem?_eq_getElem (by rw [radsO_len]; exact h)] at e
  have e' : (radsO (n - 1))[t]'(by rw [radsO_len]; exact h) = n - 1 - t := e
  show (radsO (n - 1))[t]'_ + 1 = n - t
  rw [e']
  omega
theorem sq_swb {xs : List Int} {bs fs : List Nat} {u : Nat} (h : sqF (radsS xs.length) bs = some (fs, u)) : fs.length = xs.length - 1 ∧ SwB xs.length fs := by
  have h1 := sqF_len h
  rw [radsS_len] at h1
  refine ⟨h1, fun t ht => ?_⟩
  have := sqF_lt h t (by rw [radsS_len]; exact ht)
  rw [radsS_at ht] at this
  omega
section
variable {P : Program} {w : World} {K : PySem.W.Frag} {mg : Str → Option Value} {base : Heap} {f C CN CP : Addr} {fd : FuncData} {mP : List Value}
theorem ok_take_shuffled (F_take_shuffled : Fun K "take_shuffled" "take_shuffled" s_take_shuffled f fd) (B : Bl mg) {fV : Addr} {dV : FuncData} (g_even : FnX P w K mg base "even_evens" fV dV p_even 6 (spDone C CN ShN evV)) (g_places_of_swaps : Fn P w K mg base "places_of_swaps" p_places_of_swaps 1 spPS) (g_by_swaps : Fn P w K mg base "by_swaps" p_by_swaps 2 spBSL) :
    FnOk P w K mg base (CXR P w) 7 f fd p_take_shuffled (spShR C CN) := by
  refine F_take_shuffled.okX sc_take_shuffled (fun vs H Q E h => ?_) (fun cdv A outer s H vs Q E hr h => ?_)
  · obtain ⟨b, dx, r, x, bl, z, xs, rfl, _⟩ := h
    rfl
  obtain ⟨b, dx, r, x, bl, z, xs, rfl, hA, hx, hl, q, e⟩ := h
  refine ⟨_, (pss_one (ps_ret (pe_fn g_by_swaps hr (pa_cons (pv 1) (pa_cons (pe_compX [] ["bits", "row", "place"] 1 rfl (pi_list (pe_fn g_places_of_swaps hr (pa_cons (pe_callB call_len_seq rfl B.len_ L3.bt_len (pa_cons (pv 1) pa_nil)) pa_nil))) (fun _ _ _ _ _ => (pg_name (i := 2) nd_2 rfl (Or.inl rfl) (Or.inr rfl))) (fun _ _ _ _ _ => pif_nil) (fun _ _ _ _ _ _ I2 hC f2 => (pe_fnXC I2 hC f2 g_even hr (pa_cons (pv 0) (pa_cons (pe_op op_add (pv 2) pe_int) pa_nil))))) pa_nil))))), ?_⟩
  have hxb : x ≠ b := fun y => by rw [y, hA.obj] at hx; cases hx
  refine ⟨_, rfl, _, rfl, x, _, rfl, .inr (SqT.of hx), xs.length, by rw [vis_len]; rfl, by omega, fun lp H1 s1 flp hlp => ?_⟩
  have lpb : lp ≠ b := fun y => by have := (hA.same s1).obj; rw [← y, hlp] at this; cases this
  refine ⟨lp, rfl, ⟨_, SqL.of hlp⟩, ?_⟩
  refine comp_list (xs := vnats (radsO (xs.length - 1))) (fun i acc σ' H' => ∃ (fs : List Nat) (u : Nat) (o2 : Option V), acc = vnats fs ∧ sqF ((radsS xs.length).take i) (bl.drop z) = some (fs, u) ∧ Grow b H1 H' ∧ At C H' b dx r bl (z + u) ∧ σ' = [some (.ref b), some (.ref x), o2])
    ⟨[], 0, _, rfl, rfl, Grow.refl _ _, hA.same s1, rfl⟩ (fun i acc σ' H' hi ⟨fs, u, o2, e1, e2, _⟩ => by
      rw [e1, vnats_len, sqF_len e2, List.length_take]
      have := radsS_len xs.length
      omega) (fun i acc σ' H' hi ⟨fs, u, o2, _, _, g, _⟩ => SqL.of (g _ _ lpb hlp)) ?_ ?_
  · rintro i v acc σ' H' hv ⟨fs, u, o2, rfl, hsq, g, a2, rfl⟩
    have hi : i < xs.length - 1 := by
      have := (List.getElem?_eq_some_iff.mp hv).1
      rw [vnats_len, radsO_len] at this
      exact this
    rw [vnats_at (by rw [radsO_len]; exact hi), radsO_at hi] at hv
    obtain rfl := Option.some.inj hv
    unfold gName
    dsimp only
    rw [if_pos rfl]
    have tk : (radsS xs.length).take (i + 1) = (radsS xs.length).take i ++ [xs.length - i] := by
      have hlt : i < (radsS xs.length).length := by rw [radsS_len]; exact hi
      rw [List.take_add_one, List.getElem?_eq_getElem hlt]
      have := radsS_at hi
      rw [List.getD_eq_getElem?_getD, List.getElem?_eq_getElem hlt] at this
      have e' : (radsS xs.length)[i] = xs.length - i := this
      rw [e']
      rfl
    refine ⟨_, rfl, _, rfl, _, _, rfl, rfl, b, dx, r, bl, z + u, _, xs.length - i, rfl, a2, ⟨?_, by omega⟩, fun v2 u2 H3 h3 g3 a3 => ?_, fun H3 h3 g3 a3 => ?_⟩
    · exact congrArg V.int (by omega)
    · unfold evV at h3
      cases ev : evF (xs.length - i) (bl.drop (z + u)) with
      | none => rw [ev] at h3; cases h3
      | some y =>
        obtain ⟨y1, y2⟩ := y
        rw [ev] at h3
        cases h3
        refine ⟨fs ++ [y1], u + y2, _, ?_, ?_, g.trans g3, by rw [← Nat.add_assoc]; exact a3, rfl⟩
        · rw [vnats, vnats, List.map_append]
          rfl
        · rw [tk, sqF_take hsq, List.drop_drop, ev]
          rfl
    · refine e (z + u) H3 ?_ (by omega) ((Grow.same s1).trans (g.trans g3)) a3
      unfold evV at h3
      have ev : evF (xs.length - i) (bl.drop (z + u)) = none := by
        cases ev : evF (xs.length - i) (bl.drop (z + u)) with
        | none => rfl
        | some y => rw [ev] at h3; cases h3
      have hn : sqF ((radsS xs.length).take (i + 1)) (bl.drop z) = none := by
        rw [tk, sqF_take hsq, List.drop_drop, ev]
        rfl
      unfold shP
      have := sqF_none (more := (radsS xs.length).drop (i + 1)) hn
      rw [List.take_append_drop] at this
      rw [this]
      rfl
  · rintro acc σ' H' D ⟨fs, u, o2, rfl, hsq, g, a2, rfl⟩ fD
    rw [vnats_len, radsO_len, ← radsS_len, List.take_length] at hsq
    obtain ⟨hfl, hsw⟩ := sq_swb hsq
    have sD := same_new fD (.lst (vnats fs))
    refine ⟨x, D, xs, fs, rfl, sD _ _ (g _ _ hxb (s1 _ _ hx)), upd_same, by omega, hfl, hsw, fun p H4 s4 h4 => ?_⟩
    refine q _ u p H4 ?_ ((Grow.same s1).trans (g.trans (.same (sD.trans s4)))) ((a2.same sD).same s4) h4
    unfold shP
    rw [hsq]
    rfl
theorem ok_shuffled (F_shuffled : Fun K "shuffled" "shuffled" s_shuffled f fd) {fD fR : Addr} {dD dR : FuncData} (g_drawn_whole : FnX P w K mg base "drawn_whole" fD dD p_drawn_whole 9 (spDW P w K mg base 8 C CN)) (g_take_shuffled : FnX P w K mg base "take_shuffled" fR dR p_take_shuffled 7 (spShR C CN)) :
    FnOk P w K mg base (CXR P w) 10 f fd p_shuffled (spSh C CN) := by
  refine F_shuffled.okX sc_shuffled (fun vs H Q E h => ?_) (fun cdv A outer s H vs Q E hr h => ?_)
  · obtain ⟨b, dx, r, x, bl, z, xs, rfl, _⟩ := h
    rfl
  obtain ⟨b, dx, r, x, bl, z, xs, rfl, hA, hx, hl, q, e⟩ := h
  refine ⟨_, (pss_one (ps_ret (pe_fnX g_drawn_whole hr (pa_cons (pv 0) (pa_cons (pe_glob (v := .ref _) rfl g_take_shuffled.mg rfl) (pa_cons (pv 1) pa_nil)))))), ?_⟩
  refine ⟨_, rfl, _, rfl, b, dx, r, fR, bl, z, _, dR, _, 7, _, rfl, g_take_shuffled.ok, by decide, g_take_shuffled.kp, g_take_shuffled.bd, hA, fun Ex hE => ?_⟩
  exact ⟨b, dx, r, x, bl, z, xs, rfl, hA, hx, hl, q, fun z' H2 h2 l2 g2 a2 => hE z' H2 l2 a2 fun H3 g3 a3 => e H3 h2 (g2.trans g3) a3⟩
end
noncomputable def wyI (n k : Int) : Nat := if k < 0 ∨ n < k then 0 else bino n.toNat k.toNat
theorem wyI_nat (n k : Nat) : wyI (n : Int) (k : Int) = bino n k := by
  unfold wyI
  by_cases c : n < k
  · rw [if_pos (by omega), bino_lt c]
  · rw [if_neg (by omega), Int.toNat_natCast, Int.toNat_natCast]
noncomputable def spWays : Sp := fun vs H Q _ => ∃ n k : Int, vs = [.int n, .int k] ∧ n ≤ 60 ∧ Q (.int (wyI n k : Int)) H
section
variable {P : Program} {w : World} {K : PySem.W.Frag} {mg : Str → Option Value} {base : Heap} {f : Addr} {fd : FuncData}
theorem ok_ways (F_ways : Fun K "ways" "ways" s_ways f fd) (B : Bl mg) : FnOk P w K mg base CX0 1 f fd p_ways spWays := by
  refine F_ways.ok sc_ways (fun vs H Q E h => ?_) (fun cdv A outer s H vs Q E hr h => ?_)
  · obtain ⟨n, k, rfl, _⟩ := h
    rfl
  obtain ⟨n, k, rfl, hn, q⟩ := h
  refine ⟨_, (pss_cons (ps_if (PW.pt (pw_or (pt_cmpR op_lt (pv 1) pe_int (nomark _)) (pw_or1 (pt_cmpR op_gt (pv 1) (pv 0) (nomark _))))) (pss_one (ps_ret pe_int)) pss_nil)
      (pss_cons (ps_set (i := 2) sc_ways.nd rfl (Or.inl rfl) pe_int)
      (pss_cons (ps_for PassesOwn.never rfl (pi_range1 rfl B.range_ (pa_cons (pe_callB (call_min2 rfl) rfl B.min_ L3.bt_min (pa_cons (pv 1) (pa_cons (pe_op op_sub (pv 0) (pv 1)) pa_nil))) pa_nil)) (pg_name (i := 3) sc_ways.nd rfl (Or.inl rfl)) (pss_one (ps_set (i := 2) sc_ways.nd rfl (Or.inl rfl) (pe_op op_fdiv (pe_op op_mul (pv 2) (pe_op op_sub (pv 0) (pv 3))) (pe_op op_add (pv 3) pe_int)))))
      (pss_one (ps_ret (pv 2)))))), ?_⟩
  refine ⟨_, rfl, _, _, rfl, rfl, _, rfl, ite2 (fun c => ?_) (fun c => ?_)⟩
  · have c' : k < 0 := of_decide_eq_true c
    rw [wyI, if_pos (.inl c')] at q
    exact q
  have c1 : ¬ k < 0 := fun z => c (decide_eq_true z)
  refine ⟨_, rfl, _, rfl, _, _, rfl, rfl, _, rfl, ite2 (fun c => ?_) (fun c => ?_)⟩
  · have c' : n < k := of_decide_eq_true c
    rw [wyI, if_pos (.inr c')] at q
    exact q
  have c2 : ¬ n < k := fun z => c (decide_eq_true z)
  obtain ⟨k, rfl⟩ : ∃ k' : Nat, k = (k' : Int) := ⟨k.toNat, by omega⟩
  obtain ⟨n, rfl⟩ : ∃ n' : Nat, n = (n' : Int) := ⟨n.toNat, by omega⟩
  rw [wyI_nat] at q
  have hkn : k ≤ n := by omega
  obtain ⟨m, hm, hm9⟩ : ∃ m, m = min k (n - k) ∧ m ≤ 60 := ⟨_, rfl, by omega⟩
  have em : (if (n : Int) - (k : Int) < (k : Int) then (n : Int) - (k : Int) else (k : Int)) = (m : Int) := by
    rw [hm]
    split <;> omega
  rw [← wy_bino hkn, ← hm] at q
  refine ⟨_, rfl, _, rfl, _, rfl, _, _, rfl, rfl, _, _, rfl, (m : Int), by rw [em], lo62 _, hi62 (by omega), ?_⟩
  rw [Int.toNat_natCast]
  refine for_range (lo := 0) (n := m) (fun i σ' H' => ∃ o3 : Option V, σ' = [some (.int (n : Int)), some (.int (k : Int)), some (.int (wyG n i : Int)), o3] ∧ H' = H) ⟨_, rfl, rfl⟩ ?_ ?_
  · rintro i σ' H' hi ⟨o3, rfl, rfl⟩
    refine ⟨_, rfl, _, rfl, _, rfl, _, _, rfl, rfl, _, _, rfl, rfl, .inr ⟨by omega, by omega⟩, ?_⟩
    refine ⟨_, rfl, _, _, rfl, rfl, _, _, rfl, rfl, ⟨by omega, by omega⟩, some (.int (0 + (i : Int))), ?_, rfl⟩
    have e1 : (wyG n i : Int) * ((n : Int) - (0 + (i : Int))) / (0 + (i : Int) + 1) = (wyG n (i + 1) : Int) := by
      rw [wyG, show (n : Int) - (0 + (i : Int)) = ((n - i : Nat) : Int) by omega, show (0 + (i : Int) + 1) = ((i + 1 : Nat) : Int) by omega, Int.natCast_ediv, Int.natCast_mul]
    try dsimp only
    rw [e1]
    rfl
  · rintro σ' H' ⟨o3, rfl, rfl⟩
    exact ⟨_, rfl, q⟩
end
noncomputable def pocS (n k : Nat) (os : List Nat) : Nat → Nat
  | 0 => 0
  | t + 1 => pocS n k os t + bino (n - 1 - os.getD t 0) (k - t)
theorem pocS_pl (n : Nat) (os : List Nat) : ∀ j, j ≤ os.length → pocS n os.length os j + plS n (os.drop j) = plS n os
  | 0, _ => by rw [pocS, List.drop_zero, Nat.zero_add]
  | j + 1, h => by
    have ih := pocS_pl n os j (by omega)
    have hj : j < os.length := by omega
    rw [List.drop_eq_getElem_cons hj, plS, List.length_drop] at ih
    rw [pocS, List.getD_eq_getElem?_getD, List.getElem?_eq_getElem hj, ← ih, show os.length - (j + 1) + 1 = os.length - j by omega]
    simp only [Option.getD_some]
    omega
theorem pocS_all (n : Nat) (os : List Nat) : pocS n os.length os os.length = plS n os := by
  have := pocS_pl n os os.length (Nat.le_refl _)
  rwa [List.drop_length, plS, Nat.add_zero] at this
section
variable {P : Program} {w : World} {K : PySem.W.Frag} {mg : Str → Option Value} {base : Heap} {f : Addr} {fd : FuncData}
end
theorem pocS_app (n k : Nat) (os : List Nat) (x : Nat) : ∀ j, j ≤ os.length → pocS n k (os ++ [x]) j = pocS n k os j
  | 0, _ => rfl
  | j + 1, h => by
    rw [pocS, pocS, pocS_app n k os x j (by omega), List.getD_eq_getElem?_getD, List.getD_eq_getElem?_getD, List.getElem?_append_left (by omega)]
theorem pocS_snoc (n k : Nat) (os : List Nat) (x : Nat) : pocS n k (os ++ [x]) (os.length + 1) = pocS n k os os.length + bino (n - 1 - x) (k - os.length) := by
  rw [pocS, pocS_app n k os x _ (Nat.le_refl _), List.getD_eq_getElem?_getD, List.getElem?_append_right (Nat.le_refl _), Nat.sub_self]
  rfl
theorem wyI_pos {h : Int} {k m : Nat} (hk : 1 ≤ k) (c : m < wyI h (k : Int)) : ∃ n : Nat, h = (n : Int) ∧ k ≤ n := by
  unfold wyI at c
  by_cases z : (k : Int) < 0 ∨ h < (k : Int)
  · rw [if_pos z] at c
    omega
  · exact ⟨h.toNat, by omega, by omega⟩
noncomputable def spLow : Sp := fun vs H Q _ => ∃ b k m : Nat, vs = [.int (b : Int), .int (k : Int), .int (m : Int)] ∧ b ≤ 60 ∧ 1 ≤ k ∧ m < bino b k ∧ ∀ lo : Nat, lo < b → bino lo k ≤ m → m < bino (lo + 1) k → Q (.int (lo : Int)) H
noncomputable def spCA (CP : Addr) : Sp := fun vs H Q E => ∃ (n k : Nat) (p : Int), vs = [.int (n : Int), .int (k : Int), .int p] ∧ n ≤ 60 ∧
  (∀ (j : Nat) (os : List Nat) t H', p = (j : Int) → (chL n k 0)[j]? = some os → os.length = k → Ris n 0 os → plS n os + j + 1 = bino n k → Same H H' → H' t = some (.tup (vnats os)) → Q (.ref t) H') ∧ (¬ (0 ≤ p ∧ p < (bino n k : Int)) → E (.ref CP) none H)
section
variable {P : Program} {w : World} {K : PySem.W.Frag} {mg : Str → Option Value} {base : Heap} {f CP : Addr} {fd : FuncData} {mP : List Value}
theorem ok_last_ones_within (F_last_ones_within : Fun K "last_ones_within" "last_ones_within" s_last_ones_within f fd) (B : Bl mg) (g_ways : Fn P w K mg base "ways" p_ways 1 spWays) : FnOk P w K mg base CX0 2 f fd p_last_ones_within spLow := by
  refine F_last_ones_within.ok sc_last_ones_within (fun vs H Q E h => ?_) (fun cdv A outer s H vs Q E hr h => ?_)
  · obtain ⟨b, k, m, rfl, _⟩ := h
    rfl
  obtain ⟨b, k, m, rfl, hb, hk, hm, q⟩ := h
  refine ⟨_, (pss_cons (ps_set (i := 3) sc_last_ones_within.nd rfl (Or.inl rfl) (pv 0))
      (pss_cons (ps_set (i := 4) sc_last_ones_within.nd rfl (Or.inl rfl) pe_int)
      (pss_cons (ps_while PassesOwn.never (pt_cmpR op_gt (pe_fn g_ways hr (pa_cons (pe_op op_sub (pv 3) (pv 4)) (pa_cons (pv 1) pa_nil))) (pv 2) (nomark _)) (pss_cons (ps_set (i := 3) sc_last_ones_within.nd rfl (Or.inl rfl) (pe_op op_sub (pv 3) (pv 4)))
      (pss_one (ps_set (i := 4) sc_last_ones_within.nd rfl (Or.inl rfl) (pe_op op_mul pe_int (pv 4))))))
      (pss_cons (ps_set (i := 5) sc_last_ones_within.nd rfl (Or.inl rfl) (pe_op op_sub (pv 3) (pv 4)))
      (pss_cons (ps_while PassesOwn.never (pt_cmpR op_gt (pe_op op_sub (pv 3) (pv 5)) pe_int (nomark _)) (pss_cons (ps_set (i := 6) sc_last_ones_within.nd rfl (Or.inl rfl) (pe_op op_fdiv (pe_op op_add (pv 5) (pv 3)) pe_int))
      (pss_one (ps_joinN (ps_if (pt_cmpR op_gt (pe_fn g_ways hr (pa_cons (pv 6) (pa_cons (pv 1) pa_nil))) (pv 2) (nomark _)) (pss_one (ps_set (i := 3) sc_last_ones_within.nd rfl (Or.inl rfl) (pv 6))) (pss_one (ps_set (i := 5) sc_last_ones_within.nd rfl (Or.inl rfl) (pv 6))))))))
      (pss_one (ps_ret (pv 5)))))))), ?_⟩
  refine ⟨_, rfl, fun mu σ' H' => ∃ (h : Nat) (st : Int), mu = h ∧ h ≤ b ∧ 1 ≤ st ∧ m < bino h k ∧ H' = H ∧ σ' = [some (.int (b : Int)), some (.int (k : Int)), some (.int (m : Int)), some (.int (h : Int)), some (.int st), none, none], ⟨_, b, 1, rfl, Nat.le_refl _, by decide, hm, rfl, rfl⟩, ?_⟩
  rintro mu σ' H' ⟨h, st, rfl, hhb, hst, hmh, rfl, rfl⟩
  refine ⟨_, rfl, _, rfl, _, _, rfl, rfl, _, rfl, _, _, rfl, by omega, _, rfl, _, _, rfl, rfl, _, rfl, ite2 (fun z => ?_) (fun z => ?_)⟩
  · have z' : (m : Int) < (wyI ((mu : Int) - st) (k : Int) : Int) := of_decide_eq_true z
    obtain ⟨h2, e2, hk2⟩ := wyI_pos (h := (mu : Int) - st) (m := m) hk (by omega)
    rw [e2, wyI_nat] at z'
    refine ⟨fun σ2 H2 => ∃ st' : Int, 1 ≤ st' ∧ H2 = H' ∧ σ2 = [some (.int (b : Int)), some (.int (k : Int)), some (.int (m : Int)), some (.int (h2 : Int)), some (.int st'), none, none], fun σ2 H2 ⟨st', a1, a2, a3⟩ => ⟨h2, by omega, h2, st', rfl, by omega, a1, by omega, a2, a3⟩, ?_⟩
    refine ⟨_, rfl, _, rfl, _, _, rfl, rfl, _, rfl, _, _, rfl, rfl, .inl ⟨by decide, by decide⟩, 2 * st, by omega, rfl, ?_⟩
    show [_, _, _, some (V.int ((mu : Int) - st)), _, _, _] = _
    rw [e2]
  have z' : ¬ (m : Int) < (wyI ((mu : Int) - st) (k : Int) : Int) := fun y => z (decide_eq_true y)
  refine ⟨_, rfl, _, rfl, _, _, rfl, rfl, ?_⟩
  refine ⟨fun m2 σ2 H2 => ∃ (hi : Nat) (lo : Int) (o6 : Option V), m2 = ((hi : Int) - lo).toNat ∧ lo < (hi : Int) ∧ hi ≤ b ∧ m < bino hi k ∧ wyI lo (k : Int) ≤ m ∧ H2 = H' ∧ σ2 = [some (.int (b : Int)), some (.int (k : Int)), some (.int (m : Int)), some (.int (hi : Int)), some (.int st), some (.int lo), o6], ⟨_, mu, (mu : Int) - st, _, rfl, by omega, hhb, hmh, by omega, rfl, rfl⟩, ?_⟩
  rintro m2 σ2 H2 ⟨hi, lo, o6, rfl, hlh, hhib, hmhi, hmlo, rfl, rfl⟩
  refine ⟨_, rfl, _, rfl, _, _, rfl, rfl, _, _, rfl, rfl, _, rfl, ite2 (fun y => ?_) (fun y => ?_)⟩
  · have y' : (1 : Int) < (hi : Int) - lo := of_decide_eq_true y
    obtain ⟨mid, hmid⟩ : ∃ mid, mid = (lo + (hi : Int)) / 2 := ⟨_, rfl⟩
    have hm1 : lo < mid := by omega
    have hm2 : mid < (hi : Int) := by omega
    refine ⟨fun σ3 H3 => ∃ (hi' : Nat) (lo' : Int) (o6 : Option V), ((hi' : Int) - lo').toNat < ((hi : Int) - lo).toNat ∧ lo' < (hi' : Int) ∧ hi' ≤ b ∧ m < bino hi' k ∧ wyI lo' (k : Int) ≤ m ∧ H3 = H2 ∧ σ3 = [some (.int (b : Int)), some (.int (k : Int)), some (.int (m : Int)), some (.int (hi' : Int)), some (.int st), some (.int lo'), o6], fun σ3 H3 ⟨hi', lo', o6, a0, a1, a2, a3, a4, a5, a6⟩ => ⟨_, a0, hi', lo', o6, rfl, a1, a2, a3, a4, a5, a6⟩, ?_⟩
    refine ⟨_, rfl, _, rfl, _, _, rfl, rfl, _, _, rfl, rfl, ⟨by decide, by decide⟩, ?_⟩
    dsimp only
    rw [← hmid]
    refine ⟨fun σ3 H3 => ∃ (hi' : Nat) (lo' : Int) (o6 : Option V), ((hi' : Int) - lo').toNat < ((hi : Int) - lo).toNat ∧ lo' < (hi' : Int) ∧ hi' ≤ b ∧ m < bino hi' k ∧ wyI lo' (k : Int) ≤ m ∧ H3 = H2 ∧ σ3 = [some (.int (b : Int)), some (.int (k : Int)), some (.int (m : Int)), some (.int (hi' : Int)), some (.int st), some (.int lo'), o6], fun _ _ z => z, ?_⟩
    refine ⟨_, rfl, _, rfl, _, _, rfl, by omega, _, rfl, _, _, rfl, rfl, _, rfl, ite2 (fun x => ?_) (fun x => ?_)⟩
    · have x' : (m : Int) < (wyI mid (k : Int) : Int) := of_decide_eq_true x
      obtain ⟨h3, e3, hk3⟩ := wyI_pos (h := mid) (m := m) hk (by omega)
      rw [e3, wyI_nat] at x'
      refine ⟨_, rfl, h3, lo, some (.int mid), by omega, by omega, by omega, by omega, hmlo, rfl, ?_⟩
      rw [e3]
      rfl
    · have x' : ¬ (m : Int) < (wyI mid (k : Int) : Int) := fun y => x (decide_eq_true y)
      exact ⟨_, rfl, hi, mid, _, by omega, by omega, hhib, hmhi, by omega, rfl, rfl⟩
  · have y' : ¬ (1 : Int) < (hi : Int) - lo := fun z => y (decide_eq_true z)
    obtain ⟨h3, e3, hk3⟩ := wyI_pos (h := (hi : Int)) (m := m) hk (by rw [wyI_nat]; exact hmhi)
    obtain ⟨lo, rfl⟩ : ∃ lo' : Nat, lo = (lo' : Int) := ⟨lo.toNat, by omega⟩
    rw [wyI_nat] at hmlo
    refine ⟨_, rfl, q lo (by omega) hmlo ?_⟩
    rw [show lo + 1 = hi by omega]
    exact hmhi
theorem ok_choice_at (F_choice_at : Fun K "choice_at" "choice_at" s_choice_at f fd) (B : Bl mg) {fC : Addr} {dC : FuncData} (g_check_place : FnX P w K mg base "check_place" fC dC p_check_place 1 (spCheck CP)) (g_ways : Fn P w K mg base "ways" p_ways 1 spWays) (g_last_ones_within : Fn P w K mg base "last_ones_within" p_last_ones_within 2 spLow) :
    FnOk P w K mg base (CXR P w) 3 f fd p_choice_at (spCA CP) := by
  refine F_choice_at.okX sc_choice_at (fun vs H Q E h => ?_) (fun cdv A outer s H vs Q E hr h => ?_)
  · obtain ⟨n, k, p, rfl, _⟩ := h
    rfl
  obtain ⟨n, k, p, rfl, hn, q, e⟩ := h
  refine ⟨_, (pss_cons (ps_set (i := 3) sc_choice_at.nd rfl (Or.inl rfl) (pe_fn g_ways hr (pa_cons (pv 0) (pa_cons (pv 1) pa_nil))))
      (pss_cons (ps_expr (pe_fnX g_check_place hr (pa_cons (pv 2) (pa_cons (pv 3) pa_nil))))
      (pss_cons (ps_set (i := 4) sc_choice_at.nd rfl (Or.inl rfl) (pe_op op_sub (pe_op op_sub (pv 3) pe_int) (pv 2)))
      (pss_cons (ps_set (i := 5) sc_choice_at.nd rfl (Or.inl rfl) (pv 0))
      (pss_cons (ps_set (i := 6) sc_choice_at.nd rfl (Or.inl rfl) (pe_lst pa_nil))
      (pss_cons (ps_for (PassesOwn.leaving (M := model P w)) rfl (pi_rangeDown rfl B.range_ (pa_cons (pv 1) (pa_cons pe_int (pa_cons (pe_un un_neg pe_int) pa_nil)))) (pg_name (i := 7) sc_choice_at.nd rfl (Or.inl rfl)) (pss_cons (ps_set (i := 5) sc_choice_at.nd rfl (Or.inl rfl) (pe_fn g_last_ones_within hr (pa_cons (pv 5) (pa_cons (pv 7) (pa_cons (pv 4) pa_nil)))))
      (pss_cons (ps_set (i := 4) sc_choice_at.nd rfl (Or.inl rfl) (pe_op op_sub (pv 4) (pe_fn g_ways hr (pa_cons (pv 5) (pa_cons (pv 7) pa_nil)))))
      (pss_one (ps_expr (pe_bm PySem.F.plainAttrs_list PySem.F.slot_list_append PySem.F.type_list_append mt_append (pv 6) (pa_cons (pe_op op_sub (pe_op op_sub (pv 0) pe_int) (pv 5)) pa_nil)))))))
      (pss_one (ps_ret (pe_callTy call_tuple_of rfl B.tuple_ L3.bt_tuple (pa_cons (pv 6) pa_nil)))))))))), ?_⟩
  refine ⟨_, rfl, _, rfl, _, _, rfl, by omega, ?_⟩
  rw [wyI_nat]
  refine ⟨_, rfl, _, rfl, p, _, rfl, fun hin => ?_, fun hout => e hout⟩
  obtain ⟨j, rfl⟩ := nat_of hin.1
  have hj : j < bino n k := by omega
  have hkn : k ≤ n := by
    apply Decidable.byContradiction
    intro hc
    rw [bino_lt (by omega)] at hj
    omega
  refine ⟨_, rfl, _, _, rfl, rfl, _, rfl, _, _, rfl, rfl, ?_⟩
  have eB : (bino n k : Int) - 1 - (j : Int) = ((bino n k - 1 - j : Nat) : Int) := by omega
  dsimp only
  rw [eB]
  refine ⟨_, rfl, (by show 0 ≤ sizeLine; decide), fun L fL => ?_⟩
  have yL := same_new fL (.lst ([] : List V))
  have wL : (upd H L (.lst ([] : List V))) L = some (.lst (vnats [])) := upd_same
  generalize upd H L (.lst ([] : List V)) = H1 at yL wL ⊢
  refine ⟨_, rfl, 1, rfl, (k : Int), 0, rfl, ⟨by omega, by omega, by omega, by omega⟩, ?_⟩
  rw [show ((k : Int) - 0).toNat = k by omega]
  refine for_rangeS (lo := (k : Int)) (st := -1) (n := k) (fun i σ' H' => ∃ (m bh : Nat) (os : List Nat) (o7 : Option V), os.length = i ∧ m ≤ n ∧ Ris (n - m) 0 os ∧ pocS n k os i + bh = bino n k - 1 - j ∧ bh < bino m (k - i) ∧ Same H H' ∧ H' L = some (.lst (vnats os)) ∧ σ' = [some (.int (n : Int)), some (.int (k : Int)), some (.int (j : Int)), some (.int (bino n k : Int)), some (.int (bh : Int)), some (.int (m : Int)), some (.ref L), o7])
    ⟨n, bino n k - 1 - j, [], _, rfl, Nat.le_refl _, trivial, by rw [pocS]; omega, by rw [Nat.sub_zero]; omega, yL, wL, rfl⟩ ?_ ?_
  · rintro i σ' H' hi ⟨m, bh, os, o7, hl, hmn, hR, hpo, hbh, s', hL', rfl⟩
    have ei : (k : Int) + (i : Int) * (-1) = ((k - i : Nat) : Int) := by omega
    rw [ei]
    refine ⟨_, rfl, _, rfl, _, rfl, m, k - i, bh, rfl, by omega, by omega, hbh, fun lo h1 h2 h3 => ?_⟩
    refine ⟨_, rfl, _, rfl, _, rfl, _, _, rfl, by omega, _, _, rfl, rfl, ?_⟩
    dsimp only
    rw [wyI_nat, show (bh : Int) - (bino lo (k - i) : Int) = ((bh - bino lo (k - i) : Nat) : Int) by omega]
    refine ⟨_, rfl, .inl ⟨rfl, _, SqL.of hL'⟩, _, rfl, _, _, rfl, rfl, _, rfl, _, _, rfl, rfl, L, _, _, rfl, rfl, hL', smallL (by rw [vnats_len]; omega), ?_⟩
    have ex : (n : Int) - 1 - (lo : Int) = ((n - 1 - lo : Nat) : Int) := by omega
    dsimp only
    rw [ex]
    obtain ⟨d, hd⟩ : ∃ d, k - i = d + 1 := ⟨k - i - 1, by omega⟩
    refine ⟨lo, bh - bino lo (k - i), os ++ [n - 1 - lo], _, by rw [List.length_append, hl]; rfl, by omega, ?_, ?_, ?_, fun b o eb => ?_, ?_, rfl⟩
    · exact ris_snoc (j := n - 1 - lo) (hR.wide (by omega)) (Nat.zero_le _) (by omega)
    · subst hl
      rw [pocS_snoc, show n - 1 - (n - 1 - lo) = lo by omega]
      omega
    · rw [hd, bino] at h3
      rw [hd] at h2
      rw [show k - (i + 1) = d by omega, hd]
      omega
    · rw [upd_ne (ne_of_none eb fL)]
      exact s' _ _ eb
    · rw [upd_same, vnats_app]
      rfl
  · rintro σ' H' ⟨m, bh, os, o7, hl, hmn, hR, hpo, hbh, s', hL', rfl⟩
    rw [Nat.sub_self, bino_zero] at hbh
    obtain rfl : bh = 0 := by omega
    have hRn : Ris n 0 os := hR.wide (by omega)
    have hpl : plS n os = bino n k - 1 - j := by
      rw [← pocS_all, hl]
      omega
    refine ⟨_, rfl, L, _, rfl, .inl ⟨SqL.of hL', fun t ft => q j os t _ rfl ?_ hl hRn (by omega) (s'.trans (same_new ft _)) upd_same⟩⟩
    have hat := chL_at (n := n) (k := k) (b := 0) hl (by rw [Nat.zero_add]; exact hRn)
    rw [Nat.zero_add, hpl, show bino n k - 1 - (bino n k - 1 - j) = j by omega] at hat
    exact hat
end
noncomputable def spCh (C CN CP : Addr) : Sp := fun vs H Q E => ∃ (b dx r : Addr) (bl : List Nat) (z n : Nat) (k : Int), vs = [.ref b, .int (n : Int), .int k] ∧ At C H b dx r bl z ∧ n ≤ 60 ∧
  (∀ p u os t H', 0 < wyI (n : Int) k → evF (wyI (n : Int) k) (bl.drop z) = some (p, u) → (chL n k.toNat 0)[p]? = some os → Grow b H H' → At C H' b dx r bl (z + u) → H' t = some (.tup (vnats os)) → Q (.ref t) H') ∧
  (∀ H', 0 < wyI (n : Int) k → evF (wyI (n : Int) k) (bl.drop z) = none → Grow b H H' → At C H' b dx r bl z → E (.ref CN) none H') ∧ (wyI (n : Int) k = 0 → E (.ref CP) none H)
section
variable {P : Program} {w : World} {K : PySem.W.Frag} {mg : Str → Option Value} {base : Heap} {f C CN CP : Addr} {fd : FuncData} {mP : List Value}
theorem wy_nat {n : Nat} {k : Int} (h : 0 < wyI (n : Int) k) : k = (k.toNat : Int) ∧ wyI (n : Int) k = bino n k.toNat := by
  unfold wyI at h ⊢
  split at h
  · omega
  · rename_i c
    refine ⟨by omega, ?_⟩
    rw [if_neg c]
    rfl
theorem ok_choice (F_choice : Fun K "choice" "choice" s_choice f fd) (g_ways : Fn P w K mg base "ways" p_ways 1 spWays) {fC fA fV : Addr} {dC dA dV : FuncData} (g_check_place : FnX P w K mg base "check_place" fC dC p_check_place 1 (spCheck CP)) (g_choice_at : FnX P w K mg base "choice_at" fA dA p_choice_at 3 (spCA CP)) (g_even : FnX P w K mg base "even_evens" fV dV p_even 6 (spDone C CN ShN evV)) :
    FnOk P w K mg base (CXR P w) 7 f fd p_choice (spCh C CN CP) := by
  refine F_choice.okX sc_choice (fun vs H Q E h => ?_) (fun cdv A outer s H vs Q E hr h => ?_)
  · obtain ⟨b, dx, r, bl, z, n, k, rfl, _⟩ := h
    rfl
  obtain ⟨b, dx, r, bl, z, n, k, rfl, hA, hn, q, e, e2⟩ := h
  refine ⟨_, (pss_cons (ps_set (i := 3) sc_choice.nd rfl (Or.inl rfl) (pe_fn g_ways hr (pa_cons (pv 1) (pa_cons (pv 2) pa_nil))))
      (pss_cons (ps_expr (pe_fnX g_check_place hr (pa_cons pe_int (pa_cons (pv 3) pa_nil))))
      (pss_one (ps_ret (pe_fnX g_choice_at hr (pa_cons (pv 1) (pa_cons (pv 2) (pa_cons (pe_fnX g_even hr (pa_cons (pv 0) (pa_cons (pv 3) pa_nil))) pa_nil)))))))), ?_⟩
  refine ⟨_, rfl, _, rfl, _, _, rfl, by omega, ?_⟩
  refine ⟨_, rfl, 0, _, rfl, fun hin => ?_, fun hout => e2 (by omega)⟩
  have hp : 0 < wyI (n : Int) k := by omega
  obtain ⟨ek, ew⟩ := wy_nat hp
  refine ⟨_, rfl, _, rfl, _, rfl, _, rfl, b, dx, r, bl, z, _, wyI (n : Int) k, rfl, hA, ⟨rfl, hp⟩, fun v u H2 hv g2 a2 => ?_, fun H2 hv g2 a2 => ?_⟩
  · unfold evV at hv
    cases ev : evF (wyI (n : Int) k) (bl.drop z) with
    | none => rw [ev] at hv; cases hv
    | some pr =>
      obtain ⟨v', u'⟩ := pr
      rw [ev] at hv
      cases hv
      have hlt := evF_lt ev
      refine ⟨n, k.toNat, (v' : Int), congrArg (fun y => [V.int (n : Int), V.int y, V.int (v' : Int)]) ek, hn, fun j os t H3 hj hos _ _ _ s3 h3 => ?_, fun hout => absurd ⟨by omega, by rw [← ew]; omega⟩ hout⟩
      have : j = v' := by omega
      subst this
      exact q j u' os t H3 hp ev hos (g2.trans (.same s3)) (a2.same s3) h3
  · refine e H2 hp ?_ g2 a2
    unfold evV at hv
    exact Option.map_eq_none_iff.mp hv
end
section
variable {P : Program} {w : World} {K : PySem.W.Frag} {mg : Str → Option Value} {base : Heap} {f C CN CP : Addr} {fd : FuncData} {mN mP : List Value}
end
theorem vnats_in (T : Nat) (l : List Nat) : inV (V.int (T : Int)) (vnats l) = decide (T ∈ l) := by
  unfold inV vnats
  rw [Bool.eq_iff_iff, List.any_eq_true, decide_eq_true_iff]
  constructor
  · rintro ⟨x, hx, e⟩
    obtain ⟨n, hn, rfl⟩ := List.mem_map.mp hx
    have e' : ((n : Int) == (T : Int)) = true := e
    have : n = T := by have := eq_of_beq e'; omega
    exact this ▸ hn
  · intro h
    exact ⟨_, List.mem_map.mpr ⟨T, h, rfl⟩, by show ((T : Int) == (T : Int)) = true; simp⟩
theorem vnats_flat (l : List Nat) : (vnats l).all flatV = true := by
  rw [List.all_eq_true]
  intro x hx
  obtain ⟨n, _, rfl⟩ := List.mem_map.mp hx
  rfl
theorem idx_at {T : Nat} {l : List Nat} (h : T ∈ l) : (l.map fun (n : Nat) => (n : Int))[l.idxOf T]? = some (T : Int) ∧ ∀ i, i < l.idxOf T → (l.map fun (n : Nat) => (n : Int))[i]? ≠ some (T : Int) := by
  have hl : l.idxOf T < l.length := List.idxOf_lt_length_of_mem h
  refine ⟨?_, fun i hi e => ?_⟩
  · rw [List.getElem?_map, List.getElem?_eq_getElem hl, List.getElem_idxOf hl]
    rfl
  · have hil : i < l.length := Nat.lt_trans hi hl
    rw [List.getElem?_map, List.getElem?_eq_getElem hil] at e
    have e' : ((l[i] : Nat) : Int) = (T : Int) := Option.some.inj e
    exact absurd (show l[i] = T by omega) (by simpa using List.not_of_lt_findIdx (p := fun x => x == T) hi)
noncomputable def digs (T : Nat) (rs : List Nat) : List Nat := (List.range rs.length).filter fun i => decide (T ≤ 2 * rs.getD i 0)
noncomputable def stepR (T : Nat) (rs : List Nat) : List Nat := rs.map fun r => 2 * r % T
noncomputable def pkR (T : Nat) : List Nat → Nat → Nat → List Nat → Option (Nat × Nat)
  | _, _, _, [] => none
  | rs, p, u, b :: bs => if 2 * p + b < (digs T rs).length then some ((digs T rs).getD (2 * p + b) 0, u + 1) else pkR T (stepR T rs) (2 * p + b - (digs T rs).length) (u + 1) bs
noncomputable def pfigs (T : Nat) (rs : List Nat) (i : Nat) : List Nat := (List.range i).filter fun k => decide (T ≤ 2 * rs.getD k 0)
theorem pfigs_len (T : Nat) (rs : List Nat) (i : Nat) : (pfigs T rs i).length ≤ i := Nat.le_trans (List.length_filter_le _ _) (by rw [List.length_range]; exact Nat.le_refl _)
theorem figs_yes {T : Nat} {rs : List Nat} {i : Nat} (h : T ≤ 2 * rs.getD i 0) : vnats (pfigs T rs (i + 1)) = vnats (pfigs T rs i) ++ [V.int (i : Int)] := by
  unfold pfigs
  rw [List.range_succ, List.filter_append, vnats, vnats, List.map_append, List.filter_cons_of_pos (by simpa using h)]
  rfl
theorem figs_no {T : Nat} {rs : List Nat} {i : Nat} (h : ¬ T ≤ 2 * rs.getD i 0) : vnats (pfigs T rs (i + 1)) = vnats (pfigs T rs i) := by
  unfold pfigs
  rw [List.range_succ, List.filter_append, vnats, vnats, List.map_append, List.filter_cons_of_neg (by simpa using h)]
  exact List.append_nil _
theorem step_more {T : Nat} {rs : List Nat} {i : Nat} (h : i < rs.length) : vnats (stepR T (rs.take (i + 1))) = vnats (stepR T (rs.take i)) ++ [V.int ((2 * rs.getD i 0 % T : Nat) : Int)] := by
  rw [List.take_add_one, List.getElem?_eq_getElem h, List.getD_eq_getElem?_getD, List.getElem?_eq_getElem h]
  unfold stepR vnats
  rw [List.map_append, List.map_append]
  rfl
theorem step_len (T : Nat) (rs : List Nat) : (stepR T rs).length = rs.length := List.length_map _
noncomputable def pkF (ws bs : List Nat) : Option (Nat × Nat) := if ws.sum ∈ ws then some (ws.idxOf ws.sum, 0) else pkR ws.sum ws 0 0 bs
noncomputable def pkV (ws bs : List Nat) : Option (V × Nat) := (pkF ws bs).map fun p => (V.int (p.1 : Int), p.2)
noncomputable def ShW (H : Hp) (x : V) (ws : List Nat) : Prop := ∃ r, x = .ref r ∧ H r = some (.tup (vnats ws)) ∧ 0 < ws.sum ∧ ws.sum < 1073741824 ∧ ws.length ≤ 1000
noncomputable def ShX (H : Hp) (x : V) (ws : List Nat) : Prop := ShW H x ws ∧ ws.sum ∉ ws
section
variable {P : Program} {w : World} {K : PySem.W.Frag} {mg : Str → Option Value} {base : Heap} {f C fI fT fU fL fG CN : Addr} {fd dI dT dU dL dG : FuncData} {mN : List Value}
theorem ok_take_pick (F_take_pick : Fun K "take_pick" "take_pick" s_take_pick f fd) (B : Bl mg) (T : Txt K mg C fI fT fU fL fG dI dT dU dL dG) (g_take : FnOk P w K mg base (CXR P w) 2 fT dT p_Bits_take (spTakeB C CN)) :
    FnOk P w K mg base (CXR P w) 3 f fd p_take_pick (spRaw C CN ShX pkV) := by
  refine F_take_pick.okX sc_take_pick (fun vs H Q E h => ?_) (fun cdv A outer s H vs Q E hr h => ?_)
  · obtain ⟨b, dx, r, bl, z, x, a, rfl, _⟩ := h
    rfl
  obtain ⟨b, dx, r0, bl, z, x, ws, rfl, hA, ⟨⟨wr, rfl, hW, hT, hT2, hwl⟩, hno⟩, q, e⟩ := h
  refine ⟨_, (pss_cons (ps_set (i := 2) sc_take_pick.nd rfl (Or.inr rfl) (pe_callB (call_sumT rfl) rfl B.sum_ L3.bt_sum (pa_cons (pv 1) pa_nil)))
      (pss_cons (ps_set (i := 3) sc_take_pick.nd rfl (Or.inl rfl) (pv 1))
      (pss_cons (ps_set (i := 4) sc_take_pick.nd rfl (Or.inl rfl) pe_int)
      (pss_one (ps_while (PassesOwn.leaving (M := model P w)) (pt_truth pe_bl (fun _ => rfl)) (pss_cons (ps_set (i := 4) sc_take_pick.nd rfl (Or.inl rfl) (pe_op op_add (pe_op op_mul pe_int (pv 4)) (pe_meth0 (pv 0) T.cl T.m_take g_take (hr.mono (by first | decide | omega)) T.b_take .nil cx_pass)))
      (pss_cons (ps_join (ps_comp 5 [] ["bits", "weights", "total", "rests", "place", "ends", "number", "rest"] 2 rfl sc_take_pick.nd rfl rfl (PI.or (pi_enumT rfl B.enumerate_ (pa_cons (pv 3) pa_nil)) (pi_enumL rfl B.enumerate_ (pa_cons (pv 3) pa_nil))) (fun _ _ _ _ _ => (pg_tupK K 2 rfl (pgs_cons (pg_name (i := 6) nd_3 rfl (Or.inl rfl) (Or.inr rfl)) (pgs_cons (pg_name (i := 7) nd_3 rfl (Or.inl rfl) (Or.inr rfl)) pgs_nil)) rfl rfl rfl)) (fun _ _ _ _ _ => (pif_one (pt_cmpR op_ge (pe_op op_mul pe_int (pv 7)) (pv 2) (nomark _)))) (fun _ _ _ _ _ => (pv 6))))
      (pss_cons (ps_if (pt_cmpR op_lt (pv 4) (pe_callB call_len_seq rfl B.len_ L3.bt_len (pa_cons (pv 5) pa_nil)) (nomark _)) (pss_one (ps_ret (pe_ix ix_list (pv 5) (pv 4) (fun _ _ => rfl)))) pss_nil)
      (pss_cons (ps_set (i := 4) sc_take_pick.nd rfl (Or.inl rfl) (pe_op op_sub (pv 4) (pe_callB call_len_seq rfl B.len_ L3.bt_len (pa_cons (pv 5) pa_nil))))
      (pss_one (ps_joinN (ps_comp 3 [] ["bits", "weights", "total", "rests", "place", "ends", "rest"] 1 rfl sc_take_pick.nd rfl rfl (PI.or (pi_tup (pv 3)) (pi_list (pv 3))) (fun _ _ _ _ _ => (pg_name (i := 6) nd_4 rfl (Or.inl rfl) (Or.inr rfl))) (fun _ _ _ _ _ => pif_nil) (fun _ _ _ _ _ => (pe_op op_mod (pe_op op_mul pe_int (pv 6)) (pv 2))))))))))))))), ?_⟩
  refine ⟨_, rfl, wr, ws.map (fun (n : Nat) => (n : Int)), rfl, SqT.of (by rw [← vnats_ints]; exact hW), ?_⟩
  rw [sum_nats]
  refine ⟨_, rfl, ?_⟩
  have hpk : pkF ws (bl.drop z) = pkR ws.sum ws 0 0 (bl.drop z) := if_neg hno
  generalize hS : ws.sum = S at hT hT2 hpk
  refine ⟨fun mu σ' H' => ∃ (rs : List Nat) (pl u : Nat) (r : Addr) (o5 : Option V), mu = bl.length - (z + u) ∧ σ' = [some (.ref b), some (.ref wr), some (.int (S : Int)), some (.ref r), some (.int (pl : Int)), o5] ∧ Grow b H H' ∧ At C H' b dx r0 bl (z + u) ∧ (H' r = some (.tup (vnats rs)) ∨ H' r = some (.lst (vnats rs))) ∧ rs.length ≤ 1000 ∧ pkF ws (bl.drop z) = pkR S rs pl u (bl.drop (z + u)),
    ⟨_, ws, 0, 0, wr, none, rfl, rfl, Grow.refl _ _, hA, .inl hW, hwl, hpk⟩, ?_⟩
  rintro mu σ1 H1 ⟨rs, pl, u, r, o5, rfl, rfl, g1, a1, hrs, hrl, hev⟩
  refine ⟨_, rfl, iteT ?_⟩
  refine ⟨_, fun _ _ z => z, ?_⟩
  -- place
  refine ⟨_, rfl, _, _, rfl, rfl, .inl ⟨by decide, by decide⟩, _, rfl, b, dx, _, rfl, a1.obj, flds_no _ _ (by decide +kernel) (by decide +kernel), b, dx, r0, bl, z + u, rfl, a1, fun x H2 hx g2 a2 => ?_, fun hz => ?_⟩
  rotate_left
  · refine e (z + u) H1 ?_ (by omega) g1 a1
    unfold pkV
    rw [hev, List.drop_eq_nil_of_le (by omega)]
    rfl
  have hl2 := a2.le
  have hrb : r ≠ b := fun y => by
    rcases hrs with hh | hh <;> (rw [y, a1.obj] at hh; cases hh)
  replace hrs : H2 r = some (.tup (vnats rs)) ∨ H2 r = some (.lst (vnats rs)) := hrs.imp (fun y => g2 _ _ hrb y) (fun y => g2 _ _ hrb y)
  refine ⟨_, _, rfl, rfl, ?_⟩
  have ep : (2 : Int) * (pl : Int) + (x : Int) = ((2 * pl + x : Nat) : Int) := by omega
  -- ends
  refine ⟨fun σ' H' => ∃ D : Addr, σ' = [some (.ref b), some (.ref wr), some (.int (S : Int)), some (.ref r), some (.int ((2 * pl + x : Nat) : Int)), some (.ref D)] ∧ Same H2 H' ∧ H' D = some (.lst (vnats (digs S rs))), ?_, ?_⟩
  rotate_left
  · rcases hrs with hrs | hrs
    · refine .inl ⟨_, rfl, r, rfl, ⟨_, SqT.of hrs⟩, ?_⟩
      refine ⟨fun i mm acc σ' H' => mm = rs.length - i ∧ i ≤ rs.length ∧ acc = vnats (pfigs S rs i) ∧ Same H2 H' ∧ ∃ o6 o7 : Option V, σ' = [some (.ref b), some (.ref wr), some (.int (S : Int)), some (.ref r), some (.int ((2 : Int) * (pl : Int) + (x : Int))), o5, o6, o7], ⟨rs.length, rfl, Nat.zero_le _, rfl, Same.refl _, _, _, rfl⟩, ?_⟩
      rintro i mm acc σ' H3 ⟨rfl, hi, rfl, s3, o6, o7, rfl⟩
      have hfl := pfigs_len S rs i
      by_cases hlt : i < rs.length
      · refine .inr ⟨⟨_, _, SqT.of (s3 _ _ hrs), vnats_at hlt⟩, smallL (by rw [vnats_len]; omega), fun acc' σ2 H4 => acc' = vnats (pfigs S rs (i + 1)) ∧ Same H2 H4 ∧ ∃ o6 o7 : Option V, σ2 = [some (.ref b), some (.ref wr), some (.int (S : Int)), some (.ref r), some (.int ((2 : Int) * (pl : Int) + (x : Int))), o5, o6, o7], ?_, ?_⟩
        · rintro acc' σ2 H4 ⟨rfl, s4, o6', o7', rfl⟩
          exact ⟨rs.length - (i + 1), by omega, rfl, hlt, rfl, s4, _, _, rfl⟩
        · rintro v H4 ⟨p, y, fp, rfl, rfl, ex⟩
          have ex' := ex _ (SqT.of (s3 _ _ hrs))
          rw [vnats_at hlt] at ex'
          obtain rfl := Option.some.inj ex'
          have s4 := s3.trans (same_new fp (.tup [V.int (i : Int), V.int ((rs.getD i 0 : Nat) : Int)]))
          refine ⟨p, _, rfl, SqT.of upd_same, rfl, _, _, rfl, _, _, rfl, rfl, ?_⟩
          refine ⟨_, rfl, _, _, rfl, rfl, .inl ⟨by decide, by decide⟩, _, rfl, _, _, rfl, rfl, _, rfl, ite2 (fun c => ?_) (fun c => ?_)⟩
          · have c' : (S : Int) ≤ 2 * ((rs.getD i 0 : Nat) : Int) := of_decide_eq_true c
            refine ⟨_, rfl, ?_, s4, _, _, rfl⟩
            rw [figs_yes (by omega)]
          · have c' : ¬ (S : Int) ≤ 2 * ((rs.getD i 0 : Nat) : Int) := of_decide_eq_false (Bool.eq_false_iff.mpr c)
            refine ⟨?_, s4, _, _, rfl⟩
            rw [figs_no (by omega)]
      · have ei : i = rs.length := by omega
        subst ei
        refine .inl ⟨⟨_, SqT.of (s3 _ _ hrs), by rw [vnats_len]; exact Nat.le_refl _⟩, small (by rw [vnats_len]; omega), fun D fD => ⟨D, ?_, s3.trans (same_new fD _), upd_same⟩⟩
        rw [← ep]
        rfl
    · refine .inr ⟨_, rfl, r, rfl, ⟨_, SqL.of hrs⟩, ?_⟩
      refine ⟨fun i mm acc σ' H' => mm = rs.length - i ∧ i ≤ rs.length ∧ acc = vnats (pfigs S rs i) ∧ Same H2 H' ∧ ∃ o6 o7 : Option V, σ' = [some (.ref b), some (.ref wr), some (.int (S : Int)), some (.ref r), some (.int ((2 : Int) * (pl : Int) + (x : Int))), o5, o6, o7], ⟨rs.length, rfl, Nat.zero_le _, rfl, Same.refl _, _, _, rfl⟩, ?_⟩
      rintro i mm acc σ' H3 ⟨rfl, hi, rfl, s3, o6, o7, rfl⟩
      have hfl := pfigs_len S rs i
      by_cases hlt : i < rs.length
      · refine .inr ⟨⟨_, _, SqL.of (s3 _ _ hrs), vnats_at hlt⟩, smallL (by rw [vnats_len]; omega), fun acc' σ2 H4 => acc' = vnats (pfigs S rs (i + 1)) ∧ Same H2 H4 ∧ ∃ o6 o7 : Option V, σ2 = [some (.ref b), some (.ref wr), some (.int (S : Int)), some (.ref r), some (.int ((2 : Int) * (pl : Int) + (x : Int))), o5, o6, o7], ?_, ?_⟩
        · rintro acc' σ2 H4 ⟨rfl, s4, o6', o7', rfl⟩
          exact ⟨rs.length - (i + 1), by omega, rfl, hlt, rfl, s4, _, _, rfl⟩
        · rintro v H4 ⟨p, y, fp, rfl, rfl, ex⟩
          have ex' := ex _ (SqL.of (s3 _ _ hrs))
          rw [vnats_at hlt] at ex'
          obtain rfl := Option.some.inj ex'
          have s4 := s3.trans (same_new fp (.tup [V.int (i : Int), V.int ((rs.getD i 0 : Nat) : Int)]))
          refine ⟨p, _, rfl, SqT.of upd_same, rfl, _, _, rfl, _, _, rfl, rfl, ?_⟩
          refine ⟨_, rfl, _, _, rfl, rfl, .inl ⟨by decide, by decide⟩, _, rfl, _, _, rfl, rfl, _, rfl, ite2 (fun c => ?_) (fun c => ?_)⟩
          · have c' : (S : Int) ≤ 2 * ((rs.getD i 0 : Nat) : Int) := of_decide_eq_true c
            refine ⟨_, rfl, ?_, s4, _, _, rfl⟩
            rw [figs_yes (by omega)]
          · have c' : ¬ (S : Int) ≤ 2 * ((rs.getD i 0 : Nat) : Int) := of_decide_eq_false (Bool.eq_false_iff.mpr c)
            refine ⟨?_, s4, _, _, rfl⟩
            rw [figs_no (by omega)]
      · have ei : i = rs.length := by omega
        subst ei
        refine .inl ⟨⟨_, SqL.of (s3 _ _ hrs), by rw [vnats_len]; exact Nat.le_refl _⟩, small (by rw [vnats_len]; omega), fun D fD => ⟨D, ?_, s3.trans (same_new fD _), upd_same⟩⟩
        rw [← ep]
        rfl
  rintro σ3 H3 ⟨D, rfl, s3, hD⟩
  have a3 := a2.same s3
  have hrs3 : H3 r = some (.tup (vnats rs)) ∨ H3 r = some (.lst (vnats rs)) := hrs.imp (fun y => s3 _ _ y) (fun y => s3 _ _ y)
  have g3 : Grow b H H3 := (g1.trans g2).trans (.same s3)
  have hev2 : pkF ws (bl.drop z) = if 2 * pl + x < (digs S rs).length then some ((digs S rs).getD (2 * pl + x) 0, u + 1) else pkR S (stepR S rs) (2 * pl + x - (digs S rs).length) (u + 1) (bl.drop (z + (u + 1))) := by
    rw [hev, drop_at hx]
    rfl
  refine ⟨_, rfl, _, rfl, D, _, rfl, .inl (SqL.of hD), _, _, rfl, rfl, _, rfl, ?_⟩
  rw [vnats_len]
  refine ite2 (fun c => ?_) (fun c => ?_)
  · have c' : ((2 * pl + x : Nat) : Int) < (((digs S rs).length : Nat) : Int) := of_decide_eq_true c
    have hlt : 2 * pl + x < (digs S rs).length := by omega
    rw [if_pos hlt] at hev2
    refine ⟨_, rfl, _, rfl, D, _, _, _, rfl, rfl, SqL.of hD, atI_nat (vnats_at hlt), q _ (u + 1) H3 ?_ g3 a3⟩
    unfold pkV
    rw [hev2]
    rfl
  have c' : ¬ ((2 * pl + x : Nat) : Int) < (((digs S rs).length : Nat) : Int) := of_decide_eq_false (Bool.eq_false_iff.mpr c)
  have hge : ¬ 2 * pl + x < (digs S rs).length := by omega
  rw [if_neg hge] at hev2
  refine ⟨_, rfl, _, rfl, D, _, rfl, .inl (SqL.of hD), _, _, rfl, rfl, ?_⟩
  rw [vnats_len]
  have es : ((2 * pl + x : Nat) : Int) - (((digs S rs).length : Nat) : Int) = ((2 * pl + x - (digs S rs).length : Nat) : Int) := by rw [Int.ofNat_sub (by omega)]
  -- rests
  refine ⟨fun σ' H' => ∃ D2 : Addr, σ' = [some (.ref b), some (.ref wr), some (.int (S : Int)), some (.ref D2), some (.int ((2 * pl + x - (digs S rs).length : Nat) : Int)), some (.ref D)] ∧ Same H3 H' ∧ H' D2 = some (.lst (vnats (stepR S rs))), ?_, ?_⟩
  rotate_left
  · rcases hrs3 with hrs | hrs
    · refine .inl ⟨_, rfl, r, rfl, ⟨_, SqT.of hrs⟩, ?_⟩
      refine ⟨fun i mm acc σ' H' => mm = rs.length - i ∧ i ≤ rs.length ∧ acc = vnats (stepR S (rs.take i)) ∧ H' = H3 ∧ ∃ o6 : Option V, σ' = [some (.ref b), some (.ref wr), some (.int (S : Int)), some (.ref r), some (.int (((2 * pl + x : Nat) : Int) - (((digs S rs).length : Nat) : Int))), some (.ref D), o6], ⟨rs.length, rfl, Nat.zero_le _, rfl, rfl, _, rfl⟩, ?_⟩
      rintro i mm acc σ' H4 ⟨rfl, hi, rfl, rfl, o6, rfl⟩
      have hsl : (stepR S (rs.take i)).length ≤ 1000 := by rw [step_len, List.length_take]; omega
      by_cases hlt : i < rs.length
      · refine .inr ⟨⟨_, _, SqT.of hrs, vnats_at hlt⟩, smallL (by rw [vnats_len]; omega), fun acc' σ2 H5 => acc' = vnats (stepR S (rs.take (i + 1))) ∧ H5 = H4 ∧ ∃ o6 : Option V, σ2 = [some (.ref b), some (.ref wr), some (.int (S : Int)), some (.ref r), some (.int (((2 * pl + x : Nat) : Int) - (((digs S rs).length : Nat) : Int))), some (.ref D), o6], ?_, ?_⟩
        · rintro acc' σ2 H5 ⟨rfl, rfl, o6', rfl⟩
          exact ⟨rs.length - (i + 1), by omega, rfl, hlt, rfl, rfl, _, rfl⟩
        · rintro v H5 ⟨rfl, ex⟩
          have ex' := ex _ (SqT.of hrs)
          rw [vnats_at hlt] at ex'
          obtain rfl := Option.some.inj ex'
          refine ⟨_, rfl, _, _, rfl, rfl, .inl ⟨by decide, by decide⟩, _, rfl, _, _, rfl, rfl, (by show (0 : Int) < (S : Int); omega), ?_, rfl, _, rfl⟩
          rw [step_more hlt]
          rfl
      · have ei : i = rs.length := by omega
        subst ei
        refine .inl ⟨⟨_, SqT.of hrs, by rw [vnats_len]; exact Nat.le_refl _⟩, small (by rw [vnats_len]; omega), fun D2 fD => ⟨D2, ?_, same_new fD _, ?_⟩⟩
        · rw [← es]
          rfl
        · rw [upd_same, List.take_length]
    · refine .inr ⟨_, rfl, r, rfl, ⟨_, SqL.of hrs⟩, ?_⟩
      refine ⟨fun i mm acc σ' H' => mm = rs.length - i ∧ i ≤ rs.length ∧ acc = vnats (stepR S (rs.take i)) ∧ H' = H3 ∧ ∃ o6 : Option V, σ' = [some (.ref b), some (.ref wr), some (.int (S : Int)), some (.ref r), some (.int (((2 * pl + x : Nat) : Int) - (((digs S rs).length : Nat) : Int))), some (.ref D), o6], ⟨rs.length, rfl, Nat.zero_le _, rfl, rfl, _, rfl⟩, ?_⟩
      rintro i mm acc σ' H4 ⟨rfl, hi, rfl, rfl, o6, rfl⟩
      have hsl : (stepR S (rs.take i)).length ≤ 1000 := by rw [step_len, List.length_take]; omega
      by_cases hlt : i < rs.length
      · refine .inr ⟨⟨_, _, SqL.of hrs, vnats_at hlt⟩, smallL (by rw [vnats_len]; omega), fun acc' σ2 H5 => acc' = vnats (stepR S (rs.take (i + 1))) ∧ H5 = H4 ∧ ∃ o6 : Option V, σ2 = [some (.ref b), some (.ref wr), some (.int (S : Int)), some (.ref r), some (.int (((2 * pl + x : Nat) : Int) - (((digs S rs).length : Nat) : Int))), some (.ref D), o6], ?_, ?_⟩
        · rintro acc' σ2 H5 ⟨rfl, rfl, o6', rfl⟩
          exact ⟨rs.length - (i + 1), by omega, rfl, hlt, rfl, rfl, _, rfl⟩
        · rintro v H5 ⟨rfl, ex⟩
          have ex' := ex _ (SqL.of hrs)
          rw [vnats_at hlt] at ex'
          obtain rfl := Option.some.inj ex'
          refine ⟨_, rfl, _, _, rfl, rfl, .inl ⟨by decide, by decide⟩, _, rfl, _, _, rfl, rfl, (by show (0 : Int) < (S : Int); omega), ?_, rfl, _, rfl⟩
          rw [step_more hlt]
          rfl
      · have ei : i = rs.length := by omega
        subst ei
        refine .inl ⟨⟨_, SqL.of hrs, by rw [vnats_len]; exact Nat.le_refl _⟩, small (by rw [vnats_len]; omega), fun D2 fD => ⟨D2, ?_, same_new fD _, ?_⟩⟩
        · rw [← es]
          rfl
        · rw [upd_same, List.take_length]
  rintro σ4 H4 ⟨D2, rfl, s4, hD2⟩
  exact ⟨bl.length - (z + (u + 1)), by omega, stepR S rs, 2 * pl + x - (digs S rs).length, u + 1, D2, some (.ref D), rfl, rfl, g3.trans (.same s4), a3.same s4, .inr hD2, by rw [step_len]; exact hrl, hev2⟩
theorem ok_pick (F_pick : Fun K "pick" "pick" s_pick f fd) (B : Bl mg) {fD fR : Addr} {dD dR : FuncData} (g_drawn_whole : FnX P w K mg base "drawn_whole" fD dD p_drawn_whole 5 (spDW P w K mg base 4 C CN)) (g_take_pick : FnX P w K mg base "take_pick" fR dR p_take_pick 3 (spRaw C CN ShX pkV)) :
    FnOk P w K mg base (CXR P w) 6 f fd p_pick (spDone C CN ShW pkV) := by
  refine F_pick.okX sc_pick (fun vs H Q E h => ?_) (fun cdv A outer s H vs Q E hr h => ?_)
  · obtain ⟨b, dx, r, bl, z, x, a, rfl, _⟩ := h
    rfl
  obtain ⟨b, dx, r, bl, z, x, ws, rfl, hA, hSh, q, e⟩ := h
  obtain ⟨wr, rfl, hW, hT, hT2, hwl⟩ := id hSh
  have hsq : ∀ {H'}, H' wr = some (.tup (vnats ws)) → SqT K H' wr ((ws.map (fun (n : Nat) => (n : Int))).map V.int) := fun {H'} y => SqT.of (by rw [← vnats_ints]; exact y)
  refine ⟨_, (pss_cons (ps_set (i := 2) sc_pick.nd rfl (Or.inl rfl) (pe_callB (call_sumT rfl) rfl B.sum_ L3.bt_sum (pa_cons (pv 1) pa_nil)))
      (pss_cons (ps_if (pt_cmpR op_in_seq (pv 2) (pv 1) rfl) (pss_one (ps_ret (pe_bmT PySem.F.plainAttrs_tuple PySem.F.slot_tuple_index PySem.F.type_tuple_index mt_tindex (pv 1) (pa_cons (pv 2) pa_nil)))) pss_nil)
      (pss_one (ps_ret (pe_fnX g_drawn_whole hr (pa_cons (pv 0) (pa_cons (pe_glob (v := .ref _) rfl g_take_pick.mg rfl) (pa_cons (pv 1) pa_nil)))))))), ?_⟩
  refine ⟨_, rfl, wr, ws.map (fun (n : Nat) => (n : Int)), rfl, hsq hW, ?_⟩
  rw [sum_nats]
  refine ⟨_, rfl, _, rfl, wr, vnats ws, rfl, .inr (SqT.of hW), rfl, vnats_flat ws, _, rfl, ?_⟩
  rw [vnats_in]
  refine ite2 (fun c => ?_) (fun c => ?_)
  · have c' : ws.sum ∈ ws := of_decide_eq_true c
    obtain ⟨i1, i2⟩ := idx_at c'
    refine ⟨_, rfl, ⟨wr, _, rfl, hW⟩, _, rfl, wr, _, _, ws.idxOf ws.sum, rfl, rfl, hsq hW, i1, i2, q _ 0 H ?_ (Grow.refl _ _) hA⟩
    unfold pkV pkF
    rw [if_pos c']
    rfl
  · have c' : ¬ ws.sum ∈ ws := of_decide_eq_false (Bool.eq_false_iff.mpr c)
    exact ⟨_, rfl, _, rfl, dw_of g_take_pick (by decide) hA ⟨hSh, c'⟩ q e⟩
end
noncomputable def nxt (s : Int) : Int := (1664525 * s + 1013904223) % 4294967296
@[irreducible] noncomputable def stN (s : Int) (n : Nat) : Int := Nat.rec s (fun _ x => nxt x) n
theorem stN_zero (s : Int) : stN s 0 = s := by
  unfold stN
  rfl
theorem stN_succ (s : Int) (n : Nat) : stN s (n + 1) = nxt (stN s n) := by
  unfold stN
  rfl
noncomputable def btO (s : Int) : Int := if 2147483648 ≤ s then 1 else 0
noncomputable def strm (s : Int) (n : Nat) : List Int := (List.range n).map fun i => btO (stN s (i + 1))
theorem strm_length (s : Int) (n : Nat) : (strm s n).length = n := by simp [strm]
theorem strm_succ (s : Int) (n : Nat) : strm s (n + 1) = strm s n ++ [btO (stN s (n + 1))] := by simp [strm, List.range_succ]
noncomputable def spNext : Sp := fun vs H Q _ => ∃ s : Int, vs = [.int s] ∧ Q (.int (nxt s)) H
noncomputable def spBitsOf : Sp := fun vs H Q _ => ∃ (s : Int) (n : Nat), vs = [.int s, .int n] ∧ n ≤ 100000 ∧ ∀ p H', Same H H' → H' p = some (.tup ((strm s n).map V.int)) → Q (.ref p) H'
section
variable {P : Program} {w : World} {K : PySem.W.Frag} {mg : Str → Option Value} {base : Heap} {f : Addr} {fd : FuncData}
theorem ok_next_state (F_next_state : Fun K "next_state" "next_state" s_next_state f fd) (C : Cn mg) : FnOk P w K mg base CX0 1 f fd p_next_state spNext := by
  refine F_next_state.ok sc_next_state (fun vs H Q E h => ?_) (fun cdv A outer s H vs Q E hr h => ?_)
  · obtain ⟨s, rfl, _⟩ := h
    rfl
  obtain ⟨s, rfl, q⟩ := h
  obtain ⟨c1, C_FACTOR⟩ := C.FACTOR
  obtain ⟨c2, C_ADDED⟩ := C.ADDED
  obtain ⟨c3, C_STATES⟩ := C.STATES
  refine ⟨_, (pss_one (ps_ret (pe_op op_mod (pe_op op_add (pe_op op_mul (pe_glob (v := .int 1664525) rfl C_FACTOR ⟨_, rfl⟩) (pv 0)) (pe_glob (v := .int 1013904223) rfl C_ADDED ⟨_, rfl⟩)) (pe_glob (v := .int 4294967296) rfl C_STATES ⟨_, rfl⟩)))), ?_⟩
  refine ⟨_, rfl, _, _, rfl, rfl, .inl ⟨by decide, by decide⟩, _, _, rfl, rfl, _, _, rfl, rfl, (by show (0 : Int) < 4294967296; decide), ?_⟩
  exact q
theorem ok_bits_of (F_bits_of : Fun K "bits_of" "bits_of" s_bits_of f fd) (B : Bl mg) (C : Cn mg) (g_next_state : Fn P w K mg base "next_state" p_next_state 1 spNext) : FnOk P w K mg base CX0 2 f fd p_bits_of spBitsOf := by
  refine F_bits_of.ok sc_bits_of (fun vs H Q E h => ?_) (fun cdv A outer s H vs Q E hr h => ?_)
  · obtain ⟨s, n, rfl, _⟩ := h
    rfl
  obtain ⟨s, n, rfl, hn, q⟩ := h
  obtain ⟨c4, C_HALF_OF_STATES⟩ := C.HALF_OF_STATES
  refine ⟨_, (pss_cons (ps_set (i := 2) sc_bits_of.nd rfl (Or.inl rfl) (pv 0))
      (pss_cons (ps_set (i := 3) sc_bits_of.nd rfl (Or.inl rfl) (pe_lst pa_nil))
      (pss_cons (ps_while PassesOwn.never (pt_cmpR op_lt (pe_callB call_len_seq rfl B.len_ L3.bt_len (pa_cons (pv 3) pa_nil)) (pv 1) (nomark _)) (pss_cons (ps_set (i := 2) sc_bits_of.nd rfl (Or.inl rfl) (pe_fn g_next_state hr (pa_cons (pv 2) pa_nil)))
      (pss_one (ps_expr (pe_bm PySem.F.plainAttrs_list PySem.F.slot_list_append PySem.F.type_list_append mt_append (pv 3) (pa_cons (pe_ifExp (pt_cmpR op_ge (pv 2) (pe_glob (v := .int 2147483648) rfl C_HALF_OF_STATES ⟨_, rfl⟩) (nomark _)) pe_int pe_int) pa_nil))))))
      (pss_one (ps_ret (pe_callTy call_tuple_of rfl B.tuple_ L3.bt_tuple (pa_cons (pv 3) pa_nil))))))), ?_⟩
  refine ⟨_, rfl, (by show 0 ≤ sizeLine; decide), fun r hr' => ?_⟩
  refine while_by (fun (σ : St) (H' : Hp) => ∃ i, i ≤ n ∧ σ = [some (.int s), some (.int n), some (.int (stN s i)), some (.ref r)] ∧ Same H H' ∧ H' r = some (.lst ((strm s i).map V.int))) (fun (_ : St) (H' : Hp) => match H' r with | some (.lst xs) => n - xs.length | _ => 0) ⟨0, Nat.zero_le _, by rw [stN_zero]; rfl, same_new hr' _, upd_same⟩ ?_ ?_
  · rintro σ H' ⟨i, hi, rfl, sH, hR⟩
    refine ⟨_, rfl, r, _, rfl, .inl (SqL.of hR), _, rfl, _, _, rfl, rfl, _, rfl, ?_⟩
    rw [List.length_map, strm_length]
    refine ite2 (fun c => ?_) (fun c => ?_)
    · have c' : (i : Int) < (n : Int) := of_decide_eq_true c
      refine ⟨_, rfl, _, rfl, ?_⟩
      rw [← stN_succ]
      refine ⟨_, rfl, .inl ⟨rfl, _, SqL.of hR⟩, ?_⟩
      refine ⟨_, rfl, _, _, rfl, rfl, _, rfl, ?_⟩
      have fin : ∀ v : Int, v = btO (stN s (i + 1)) → ∃ l xs y, V.ref r = V.ref l ∧ [V.int v] = [y] ∧ H' l = some (.lst xs) ∧ xs.length < sizeLine ∧
          (fun (σ' : St) (H'' : Hp) => (∃ i, i ≤ n ∧ σ' = [some (.int s), some (.int n), some (.int (stN s i)), some (.ref r)] ∧ Same H H'' ∧ H'' r = some (.lst ((strm s i).map V.int))) ∧
            (match H'' r with | some (.lst xs) => n - xs.length | _ => 0) < (match H' r with | some (.lst xs) => n - xs.length | _ => 0)) [some (.int s), some (.int n), some (.int (stN s (i + 1))), some (.ref r)] (upd H' l (.lst (xs ++ [y]))) := by
        rintro v rfl
        refine ⟨r, _, _, rfl, rfl, hR, by rw [List.length_map, strm_length]; exact smallL (by omega), ⟨i + 1, by omega, rfl, fun b o e => ?_, ?_⟩, ?_⟩
        · rw [upd_ne (ne_of_none e hr')]
          exact sH b o e
        · rw [upd_same, strm_succ, List.map_append]
          rfl
        · rw [upd_same, hR]
          simp only [List.length_append, List.length_map, strm_length, List.length_singleton]
          omega
      refine ite2 (fun c2 => ?_) (fun c2 => ?_)
      · exact fin 1 (by unfold btO; rw [if_pos (of_decide_eq_true c2)])
      · exact fin 0 (by unfold btO; rw [if_neg (of_decide_eq_false (Bool.eq_false_iff.mpr c2))])
    · have c' : ¬ (i : Int) < (n : Int) := of_decide_eq_false (Bool.eq_false_iff.mpr c)
      have e : i = n := by omega
      subst e
      refine ⟨_, rfl, r, _, rfl, .inl ⟨SqL.of hR, fun l fl => ?_⟩⟩
      exact q l _ (sH.trans (same_new fl _)) upd_same
  · rintro σ H' Q1 Q2 hQ ⟨x, e1, p, ys, e2, h1, y, e3, i, j, e4, e5, k, e6, h2⟩
    exact ⟨x, e1, p, ys, e2, h1, y, e3, i, j, e4, e5, k, e6, hQ _ _ h2⟩
end
theorem strm_bits (sd : Int) (n : Nat) : ∃ bl : List Nat, (strm sd n).map V.int = vbits bl := by
  refine ⟨(strm sd n).map Int.toNat, ?_⟩
  rw [vbits, List.map_map]
  refine List.map_congr_left fun x hx => ?_
  obtain ⟨i, _, rfl⟩ := List.mem_map.mp hx
  show V.int _ = V.int ((Int.toNat (btO _) : Nat) : Int)
  unfold btO
  split <;> rfl
theorem n_bst : ¬ (("bits" : Str) = "steps") := by decide +kernel
noncomputable def df (b st : Addr) : List (Str × V) := putF "steps" (.ref st) (putF "bits" (.ref b) [])
theorem df_eq (b st : Addr) : df b st = ([("bits", V.ref b), ("steps", V.ref st)] : List (Str × V)) := by
  show (if ("bits" : Str) = "steps" then [(("bits" : Str), V.ref st)] else (("bits" : Str), V.ref b) :: putF "steps" (V.ref st) []) = ([("bits", V.ref b), ("steps", V.ref st)] : List (Str × V))
  rw [if_neg n_bst]
  all_goals rfl
theorem df_bits (b st : Addr) : (df b st).lookup ("bits" : Str) = some (.ref b) := by
  unfold df
  rw [lookup_putF, if_neg n_bst, lookup_putF, if_pos rfl]
theorem df_steps (b st : Addr) : (df b st).lookup ("steps" : Str) = some (.ref st) := by
  unfold df
  rw [lookup_putF, if_pos rfl]
theorem df_no (b st : Addr) {m : Str} (h1 : ¬ m = "steps") (h2 : ¬ m = "bits") : (df b st).lookup m = none := by
  unfold df
  rw [lookup_putF, if_neg h1, lookup_putF, if_neg h2]
  all_goals rfl
structure TxtD (K : PySem.W.Frag) (mg : Str → Option Value) (C fI fE fP fS fC fN fH fU fB : Addr) (dI dE dP dS dC dN dH dU dB : FuncData) : Prop where
  cl : Cls K C
  nB : NoAttr K C "bits"
  nS : NoAttr K C "steps"
  mgC : mg "Drawer" = some (.ref C)
  made : Mk K C fI
  m_even : Meth K C "even" fE
  m_pick : Meth K C "pick" fP
  m_shuffled : Meth K C "shuffled" fS
  m_choice : Meth K C "choice" fC
  m_noted : Meth K C "noted" fN
  m_history : Meth K C "history" fH
  m_used : Meth K C "used" fU
  m_back : Meth K C "back" fB
  b_init : Binds K dI p_Drawer___init__ []
  b_even : Binds K dE p_Drawer_even []
  b_pick : Binds K dP p_Drawer_pick []
  b_shuffled : Binds K dS p_Drawer_shuffled []
  b_choice : Binds K dC p_Drawer_choice []
  b_noted : Binds K dN p_Drawer_noted []
  b_history : Binds K dH p_Drawer_history []
  b_used : Binds K dU p_Drawer_used []
  b_back : Binds K dB p_Drawer_back []
structure DAt (C CD : Addr) (H : Hp) (d dd b dx r st : Addr) (bl : List Nat) (z : Nat) (as : List Addr) (sp : List (Nat × V)) : Prop where
  obj : H d = some (.ins CD dd (df b st))
  bits : At C H b dx r bl z
  lst : H st = some (.lst (as.map V.ref))
  len : as.length = sp.length
  short : sp.length ≤ 1000
  each : ∀ (j : Nat) (a : Addr) (s : Nat × V), as[j]? = some a → sp[j]? = some s → H a = some (.tup [.int (s.1 : Int), s.2])
noncomputable def spUsedD (C CD : Addr) : Sp := fun vs H Q _ => ∃ (d dd b dx r st : Addr) (bl : List Nat) (z : Nat) (as : List Addr) (sp : List (Nat × V)), vs = [.ref d] ∧ DAt C CD H d dd b dx r st bl z as sp ∧ Q (.int (z : Int)) H
noncomputable def spNoted (C CD : Addr) : Sp := fun vs H Q _ => ∃ (d dd b dx r st : Addr) (bl : List Nat) (z u : Nat) (v : V) (as : List Addr) (sp : List (Nat × V)), vs = [.ref d, .int (u : Int), v] ∧ DAt C CD H d dd b dx r st bl z as sp ∧ sp.length < 1000 ∧
  ∀ p H', (∀ c o, c ≠ st → H c = some o → H' c = some o) → H p = none → DAt C CD H' d dd b dx r st bl z (as ++ [p]) (sp ++ [(u, v)]) → Q v H'
noncomputable def spDM {α : Type} (C CD CN : Addr) (Sh : Hp → V → α → Prop) (F : α → List Nat → Option (V × Nat)) : Sp := fun vs H Q E => ∃ (d dd b dx r st : Addr) (bl : List Nat) (z : Nat) (as : List Addr) (sp : List (Nat × V)) (x : V) (a : α), vs = [.ref d, x] ∧ DAt C CD H d dd b dx r st bl z as sp ∧ sp.length < 1000 ∧ Sh H x a ∧
  (∀ v u p H', F a (bl.drop z) = some (v, u) → (∀ c o, c ≠ b → c ≠ st → H c = some o → H' c = some o) → DAt C CD H' d dd b dx r st bl (z + u) (as ++ [p]) (sp ++ [(z, v)]) → Q v H') ∧
  (∀ H', F a (bl.drop z) = none → Grow b H H' → DAt C CD H' d dd b dx r st bl z as sp → E (.ref CN) none H')
noncomputable def spShD (C CD CN : Addr) : Sp := fun vs H Q E => ∃ (d dd b dx r st : Addr) (bl : List Nat) (z : Nat) (as : List Addr) (sp : List (Nat × V)) (x : Addr) (xs : List Int), vs = [.ref d, .ref x] ∧ DAt C CD H d dd b dx r st bl z as sp ∧ sp.length < 1000 ∧ H x = some (.tup (vis xs)) ∧ xs.length ≤ 100 ∧
  (∀ ys u t p H', shP xs (bl.drop z) = some (ys, u) → (∀ c o, c ≠ b → c ≠ st → H c = some o → H' c = some o) → DAt C CD H' d dd b dx r st bl (z + u) (as ++ [p]) (sp ++ [(z, .ref t)]) → H' t = some (.tup (vis ys)) → Q (.ref t) H') ∧
  (∀ H', shP xs (bl.drop z) = none → Grow b H H' → DAt C CD H' d dd b dx r st bl z as sp → E (.ref CN) none H')
noncomputable def spChD (C CD CN CP : Addr) : Sp := fun vs H Q E => ∃ (d dd b dx r st : Addr) (bl : List Nat) (z : Nat) (as : List Addr) (sp : List (Nat × V)) (n : Nat) (k : Int), vs = [.ref d, .int (n : Int), .int k] ∧ DAt C CD H d dd b dx r st bl z as sp ∧ sp.length < 1000 ∧ n ≤ 60 ∧
  (∀ p u os t p2 H', 0 < wyI (n : Int) k → evF (wyI (n : Int) k) (bl.drop z) = some (p, u) → (chL n k.toNat 0)[p]? = some os → (∀ c o, c ≠ b → c ≠ st → H c = some o → H' c = some o) → DAt C CD H' d dd b dx r st bl (z + u) (as ++ [p2]) (sp ++ [(z, .ref t)]) → H' t = some (.tup (vnats os)) → Q (.ref t) H') ∧
  (∀ H', 0 < wyI (n : Int) k → evF (wyI (n : Int) k) (bl.drop z) = none → Grow b H H' → DAt C CD H' d dd b dx r st bl z as sp → E (.ref CN) none H') ∧ (wyI (n : Int) k = 0 → E (.ref CP) none H)
noncomputable def spBackD (C CD CS : Addr) : Sp := fun vs H Q E => ∃ (d dd b dx r st : Addr) (bl : List Nat) (z : Nat) (as : List Addr) (sp : List (Nat × V)), vs = [.ref d] ∧ DAt C CD H d dd b dx r st bl z as sp ∧ (∀ x ∈ sp, x.1 ≤ z) ∧
  (∀ as' sp' a s H', as = as' ++ [a] → sp = sp' ++ [s] → (∀ c o, c ≠ b → c ≠ st → H c = some o → H' c = some o) → DAt C CD H' d dd b dx r st bl s.1 as' sp' → Q s.2 H') ∧
  (sp = [] → E (.ref CS) none H)
noncomputable def spHist (C CD : Addr) : Sp := fun vs H Q _ => ∃ (d dd b dx r st : Addr) (bl : List Nat) (z : Nat) (as : List Addr) (sp : List (Nat × V)), vs = [.ref d] ∧ DAt C CD H d dd b dx r st bl z as sp ∧ ∀ p H', Same H H' → H' p = some (.tup (sp.map (·.2))) → Q (.ref p) H'
noncomputable def spInitD (C CD : Addr) : Sp := fun vs H Q _ => ∃ (d dd : Addr) (sd : Int) (n : Nat), vs = [.ref d, .int sd, .int (n : Int)] ∧ H d = some (.ins CD dd []) ∧ n ≤ 1000 ∧
  ∀ b dx r st bl H', (strm sd n).map V.int = vbits bl → (∀ c o, c ≠ d → H c = some o → H' c = some o) → H b = none → H st = none → DAt C CD H' d dd b dx r st bl 0 [] [] → Q .non H'
theorem DAt.same {C CD : Addr} {H H' : Hp} {d dd b dx r st : Addr} {bl : List Nat} {z : Nat} {as : List Addr} {sp : List (Nat × V)} (h : DAt C CD H d dd b dx r st bl z as sp) (s : Same H H') : DAt C CD H' d dd b dx r st bl z as sp :=
  ⟨s _ _ h.obj, h.bits.same s, s _ _ h.lst, h.len, h.short, fun j a x e1 e2 => s _ _ (h.each j a x e1 e2)⟩
theorem DAt.db {C CD : Addr} {H : Hp} {d dd b dx r st : Addr} {bl : List Nat} {z : Nat} {as : List Addr} {sp : List (Nat × V)} (h : DAt C CD H d dd b dx r st bl z as sp) : d ≠ b := fun y => by
  have h1 := h.obj
  rw [y, h.bits.obj] at h1
  injection h1 with h1
  injection h1 with _ _ h1
  rw [flds_eq, df_eq] at h1
  injection h1 with h1 h2
  injection h2 with h2 _
  injection h2 with _ h2
  cases h2
theorem DAt.sb {C CD : Addr} {H : Hp} {d dd b dx r st : Addr} {bl : List Nat} {z : Nat} {as : List Addr} {sp : List (Nat × V)} (h : DAt C CD H d dd b dx r st bl z as sp) : st ≠ b := fun y => by
  have h1 := h.lst
  rw [y, h.bits.obj] at h1
  cases h1
theorem DAt.drawn {C CD : Addr} {H H' : Hp} {d dd b dx r st : Addr} {bl : List Nat} {z z' : Nat} {as : List Addr} {sp : List (Nat × V)} (h : DAt C CD H d dd b dx r st bl z as sp) (g : Grow b H H') (a : At C H' b dx r bl z') : DAt C CD H' d dd b dx r st bl z' as sp :=
  ⟨g _ _ h.db h.obj, a, g _ _ h.sb h.lst, h.len, h.short, fun j c x e1 e2 => g _ _ (fun y => by have := h.each j c x e1 e2; rw [y, h.bits.obj] at this; cases this) (h.each j c x e1 e2)⟩
section
variable {P : Program} {w : World} {K : PySem.W.Frag} {mg : Str → Option Value} {base : Heap} {f C CD fI fT fU fL fG gI gE gP gS gC gN gH gU gB CN : Addr} {fd dI dT dU dL dG jI jE jP jS jC jN jH jU jB : FuncData}
theorem ok_usedD (F_Drawer_used : Fun K "used" "Drawer.used" s_Drawer_used f fd) (T : Txt K mg C fI fT fU fL fG dI dT dU dL dG) (TD : TxtD K mg CD gI gE gP gS gC gN gH gU gB jI jE jP jS jC jN jH jU jB) (g_used : FnOk P w K mg base CX0 1 fU dU p_Bits_used (spUsed C)) : FnOk P w K mg base CX0 2 f fd p_Drawer_used (spUsedD C CD) := by
  refine F_Drawer_used.ok sc_Drawer_used (fun vs H Q E h => ?_) (fun cdv A outer s H vs Q E hr h => ?_)
  · obtain ⟨d, dd, b, dx, r, st, bl, z, as, sp, rfl, _⟩ := h
    rfl
  obtain ⟨d, dd, b, dx, r, st, bl, z, as, sp, rfl, hD, q⟩ := h
  refine ⟨_, (pss_one (ps_ret (pe_meth0 (pe_fld (pv 0) rfl) T.cl T.m_used g_used (hr.mono (by first | decide | omega)) T.b_used .nil pass0))), ?_⟩
  exact ⟨_, rfl, d, CD, dd, _, _, rfl, hD.obj, TD.cl, TD.nB, df_bits _ _, b, dx, _, rfl, hD.bits.obj, flds_no _ _ (by decide +kernel) (by decide +kernel), b, dx, r, z, rfl, hD.bits.obj, q⟩
theorem ok_noted (F_Drawer_noted : Fun K "noted" "Drawer.noted" s_Drawer_noted f fd) (TD : TxtD K mg CD gI gE gP gS gC gN gH gU gB jI jE jP jS jC jN jH jU jB) : FnOk P w K mg base CX0 1 f fd p_Drawer_noted (spNoted C CD) := by
  refine F_Drawer_noted.ok sc_Drawer_noted (fun vs H Q E h => ?_) (fun cdv A outer s H vs Q E hr h => ?_)
  · obtain ⟨d, dd, b, dx, r, st, bl, z, u, v, as, sp, rfl, _⟩ := h
    rfl
  obtain ⟨d, dd, b, dx, r, st, bl, z, u, v, as, sp, rfl, hD, hl, q⟩ := h
  refine ⟨_, (pss_cons (ps_expr (pe_bm PySem.F.plainAttrs_list PySem.F.slot_list_append PySem.F.type_list_append mt_append (pe_fld (pv 0) rfl) (pa_cons (pe_tup (pa_cons (pv 1) (pa_cons (pv 2) pa_nil))) pa_nil)))
      (pss_one (ps_ret (pv 2)))), ?_⟩
  refine ⟨_, rfl, d, CD, dd, _, _, rfl, hD.obj, TD.cl, TD.nS, df_steps _ _, .inl ⟨rfl, _, SqL.of hD.lst⟩, _, rfl, _, rfl, (by show 2 ≤ sizeLine; decide), fun p fp => ?_⟩
  have y1 := same_new fp (.tup [V.int (u : Int), v])
  have w1 : upd H p (.tup [V.int (u : Int), v]) p = some (.tup [V.int (u : Int), v]) := upd_same
  generalize upd H p (.tup [V.int (u : Int), v]) = H1 at y1 w1 ⊢
  have hD1 := hD.same y1
  refine ⟨st, _, _, rfl, rfl, hD1.lst, ?_, _, rfl, q p _ (fun c o n e => (upd_ne n).trans (y1 _ _ e)) fp ?_⟩
  · rw [List.length_map, hD.len]
    exact smallL (by omega)
  have up : ∀ {c o}, c ≠ st → H1 c = some o → upd H1 st (.lst (as.map V.ref ++ [V.ref p])) c = some o := fun n e => (upd_ne n).trans e
  have ds : d ≠ st := fun y => by have := hD1.obj; rw [y, hD1.lst] at this; cases this
  have ts : ∀ {c xs}, H1 c = some (.tup xs) → c ≠ st := fun {c xs} e y => by rw [y, hD1.lst] at e; cases e
  refine ⟨up ds hD1.obj, ⟨up (Ne.symm hD1.sb) hD1.bits.obj, up (ts hD1.bits.row) hD1.bits.row, hD1.bits.le⟩, ?_, ?_, ?_, fun j c x e1 e2 => ?_⟩
  · rw [upd_same, List.map_append]
    rfl
  · rw [List.length_append, List.length_append, hD.len]
    rfl
  · rw [List.length_append]
    exact hl
  · by_cases cj : j < as.length
    · rw [List.getElem?_append_left cj] at e1
      rw [List.getElem?_append_left (by rw [← hD.len]; exact cj)] at e2
      have := hD1.each j c x e1 e2
      exact up (ts this) this
    · have hj : j = as.length := by
        have := (List.getElem?_eq_some_iff.mp e1).1
        rw [List.length_append] at this
        have : j < as.length + 1 := this
        omega
      subst hj
      rw [List.getElem?_append_right (Nat.le_refl _), Nat.sub_self] at e1
      rw [hD.len, List.getElem?_append_right (Nat.le_refl _), Nat.sub_self] at e2
      cases e1
      cases e2
      exact up (ts w1) w1
theorem ok_evenD (F_Drawer_even : Fun K "even" "Drawer.even" s_Drawer_even f fd) (TD : TxtD K mg CD gI gE gP gS gC gN gH gU gB jI jE jP jS jC jN jH jU jB) (gD_used : FnOk P w K mg base CX0 2 gU jU p_Drawer_used (spUsedD C CD)) (gD_noted : FnOk P w K mg base CX0 1 gN jN p_Drawer_noted (spNoted C CD)) {fE : Addr} {dE : FuncData} (g_even : FnX P w K mg base "even_evens" fE dE p_even 6 (spDone C CN ShN evV)) : FnOk P w K mg base (CXR P w) 10 f fd p_Drawer_even (spDM C CD CN ShN evV) := by
  refine F_Drawer_even.okX sc_Drawer_even (fun vs H Q E h => ?_) (fun cdv A outer s H vs Q E hr h => ?_)
  · obtain ⟨d, dd, b, dx, r, st, bl, z, as, sp, x, a, rfl, _⟩ := h
    rfl
  obtain ⟨d, dd, b, dx, r, st, bl, z, as, sp, x, a, rfl, hD, hl, hSh, q, e⟩ := h
  refine ⟨_, (pss_one (ps_ret (pe_meth (pv 0) TD.cl TD.m_noted gD_noted (hr.mono (by first | decide | omega)) TD.b_noted .nil pass0 (pa_cons (pe_meth0 (pv 0) TD.cl TD.m_used gD_used (hr.mono (by first | decide | omega)) TD.b_used .nil pass0) (pa_cons (pe_fnX g_even hr (pa_cons (pe_fld (pv 0) rfl) (pa_cons (pv 1) pa_nil))) pa_nil))))), ?_⟩
  refine ⟨_, rfl, d, dd, _, rfl, hD.obj, df_no _ _ (by decide +kernel) (by decide +kernel), _, rfl, d, dd, _, rfl, hD.obj, df_no _ _ (by decide +kernel) (by decide +kernel), d, dd, b, dx, r, st, bl, z, as, sp, rfl, hD, ?_⟩
  refine ⟨_, rfl, d, CD, dd, _, _, rfl, hD.obj, TD.cl, TD.nB, df_bits _ _, _, rfl, b, dx, r, bl, z, x, a, rfl, hD.bits, hSh, fun v u H1 hv g1 a1 => ?_, fun H1 hv g1 a1 => e H1 hv g1 (hD.drawn g1 a1)⟩
  exact ⟨d, dd, b, dx, r, st, bl, z + u, z, v, as, sp, rfl, hD.drawn g1 a1, hl, fun p H2 k2 fp hD2 => q v u p H2 hv (fun c o n1 n2 e => k2 c o n2 (g1 c o n1 e)) hD2⟩
theorem ok_pickD (F_Drawer_pick : Fun K "pick" "Drawer.pick" s_Drawer_pick f fd) (TD : TxtD K mg CD gI gE gP gS gC gN gH gU gB jI jE jP jS jC jN jH jU jB) (gD_used : FnOk P w K mg base CX0 2 gU jU p_Drawer_used (spUsedD C CD)) (gD_noted : FnOk P w K mg base CX0 1 gN jN p_Drawer_noted (spNoted C CD)) {fE : Addr} {dE : FuncData} (g_pick : FnX P w K mg base "pick_plans" fE dE p_pick 6 (spDone C CN ShW pkV)) : FnOk P w K mg base (CXR P w) 10 f fd p_Drawer_pick (spDM C CD CN ShW pkV) := by
  refine F_Drawer_pick.okX sc_Drawer_pick (fun vs H Q E h => ?_) (fun cdv A outer s H vs Q E hr h => ?_)
  · obtain ⟨d, dd, b, dx, r, st, bl, z, as, sp, x, a, rfl, _⟩ := h
    rfl
  obtain ⟨d, dd, b, dx, r, st, bl, z, as, sp, x, a, rfl, hD, hl, hSh, q, e⟩ := h
  refine ⟨_, (pss_one (ps_ret (pe_meth (pv 0) TD.cl TD.m_noted gD_noted (hr.mono (by first | decide | omega)) TD.b_noted .nil pass0 (pa_cons (pe_meth0 (pv 0) TD.cl TD.m_used gD_used (hr.mono (by first | decide | omega)) TD.b_used .nil pass0) (pa_cons (pe_fnX g_pick hr (pa_cons (pe_fld (pv 0) rfl) (pa_cons (pv 1) pa_nil))) pa_nil))))), ?_⟩
  refine ⟨_, rfl, d, dd, _, rfl, hD.obj, df_no _ _ (by decide +kernel) (by decide +kernel), _, rfl, d, dd, _, rfl, hD.obj, df_no _ _ (by decide +kernel) (by decide +kernel), d, dd, b, dx, r, st, bl, z, as, sp, rfl, hD, ?_⟩
  refine ⟨_, rfl, d, CD, dd, _, _, rfl, hD.obj, TD.cl, TD.nB, df_bits _ _, _, rfl, b, dx, r, bl, z, x, a, rfl, hD.bits, hSh, fun v u H1 hv g1 a1 => ?_, fun H1 hv g1 a1 => e H1 hv g1 (hD.drawn g1 a1)⟩
  exact ⟨d, dd, b, dx, r, st, bl, z + u, z, v, as, sp, rfl, hD.drawn g1 a1, hl, fun p H2 k2 fp hD2 => q v u p H2 hv (fun c o n1 n2 e => k2 c o n2 (g1 c o n1 e)) hD2⟩
theorem ok_shuffledD (F_Drawer_shuffled : Fun K "shuffled" "Drawer.shuffled" s_Drawer_shuffled f fd) (TD : TxtD K mg CD gI gE gP gS gC gN gH gU gB jI jE jP jS jC jN jH jU jB) (gD_used : FnOk P w K mg base CX0 2 gU jU p_Drawer_used (spUsedD C CD)) (gD_noted : FnOk P w K mg base CX0 1 gN jN p_Drawer_noted (spNoted C CD)) {fE : Addr} {dE : FuncData} (g_shuffled : FnX P w K mg base "shuffled_orders" fE dE p_shuffled 10 (spSh C CN)) : FnOk P w K mg base (CXR P w) 11 f fd p_Drawer_shuffled (spShD C CD CN) := by
  refine F_Drawer_shuffled.okX sc_Drawer_shuffled (fun vs H Q E h => ?_) (fun cdv A outer s H vs Q E hr h => ?_)
  · obtain ⟨d, dd, b, dx, r, st, bl, z, as, sp, x, xs, rfl, _⟩ := h
    rfl
  obtain ⟨d, dd, b, dx, r, st, bl, z, as, sp, x, xs, rfl, hD, hl, hx, hxl, q, e⟩ := h
  refine ⟨_, (pss_one (ps_ret (pe_meth (pv 0) TD.cl TD.m_noted gD_noted (hr.mono (by first | decide | omega)) TD.b_noted .nil pass0 (pa_cons (pe_meth0 (pv 0) TD.cl TD.m_used gD_used (hr.mono (by first | decide | omega)) TD.b_used .nil pass0) (pa_cons (pe_fnX g_shuffled hr (pa_cons (pe_fld (pv 0) rfl) (pa_cons (pv 1) pa_nil))) pa_nil))))), ?_⟩
  refine ⟨_, rfl, d, dd, _, rfl, hD.obj, df_no _ _ (by decide +kernel) (by decide +kernel), _, rfl, d, dd, _, rfl, hD.obj, df_no _ _ (by decide +kernel) (by decide +kernel), d, dd, b, dx, r, st, bl, z, as, sp, rfl, hD, ?_⟩
  refine ⟨_, rfl, d, CD, dd, _, _, rfl, hD.obj, TD.cl, TD.nB, df_bits _ _, _, rfl, b, dx, r, x, bl, z, xs, rfl, hD.bits, hx, hxl, fun ys u p H1 hv g1 a1 hp => ?_, fun H1 hv g1 a1 => e H1 hv g1 (hD.drawn g1 a1)⟩
  have hD1 := hD.drawn g1 a1
  exact ⟨d, dd, b, dx, r, st, bl, z + u, z, .ref p, as, sp, rfl, hD1, hl, fun p2 H2 k2 fp hD2 => q ys u p p2 H2 hv (fun c o n1 n2 e => k2 c o n2 (g1 c o n1 e)) hD2 (k2 _ _ (fun y => by rw [y, hD1.lst] at hp; cases hp) hp)⟩
theorem ok_choiceD (F_Drawer_choice : Fun K "choice" "Drawer.choice" s_Drawer_choice f fd) (TD : TxtD K mg CD gI gE gP gS gC gN gH gU gB jI jE jP jS jC jN jH jU jB) (gD_used : FnOk P w K mg base CX0 2 gU jU p_Drawer_used (spUsedD C CD)) (gD_noted : FnOk P w K mg base CX0 1 gN jN p_Drawer_noted (spNoted C CD)) {fE CP : Addr} {dE : FuncData} (g_choice : FnX P w K mg base "choice_orders" fE dE p_choice 7 (spCh C CN CP)) : FnOk P w K mg base (CXR P w) 11 f fd p_Drawer_choice (spChD C CD CN CP) := by
  refine F_Drawer_choice.okX sc_Drawer_choice (fun vs H Q E h => ?_) (fun cdv A outer s H vs Q E hr h => ?_)
  · obtain ⟨d, dd, b, dx, r, st, bl, z, as, sp, n, k, rfl, _⟩ := h
    rfl
  obtain ⟨d, dd, b, dx, r, st, bl, z, as, sp, n, k, rfl, hD, hl, hn, q, e, e2⟩ := h
  refine ⟨_, (pss_one (ps_ret (pe_meth (pv 0) TD.cl TD.m_noted gD_noted (hr.mono (by first | decide | omega)) TD.b_noted .nil pass0 (pa_cons (pe_meth0 (pv 0) TD.cl TD.m_used gD_used (hr.mono (by first | decide | omega)) TD.b_used .nil pass0) (pa_cons (pe_fnX g_choice hr (pa_cons (pe_fld (pv 0) rfl) (pa_cons (pv 1) (pa_cons (pv 2) pa_nil)))) pa_nil))))), ?_⟩
  refine ⟨_, rfl, d, dd, _, rfl, hD.obj, df_no _ _ (by decide +kernel) (by decide +kernel), _, rfl, d, dd, _, rfl, hD.obj, df_no _ _ (by decide +kernel) (by decide +kernel), d, dd, b, dx, r, st, bl, z, as, sp, rfl, hD, ?_⟩
  refine ⟨_, rfl, d, CD, dd, _, _, rfl, hD.obj, TD.cl, TD.nB, df_bits _ _, _, rfl, _, rfl, b, dx, r, bl, z, n, k, rfl, hD.bits, hn, fun p u os t H1 h0 hv ho g1 a1 ht => ?_, fun H1 h0 hv g1 a1 => e H1 h0 hv g1 (hD.drawn g1 a1), fun h0 => e2 h0⟩
  have hD1 := hD.drawn g1 a1
  exact ⟨d, dd, b, dx, r, st, bl, z + u, z, .ref t, as, sp, rfl, hD1, hl, fun p2 H2 k2 fp hD2 => q p u os t p2 H2 h0 hv ho (fun c o n1 n2 e => k2 c o n2 (g1 c o n1 e)) hD2 (k2 _ _ (fun y => by rw [y, hD1.lst] at ht; cases ht) ht)⟩
theorem ok_back (F_Drawer_back : Fun K "back" "Drawer.back" s_Drawer_back f fd) (B : Bl mg) (T : Txt K mg C fI fT fU fL fG dI dT dU dL dG) (TD : TxtD K mg CD gI gE gP gS gC gN gH gU gB jI jE jP jS jC jN jH jU jB) {CS CP : Addr} {mS : List Value} (X_NoStep : Exc K mg "NoStep" CS mS) (g_go_back : FnOk P w K mg base (CXR P w) 1 fG dG p_Bits_go_back (spBack C CP)) : FnOk P w K mg base (CXR P w) 2 f fd p_Drawer_back (spBackD C CD CS) := by
  refine F_Drawer_back.okX sc_Drawer_back (fun vs H Q E h => ?_) (fun cdv A outer s H vs Q E hr h => ?_)
  · obtain ⟨d, dd, b, dx, r, st, bl, z, as, sp, rfl, _⟩ := h
    rfl
  obtain ⟨d, dd, b, dx, r, st, bl, z, as, sp, rfl, hD, hz, q, e⟩ := h
  refine ⟨_, (pss_cons (ps_if (pt_cmpR op_eq (pe_callB call_len_seq rfl B.len_ L3.bt_len (pa_cons (pe_fld (pv 0) rfl) pa_nil)) pe_int (nomark _)) (pss_one (ps_raise X_NoStep (pa_cons pe_str pa_nil))) pss_nil)
      (pss_cons (ps_set (i := 1) sc_Drawer_back.nd rfl (Or.inl rfl) (pe_bm0 PySem.F.plainAttrs_list PySem.F.slot_list_pop PySem.F.type_list_pop mt_pop (pe_fld (pv 0) rfl)))
      (pss_cons (ps_expr (pe_meth (pe_fld (pv 0) rfl) T.cl T.m_go_back g_go_back (hr.mono (by first | decide | omega)) T.b_go_back .nil cx_pass (pa_cons (pe_ix ix_tup (pv 1) pe_int (fun _ _ => rfl)) pa_nil)))
      (pss_one (ps_ret (pe_ix ix_tup (pv 1) pe_int (fun _ _ => rfl))))))), ?_⟩
  refine ⟨_, rfl, d, CD, dd, _, _, rfl, hD.obj, TD.cl, TD.nS, df_steps _ _, st, _, rfl, .inl (SqL.of hD.lst), rfl, _, rfl, ite2 (fun c => ?_) (fun c => ?_)⟩
  · have c' : V.int ((as.map V.ref).length : Int) = V.int 0 := of_decide_eq_true c
    refine ⟨(by show 1 ≤ sizeLine; decide), e ?_⟩
    injection c' with c'
    rw [List.length_map, hD.len] at c'
    exact List.eq_nil_of_length_eq_zero (by omega)
  have c' : ¬ V.int ((as.map V.ref).length : Int) = V.int 0 := of_decide_eq_false (Bool.eq_false_iff.mpr c)
  have hne : sp ≠ [] := fun z => c' (by rw [List.length_map, hD.len, z]; rfl)
  obtain ⟨sp', s0, rfl⟩ : ∃ sp' s0, sp = sp' ++ [s0] := ⟨sp.dropLast, sp.getLast hne, (List.dropLast_concat_getLast hne).symm⟩
  have hal := hD.len
  rw [List.length_append] at hal
  have hane : as ≠ [] := fun z => by rw [z] at hal; simp at hal
  obtain ⟨as', a0, rfl⟩ : ∃ as' a0, as = as' ++ [a0] := ⟨as.dropLast, as.getLast hane, (List.dropLast_concat_getLast hane).symm⟩
  have hal2 : as'.length = sp'.length := by
    rw [List.length_append] at hal
    have : as'.length + 1 = sp'.length + 1 := hal
    omega
  have ha0 : H a0 = some (.tup [.int (s0.1 : Int), s0.2]) := hD.each as'.length a0 s0 (by rw [List.getElem?_append_right (Nat.le_refl _), Nat.sub_self]; rfl) (by rw [hal2, List.getElem?_append_right (Nat.le_refl _), Nat.sub_self]; rfl)
  -- pop
  have hlast : ((as' ++ [a0]).map V.ref)[((as' ++ [a0]).map V.ref).length - 1]? = some (.ref a0) := by
    rw [List.map_append, List.length_append, List.length_map]
    show (as'.map V.ref ++ [V.ref a0])[as'.length + 1 - 1]? = _
    rw [Nat.add_sub_cancel, List.getElem?_append_right (by rw [List.length_map]; exact Nat.le_refl _), List.length_map, Nat.sub_self]
    rfl
  refine ⟨_, rfl, d, CD, dd, _, _, rfl, hD.obj, TD.cl, TD.nS, df_steps _ _, .inl ⟨rfl, _, SqL.of hD.lst⟩, st, _, _, rfl, rfl, hD.lst, hlast, ?_⟩
  rw [List.map_append, show (as'.map V.ref ++ [a0].map V.ref).dropLast = as'.map V.ref from List.dropLast_concat]
  have ds : d ≠ st := fun y => by have := hD.obj; rw [y, hD.lst] at this; cases this
  have ts : ∀ {c xs}, H c = some (.tup xs) → c ≠ st := fun {c xs} e y => by rw [y, hD.lst] at e; cases e
  have up : ∀ {c o}, c ≠ st → H c = some o → upd H st (.lst (as'.map V.ref)) c = some o := fun n e => (upd_ne n).trans e
  have hb := up (Ne.symm hD.sb) hD.bits.obj
  have hd1 := up ds hD.obj
  have hr1 := up (ts hD.bits.row) hD.bits.row
  have hl1 : upd H st (.lst (as'.map V.ref)) st = some (.lst (as'.map V.ref)) := upd_same
  have ha1 := up (ts ha0) ha0
  have he1 : ∀ (j : Nat) (a : Addr) (x : Nat × V), as'[j]? = some a → sp'[j]? = some x → upd H st (.lst (as'.map V.ref)) a = some (.tup [.int (x.1 : Int), x.2]) := fun j a x e1 e2 => by
    have h1 := hD.each j a x (by rw [List.getElem?_append_left (List.getElem?_eq_some_iff.mp e1).1]; exact e1) (by rw [List.getElem?_append_left (List.getElem?_eq_some_iff.mp e2).1]; exact e2)
    exact up (ts h1) h1
  have k1 : ∀ c o, c ≠ st → H c = some o → upd H st (.lst (as'.map V.ref)) c = some o := fun c o n e => up n e
  generalize upd H st (.lst (as'.map V.ref)) = H1 at hb hd1 hr1 hl1 ha1 he1 k1 ⊢
  have hs0 : s0.1 ≤ z := hz s0 (List.mem_append_right _ List.mem_cons_self)
  refine ⟨_, rfl, d, CD, dd, _, _, rfl, hd1, TD.cl, TD.nB, df_bits _ _, b, dx, _, rfl, hb, flds_no _ _ (by decide +kernel) (by decide +kernel), _, rfl, a0, _, _, _, rfl, rfl, SqT.of ha1, rfl, ?_⟩
  refine ⟨b, dx, r, z, (s0.1 : Int), rfl, hb, fun _ => ?_, fun hn => absurd ⟨by omega, by omega⟩ hn⟩
  have up2 : ∀ {c o}, c ≠ b → H1 c = some o → upd H1 b (.ins C dx (flds r (s0.1 : Int))) c = some o := fun n e => (upd_ne n).trans e
  have tb : ∀ {c xs}, H1 c = some (.tup xs) → c ≠ b := fun {c xs} e y => by rw [y, hb] at e; cases e
  refine ⟨_, rfl, a0, _, _, _, rfl, rfl, SqT.of (up2 (tb ha1) ha1), rfl, ?_⟩
  refine q as' sp' a0 s0 _ rfl rfl (fun c o n1 n2 e => up2 n1 (k1 c o n2 e)) ⟨up2 hD.db hd1, ⟨upd_same, up2 (tb hr1) hr1, Nat.le_trans hs0 hD.bits.le⟩, up2 hD.sb hl1, hal2, ?_, fun j c x e1 e2 => up2 (tb (he1 j c x e1 e2)) (he1 j c x e1 e2)⟩
  have := hD.short
  rw [List.length_append] at this
  omega
theorem ok_history (F_Drawer_history : Fun K "history" "Drawer.history" s_Drawer_history f fd) (B : Bl mg) (TD : TxtD K mg CD gI gE gP gS gC gN gH gU gB jI jE jP jS jC jN jH jU jB) : FnOk P w K mg base CX0 1 f fd p_Drawer_history (spHist C CD) := by
  refine F_Drawer_history.ok sc_Drawer_history (fun vs H Q E h => ?_) (fun cdv A outer s H vs Q E hr h => ?_)
  · obtain ⟨d, dd, b, dx, r, st, bl, z, as, sp, rfl, _⟩ := h
    rfl
  obtain ⟨d, dd, b, dx, r, st, bl, z, as, sp, rfl, hD, q⟩ := h
  refine ⟨_, (pss_one (ps_ret (pe_callTy call_tuple_of rfl B.tuple_ L3.bt_tuple (pa_cons (pe_comp [] ["self", "used_ahead", "thing"] 2 rfl (pi_list (pe_fld (pv 0) rfl)) (fun _ _ _ _ _ => (pg_tupK K 2 rfl (pgs_cons (pg_name (i := 1) nd_5 rfl (Or.inl rfl) (Or.inr rfl)) (pgs_cons (pg_name (i := 2) nd_5 rfl (Or.inl rfl) (Or.inr rfl)) pgs_nil)) rfl rfl rfl)) (fun _ _ _ _ _ => pif_nil) (fun _ _ _ _ _ => (pv 2))) pa_nil)))), ?_⟩
  refine ⟨_, rfl, d, CD, dd, _, _, rfl, hD.obj, TD.cl, TD.nS, df_steps _ _, st, rfl, ⟨_, SqL.of hD.lst⟩, comp_list (xs := as.map V.ref) (fun j acc σ' H' => H' = H ∧ acc = (sp.take j).map (·.2) ∧ ∃ o1 o2 : Option V, σ' = [some (.ref d), o1, o2])
    ⟨rfl, rfl, _, _, rfl⟩ ?_ (fun j acc σ' H' _ ⟨e, _⟩ => by rw [e]; exact SqL.of hD.lst) ?_ ?_⟩
  · rintro j acc σ' H' hj ⟨_, rfl, _⟩
    have := hD.short
    rw [List.length_map, List.length_take]
    omega
  · rintro j x acc σ' H' hx ⟨rfl, rfl, o1, o2, rfl⟩
    rw [List.getElem?_map] at hx
    cases ea : as[j]? with
    | none => rw [ea] at hx; cases hx
    | some a =>
      rw [ea] at hx
      obtain rfl := (Option.some.inj hx).symm
      have hj : j < sp.length := by rw [← hD.len]; exact (List.getElem?_eq_some_iff.mp ea).1
      have es : sp[j]? = some sp[j] := List.getElem?_eq_getElem hj
      have hr := hD.each j a _ ea es
      refine ⟨a, _, rfl, SqT.of hr, rfl, _, _, rfl, _, _, rfl, rfl, ?_⟩
      refine ⟨_, rfl, rfl, ?_, _, _, rfl⟩
      rw [List.take_add_one, es, List.map_append]
      rfl
  rintro acc σ' H' D ⟨rfl, rfl, o1, o2, rfl⟩ fD
  rw [List.length_map, hD.len, List.take_length]
  have yD := same_new fD (.lst (sp.map (·.2)))
  refine ⟨D, _, rfl, .inl ⟨SqL.of upd_same, fun p fp => ?_⟩⟩
  exact q p _ (yD.trans (same_new fp _)) upd_same
theorem ok_initTD (F_Drawer___init__ : Fun K "__init__" "Drawer.__init__" s_Drawer___init__ f fd) (T : Txt K mg C fI fT fU fL fG dI dT dU dL dG) (TD : TxtD K mg CD gI gE gP gS gC gN gH gU gB jI jE jP jS jC jN jH jU jB) (g_init : FnOk P w K mg base CX0 1 fI dI p_Bits___init__ (spInit C)) (g_bits_of : Fn P w K mg base "bits_of" p_bits_of 2 spBitsOf) : FnOk P w K mg base CX0 3 f fd p_Drawer___init__ (spInitD C CD) := by
  refine F_Drawer___init__.ok sc_Drawer___init__ (fun vs H Q E h => ?_) (fun cdv A outer s H vs Q E hr h => ?_)
  · obtain ⟨d, dd, sd, n, rfl, _⟩ := h
    rfl
  obtain ⟨d, dd, sd, n, rfl, hp, hn, q⟩ := h
  refine ⟨_, (pss_cons (ps_fld (pv 0) (pe_make T.made g_init (hr.mono (by first | decide | omega)) rfl T.mgC T.b_init .nil pass0 (pa_cons (pe_fn g_bits_of hr (pa_cons (pv 1) (pa_cons (pv 2) pa_nil))) pa_nil)) rfl)
      (pss_one (ps_fld (pv 0) (pe_lst pa_nil) rfl))), ?_⟩
  refine ⟨_, rfl, _, rfl, sd, n, rfl, by omega, fun rb H1 s1 h1 => fun b dx nb ndx nex => ?_⟩
  obtain ⟨bl, hbl⟩ := strm_bits sd n
  rw [hbl] at h1
  have s2 : Same H1 (upd (upd H1 dx (.own b)) b (.ins C dx [])) := fun c o y => by
    rw [upd_ne (ne_of_none y nb), upd_ne (ne_of_none y ndx)]
    exact y
  refine ⟨b, dx, rb, vbits bl, rfl, upd_same, s2 _ _ h1, fun H2 e2 kp => ⟨rfl, ?_⟩⟩
  have s3 : Same H1 H2 := fun c o y => kp c o (s2 c o y) (ne_of_none y nb)
  have hd2 := s3 _ _ (s1 _ _ hp)
  have ndb : d ≠ b := fun y => by have := s1 _ _ hp; rw [y, nb] at this; cases this
  refine ⟨_, rfl, d, CD, dd, [], rfl, hd2, TD.cl, TD.nB, (by show 0 < 1000; decide), ?_⟩
  have hd3 : upd H2 d (.ins CD dd (putF "bits" (.ref b) [])) d = some (.ins CD dd (putF "bits" (.ref b) [])) := upd_same
  have k3 : ∀ {c o}, c ≠ d → H2 c = some o → upd H2 d (.ins CD dd (putF "bits" (.ref b) [])) c = some o := fun n e => (upd_ne n).trans e
  generalize upd H2 d (.ins CD dd (putF "bits" (.ref b) [])) = H3 at hd3 k3 ⊢
  refine ⟨(by show 0 ≤ sizeLine; decide), fun st fst => ?_⟩
  have y4 := same_new fst (.lst ([] : List V))
  have w4 : upd H3 st (.lst ([] : List V)) st = some (.lst ([] : List V)) := upd_same
  generalize upd H3 st (.lst ([] : List V)) = H4 at y4 w4 ⊢
  have hd4 := y4 _ _ hd3
  refine ⟨_, rfl, d, CD, dd, _, rfl, hd4, TD.cl, TD.nS, (by show 1 < 1000; decide), ?_⟩
  have up : ∀ {c o}, c ≠ d → H4 c = some o → upd H4 d (.ins CD dd (putF "steps" (.ref st) (putF "bits" (.ref b) []))) c = some o := fun n e => (upd_ne n).trans e
  have hst : st ≠ d := fun y => by rw [y, hd4] at w4; cases w4
  have hrd : rb ≠ d := fun y => by have := s3 _ _ h1; rw [y, hd2] at this; cases this
  have fb : H b = none := by
    cases e : H b with
    | none => rfl
    | some o => have := s1 _ _ e; rw [nb] at this; cases this
  have fst' : H st = none := by
    cases e : H st with
    | none => rfl
    | some o => have := k3 hst (s3 _ _ (s1 _ _ e)); rw [fst] at this; cases this
  exact q b dx rb st bl _ hbl (fun c o n e => up n (y4 _ _ (k3 n (s3 _ _ (s1 _ _ e))))) fb fst' ⟨upd_same, ⟨up (Ne.symm ndb) (y4 _ _ (k3 (Ne.symm ndb) e2)), up hrd (y4 _ _ (k3 hrd (s3 _ _ h1))), Nat.zero_le _⟩, up hst w4, rfl, Nat.zero_le _, fun j a x e => by simp at e⟩
end
inductive Dd where
  | ev (n : Nat) | pk (ws : List Nat) | sh (n : Nat) | ch (n : Nat) (k : Int) | bk
inductive Tv where
  | nm (n : Nat) | rw (xs : List Int)
inductive An where
  | tv (t : Tv) | no (s : Str)
noncomputable def TvAt (H : Hp) (v : V) : Tv → Prop
  | .nm n => v = .int (n : Int)
  | .rw xs => ∃ t, v = .ref t ∧ H t = some (.tup (vis xs))
noncomputable def AnAt (H : Hp) (v : V) : An → Prop
  | .tv t => TvAt H v t
  | .no s => v = .str s
noncomputable def DdAt (H : Hp) (v : V) : Dd → Prop
  | .ev n => ∃ a, v = .ref a ∧ H a = some (.tup [.str "even", .int (n : Int)]) ∧ 0 < n
  | .pk ws => ∃ a x, v = .ref a ∧ H a = some (.tup [.str "pick", x]) ∧ ShW H x ws
  | .sh n => ∃ a x, v = .ref a ∧ H a = some (.tup [.str "shuffled", .ref x]) ∧ H x = some (.tup (vis (nis (List.range n)))) ∧ n ≤ 100
  | .ch n k => ∃ a, v = .ref a ∧ H a = some (.tup [.str "choice", .int (n : Int), .int k]) ∧ n ≤ 60
  | .bk => ∃ a, v = .ref a ∧ H a = some (.tup [.str "back"])
noncomputable def drP : Dd → List Nat → Option (Option (Tv × Nat))
  | .ev n, l => some ((evF n l).map fun p => (.nm p.1, p.2))
  | .pk ws, l => some ((pkF ws l).map fun p => (.nm p.1, p.2))
  | .sh n, l => some ((shP (nis (List.range n)) l).map fun p => (.rw p.1, p.2))
  | .ch n k, l => if wyI (n : Int) k = 0 then none else some ((evF (wyI (n : Int) k) l).map fun p => (.rw (nis ((chL n k.toNat 0).getD p.1 [])), p.2))
  | .bk, _ => none
noncomputable abbrev mpN (y : Option (Nat × Nat)) : Option (Option (Tv × Nat)) := some (y.map fun p => (Tv.nm p.1, p.2))
noncomputable abbrev mpR (y : Option (List Int × Nat)) : Option (Option (Tv × Nat)) := some (y.map fun p => (Tv.rw p.1, p.2))
noncomputable def drS (r : Option (Option (Tv × Nat))) (z : Nat) (tl : List (Nat × Tv)) : An × Nat × List (Nat × Tv) := match r with
  | none => (.no "NoPlace", z, tl)
  | some none => (.no "NoBits", z, tl)
  | some (some (t, u)) => (.tv t, z + u, tl ++ [(z, t)])
noncomputable def stepP (d : Dd) (bl : List Nat) (z : Nat) (tl : List (Nat × Tv)) : An × Nat × List (Nat × Tv) := match d with
  | .bk => match tl.getLast? with
    | none => (.no "NoStep", z, tl)
    | some (m, t) => (.tv t, m, tl.dropLast)
  | .ev n => drS (drP (.ev n) (bl.drop z)) z tl
  | .pk ws => drS (drP (.pk ws) (bl.drop z)) z tl
  | .sh n => drS (drP (.sh n) (bl.drop z)) z tl
  | .ch n k => drS (drP (.ch n k) (bl.drop z)) z tl
noncomputable def Rise (z : Nat) (tl : List (Nat × Tv)) : Prop := (tl.map (·.1) ++ [z]).Pairwise (· ≤ ·)
theorem Rise.le {z : Nat} {tl : List (Nat × Tv)} (h : Rise z tl) : ∀ x ∈ tl, x.1 ≤ z := fun x hx => (List.pairwise_append.mp h).2.2 _ (List.mem_map.mpr ⟨x, hx, rfl⟩) z (by simp)
theorem Rise.draw {z : Nat} {tl : List (Nat × Tv)} (h : Rise z tl) (t : Tv) (u : Nat) : Rise (z + u) (tl ++ [(z, t)]) := by
  unfold Rise at *
  rw [List.map_append]
  refine List.pairwise_append.mpr ⟨h, by simp, fun a ha b hb => ?_⟩
  obtain rfl : b = z + u := by simpa using hb
  rcases List.mem_append.mp ha with ha | ha
  · have := (List.pairwise_append.mp h).2.2 a ha z (by simp)
    omega
  · obtain rfl : a = z := by simpa using ha
    omega
theorem Rise.back {z m : Nat} {t : Tv} {tl : List (Nat × Tv)} (h : Rise z (tl ++ [(m, t)])) : Rise m tl := by
  unfold Rise at *
  rw [List.map_append] at h
  exact (List.pairwise_append.mp h).1
theorem Rise.step {d : Dd} {bl : List Nat} {z : Nat} {tl : List (Nat × Tv)} (h : Rise z tl) : Rise (stepP d bl z tl).2.1 (stepP d bl z tl).2.2 := by
  have key : ∀ r, Rise (drS r z tl).2.1 (drS r z tl).2.2 := fun r => by
    match r with
    | none => exact h
    | some none => exact h
    | some (some (t, u)) => exact h.draw t u
  cases d with
  | bk =>
    unfold stepP
    dsimp only
    cases e : tl.getLast? with
    | none => exact h
    | some x =>
      obtain ⟨m, t⟩ := x
      obtain ⟨l, rfl⟩ : ∃ l, tl = l ++ [(m, t)] := by
        rw [List.getLast?_eq_some_iff] at e
        exact e
      dsimp only
      rw [List.dropLast_concat]
      exact h.back
  | ev n => exact key _
  | pk ws => exact key _
  | sh n => exact key _
  | ch n k => exact key _
theorem TvAt.keep {H H' : Hp} {v : V} {t : Tv} (h : TvAt H v t) (k : ∀ c xs, H c = some (.tup xs) → H' c = some (.tup xs)) : TvAt H' v t := by
  cases t with
  | nm n => exact h
  | rw xs => obtain ⟨t, rfl, e⟩ := h; exact ⟨t, rfl, k _ _ e⟩
theorem AnAt.keep {H H' : Hp} {v : V} {t : An} (h : AnAt H v t) (k : ∀ c xs, H c = some (.tup xs) → H' c = some (.tup xs)) : AnAt H' v t := by
  cases t with
  | tv t => exact TvAt.keep h k
  | no s => exact h
theorem DdAt.keep {H H' : Hp} {v : V} {d : Dd} (h : DdAt H v d) (k : ∀ c xs, H c = some (.tup xs) → H' c = some (.tup xs)) : DdAt H' v d := by
  cases d with
  | ev n => obtain ⟨a, e, h1, h2⟩ := h; exact ⟨a, e, k _ _ h1, h2⟩
  | pk ws => obtain ⟨a, x, e, h1, r, e2, h2, h3⟩ := h; exact ⟨a, x, e, k _ _ h1, r, e2, k _ _ h2, h3⟩
  | sh n => obtain ⟨a, x, e, h1, h2, h3⟩ := h; exact ⟨a, x, e, k _ _ h1, k _ _ h2, h3⟩
  | ch n k' => obtain ⟨a, e, h1, h2⟩ := h; exact ⟨a, e, k _ _ h1, h2⟩
  | bk => obtain ⟨a, e, h1⟩ := h; exact ⟨a, e, k _ _ h1⟩
noncomputable def Drw (C CD : Addr) (H : Hp) (d b st : Addr) (bl : List Nat) (z : Nat) (tl : List (Nat × Tv)) : Prop := ∃ (dd dx r : Addr) (as : List Addr) (sp : List (Nat × V)), DAt C CD H d dd b dx r st bl z as sp ∧ sp.length = tl.length ∧ ∀ (j : Nat) (s : Nat × V), sp[j]? = some s → ∃ t, tl[j]? = some t ∧ s.1 = t.1 ∧ TvAt H s.2 t.2
noncomputable def But2 (b c : Addr) (H H' : Hp) : Prop := ∀ x o, x ≠ b → x ≠ c → H x = some o → H' x = some o
theorem But2.tup {b c : Addr} {H H' : Hp} (k : But2 b c H H') (hb : ∀ xs, H b ≠ some (.tup xs)) (hc : ∀ xs, H c ≠ some (.tup xs)) : ∀ x xs, H x = some (.tup xs) → H' x = some (.tup xs) := fun x xs e => k x _ (fun y => hb xs (y ▸ e)) (fun y => hc xs (y ▸ e)) e
theorem DAt.noT {C CD : Addr} {H : Hp} {d dd b dx r st : Addr} {bl : List Nat} {z : Nat} {as : List Addr} {sp : List (Nat × V)} (h : DAt C CD H d dd b dx r st bl z as sp) : (∀ xs, H b ≠ some (.tup xs)) ∧ ∀ xs, H st ≠ some (.tup xs) :=
  ⟨fun xs e => (by rw [h.bits.obj] at e; cases e), fun xs e => (by rw [h.lst] at e; cases e)⟩
theorem Drw.tell {C CD : Addr} {H H' : Hp} {d dd b dx r st : Addr} {bl : List Nat} {z u : Nat} {as : List Addr} {sp : List (Nat × V)} {tl : List (Nat × Tv)} {v : V} {t : Tv} {p : Addr} (h : DAt C CD H d dd b dx r st bl z as sp) (hl : sp.length = tl.length) (ht : ∀ (j : Nat) (s : Nat × V), sp[j]? = some s → ∃ t, tl[j]? = some t ∧ s.1 = t.1 ∧ TvAt H s.2 t.2)
    (k : But2 b st H H') (h' : DAt C CD H' d dd b dx r st bl (z + u) (as ++ [p]) (sp ++ [(z, v)])) (hv : TvAt H' v t) : Drw C CD H' d b st bl (z + u) (tl ++ [(z, t)]) := by
  refine ⟨dd, dx, r, _, _, h', by rw [List.length_append, List.length_append, hl]; rfl, fun j s e => ?_⟩
  by_cases cj : j < sp.length
  · rw [List.getElem?_append_left cj] at e
    obtain ⟨t', e1, e2, e3⟩ := ht j s e
    exact ⟨t', by rw [List.getElem?_append_left (by omega)]; exact e1, e2, e3.keep (k.tup h.noT.1 h.noT.2)⟩
  · have hj : j = sp.length := by
      have := (List.getElem?_eq_some_iff.mp e).1
      rw [List.length_append] at this
      have : j < sp.length + 1 := this
      omega
    subst hj
    rw [List.getElem?_append_right (Nat.le_refl _), Nat.sub_self] at e
    cases e
    exact ⟨(z, t), by rw [hl, List.getElem?_append_right (Nat.le_refl _), Nat.sub_self]; rfl, rfl, hv⟩
theorem Drw.stay {C CD : Addr} {H H' : Hp} {d dd b dx r st : Addr} {bl : List Nat} {z z' : Nat} {as as' : List Addr} {sp : List (Nat × V)} {tl : List (Nat × Tv)} (h : DAt C CD H d dd b dx r st bl z as sp) (hl : sp.length = tl.length) (ht : ∀ (j : Nat) (s : Nat × V), sp[j]? = some s → ∃ t, tl[j]? = some t ∧ s.1 = t.1 ∧ TvAt H s.2 t.2)
    (k : But2 b st H H') (h' : DAt C CD H' d dd b dx r st bl z' as' sp) : Drw C CD H' d b st bl z' tl :=
  ⟨dd, dx, r, _, _, h', hl, fun j s e => by
    obtain ⟨t', e1, e2, e3⟩ := ht j s e
    exact ⟨t', e1, e2, e3.keep (k.tup h.noT.1 h.noT.2)⟩⟩
noncomputable def ActR (C CD : Addr) (d b st : Addr) (bl : List Nat) (x : An × Nat × List (Nat × Tv)) (H H' : Hp) (g : V) : Prop := But2 b st H H' ∧ AnAt H' g x.1 ∧ Drw C CD H' d b st bl x.2.1 x.2.2
noncomputable def spAct (C CD : Addr) : Sp := fun vs H Q _ => ∃ (d b st : Addr) (bl : List Nat) (z : Nat) (tl : List (Nat × Tv)) (v : V) (de : Dd), vs = [.ref d, v] ∧ Drw C CD H d b st bl z tl ∧ DdAt H v de ∧ tl.length < 999 ∧ Rise z tl ∧
  ∀ g H', ActR C CD d b st bl (stepP de bl z tl) H H' g → Q g H'
section
variable {P : Program} {w : World} {K : PySem.W.Frag} {mg : Str → Option Value} {base : Heap} {f C CD fI fT fU fL fG gI gE gP gS gC gN gH gU gB CN CP CS : Addr} {fd dI dT dU dL dG jI jE jP jS jC jN jH jU jB : FuncData} {mN mP mS : List Value}
theorem ok__law_act (F__law_act : Fun K "_law_act" "_law_act" s__law_act f fd) (TD : TxtD K mg CD gI gE gP gS gC gN gH gU gB jI jE jP jS jC jN jH jU jB) (X_NoBits : Exc K mg "NoBits" CN mN) (X_NoPlace : Exc K mg "NoPlace" CP mP) (X_NoStep : Exc K mg "NoStep" CS mS) (hNN : mN.contains (.ref CN) = true) (hPN : mP.contains (.ref CN) = false) (hPP : mP.contains (.ref CP) = true) (hSN : mS.contains (.ref CN) = false) (hSP : mS.contains (.ref CP) = false) (hSS : mS.contains (.ref CS) = true)
    (gD_even : FnOk P w K mg base (CXR P w) 10 gE jE p_Drawer_even (spDM C CD CN ShN evV)) (gD_pick : FnOk P w K mg base (CXR P w) 10 gP jP p_Drawer_pick (spDM C CD CN ShW pkV)) (gD_shuffled : FnOk P w K mg base (CXR P w) 11 gS jS p_Drawer_shuffled (spShD C CD CN)) (gD_choice : FnOk P w K mg base (CXR P w) 11 gC jC p_Drawer_choice (spChD C CD CN CP)) (gD_back : FnOk P w K mg base (CXR P w) 2 gB jB p_Drawer_back (spBackD C CD CS)) :
    FnOk P w K mg base CX0 12 f fd p__law_act (spAct C CD) := by
  refine F__law_act.ok sc__law_act (fun vs H Q E h => ?_) (fun cdv A outer s H vs Q E hr h => ?_)
  · obtain ⟨d, b, st, bl, z, tl, v, de, rfl, _⟩ := h
    rfl
  obtain ⟨d, b, st, bl, z, tl, v, de, rfl, ⟨dd, dx, r, as, sp, hD, hl, ht⟩, hv, hlt, hri, q⟩ := h
  refine ⟨_, (pss_cons (ps_set (i := 2) sc__law_act.nd rfl (Or.inl rfl) pe_non)
      (pss_cons (ps_join (ps_tryT (fun ps Kx Ex hp => (pss_one (ps_joinN (ps_if (pt_cmpR op_eq (pe_ix ix_tup (pv 1) pe_int (fun _ _ => rfl)) pe_str (nomark _)) (pss_one (ps_set (i := 2) sc__law_act.nd rfl (Or.inl rfl) (pe_methT hp (pv 0) TD.cl TD.m_even gD_even (hr.mono (by first | decide | omega)) TD.b_even (pa_cons (pe_ix ix_tup (pv 1) pe_int (fun _ _ => rfl)) pa_nil)))) (pss_one (ps_joinN (ps_if (pt_cmpR op_eq (pe_ix ix_tup (pv 1) pe_int (fun _ _ => rfl)) pe_str (nomark _)) (pss_one (ps_set (i := 2) sc__law_act.nd rfl (Or.inl rfl) (pe_methT hp (pv 0) TD.cl TD.m_pick gD_pick (hr.mono (by first | decide | omega)) TD.b_pick (pa_cons (pe_ix ix_tup (pv 1) pe_int (fun _ _ => rfl)) pa_nil)))) (pss_one (ps_joinN (ps_if (pt_cmpR op_eq (pe_ix ix_tup (pv 1) pe_int (fun _ _ => rfl)) pe_str (nomark _)) (pss_one (ps_set (i := 2) sc__law_act.nd rfl (Or.inl rfl) (pe_methT hp (pv 0) TD.cl TD.m_shuffled gD_shuffled (hr.mono (by first | decide | omega)) TD.b_shuffled (pa_cons (pe_ix ix_tup (pv 1) pe_int (fun _ _ => rfl)) pa_nil)))) (pss_one (ps_joinN (ps_if (pt_cmpR op_eq (pe_ix ix_tup (pv 1) pe_int (fun _ _ => rfl)) pe_str (nomark _)) (pss_one (ps_set (i := 2) sc__law_act.nd rfl (Or.inl rfl) (pe_methT hp (pv 0) TD.cl TD.m_choice gD_choice (hr.mono (by first | decide | omega)) TD.b_choice (pa_cons (pe_ix ix_tup (pv 1) pe_int (fun _ _ => rfl)) (pa_cons (pe_ix ix_tup (pv 1) pe_int (fun _ _ => rfl)) pa_nil))))) (pss_one (ps_set (i := 2) sc__law_act.nd rfl (Or.inl rfl) (pe_meth0T hp (pv 0) TD.cl TD.m_back gD_back (hr.mono (by first | decide | omega)) TD.b_back)))))))))))))))) (Hs.cons X_NoBits rfl (by decide) (fun y ps ok hd => (pss_one (ps_set (i := 2) sc__law_act.nd rfl (Or.inl rfl) pe_str))) (Hs.cons X_NoPlace rfl (by decide) (fun y ps ok hd => (pss_one (ps_set (i := 2) sc__law_act.nd rfl (Or.inl rfl) pe_str))) (Hs.cons X_NoStep rfl (by decide) (fun y ps ok hd => (pss_one (ps_set (i := 2) sc__law_act.nd rfl (Or.inl rfl) pe_str))) .nil))) rfl rfl (fun _ => PassesOwnAt.never)))
      (pss_one (ps_ret (pv 2))))), ?_⟩
  refine ⟨fun σ' H' => ∃ g, σ' = [some (.ref d), some v, some g] ∧ ActR C CD d b st bl (stepP de bl z tl) H H' g, ?_, ?_⟩
  · rintro σ' H' ⟨g, rfl, hg⟩
    exact ⟨_, rfl, q g H' hg⟩
  intro ps Kx
  have good : ∀ t u v p H', stepP de bl z tl = drS (drP de (bl.drop z)) z tl → drP de (bl.drop z) = some (some (t, u)) → But2 b st H H' → DAt C CD H' d dd b dx r st bl (z + u) (as ++ [p]) (sp ++ [(z, v)]) → TvAt H' v t → ActR C CD d b st bl (stepP de bl z tl) H H' v := fun t u v p H' e1 e2 k h' hv => by
    rw [e1, e2]
    exact ⟨k, hv, Drw.tell hD hl ht k h' hv⟩
  have bad : ∀ H', stepP de bl z tl = drS (drP de (bl.drop z)) z tl → drP de (bl.drop z) = some none → Grow b H H' → DAt C CD H' d dd b dx r st bl z as sp → ActR C CD d b st bl (stepP de bl z tl) H H' (.str "NoBits") := fun H' e1 e2 g h' => by
    rw [e1, e2]
    have k : But2 b st H H' := fun x o n1 _ e => g x o n1 e
    exact ⟨k, rfl, Drw.stay hD hl ht k h'⟩
  have hsl : sp.length < 1000 := by omega
  cases de with
  | ev n =>
    obtain ⟨a, rfl, ha, h0⟩ := hv
    refine ⟨_, fun _ _ z => z, ?_⟩
    refine ⟨_, rfl, a, _, _, _, rfl, rfl, SqT.of ha, rfl, rfl, _, rfl, ite2 (fun _ => ?_) (fun y => absurd (decide_eq_true rfl) y)⟩
    refine ⟨_, rfl, d, dd, _, rfl, hD.obj, df_no _ _ (by decide +kernel) (by decide +kernel), _, rfl, a, _, _, _, rfl, rfl, SqT.of ha, rfl, d, dd, b, dx, r, st, bl, z, as, sp, _, n, rfl, hD, hsl, ⟨rfl, h0⟩, fun v u p H' hv k' hD' => ?_, fun H' hv g hD' => ?_⟩
    · cases e : evF n (bl.drop z) with
      | none => rw [evV, e] at hv; cases hv
      | some x =>
        rw [evV, e] at hv
        cases hv
        exact ⟨_, rfl, good (.nm x.1) x.2 _ p H' rfl (congrArg mpN e) k' hD' rfl⟩
    · refine ⟨"NoBits", CN, mN, _, rfl, X_NoBits, if_pos hNN, .str "NoBits", rfl, bad H' rfl ?_ g hD'⟩
      cases e : evF n (bl.drop z) with
      | none => exact congrArg mpN e
      | some x => rw [evV, e] at hv; cases hv
  | pk ws =>
    obtain ⟨a, x, rfl, ha, hS⟩ := hv
    refine ⟨_, fun _ _ z => z, ?_⟩
    refine ⟨_, rfl, a, _, _, _, rfl, rfl, SqT.of ha, rfl, rfl, _, rfl, ite2 (fun y => absurd (of_decide_eq_true y) (by decide +kernel)) (fun _ => ?_)⟩
    refine ⟨_, fun _ _ z => z, ?_⟩
    refine ⟨_, rfl, a, _, _, _, rfl, rfl, SqT.of ha, rfl, rfl, _, rfl, ite2 (fun _ => ?_) (fun y => absurd (decide_eq_true rfl) y)⟩
    refine ⟨_, rfl, d, dd, _, rfl, hD.obj, df_no _ _ (by decide +kernel) (by decide +kernel), _, rfl, a, _, _, _, rfl, rfl, SqT.of ha, rfl, d, dd, b, dx, r, st, bl, z, as, sp, _, ws, rfl, hD, hsl, hS, fun v u p H' hv k' hD' => ?_, fun H' hv g hD' => ?_⟩
    · cases e : pkF ws (bl.drop z) with
      | none => rw [pkV, e] at hv; cases hv
      | some x =>
        rw [pkV, e] at hv
        cases hv
        exact ⟨_, rfl, good (.nm x.1) x.2 _ p H' rfl (congrArg mpN e) k' hD' rfl⟩
    · refine ⟨"NoBits", CN, mN, _, rfl, X_NoBits, if_pos hNN, .str "NoBits", rfl, bad H' rfl ?_ g hD'⟩
      cases e : pkF ws (bl.drop z) with
      | none => exact congrArg mpN e
      | some x => rw [pkV, e] at hv; cases hv
  | sh n =>
    obtain ⟨a, x, rfl, ha, hx, hn⟩ := hv
    refine ⟨_, fun _ _ z => z, ?_⟩
    refine ⟨_, rfl, a, _, _, _, rfl, rfl, SqT.of ha, rfl, rfl, _, rfl, ite2 (fun y => absurd (of_decide_eq_true y) (by decide +kernel)) (fun _ => ?_)⟩
    refine ⟨_, fun _ _ z => z, ?_⟩
    refine ⟨_, rfl, a, _, _, _, rfl, rfl, SqT.of ha, rfl, rfl, _, rfl, ite2 (fun y => absurd (of_decide_eq_true y) (by decide +kernel)) (fun _ => ?_)⟩
    refine ⟨_, fun _ _ z => z, ?_⟩
    refine ⟨_, rfl, a, _, _, _, rfl, rfl, SqT.of ha, rfl, rfl, _, rfl, ite2 (fun _ => ?_) (fun y => absurd (decide_eq_true rfl) y)⟩
    refine ⟨_, rfl, d, dd, _, rfl, hD.obj, df_no _ _ (by decide +kernel) (by decide +kernel), _, rfl, a, _, _, _, rfl, rfl, SqT.of ha, rfl, d, dd, b, dx, r, st, bl, z, as, sp, x, nis (List.range n), rfl, hD, hsl, hx, by rw [nis, List.length_map, List.length_range]; exact hn, fun ys u t p H' hv k' hD' ht' => ?_, fun H' hv g hD' => ?_⟩
    · exact ⟨_, rfl, good (.rw ys) u _ p H' rfl (congrArg mpR hv) k' hD' ⟨t, rfl, ht'⟩⟩
    · exact ⟨"NoBits", CN, mN, _, rfl, X_NoBits, if_pos hNN, .str "NoBits", rfl, bad H' rfl (congrArg mpR hv) g hD'⟩
  | ch n k =>
    obtain ⟨a, rfl, ha, hn⟩ := hv
    refine ⟨_, fun _ _ z => z, ?_⟩
    refine ⟨_, rfl, a, _, _, _, rfl, rfl, SqT.of ha, rfl, rfl, _, rfl, ite2 (fun y => absurd (of_decide_eq_true y) (by decide +kernel)) (fun _ => ?_)⟩
    refine ⟨_, fun _ _ z => z, ?_⟩
    refine ⟨_, rfl, a, _, _, _, rfl, rfl, SqT.of ha, rfl, rfl, _, rfl, ite2 (fun y => absurd (of_decide_eq_true y) (by decide +kernel)) (fun _ => ?_)⟩
    refine ⟨_, fun _ _ z => z, ?_⟩
    refine ⟨_, rfl, a, _, _, _, rfl, rfl, SqT.of ha, rfl, rfl, _, rfl, ite2 (fun y => absurd (of_decide_eq_true y) (by decide +kernel)) (fun _ => ?_)⟩
    refine ⟨_, fun _ _ z => z, ?_⟩
    refine ⟨_, rfl, a, _, _, _, rfl, rfl, SqT.of ha, rfl, rfl, _, rfl, ite2 (fun _ => ?_) (fun y => absurd (decide_eq_true rfl) y)⟩
    refine ⟨_, rfl, d, dd, _, rfl, hD.obj, df_no _ _ (by decide +kernel) (by decide +kernel), _, rfl, a, _, _, _, rfl, rfl, SqT.of ha, rfl, _, rfl, a, _, _, _, rfl, rfl, SqT.of ha, rfl, d, dd, b, dx, r, st, bl, z, as, sp, n, k, rfl, hD, hsl, hn, fun p u os t p2 H' h0 hv ho k' hD' ht' => ?_, fun H' h0 hv g hD' => ?_, fun h0 => ?_⟩
    · refine ⟨_, rfl, good (.rw (nis os)) u _ p2 H' rfl ?_ k' hD' ⟨t, rfl, by rw [← vnats_vis]; exact ht'⟩⟩
      unfold drP
      dsimp only
      rw [if_neg (by omega), hv]
      show some (some (Tv.rw (nis ((chL n k.toNat 0).getD p [])), u)) = _
      rw [List.getD_eq_getElem?_getD, ho]
      rfl
    · refine ⟨"NoBits", CN, mN, _, rfl, X_NoBits, if_pos hNN, .str "NoBits", rfl, bad H' rfl ?_ g hD'⟩
      unfold drP
      dsimp only
      rw [if_neg (by omega), hv]
      rfl
    · refine ⟨"NoPlace", CP, mP, _, rfl, X_NoPlace, (if_neg (by rw [hPN]; decide)).trans (if_pos hPP), .str "NoPlace", rfl, ?_⟩
      have e : stepP (.ch n k) bl z tl = (.no "NoPlace", z, tl) := by
        unfold stepP drP
        dsimp only
        rw [if_pos h0]
        rfl
      rw [e]
      exact ⟨fun x o _ _ y => y, rfl, dd, dx, r, as, sp, hD, hl, ht⟩
  | bk =>
    obtain ⟨a, rfl, ha⟩ := hv
    refine ⟨_, fun _ _ z => z, ?_⟩
    refine ⟨_, rfl, a, _, _, _, rfl, rfl, SqT.of ha, rfl, rfl, _, rfl, ite2 (fun y => absurd (of_decide_eq_true y) (by decide +kernel)) (fun _ => ?_)⟩
    refine ⟨_, fun _ _ z => z, ?_⟩
    refine ⟨_, rfl, a, _, _, _, rfl, rfl, SqT.of ha, rfl, rfl, _, rfl, ite2 (fun y => absurd (of_decide_eq_true y) (by decide +kernel)) (fun _ => ?_)⟩
    refine ⟨_, fun _ _ z => z, ?_⟩
    refine ⟨_, rfl, a, _, _, _, rfl, rfl, SqT.of ha, rfl, rfl, _, rfl, ite2 (fun y => absurd (of_decide_eq_true y) (by decide +kernel)) (fun _ => ?_)⟩
    refine ⟨_, fun _ _ z => z, ?_⟩
    refine ⟨_, rfl, a, _, _, _, rfl, rfl, SqT.of ha, rfl, rfl, _, rfl, ite2 (fun y => absurd (of_decide_eq_true y) (by decide +kernel)) (fun _ => ?_)⟩
    have hz : ∀ x ∈ sp, x.1 ≤ z := fun x hx => by
      obtain ⟨j, hj⟩ := List.mem_iff_getElem?.mp hx
      obtain ⟨t, e1, e2, _⟩ := ht j x hj
      rw [e2]
      exact hri.le t (List.mem_iff_getElem?.mpr ⟨j, e1⟩)
    refine ⟨_, rfl, d, dd, _, rfl, hD.obj, df_no _ _ (by decide +kernel) (by decide +kernel), d, dd, b, dx, r, st, bl, z, as, sp, rfl, hD, hz, fun as' sp' a0 s0 H' ea es k' hD' => ?_, fun h0 => ?_⟩
    · subst es
      have hne : tl ≠ [] := fun y => by rw [y] at hl; simp at hl
      obtain ⟨tl', t0, rfl⟩ : ∃ tl' t0, tl = tl' ++ [t0] := ⟨tl.dropLast, tl.getLast hne, (List.dropLast_concat_getLast hne).symm⟩
      have hl' : sp'.length = tl'.length := by
        rw [List.length_append, List.length_append] at hl
        have : sp'.length + 1 = tl'.length + 1 := hl
        omega
      obtain ⟨t1, e1, e2, e3⟩ := ht sp'.length s0 (by rw [List.getElem?_append_right (Nat.le_refl _), Nat.sub_self]; rfl)
      rw [hl', List.getElem?_append_right (Nat.le_refl _), Nat.sub_self] at e1
      cases e1
      have e : stepP .bk bl z (tl' ++ [t0]) = (.tv t0.2, t0.1, tl') := by
        unfold stepP
        dsimp only
        rw [List.getLast?_append, List.dropLast_concat]
        rfl
      refine ⟨_, rfl, ?_⟩
      rw [e]
      have k : But2 b st H H' := k'
      refine ⟨k, e3.keep (k.tup hD.noT.1 hD.noT.2), dd, dx, r, as', sp', by rw [← e2]; exact hD', hl', fun j s e => ?_⟩
      obtain ⟨t', f1, f2, f3⟩ := ht j s (by rw [List.getElem?_append_left (List.getElem?_eq_some_iff.mp e).1]; exact e)
      rw [List.getElem?_append_left (by rw [← hl']; exact (List.getElem?_eq_some_iff.mp e).1)] at f1
      exact ⟨t', f1, f2, f3.keep (k.tup hD.noT.1 hD.noT.2)⟩
    · have htl : tl = [] := List.eq_nil_of_length_eq_zero (by rw [← hl, h0]; rfl)
      refine ⟨"NoStep", CS, mS, _, rfl, X_NoStep, (if_neg (by rw [hSN]; decide)).trans ((if_neg (by rw [hSP]; decide)).trans (if_pos hSS)), .str "NoStep", rfl, ?_⟩
      subst htl
      exact ⟨fun x o _ _ y => y, rfl, dd, dx, r, as, sp, hD, hl, ht⟩
end
theorem cut_drop {n m : Nat} (h : m ≤ n) : L3.cutAt n (some (m : Int)) none none = ((m : Int), 1, n - m) := by
  have a : Builtin.Slice.sliceAdjust (some (m : Int)) none 1 (n : Int) = ((m : Int), (n : Int)) := by
    unfold Builtin.Slice.sliceAdjust
    simp
    omega
  have b : Builtin.Slice.slicePlaces (m : Int) (n : Int) 1 = n - m := by
    unfold Builtin.Slice.slicePlaces
    rw [if_pos (by decide)]
    by_cases h : (m : Int) < (n : Int)
    · rw [if_pos h]; omega
    · rw [if_neg h]; omega
  unfold L3.cutAt
  show ((Builtin.Slice.sliceAdjust (some (m : Int)) none 1 (n : Int)).1, (1 : Int), Builtin.Slice.slicePlaces (Builtin.Slice.sliceAdjust (some (m : Int)) none 1 (n : Int)).1 (Builtin.Slice.sliceAdjust (some (m : Int)) none 1 (n : Int)).2 1) = _
  rw [a]
  dsimp only
  rw [b]
theorem pick_drop (xs : List V) {m : Nat} (h : m ≤ xs.length) : L3.pickAt xs ((m : Int), 1, xs.length - m) = xs.drop m := by
  unfold L3.pickAt
  dsimp only
  have e : (fun (k : Nat) => xs[((m : Int) + (k : Int) * 1).toNat]?) = fun k => xs[m + k]? := by
    funext k
    have : ((m : Int) + (k : Int) * 1).toNat = m + k := by omega
    rw [this]
  rw [e]
  obtain ⟨h1, h2⟩ := fm_all (g := fun k => xs[m + k]?) (m := xs.length - m) fun k hk => by
    rw [List.getElem?_eq_getElem (by omega)]
    rfl
  refine List.ext_getElem? fun j => ?_
  by_cases c : j < xs.length - m
  · rw [h2 j c, List.getElem?_drop]
  · rw [List.getElem?_eq_none (by omega), List.getElem?_eq_none (by rw [List.length_drop]; omega)]
theorem sl_dropP {K : PySem.W.Frag} {H : Hp} {a : Addr} {xs : List V} {m : Nat} {Q : VK} {σ σ' : St} {n : Int} (hn : n = (m : Int)) (h : H a = some (.tup xs)) (hm : m ≤ xs.length) (hz : xs.length ≤ 100000) (q : ∀ p H', Same H H' → H' p = some (.tup (xs.drop m)) → Q (.ref p) H') :
    tNoPart σ H (fun u H3 => tNoPart σ' H3 fun st H4 => rSl3 K (.ref a) (some n) u st H4 Q) := by
  subst hn
  show rSl3 K (.ref a) (some (m : Int)) none none H Q
  refine ⟨a, xs, rfl, SqT.of h, by decide, by rw [cut_drop hm]; exact small (by show xs.length - m ≤ _; omega), fun z => ?_, fun _ p fp => ?_⟩
  · rw [cut_drop hm] at z
    have z' : m = 0 := by
      have : m = 0 ∧ xs.length - m = xs.length := by simpa [L3.wholeAt] using z
      exact this.1
    subst z'
    exact q a H (Same.refl _) h
  · refine q p _ (same_new fp _) ?_
    rw [upd_same, cut_drop hm, pick_drop xs hm]
noncomputable def spByB : Sp := fun vs H Q _ => ∃ (r0 : Addr) (bl : List Nat) (z : Nat) (v : V) (de : Dd), vs = [.ref r0, .int (z : Int), v] ∧ H r0 = some (.tup (vbits bl)) ∧ z ≤ bl.length ∧ bl.length ≤ 1000 ∧ DdAt H v de ∧ de ≠ .bk ∧
  ∀ p g H', Same H H' → H' p = some (.tup [g, .int ((drS (drP de (bl.drop z)) z []).2.1 : Int)]) → AnAt H' g (drS (drP de (bl.drop z)) z []).1 → (drS (drP de (bl.drop z)) z []).2.1 ≤ bl.length → Q (.ref p) H'
section
variable {P : Program} {w : World} {K : PySem.W.Frag} {mg : Str → Option Value} {base : Heap} {f C fI fT fU fL fG CN CP : Addr} {fd dI dT dU dL dG : FuncData} {mN mP : List Value}
theorem ok__law_by_bits (F__law_by_bits : Fun K "_law_by_bits" "_law_by_bits" s__law_by_bits f fd) (T : Txt K mg C fI fT fU fL fG dI dT dU dL dG) (X_NoBits : Exc K mg "NoBits" CN mN) (X_NoPlace : Exc K mg "NoPlace" CP mP) (hNN : mN.contains (.ref CN) = true) (hPN : mP.contains (.ref CN) = false) (hPP : mP.contains (.ref CP) = true)
    (g_init : FnOk P w K mg base CX0 1 fI dI p_Bits___init__ (spInit C)) (g_used : FnOk P w K mg base CX0 1 fU dU p_Bits_used (spUsed C)) {fE fP fS fC : Addr} {dE dP dS dC : FuncData} (g_even : FnX P w K mg base "even_evens" fE dE p_even 6 (spDone C CN ShN evV)) (g_pick : FnX P w K mg base "pick_plans" fP dP p_pick 6 (spDone C CN ShW pkV)) (g_shuffled : FnX P w K mg base "shuffled_orders" fS dS p_shuffled 10 (spSh C CN)) (g_choice : FnX P w K mg base "choice_orders" fC dC p_choice 7 (spCh C CN CP)) :
    FnOk P w K mg base CX0 11 f fd p__law_by_bits spByB := by
  refine F__law_by_bits.ok sc__law_by_bits (fun vs H Q E h => ?_) (fun cdv A outer s H vs Q E hr h => ?_)
  · obtain ⟨r0, bl, z, v, de, rfl, _⟩ := h
    rfl
  obtain ⟨r0, bl, z, v, de, rfl, hR, hz, hb, hv, hbk, q⟩ := h
  refine ⟨_, (pss_cons (ps_par (i := 3) (j := 4) rfl sc__law_by_bits.nd rfl rfl (by decide) rfl rfl (pa_cons (pe_make T.made g_init (hr.mono (by first | decide | omega)) rfl T.mgC T.b_init .nil pass0 (pa_cons (pe_slice3 (pv 0) (po_some (pv 1)) po_none po_none) pa_nil)) (pa_cons pe_non pa_nil)) rfl)
      (pss_cons (ps_join (ps_tryT (fun ps Kx Ex hp => (pss_one (ps_joinN (ps_if (pt_cmpR op_eq (pe_ix ix_tup (pv 2) pe_int (fun _ _ => rfl)) pe_str (nomark _)) (pss_one (ps_set (i := 4) sc__law_by_bits.nd rfl (Or.inl rfl) (pe_fnT hp g_even hr (pa_cons (pv 3) (pa_cons (pe_ix ix_tup (pv 2) pe_int (fun _ _ => rfl)) pa_nil))))) (pss_one (ps_joinN (ps_if (pt_cmpR op_eq (pe_ix ix_tup (pv 2) pe_int (fun _ _ => rfl)) pe_str (nomark _)) (pss_one (ps_set (i := 4) sc__law_by_bits.nd rfl (Or.inl rfl) (pe_fnT hp g_pick hr (pa_cons (pv 3) (pa_cons (pe_ix ix_tup (pv 2) pe_int (fun _ _ => rfl)) pa_nil))))) (pss_one (ps_joinN (ps_if (pt_cmpR op_eq (pe_ix ix_tup (pv 2) pe_int (fun _ _ => rfl)) pe_str (nomark _)) (pss_one (ps_set (i := 4) sc__law_by_bits.nd rfl (Or.inl rfl) (pe_fnT hp g_shuffled hr (pa_cons (pv 3) (pa_cons (pe_ix ix_tup (pv 2) pe_int (fun _ _ => rfl)) pa_nil))))) (pss_one (ps_set (i := 4) sc__law_by_bits.nd rfl (Or.inl rfl) (pe_fnT hp g_choice hr (pa_cons (pv 3) (pa_cons (pe_ix ix_tup (pv 2) pe_int (fun _ _ => rfl)) (pa_cons (pe_ix ix_tup (pv 2) pe_int (fun _ _ => rfl)) pa_nil)))))))))))))))) (Hs.cons X_NoBits rfl (by decide) (fun y ps ok hd => (pss_one (ps_set (i := 4) sc__law_by_bits.nd rfl (Or.inl rfl) pe_str))) (Hs.cons X_NoPlace rfl (by decide) (fun y ps ok hd => (pss_one (ps_set (i := 4) sc__law_by_bits.nd rfl (Or.inl rfl) pe_str))) .nil)) rfl rfl (fun _ => PassesOwnAt.never)))
      (pss_one (ps_ret (pe_tup (pa_cons (pv 4) (pa_cons (pe_op op_add (pv 1) (pe_meth0 (pv 3) T.cl T.m_used g_used (hr.mono (by first | decide | omega)) T.b_used .nil pass0)) pa_nil))))))), ?_⟩
  refine ⟨_, rfl, _, rfl, _, rfl, sl_dropP (K := K) (m := z) rfl hR (by rw [vbits_len]; exact hz) (by rw [vbits_len]; omega) fun r1 H1 s1 h1 => fun b dx nb ndx nex => ?_⟩
  have h1 : H1 r1 = some (.tup (vbits (bl.drop z))) := by rw [h1, vbits, vbits, List.map_drop]
  have s2 : Same H1 (upd (upd H1 dx (.own b)) b (.ins C dx [])) := fun c o y => by
    rw [upd_ne (ne_of_none y nb), upd_ne (ne_of_none y ndx)]
    exact y
  refine ⟨b, dx, r1, vbits (bl.drop z), rfl, upd_same, s2 _ _ h1, fun H2 e2 kp => ⟨rfl, _, _, rfl, ?_⟩⟩
  have s3 : Same H1 H2 := fun c o y => kp c o (s2 c o y) (ne_of_none y nb)
  have hA : At C H2 b dx r1 (bl.drop z) 0 := ⟨e2, s3 _ _ h1, Nat.zero_le _⟩
  have sH : Same H H2 := s1.trans s3
  have hbn : H b = none := by
    cases e : H b with
    | none => rfl
    | some o => have := s1 _ _ e; rw [nb] at this; cases this
  have gs : ∀ {H' : Hp}, Grow b H2 H' → Same H H' := fun {H'} g c o e => g c o (ne_of_none e hbn) (sH _ _ e)
  have hv2 : DdAt H2 v de := hv.keep fun c xs e => sH _ _ e
  clear s2 kp e2 nex ndx hv
  refine ⟨fun σ' H' => ∃ g y, σ' = [some (.ref r0), some (.int (z : Int)), some v, some (.ref b), some g] ∧ Same H H' ∧ At C H' b dx r1 (bl.drop z) y ∧ AnAt H' g (drS (drP de (bl.drop z)) z []).1 ∧ z + y = (drS (drP de (bl.drop z)) z []).2.1, ?_, ?_⟩
  · rintro σ4 H4 ⟨g, y, rfl, s4, a4, hg, hy⟩
    refine ⟨_, rfl, _, rfl, _, rfl, b, dx, _, rfl, a4.obj, flds_no _ _ (by decide +kernel) (by decide +kernel), b, dx, r1, y, rfl, a4.obj, _, _, rfl, rfl, (by show 2 ≤ sizeLine; decide), fun p fp => ?_⟩
    have y5 := same_new fp (.tup [g, V.int ((z : Int) + (y : Int))])
    refine q p g _ (s4.trans y5) ?_ (hg.keep fun c xs e => y5 _ _ e) ?_
    · rw [upd_same, ← hy, Int.natCast_add]
    · have := a4.le
      rw [List.length_drop] at this
      omega
  intro ps Kx
  have good : ∀ t u v H', drP de (bl.drop z) = some (some (t, u)) → Grow b H2 H' → At C H' b dx r1 (bl.drop z) (0 + u) → TvAt H' v t → Same H H' ∧ At C H' b dx r1 (bl.drop z) u ∧ AnAt H' v (drS (drP de (bl.drop z)) z []).1 ∧ z + u = (drS (drP de (bl.drop z)) z []).2.1 := fun t u v H' e2 g h' hv => by
    rw [e2]
    rw [Nat.zero_add] at h'
    exact ⟨gs g, h', hv, rfl⟩
  have bad : ∀ H', drP de (bl.drop z) = some none → Grow b H2 H' → At C H' b dx r1 (bl.drop z) 0 → Same H H' ∧ At C H' b dx r1 (bl.drop z) 0 ∧ AnAt H' (.str "NoBits") (drS (drP de (bl.drop z)) z []).1 ∧ z + 0 = (drS (drP de (bl.drop z)) z []).2.1 := fun H' e2 g h' => by
    rw [e2]
    exact ⟨gs g, h', rfl, rfl⟩
  cases de with
  | ev n =>
    obtain ⟨a, rfl, ha, h0⟩ := hv2
    refine ⟨_, fun _ _ z => z, ?_⟩
    refine ⟨_, rfl, a, _, _, _, rfl, rfl, SqT.of ha, rfl, rfl, _, rfl, ite2 (fun _ => ?_) (fun y => absurd (decide_eq_true rfl) y)⟩
    refine ⟨_, rfl, _, rfl, a, _, _, _, rfl, rfl, SqT.of ha, rfl, b, dx, r1, bl.drop z, 0, _, n, rfl, hA, ⟨rfl, h0⟩, fun v u H' hv g h' => ?_, fun H' hv g h' => ?_⟩
    · rw [List.drop_zero] at hv
      cases e : evF n (bl.drop z) with
      | none => rw [evV, e] at hv; cases hv
      | some x =>
        rw [evV, e] at hv
        cases hv
        exact ⟨_, _, rfl, good (.nm x.1) x.2 _ H' (congrArg mpN e) g h' rfl⟩
    · rw [List.drop_zero] at hv
      refine ⟨"NoBits", CN, mN, _, rfl, X_NoBits, if_pos hNN, .str "NoBits", 0, rfl, bad H' ?_ g h'⟩
      cases e : evF n (bl.drop z) with
      | none => exact congrArg mpN e
      | some x => rw [evV, e] at hv; cases hv
  | pk ws =>
    obtain ⟨a, x, rfl, ha, hS⟩ := hv2
    refine ⟨_, fun _ _ z => z, ?_⟩
    refine ⟨_, rfl, a, _, _, _, rfl, rfl, SqT.of ha, rfl, rfl, _, rfl, ite2 (fun y => absurd (of_decide_eq_true y) (by decide +kernel)) (fun _ => ?_)⟩
    refine ⟨_, fun _ _ z => z, ?_⟩
    refine ⟨_, rfl, a, _, _, _, rfl, rfl, SqT.of ha, rfl, rfl, _, rfl, ite2 (fun _ => ?_) (fun y => absurd (decide_eq_true rfl) y)⟩
    refine ⟨_, rfl, _, rfl, a, _, _, _, rfl, rfl, SqT.of ha, rfl, b, dx, r1, bl.drop z, 0, _, ws, rfl, hA, hS, fun v u H' hv g h' => ?_, fun H' hv g h' => ?_⟩
    · rw [List.drop_zero] at hv
      cases e : pkF ws (bl.drop z) with
      | none => rw [pkV, e] at hv; cases hv
      | some x =>
        rw [pkV, e] at hv
        cases hv
        exact ⟨_, _, rfl, good (.nm x.1) x.2 _ H' (congrArg mpN e) g h' rfl⟩
    · rw [List.drop_zero] at hv
      refine ⟨"NoBits", CN, mN, _, rfl, X_NoBits, if_pos hNN, .str "NoBits", 0, rfl, bad H' ?_ g h'⟩
      cases e : pkF ws (bl.drop z) with
      | none => exact congrArg mpN e
      | some x => rw [pkV, e] at hv; cases hv
  | sh n =>
    obtain ⟨a, x, rfl, ha, hx, hn⟩ := hv2
    refine ⟨_, fun _ _ z => z, ?_⟩
    refine ⟨_, rfl, a, _, _, _, rfl, rfl, SqT.of ha, rfl, rfl, _, rfl, ite2 (fun y => absurd (of_decide_eq_true y) (by decide +kernel)) (fun _ => ?_)⟩
    refine ⟨_, fun _ _ z => z, ?_⟩
    refine ⟨_, rfl, a, _, _, _, rfl, rfl, SqT.of ha, rfl, rfl, _, rfl, ite2 (fun y => absurd (of_decide_eq_true y) (by decide +kernel)) (fun _ => ?_)⟩
    refine ⟨_, fun _ _ z => z, ?_⟩
    refine ⟨_, rfl, a, _, _, _, rfl, rfl, SqT.of ha, rfl, rfl, _, rfl, ite2 (fun _ => ?_) (fun y => absurd (decide_eq_true rfl) y)⟩
    refine ⟨_, rfl, _, rfl, a, _, _, _, rfl, rfl, SqT.of ha, rfl, b, dx, r1, x, bl.drop z, 0, nis (List.range n), rfl, hA, hx, by rw [nis, List.length_map, List.length_range]; exact hn, fun ys u p H' hv g h' hp => ?_, fun H' hv g h' => ?_⟩
    · rw [List.drop_zero] at hv
      exact ⟨_, _, rfl, good (.rw ys) u _ H' (congrArg mpR hv) g h' ⟨p, rfl, hp⟩⟩
    · rw [List.drop_zero] at hv
      exact ⟨"NoBits", CN, mN, _, rfl, X_NoBits, if_pos hNN, .str "NoBits", 0, rfl, bad H' (congrArg mpR hv) g h'⟩
  | ch n k =>
    obtain ⟨a, rfl, ha, hn⟩ := hv2
    refine ⟨_, fun _ _ z => z, ?_⟩
    refine ⟨_, rfl, a, _, _, _, rfl, rfl, SqT.of ha, rfl, rfl, _, rfl, ite2 (fun y => absurd (of_decide_eq_true y) (by decide +kernel)) (fun _ => ?_)⟩
    refine ⟨_, fun _ _ z => z, ?_⟩
    refine ⟨_, rfl, a, _, _, _, rfl, rfl, SqT.of ha, rfl, rfl, _, rfl, ite2 (fun y => absurd (of_decide_eq_true y) (by decide +kernel)) (fun _ => ?_)⟩
    refine ⟨_, fun _ _ z => z, ?_⟩
    refine ⟨_, rfl, a, _, _, _, rfl, rfl, SqT.of ha, rfl, rfl, _, rfl, ite2 (fun y => absurd (of_decide_eq_true y) (by decide +kernel)) (fun _ => ?_)⟩
    refine ⟨_, rfl, _, rfl, a, _, _, _, rfl, rfl, SqT.of ha, rfl, _, rfl, a, _, _, _, rfl, rfl, SqT.of ha, rfl, b, dx, r1, bl.drop z, 0, n, k, rfl, hA, hn, fun p u os t H' h0 hv ho g h' ht' => ?_, fun H' h0 hv g h' => ?_, fun h0 => ?_⟩
    · rw [List.drop_zero] at hv
      refine ⟨_, _, rfl, good (.rw (nis os)) u _ H' ?_ g h' ⟨t, rfl, by rw [← vnats_vis]; exact ht'⟩⟩
      unfold drP
      dsimp only
      rw [if_neg (by omega), hv]
      show some (some (Tv.rw (nis ((chL n k.toNat 0).getD p [])), u)) = _
      rw [List.getD_eq_getElem?_getD, ho]
      rfl
    · rw [List.drop_zero] at hv
      refine ⟨"NoBits", CN, mN, _, rfl, X_NoBits, if_pos hNN, .str "NoBits", 0, rfl, bad H' ?_ g h'⟩
      unfold drP
      dsimp only
      rw [if_neg (by omega), hv]
      rfl
    · refine ⟨"NoPlace", CP, mP, _, rfl, X_NoPlace, (if_neg (by rw [hPN]; decide)).trans (if_pos hPP), .str "NoPlace", 0, rfl, ?_⟩
      have e : drP (.ch n k) (bl.drop z) = none := by
        unfold drP
        dsimp only
        rw [if_pos h0]
      rw [e]
      exact ⟨sH, hA, rfl, rfl⟩
  | bk => exact absurd rfl hbk
end
noncomputable def nmT : Fin 4 → Str
  | 0 => "row" | 1 => "at" | 2 => "told" | 3 => "marks"
noncomputable def kdT : KD (Fin 4) where
  dat := fun k => .str (nmT k)
  ok := by decide +kernel
  eq := by decide +kernel
noncomputable def sk (r : Addr) (z : Nat) (t m : Addr) : List (Fin 4 × V × V) := [(0, .str "row", .ref r), (1, .str "at", .int (z : Int)), (2, .str "told", .ref t), (3, .str "marks", .ref m)]
theorem ky_row (H : Hp) : KeyAt H (kdT.dat 0) (.str "row") := KeyAt.str "row"
theorem ky_at (H : Hp) : KeyAt H (kdT.dat 1) (.str "at") := KeyAt.str "at"
theorem ky_told (H : Hp) : KeyAt H (kdT.dat 2) (.str "told") := KeyAt.str "told"
theorem ky_marks (H : Hp) : KeyAt H (kdT.dat 3) (.str "marks") := KeyAt.str "marks"
theorem sk_row (r : Addr) (z : Nat) (t m : Addr) : valX (sk r z t m) 0 = some (.ref r) := rfl
theorem sk_at (r : Addr) (z : Nat) (t m : Addr) : valX (sk r z t m) 1 = some (.int (z : Int)) := rfl
theorem sk_told (r : Addr) (z : Nat) (t m : Addr) : valX (sk r z t m) 2 = some (.ref t) := rfl
theorem sk_marks (r : Addr) (z : Nat) (t m : Addr) : valX (sk r z t m) 3 = some (.ref m) := rfl
theorem sk_put (r : Addr) (z z' : Nat) (t m : Addr) : putX (sk r z t m) 1 (.str "at") (.int (z' : Int)) = sk r z' t m := rfl
theorem sk_ks (H : Hp) (r : Addr) (z : Nat) (t m : Addr) : KsIn H kdT (sk r z t m) := fun p hp => by
  unfold sk at hp
  simp only [List.mem_cons, List.not_mem_nil, or_false] at hp
  rcases hp with rfl | rfl | rfl | rfl
  · exact ky_row H
  · exact ky_at H
  · exact ky_told H
  · exact ky_marks H
structure SidR (w : World) (H : Hp) (a tL mL r : Addr) (bl : List Nat) (z : Nat) (tl : List (Nat × Tv)) (ts : List V) : Prop where
  dct : H a = some (DX kdT w a (sk r z tL mL))
  row : H r = some (.tup (vbits bl))
  told : H tL = some (.lst ts)
  marks : H mL = some (.lst (vnats (tl.map (·.1))))
  ne : tL ≠ mL
  len : ts.length = tl.length
  each : ∀ (j : Nat) (v : V), ts[j]? = some v → ∃ t, tl[j]? = some t ∧ TvAt H v t.2
  le : z ≤ bl.length
  short : bl.length ≤ 1000
noncomputable def Sid (w : World) (H : Hp) (a tL mL : Addr) (bl : List Nat) (z : Nat) (tl : List (Nat × Tv)) : Prop := ∃ r ts, SidR w H a tL mL r bl z tl ts
noncomputable def But3 (a b c : Addr) (H H' : Hp) : Prop := ∀ x o, x ≠ a → x ≠ b → x ≠ c → H x = some o → H' x = some o
noncomputable def DoR (w : World) (a tL mL : Addr) (bl : List Nat) (x : An × Nat × List (Nat × Tv)) (H H' : Hp) (g : V) : Prop := But3 a tL mL H H' ∧ AnAt H' g x.1 ∧ Sid w H' a tL mL bl x.2.1 x.2.2
noncomputable def spDo (w : World) : Sp := fun vs H Q _ => ∃ (a tL mL : Addr) (bl : List Nat) (z : Nat) (tl : List (Nat × Tv)) (v : V) (de : Dd), vs = [.ref a, v] ∧ Sid w H a tL mL bl z tl ∧ DdAt H v de ∧ tl.length < 999 ∧ Rise z tl ∧
  ∀ g H', DoR w a tL mL bl (stepP de bl z tl) H H' g → Q g H'
theorem SidR.rd {w : World} {H : Hp} {a tL mL r : Addr} {bl : List Nat} {z : Nat} {tl : List (Nat × Tv)} {ts : List V} (h : SidR w H a tL mL r bl z tl ts) : DH H kdT w a (sk r z tL mL) := ⟨Rd.of h.dct, sk_ks _ _ _ _ _⟩
theorem SidR.same {w : World} {H H' : Hp} {a tL mL r : Addr} {bl : List Nat} {z : Nat} {tl : List (Nat × Tv)} {ts : List V} (h : SidR w H a tL mL r bl z tl ts) (s : Same H H') : SidR w H' a tL mL r bl z tl ts :=
  ⟨s _ _ h.dct, s _ _ h.row, s _ _ h.told, s _ _ h.marks, h.ne, h.len, fun j v e => by obtain ⟨t, e1, e2⟩ := h.each j v e; exact ⟨t, e1, e2.keep fun c xs e => s _ _ e⟩, h.le, h.short⟩
theorem SidR.at {w : World} {H : Hp} {a tL mL r : Addr} {bl : List Nat} {z : Nat} {tl : List (Nat × Tv)} {ts : List V} (h : SidR w H a tL mL r bl z tl ts) : a ≠ tL := fun y => by
  have := h.dct
  rw [y, h.told] at this
  cases this
theorem SidR.am {w : World} {H : Hp} {a tL mL r : Addr} {bl : List Nat} {z : Nat} {tl : List (Nat × Tv)} {ts : List V} (h : SidR w H a tL mL r bl z tl ts) : a ≠ mL := fun y => by
  have := h.dct
  rw [y, h.marks] at this
  cases this
theorem stepP_dr {de : Dd} (h : de ≠ .bk) (bl : List Nat) (z : Nat) (tl : List (Nat × Tv)) : stepP de bl z tl = drS (drP de (bl.drop z)) z tl := by
  cases de <;> first | rfl | exact absurd rfl h
theorem drS_1 (r : Option (Option (Tv × Nat))) (z : Nat) (tl : List (Nat × Tv)) : (drS r z []).1 = (drS r z tl).1 := by
  match r with
  | none => rfl
  | some none => rfl
  | some (some _) => rfl
theorem drS_2 (r : Option (Option (Tv × Nat))) (z : Nat) (tl : List (Nat × Tv)) : (drS r z []).2.1 = (drS r z tl).2.1 := by
  match r with
  | none => rfl
  | some none => rfl
  | some (some _) => rfl
theorem notIn_tv {K : PySem.W.Frag} {H : Hp} {g : V} {t : Tv} {c : Addr} {Q : VK} (hg : TvAt H g t) (hc : SqT K H c [V.str "NoBits", V.str "NoPlace"]) (q : Q (.bl true) H) : rNotInTS K g (.ref c) H Q := by
  refine ⟨c, ["NoBits", "NoPlace"], rfl, hc, ?_⟩
  cases t with
  | nm n => obtain rfl : g = .int (n : Int) := hg; exact .inl ⟨rfl, q⟩
  | rw xs => obtain ⟨p, rfl, hp⟩ := hg; exact .inr ⟨p, _, rfl, SqT.of hp, q⟩
section
variable {P : Program} {w : World} {K : PySem.W.Frag} {mg : Str → Option Value} {base : Heap} {f : Addr} {fd : FuncData}
theorem ok__law_do (F__law_do : Fun K "_law_do" "_law_do" s__law_do f fd) (g__law_by_bits : Fn P w K mg base "_law_by_bits" p__law_by_bits 11 spByB) :
    FnOk P w K mg base CX0 12 f fd p__law_do (spDo w) := by
  refine F__law_do.ok sc__law_do (fun vs H Q E h => ?_) (fun cdv A outer s H vs Q E hr h => ?_)
  · obtain ⟨a, tL, mL, bl, z, tl, v, de, rfl, _⟩ := h
    rfl
  obtain ⟨a, tL, mL, bl, z, tl, v, de, rfl, ⟨r, ts, hS⟩, hv, hlt, hri, q⟩ := h
  refine ⟨_, (pss_cons (ps_if (pt_cmpR op_eq (pe_ix ix_tup (pv 1) pe_int (fun _ _ => rfl)) pe_str (nomark _)) (pss_cons (ps_if (pt_not (pt_truth (pe_dgetX kdT hr.units (pv 0) pe_str (fun _ _ => rfl)) (fun _ => rfl))) (pss_one (ps_ret pe_str)) pss_nil)
      (pss_cons (ps_dputX kdT hr.units (pv 0) pe_str (pe_bm0 PySem.F.plainAttrs_list PySem.F.slot_list_pop PySem.F.type_list_pop mt_pop (pe_dgetX kdT hr.units (pv 0) pe_str (fun _ _ => rfl))) rfl)
      (pss_one (ps_ret (pe_bm0 PySem.F.plainAttrs_list PySem.F.slot_list_pop PySem.F.type_list_pop mt_pop (pe_dgetX kdT hr.units (pv 0) pe_str (fun _ _ => rfl))))))) pss_nil)
      (pss_cons (ps_asg (pe_fn g__law_by_bits hr (pa_cons (pe_dgetX kdT hr.units (pv 0) pe_str (fun _ _ => rfl)) (pa_cons (pe_dgetX kdT hr.units (pv 0) pe_str (fun _ _ => rfl)) (pa_cons (pv 1) pa_nil)))) (pg_tup rfl (pgs_cons (pg_name (i := 2) sc__law_do.nd rfl (Or.inl rfl)) (pgs_cons (pg_name (i := 3) sc__law_do.nd rfl (Or.inl rfl)) pgs_nil))))
      (pss_cons (ps_join (ps_if (pt_cmpR (op_notInTS hr.units) (pv 2) (pe_tup (pa_cons pe_str (pa_cons pe_str pa_nil))) rfl) (pss_cons (ps_expr (pe_bm PySem.F.plainAttrs_list PySem.F.slot_list_append PySem.F.type_list_append mt_append (pe_dgetX kdT hr.units (pv 0) pe_str (fun _ _ => rfl)) (pa_cons (pe_dgetX kdT hr.units (pv 0) pe_str (fun _ _ => rfl)) pa_nil)))
      (pss_cons (ps_expr (pe_bm PySem.F.plainAttrs_list PySem.F.slot_list_append PySem.F.type_list_append mt_append (pe_dgetX kdT hr.units (pv 0) pe_str (fun _ _ => rfl)) (pa_cons (pv 2) pa_nil)))
      (pss_one (ps_dputX kdT hr.units (pv 0) pe_str (pv 3) rfl)))) pss_nil))
      (pss_one (ps_ret (pv 2)))))), ?_⟩
  by_cases hbk : de = .bk
  · subst hbk
    obtain ⟨a0, rfl, ha⟩ := hv
    refine ⟨_, rfl, a0, _, _, _, rfl, rfl, SqT.of ha, rfl, rfl, _, rfl, ite2 (fun _ => ?_) (fun y => absurd (decide_eq_true rfl) y)⟩
    refine ⟨_, rfl, a, _, (2 : Fin 4), _, rfl, hS.rd, ky_told _, sk_told _ _ _ _, _, .inl ⟨_, SqL.of hS.told, rfl⟩, ?_⟩
    by_cases htl : tl = []
    · have hts : ts = [] := List.eq_nil_of_length_eq_zero (by rw [hS.len, htl]; rfl)
      subst hts
      refine ite2 (fun _ => ?_) (fun y => absurd rfl y)
      subst htl
      exact q _ H ⟨fun x o _ _ _ e => e, rfl, r, _, hS⟩
    obtain ⟨tl', t0, rfl⟩ : ∃ tl' t0, tl = tl' ++ [t0] := ⟨tl.dropLast, tl.getLast htl, (List.dropLast_concat_getLast htl).symm⟩
    have hne : ts ≠ [] := fun y => by have := hS.len; rw [y] at this; simp at this
    obtain ⟨ts', v0, rfl⟩ : ∃ ts' v0, ts = ts' ++ [v0] := ⟨ts.dropLast, ts.getLast hne, (List.dropLast_concat_getLast hne).symm⟩
    have hl' : ts'.length = tl'.length := by
      have := hS.len
      rw [List.length_append, List.length_append] at this
      have : ts'.length + 1 = tl'.length + 1 := this
      omega
    refine ite2 (fun y => absurd y (by cases ts' <;> exact Bool.false_ne_true)) (fun _ => ?_)
    have e : stepP .bk bl z (tl' ++ [t0]) = (.tv t0.2, t0.1, tl') := by
      unfold stepP
      dsimp only
      rw [List.getLast?_append, List.dropLast_concat]
      rfl
    rw [e] at q
    have em : vnats ((tl' ++ [t0]).map (·.1)) = vnats (tl'.map (·.1)) ++ [V.int (t0.1 : Int)] := by
      rw [List.map_append, vnats, vnats, List.map_append]
      rfl
    have hM := hS.marks
    rw [em] at hM
    have last : ∀ (xs : List V) (y : V), (xs ++ [y])[(xs ++ [y]).length - 1]? = some y := fun xs y => by
      rw [List.length_append]
      show (xs ++ [y])[xs.length + 1 - 1]? = some y
      rw [Nat.add_sub_cancel, List.getElem?_append_right (Nat.le_refl _), Nat.sub_self]
      rfl
    refine ⟨_, rfl, a, _, (3 : Fin 4), _, rfl, hS.rd, ky_marks _, sk_marks _ _ _ _, .inl ⟨rfl, _, SqL.of hM⟩, mL, _, _, rfl, rfl, hM, last _ _, ?_⟩
    rw [List.dropLast_concat]
    have up1 : ∀ {c o}, c ≠ mL → H c = some o → upd H mL (.lst (vnats (tl'.map (·.1)))) c = some o := fun n e => (upd_ne n).trans e
    have d1 := up1 hS.am hS.dct
    have m1 : upd H mL (.lst (vnats (tl'.map (·.1)))) mL = some (.lst (vnats (tl'.map (·.1)))) := upd_same
    have t1 := up1 hS.ne hS.told
    have tp1 : ∀ c xs, H c = some (.tup xs) → upd H mL (.lst (vnats (tl'.map (·.1)))) c = some (.tup xs) := fun c xs e => up1 (fun y => by rw [y, hS.marks] at e; cases e) e
    have k1 : ∀ c o, c ≠ mL → H c = some o → upd H mL (.lst (vnats (tl'.map (·.1)))) c = some o := fun c o n e => up1 n e
    generalize upd H mL (.lst (vnats (tl'.map (·.1)))) = H1 at d1 m1 t1 tp1 k1 ⊢
    refine ⟨_, rfl, a, _, (1 : Fin 4), rfl, d1, sk_ks _ _ _ _ _, ky_at _, (by show 4 < sizeLine; decide), ?_⟩
    rw [sk_put]
    have d2 : upd H1 a (DX kdT w a (sk r t0.1 tL mL)) a = some (DX kdT w a (sk r t0.1 tL mL)) := upd_same
    have k2 : ∀ c o, c ≠ a → H1 c = some o → upd H1 a (DX kdT w a (sk r t0.1 tL mL)) c = some o := fun c o n e => (upd_ne n).trans e
    have tp2 : ∀ c xs, H1 c = some (.tup xs) → upd H1 a (DX kdT w a (sk r t0.1 tL mL)) c = some (.tup xs) := fun c xs e => k2 _ _ (fun y => by rw [y, d1] at e; cases e) e
    have t2 := k2 _ _ (Ne.symm hS.at) t1
    have m2 := k2 _ _ (Ne.symm hS.am) m1
    refine ⟨_, rfl, a, _, (2 : Fin 4), _, rfl, ⟨Rd.of d2, sk_ks _ _ _ _ _⟩, ky_told _, sk_told _ _ _ _, .inl ⟨rfl, _, SqL.of t2⟩, tL, _, _, rfl, rfl, t2, last _ _, ?_⟩
    rw [List.dropLast_concat]
    have up3 : ∀ {c o}, c ≠ tL → (upd H1 a (DX kdT w a (sk r t0.1 tL mL))) c = some o → upd (upd H1 a (DX kdT w a (sk r t0.1 tL mL))) tL (.lst ts') c = some o := fun n e => (upd_ne n).trans e
    have tp3 : ∀ c xs, H c = some (.tup xs) → upd (upd H1 a (DX kdT w a (sk r t0.1 tL mL))) tL (.lst ts') c = some (.tup xs) := fun c xs e => up3 (fun y => by have := tp2 _ _ (tp1 _ _ e); rw [y, t2] at this; cases this) (tp2 _ _ (tp1 _ _ e))
    obtain ⟨t', f1, f2⟩ := hS.each ts'.length v0 (by rw [List.getElem?_append_right (Nat.le_refl _), Nat.sub_self]; rfl)
    rw [hl', List.getElem?_append_right (Nat.le_refl _), Nat.sub_self] at f1
    cases f1
    refine q _ _ ⟨fun x o n1 n2 n3 e => up3 n2 (k2 _ _ n1 (k1 _ _ n3 e)), f2.keep tp3, r, ts', up3 hS.at d2, tp3 _ _ hS.row, upd_same, up3 (Ne.symm hS.ne) m2, hS.ne, hl', fun j v e => ?_, Nat.le_trans (hri.le t0 (by simp)) hS.le, hS.short⟩
    obtain ⟨t', f1, f2⟩ := hS.each j v (by rw [List.getElem?_append_left (List.getElem?_eq_some_iff.mp e).1]; exact e)
    rw [List.getElem?_append_left (by rw [← hl']; exact (List.getElem?_eq_some_iff.mp e).1)] at f1
    exact ⟨t', f1, f2.keep tp3⟩
  · have hh : ∃ (a0 : Addr) (nm : Str) (xs : List V), v = .ref a0 ∧ H a0 = some (.tup (.str nm :: xs)) ∧ ¬ nm = "back" := by
      cases de with
      | ev n => obtain ⟨a0, e, ha, _⟩ := hv; exact ⟨a0, _, _, e, ha, by decide +kernel⟩
      | pk ws => obtain ⟨a0, x, e, ha, _⟩ := hv; exact ⟨a0, _, _, e, ha, by decide +kernel⟩
      | sh n => obtain ⟨a0, x, e, ha, _⟩ := hv; exact ⟨a0, _, _, e, ha, by decide +kernel⟩
      | ch n k => obtain ⟨a0, e, ha, _⟩ := hv; exact ⟨a0, _, _, e, ha, by decide +kernel⟩
      | bk => exact absurd rfl hbk
    obtain ⟨a0, nm, xs0, rfl, ha, hnm⟩ := hh
    refine ⟨_, rfl, a0, _, _, .str nm, rfl, rfl, SqT.of ha, atI_nat (j := 0) rfl, rfl, _, rfl, ite2 (fun y => absurd (V.str.inj (of_decide_eq_true y)) hnm) (fun _ => ?_)⟩
    refine ⟨_, rfl, a, _, (0 : Fin 4), _, rfl, hS.rd, ky_row _, sk_row _ _ _ _, _, rfl, a, _, (1 : Fin 4), _, rfl, hS.rd, ky_at _, sk_at _ _ _ _, _, rfl, r, bl, z, _, de, rfl, hS.row, hS.le, hS.short, hv, hbk, fun p g H1 s1 hp hg hle => ?_⟩
    rw [stepP_dr hbk] at q
    rw [drS_1 _ _ tl] at hg
    rw [drS_2 _ _ tl] at hp hle
    have hS1 := hS.same s1
    refine ⟨p, _, rfl, SqT.of hp, rfl, _, _, rfl, _, _, rfl, rfl, ?_⟩
    cases hdr : drP de (bl.drop z) with
    | none =>
      rw [hdr] at hp hg q
      obtain rfl : g = .str "NoPlace" := hg
      refine ⟨_, fun _ _ z => z, ?_⟩
      refine ⟨_, rfl, (by show 2 ≤ sizeLine; decide), fun c fc => ?_⟩
      have y2 := same_new fc (.tup [V.str "NoBits", V.str "NoPlace"])
      refine ⟨c, ["NoBits", "NoPlace"], rfl, SqT.of upd_same, .inl ⟨rfl, _, rfl, ite2 (fun y => absurd y (by decide +kernel)) (fun _ => ?_)⟩⟩
      exact ⟨_, rfl, q _ _ ⟨fun x o _ _ _ e => y2 _ _ (s1 _ _ e), rfl, r, ts, hS1.same y2⟩⟩
    | some o =>
      cases o with
      | none =>
        rw [hdr] at hp hg q
        obtain rfl : g = .str "NoBits" := hg
        refine ⟨_, fun _ _ z => z, ?_⟩
        refine ⟨_, rfl, (by show 2 ≤ sizeLine; decide), fun c fc => ?_⟩
        have y2 := same_new fc (.tup [V.str "NoBits", V.str "NoPlace"])
        refine ⟨c, ["NoBits", "NoPlace"], rfl, SqT.of upd_same, .inl ⟨rfl, _, rfl, ite2 (fun y => absurd y (by decide +kernel)) (fun _ => ?_)⟩⟩
        exact ⟨_, rfl, q _ _ ⟨fun x o _ _ _ e => y2 _ _ (s1 _ _ e), rfl, r, ts, hS1.same y2⟩⟩
      | some x =>
        obtain ⟨t, u⟩ := x
        rw [hdr] at hp hg q hle
        have hg' : TvAt H1 g t := hg
        have hle' : z + u ≤ bl.length := hle
        refine ⟨_, fun _ _ z => z, ?_⟩
        refine ⟨_, rfl, (by show 2 ≤ sizeLine; decide), fun c fc => ?_⟩
        have y2 := same_new fc (.tup [V.str "NoBits", V.str "NoPlace"])
        have w2 : upd H1 c (.tup [V.str "NoBits", V.str "NoPlace"]) c = some (.tup [V.str "NoBits", V.str "NoPlace"]) := upd_same
        generalize upd H1 c (.tup [V.str "NoBits", V.str "NoPlace"]) = H2 at y2 w2 ⊢
        have hS2 := hS1.same y2
        have hg2 : TvAt H2 g t := hg'.keep fun c xs e => y2 _ _ e
        have s2 : Same H H2 := s1.trans y2
        refine notIn_tv hg2 (SqT.of w2) ⟨_, rfl, ite2 (fun _ => ?_) (fun y => absurd rfl y)⟩
        refine ⟨_, rfl, a, _, (3 : Fin 4), _, rfl, hS2.rd, ky_marks _, sk_marks _ _ _ _, .inl ⟨rfl, _, SqL.of hS2.marks⟩, _, rfl, a, _, (1 : Fin 4), _, rfl, hS2.rd, ky_at _, sk_at _ _ _ _, mL, _, _, rfl, rfl, hS2.marks, ?_, ?_⟩
        · rw [vnats, List.length_map, List.length_map]
          exact smallL (by omega)
        have k3 : ∀ c o, c ≠ mL → H2 c = some o → upd H2 mL (.lst (vnats (tl.map (·.1)) ++ [V.int (z : Int)])) c = some o := fun c o n e => (upd_ne n).trans e
        have m3 : upd H2 mL (.lst (vnats (tl.map (·.1)) ++ [V.int (z : Int)])) mL = some (.lst (vnats (tl.map (·.1)) ++ [V.int (z : Int)])) := upd_same
        generalize upd H2 mL (.lst (vnats (tl.map (·.1)) ++ [V.int (z : Int)])) = H3 at k3 m3 ⊢
        have d3 := k3 _ _ hS2.am hS2.dct
        have t3 := k3 _ _ hS2.ne hS2.told
        have tp3 : ∀ c xs, H2 c = some (.tup xs) → H3 c = some (.tup xs) := fun c xs e => k3 _ _ (fun y => by rw [y, hS2.marks] at e; cases e) e
        refine ⟨_, rfl, a, _, (2 : Fin 4), _, rfl, ⟨Rd.of d3, sk_ks _ _ _ _ _⟩, ky_told _, sk_told _ _ _ _, .inl ⟨rfl, _, SqL.of t3⟩, _, rfl, tL, _, _, rfl, rfl, t3, ?_, ?_⟩
        · rw [hS.len]
          exact smallL (by omega)
        have k4 : ∀ c o, c ≠ tL → H3 c = some o → upd H3 tL (.lst (ts ++ [g])) c = some o := fun c o n e => (upd_ne n).trans e
        have t4 : upd H3 tL (.lst (ts ++ [g])) tL = some (.lst (ts ++ [g])) := upd_same
        generalize upd H3 tL (.lst (ts ++ [g])) = H4 at k4 t4 ⊢
        have d4 := k4 _ _ hS2.at d3
        have m4 := k4 _ _ (Ne.symm hS2.ne) m3
        have tp4 : ∀ c xs, H3 c = some (.tup xs) → H4 c = some (.tup xs) := fun c xs e => k4 _ _ (fun y => by rw [y, t3] at e; cases e) e
        refine ⟨_, rfl, _, rfl, a, _, (1 : Fin 4), rfl, d4, sk_ks _ _ _ _ _, ky_at _, (by show 4 < sizeLine; decide), ?_⟩
        have ez : ((drS (some (some (t, u))) z tl).2.1 : Nat) = z + u := rfl
        rw [ez, sk_put]
        have k5 : ∀ c o, c ≠ a → H4 c = some o → upd H4 a (DX kdT w a (sk r (z + u) tL mL)) c = some o := fun c o n e => (upd_ne n).trans e
        have d5 : upd H4 a (DX kdT w a (sk r (z + u) tL mL)) a = some (DX kdT w a (sk r (z + u) tL mL)) := upd_same
        have tp5 : ∀ c xs, H4 c = some (.tup xs) → (upd H4 a (DX kdT w a (sk r (z + u) tL mL))) c = some (.tup xs) := fun c xs e => k5 _ _ (fun y => by rw [y, d4] at e; cases e) e
        have tp : ∀ c xs, H2 c = some (.tup xs) → (upd H4 a (DX kdT w a (sk r (z + u) tL mL))) c = some (.tup xs) := fun c xs e => tp5 _ _ (tp4 _ _ (tp3 _ _ e))
        refine ⟨_, rfl, q _ _ ⟨fun x o n1 n2 n3 e => k5 _ _ n1 (k4 _ _ n2 (k3 _ _ n3 (s2 _ _ e))), hg2.keep tp, r, ts ++ [g], d5, tp _ _ hS2.row, k5 _ _ (Ne.symm hS2.at) t4, ?_, hS.ne, ?_, fun j v e => ?_, hle', hS.short⟩⟩
        · refine (k5 _ _ (Ne.symm hS2.am) m4).trans ?_
          show _ = some (HO.lst (vnats ((tl ++ [(z, t)]).map (·.1))))
          rw [List.map_append, vnats, vnats, List.map_append]
          rfl
        · show (ts ++ [g]).length = (tl ++ [(z, t)]).length
          rw [List.length_append, List.length_append, hS.len]
          rfl
        · show ∃ t', (tl ++ [(z, t)])[j]? = some t' ∧ TvAt (upd H4 a (DX kdT w a (sk r (z + u) tL mL))) v t'.2
          by_cases cj : j < ts.length
          · rw [List.getElem?_append_left cj] at e
            obtain ⟨t', f1, f2⟩ := hS2.each j v e
            exact ⟨t', by rw [List.getElem?_append_left (by rw [← hS.len]; exact cj)]; exact f1, f2.keep tp⟩
          · have hj : j = ts.length := by
              have := (List.getElem?_eq_some_iff.mp e).1
              rw [List.length_append] at this
              have : j < ts.length + 1 := this
              omega
            subst hj
            rw [List.getElem?_append_right (Nat.le_refl _), Nat.sub_self] at e
            cases e
            exact ⟨(z, t), by rw [hS.len, List.getElem?_append_right (Nat.le_refl _), Nat.sub_self]; rfl, hg2.keep tp⟩
end
noncomputable def spDeed (K : PySem.W.Frag) : Sp := fun vs H Q _ => ∃ (a t : Addr) (ns : List Int) (k : Nat), vs = [.ref a, .ref t] ∧ Scr K H a ns ∧ ns.length ≤ 63 ∧ Twn H t k ∧ k ≤ 700000 ∧
  ∀ v de k' H', Grow t H H' → Twn H' t k' → k' ≤ k + 20 → DdAt H' v de → Q v H'
section
variable {P : Program} {w : World} {K : PySem.W.Frag} {mg : Str → Option Value} {base : Heap} {f : Addr} {fd : FuncData}
theorem ok__law_deed (F__law_deed : Fun K "_law_deed" "_law_deed" s__law_deed f fd) (B : Bl mg) (g__law_draw : Fn P w K mg base "_law_draw" p__law_draw 1 (spDraw K)) :
    FnOk P w K mg base CX0 2 f fd p__law_deed (spDeed K) := by
  refine F__law_deed.ok sc__law_deed (fun vs H Q E h => ?_) (fun cdv A outer s H vs Q E hr h => ?_)
  · obtain ⟨a, t, ns, k, rfl, _⟩ := h
    rfl
  obtain ⟨a, t, ns, k, rfl, hS, h63, hT, hk, q⟩ := h
  refine ⟨_, (pss_cons (ps_set (i := 2) sc__law_deed.nd rfl (Or.inl rfl) (pe_fn g__law_draw hr (pa_cons (pv 0) (pa_cons (pv 1) (pa_cons pe_int pa_nil)))))
      (pss_cons (ps_set (i := 3) sc__law_deed.nd rfl (Or.inl rfl) (pe_op op_add pe_int (pe_fn g__law_draw hr (pa_cons (pv 0) (pa_cons (pv 1) (pa_cons pe_int pa_nil))))))
      (pss_cons (ps_set (i := 4) sc__law_deed.nd rfl (Or.inl rfl) (pe_lst (PB.go (pb_cons (pe_tup (pa_cons pe_str (pa_cons (pv 3) pa_nil))) (pb_cons (pe_tup (pa_cons pe_str (pa_cons (pe_op op_cat0 (pe_callTy call_tuple_of rfl B.tuple_ L3.bt_tuple (pa_cons (pe_comp [] ["_law_script", "_law_town", "_law_kind", "_law_many", "_law_deeds", "_law_j"] 1 rfl (pi_range1 rfl B.range_ (pa_cons (pv 3) pa_nil)) (fun _ _ _ _ _ => (pg_name (i := 5) nd_6 rfl (Or.inl rfl) (Or.inr rfl))) (fun _ _ _ _ _ => pif_nil) (fun _ _ _ _ _ => (pe_fn g__law_draw hr (pa_cons (pv 0) (pa_cons (pv 1) (pa_cons pe_int pa_nil)))))) pa_nil)) (pe_tup (pa_cons pe_int pa_nil))) pa_nil))) pb_nil se_Tuple) se_Tuple))))
      (pss_cons (ps_set (i := 4) sc__law_deed.nd rfl (Or.inl rfl) (pe_op op_cat (pv 4) (pe_lst (PB.go (pb_cons (pe_tup (pa_cons pe_str (pa_cons (pe_tupRange rfl rfl B.tuple_ rfl B.range_ (pa_cons (pv 3) pa_nil)) pa_nil))) (pb_cons (pe_tup (pa_cons pe_str (pa_cons (pv 3) (pa_cons (pe_fn g__law_draw hr (pa_cons (pv 0) (pa_cons (pv 1) (pa_cons (pe_op op_add (pv 3) pe_int) pa_nil)))) pa_nil)))) pb_nil se_Tuple) se_Tuple)))))
      (pss_one (ps_ret (pe_ix ix_list (pe_op op_cat (pv 4) (pe_lst (pa_cons (pe_tup (pa_cons pe_str pa_nil)) (pa_cons (pe_tup (pa_cons pe_str pa_nil)) pa_nil)))) (pv 2) (fun _ _ => rfl)))))))), ?_⟩
  refine ⟨_, rfl, _, rfl, a, t, ns, k, 6, rfl, hS, h63, hT, by omega, by decide, fun H1 g1 t1 => ?_⟩
  refine ⟨_, rfl, _, rfl, a, t, ns, k + 1, 9, rfl, g1.scr hT hS, h63, t1, by omega, by decide, fun H2 g2 t2 => ?_⟩
  have a0 := drw_nn ns (k + 1) (show (0 : Int) < 6 by decide)
  have a1 := drw_lt ns (k + 1) (show (0 : Int) < 6 by decide)
  have b0 := drw_nn ns (k + 1 + 1) (show (0 : Int) < 9 by decide)
  have b1 := drw_lt ns (k + 1 + 1) (show (0 : Int) < 9 by decide)
  refine ⟨_, _, rfl, rfl, ?_⟩
  obtain ⟨kd, hkd⟩ := nat_of a0
  obtain ⟨m0, hm0⟩ := nat_of b0
  rw [hkd] at a1 ⊢
  rw [hm0] at b1 ⊢
  try dsimp (config := { proj := false, iota := false, eta := false, etaStruct := .none, zeta := false }) only
  rw [show (1 : Int) + (m0 : Int) = ((m0 + 1 : Nat) : Int) by omega]
  generalize hm : m0 + 1 = m
  have hm1 : 0 < m := by omega
  have hm9 : m ≤ 9 := by omega
  have gA : Grow t H H2 := g1.trans g2
  have sA := gA.scr hT hS
  clear g1 t1 g2 hkd hm0 b0 b1
  -- even
  refine ⟨_, rfl, (by show 2 ≤ sizeLine; decide), fun p1 fp1 => ?_⟩
  have y1 := same_new fp1 (.tup [V.str "even", V.int (m : Int)])
  have w1 : upd H2 p1 (.tup [V.str "even", V.int (m : Int)]) p1 = some (.tup [V.str "even", V.int (m : Int)]) := upd_same
  generalize upd H2 p1 (.tup [V.str "even", V.int (m : Int)]) = H3 at y1 w1 ⊢
  have g3 : Grow t H H3 := gA.trans (.same y1)
  have t3 : Twn H3 t (k + 1 + 1) := y1.twn t2
  have s3 := y1.scr sA
  -- pick
  refine ⟨_, rfl, _, rfl, by omega, by omega, ?_⟩
  rw [Int.toNat_natCast]
  refine comp_range (lo := 0) (n := m) (fun j acc σ' H' => ∃ (fs : List Nat) (o : Option V), acc = vnats fs ∧ fs.length = j ∧ (∀ x ∈ fs, x ≤ 3) ∧ Grow t H3 H' ∧ Twn H' t (k + 1 + 1 + j) ∧ σ' = [some (.ref a), some (.ref t), some (.int (kd : Int)), some (.int (m : Int)), none, o])
    ⟨[], _, rfl, rfl, (fun x hx => nomatch hx), Grow.refl _ _, t3, rfl⟩ ?_ ?_ ?_
  · rintro j acc σ' H' hj ⟨fs, o, rfl, hl, _⟩
    rw [vnats_len, hl]
    omega
  · rintro j acc σ' H' hj ⟨fs, o, rfl, hl, hx, g4, t4, rfl⟩
    refine ⟨_, rfl, _, rfl, a, t, ns, k + 1 + 1 + j, 4, rfl, g4.scr t3 s3, h63, t4, by omega, by decide, fun H5 g5 t5 => ?_⟩
    have c0 := drw_nn ns (k + 1 + 1 + j + 1) (show (0 : Int) < 4 by decide)
    have c1 := drw_lt ns (k + 1 + 1 + j + 1) (show (0 : Int) < 4 by decide)
    obtain ⟨d0, hd0⟩ := nat_of c0
    rw [hd0] at c1 ⊢
    refine ⟨fs ++ [d0], _, by rw [vnats_app]; rfl, by rw [List.length_append, hl]; rfl, fun x h => ?_, g4.trans g5, t5, rfl⟩
    rcases List.mem_append.mp h with h | h
    · exact hx x h
    · obtain rfl : x = d0 := by simpa using h
      omega
  rintro acc σ' H4 D ⟨fs, o, rfl, hl, hx, g4, t4, rfl⟩ fD
  have yD := same_new fD (.lst (vnats fs))
  refine ⟨D, _, rfl, .inl ⟨SqL.of upd_same, fun l fl => ?_⟩⟩
  generalize hHd : upd H4 D (.lst (vnats fs)) = H5 at yD fl ⊢
  have yl := same_new fl (.tup (vnats fs))
  have wl : upd H5 l (.tup (vnats fs)) l = some (.tup (vnats fs)) := upd_same
  generalize upd H5 l (.tup (vnats fs)) = H6 at yl wl ⊢
  refine ⟨(by show 1 ≤ sizeLine; decide), fun p2 fp2 => ?_⟩
  have y2 := same_new fp2 (.tup [V.int 1])
  have w2 : upd H6 p2 (.tup [V.int 1]) p2 = some (.tup [V.int 1]) := upd_same
  generalize upd H6 p2 (.tup [V.int 1]) = H7 at y2 w2 ⊢
  refine ⟨l, p2, _, _, rfl, rfl, SqT.of (y2 _ _ wl), SqT.of w2, ?_, fun e => ?_, (fun _ e => nomatch e), fun _ _ p3 fp3 => ?_⟩
  · rw [vnats_len, hl]
    exact small (by show m + 1 ≤ _; omega)
  · have := congrArg List.length e
    rw [vnats_len, hl] at this
    have : m = 0 := this
    omega
  rw [show vnats fs ++ [V.int 1] = vnats (fs ++ [1]) by rw [vnats_app]; rfl]
  have y3 := same_new fp3 (.tup (vnats (fs ++ [1])))
  have w3 : upd H7 p3 (.tup (vnats (fs ++ [1]))) p3 = some (.tup (vnats (fs ++ [1]))) := upd_same
  generalize upd H7 p3 (.tup (vnats (fs ++ [1]))) = H8 at y3 w3 ⊢
  refine ⟨(by show 2 ≤ sizeLine; decide), fun p4 fp4 => ?_⟩
  have y4 := same_new fp4 (.tup [V.str "pick", V.ref p3])
  have w4 : upd H8 p4 (.tup [V.str "pick", V.ref p3]) p4 = some (.tup [V.str "pick", V.ref p3]) := upd_same
  generalize upd H8 p4 (.tup [V.str "pick", V.ref p3]) = H9 at y4 w4 ⊢
  have s9 : Same H4 H9 := (((yD.trans yl).trans y2).trans y3).trans y4
  have g9 : Grow t H H9 := (g3.trans g4).trans (.same s9)
  have w1' := s9 _ _ (g4.tup t3 w1)
  have w3' := y4 _ _ w3
  have t9 := s9.twn t4
  clear w1 w2 wl fl fp1 fp2 fp3 fp4 y1 yD yl y2 y3 y4 s9 g4 t4 hHd w3
  refine ⟨(by show 2 ≤ sizeLine; decide), fun L1 fL1 => ?_⟩
  have y5 := same_new fL1 (.lst [V.ref p1, V.ref p4])
  have w5 : upd H9 L1 (.lst [V.ref p1, V.ref p4]) L1 = some (.lst [V.ref p1, V.ref p4]) := upd_same
  have hLt : L1 ≠ t := twn_new t9 fL1
  generalize upd H9 L1 (.lst [V.ref p1, V.ref p4]) = H10 at y5 w5 ⊢
  -- shuffled
  refine ⟨_, rfl, _, rfl, m, rfl, by omega, fun p6 fp6 => ?_⟩
  have er : ((List.range m).map fun (j : Nat) => V.int (j : Int)) = vis (nis (List.range m)) := by rw [← vnats_vis]; rfl
  rw [er]
  have y6 := same_new fp6 (.tup (vis (nis (List.range m))))
  have w6 : upd H10 p6 (.tup (vis (nis (List.range m)))) p6 = some (.tup (vis (nis (List.range m)))) := upd_same
  generalize upd H10 p6 (.tup (vis (nis (List.range m)))) = H11 at y6 w6 ⊢
  refine ⟨(by show 2 ≤ sizeLine; decide), fun p7 fp7 => ?_⟩
  have y7 := same_new fp7 (.tup [V.str "shuffled", V.ref p6])
  have w7 : upd H11 p7 (.tup [V.str "shuffled", V.ref p6]) p7 = some (.tup [V.str "shuffled", V.ref p6]) := upd_same
  generalize upd H11 p7 (.tup [V.str "shuffled", V.ref p6]) = H12 at y7 w7 ⊢
  have s12 : Same H9 H12 := (y5.trans y6).trans y7
  have t12 := s12.twn t9
  have g12 : Grow t H H12 := g9.trans (.same s12)
  -- choice
  refine ⟨_, rfl, _, rfl, _, rfl, _, rfl, _, _, rfl, rfl, a, t, ns, k + 1 + 1 + m, ((m : Int) + 2), rfl, g12.scr hT hS, h63, t12, by omega, by omega, fun H13 g13 t13 => ?_⟩
  have c0 := drw_nn ns (k + 1 + 1 + m + 1) (show (0 : Int) < (m : Int) + 2 by omega)
  generalize drw ns (k + 1 + 1 + m + 1) ((m : Int) + 2) = kk at c0 ⊢
  refine ⟨(by show 3 ≤ sizeLine; decide), fun p8 fp8 => ?_⟩
  have y8 := same_new fp8 (.tup [V.str "choice", V.int (m : Int), V.int kk])
  have w8 : upd H13 p8 (.tup [V.str "choice", V.int (m : Int), V.int kk]) p8 = some (.tup [V.str "choice", V.int (m : Int), V.int kk]) := upd_same
  generalize upd H13 p8 (.tup [V.str "choice", V.int (m : Int), V.int kk]) = H14 at y8 w8 ⊢
  refine ⟨(by show 2 ≤ sizeLine; decide), fun L2 fL2 => ?_⟩
  have y9 := same_new fL2 (.lst [V.ref p7, V.ref p8])
  have w9 : upd H14 L2 (.lst [V.ref p7, V.ref p8]) L2 = some (.lst [V.ref p7, V.ref p8]) := upd_same
  generalize upd H14 L2 (.lst [V.ref p7, V.ref p8]) = H15 at y9 w9 ⊢
  have k15 : ∀ c o, c ≠ t → H9 c = some o → H15 c = some o := fun c o n e => y9 _ _ (y8 _ _ (g13 _ _ n (s12 _ _ e)))
  have hL1 : H15 L1 = some (.lst [V.ref p1, V.ref p4]) := y9 _ _ (y8 _ _ (g13 _ _ hLt (y7 _ _ (y6 _ _ w5))))
  refine ⟨L1, L2, _, _, rfl, rfl, hL1, w9, (by show 4 ≤ sizeLine; decide), fun L3 fL3 => ?_⟩
  have y10 := same_new fL3 (.lst ([V.ref p1, V.ref p4] ++ [V.ref p7, V.ref p8]))
  have w10 : upd H15 L3 (.lst ([V.ref p1, V.ref p4] ++ [V.ref p7, V.ref p8])) L3 = some (.lst ([V.ref p1, V.ref p4] ++ [V.ref p7, V.ref p8])) := upd_same
  generalize upd H15 L3 (.lst ([V.ref p1, V.ref p4] ++ [V.ref p7, V.ref p8])) = H16 at y10 w10 ⊢
  -- back
  refine ⟨_, rfl, (by show 1 ≤ sizeLine; decide), fun p11 fp11 => ?_⟩
  have y11 := same_new fp11 (.tup [V.str "back"])
  have w11 : upd H16 p11 (.tup [V.str "back"]) p11 = some (.tup [V.str "back"]) := upd_same
  generalize upd H16 p11 (.tup [V.str "back"]) = H17 at y11 w11 ⊢
  refine ⟨(by show 1 ≤ sizeLine; decide), fun p12 fp12 => ?_⟩
  have y12 := same_new fp12 (.tup [V.str "back"])
  have w12 : upd H17 p12 (.tup [V.str "back"]) p12 = some (.tup [V.str "back"]) := upd_same
  generalize upd H17 p12 (.tup [V.str "back"]) = H18 at y12 w12 ⊢
  refine ⟨(by show 2 ≤ sizeLine; decide), fun L4 fL4 => ?_⟩
  have y13 := same_new fL4 (.lst [V.ref p11, V.ref p12])
  have w13 : upd H18 L4 (.lst [V.ref p11, V.ref p12]) L4 = some (.lst [V.ref p11, V.ref p12]) := upd_same
  generalize upd H18 L4 (.lst [V.ref p11, V.ref p12]) = H19 at y13 w13 ⊢
  have hL3 : H19 L3 = some (.lst ([V.ref p1, V.ref p4] ++ [V.ref p7, V.ref p8])) := y13 _ _ (y12 _ _ (y11 _ _ w10))
  refine ⟨L3, L4, _, _, rfl, rfl, hL3, w13, (by show 6 ≤ sizeLine; decide), fun L5 fL5 => ?_⟩
  have y14 := same_new fL5 (.lst ([V.ref p1, V.ref p4] ++ [V.ref p7, V.ref p8] ++ [V.ref p11, V.ref p12]))
  have w14 : upd H19 L5 (.lst ([V.ref p1, V.ref p4] ++ [V.ref p7, V.ref p8] ++ [V.ref p11, V.ref p12])) L5 = some (.lst ([V.ref p1, V.ref p4] ++ [V.ref p7, V.ref p8] ++ [V.ref p11, V.ref p12])) := upd_same
  generalize upd H19 L5 (.lst ([V.ref p1, V.ref p4] ++ [V.ref p7, V.ref p8] ++ [V.ref p11, V.ref p12])) = H20 at y14 w14 ⊢
  have s20 : Same H16 H20 := ((y11.trans y12).trans y13).trans y14
  have s15 : Same H15 H20 := y10.trans s20
  have s13 : Same H13 H20 := (y8.trans y9).trans s15
  have gF : Grow t H H20 := (g12.trans g13).trans (.same s13)
  have tF := s13.twn t13
  have v1 : H20 p1 = some (.tup [V.str "even", V.int (m : Int)]) := s15 _ _ (k15 _ _ (twn_tup t9 w1') w1')
  have v3 : H20 p3 = some (.tup (vnats (fs ++ [1]))) := s15 _ _ (k15 _ _ (twn_tup t9 w3') w3')
  have v4 : H20 p4 = some (.tup [V.str "pick", V.ref p3]) := s15 _ _ (k15 _ _ (twn_tup t9 w4) w4)
  have w6' := y7 _ _ w6
  have v6 : H20 p6 = some (.tup (vis (nis (List.range m)))) := s13 _ _ (g13 _ _ (twn_tup t12 w6') w6')
  have v7 : H20 p7 = some (.tup [V.str "shuffled", V.ref p6]) := s13 _ _ (g13 _ _ (twn_tup t12 w7) w7)
  have v8 : H20 p8 = some (.tup [V.str "choice", V.int (m : Int), V.int kk]) := s15 _ _ (y9 _ _ w8)
  have v11 : H20 p11 = some (.tup [V.str "back"]) := y14 _ _ (y13 _ _ (y12 _ _ w11))
  have v12 : H20 p12 = some (.tup [V.str "back"]) := y14 _ _ (y13 _ _ w12)
  have hsum : ∀ l : List Nat, (∀ x ∈ l, x ≤ 3) → l.sum ≤ 3 * l.length := fun l => by
    induction l with
    | nil => intro _; exact Nat.le_refl _
    | cons x l ih =>
      intro h
      have := ih fun y hy => h y (List.mem_cons_of_mem _ hy)
      have := h x List.mem_cons_self
      rw [List.sum_cons, List.length_cons]
      omega
  have e1 : (fs ++ [1]).sum = fs.sum + 1 := by rw [List.sum_append]; rfl
  have hs3 := hsum fs hx
  have hkd : kd < 6 := by omega
  have done : ∀ (v : V) (de : Dd), ([V.ref p1, V.ref p4] ++ [V.ref p7, V.ref p8] ++ [V.ref p11, V.ref p12])[kd]? = some v → DdAt H20 v de → Q v H20 := fun v de _ hd => q v de (k + 1 + 1 + m + 1) H20 gF tF (by omega) hd
  have fin : ∃ v de, ([V.ref p1, V.ref p4] ++ [V.ref p7, V.ref p8] ++ [V.ref p11, V.ref p12])[kd]? = some v ∧ DdAt H20 v de := by
    match kd, hkd with
    | 0, _ => exact ⟨_, .ev m, rfl, p1, rfl, v1, hm1⟩
    | 1, _ => exact ⟨_, .pk (fs ++ [1]), rfl, p4, _, rfl, v4, p3, rfl, v3, by omega, by omega, by rw [List.length_append, hl]; show m + 1 ≤ 1000; omega⟩
    | 2, _ => exact ⟨_, .sh m, rfl, p7, _, rfl, v7, v6, by omega⟩
    | 3, _ => exact ⟨_, .ch m kk, rfl, p8, rfl, v8, by omega⟩
    | 4, _ => exact ⟨_, .bk, rfl, p11, rfl, v11⟩
    | 5, _ => exact ⟨_, .bk, rfl, p12, rfl, v12⟩
  obtain ⟨v, de, hv, hd⟩ := fin
  exact ⟨_, rfl, L5, _, _, _, rfl, rfl, SqL.of w14, atI_nat hv, done v de hv hd⟩
end
structure Pt where
  d : Addr
  b : Addr
  st : Addr
  a : Addr
  tL : Addr
  mL : Addr
noncomputable def Pt.dr (x : Pt) : List Addr := [x.b, x.st, x.d]
noncomputable def Pt.sd (x : Pt) : List Addr := [x.a, x.tL, x.mL]
noncomputable def Pt.al (x : Pt) : List Addr := [x.b, x.st, x.d, x.a, x.tL, x.mL]
theorem Pt.b_al (x : Pt) : x.b ∈ x.al := by simp [Pt.al]
theorem Pt.st_al (x : Pt) : x.st ∈ x.al := by simp [Pt.al]
theorem Pt.d_al (x : Pt) : x.d ∈ x.al := by simp [Pt.al]
theorem Pt.a_al (x : Pt) : x.a ∈ x.al := by simp [Pt.al]
theorem Pt.tL_al (x : Pt) : x.tL ∈ x.al := by simp [Pt.al]
theorem Pt.mL_al (x : Pt) : x.mL ∈ x.al := by simp [Pt.al]
theorem Pt.b_dr (x : Pt) : x.b ∈ x.dr := by simp [Pt.dr]
theorem Pt.st_dr (x : Pt) : x.st ∈ x.dr := by simp [Pt.dr]
theorem Pt.d_dr (x : Pt) : x.d ∈ x.dr := by simp [Pt.dr]
theorem Pt.a_sd (x : Pt) : x.a ∈ x.sd := by simp [Pt.sd]
theorem Pt.tL_sd (x : Pt) : x.tL ∈ x.sd := by simp [Pt.sd]
theorem Pt.mL_sd (x : Pt) : x.mL ∈ x.sd := by simp [Pt.sd]
noncomputable def Stay (H H' : Hp) : Prop := (∀ c xs, H c = some (.tup xs) → H' c = some (.tup xs)) ∧ ∀ c o u, H c = some (.frz o u) → H' c = some (.frz o u)
theorem Stay.scr {K : PySem.W.Frag} {H H' : Hp} {a : Addr} {ns : List Int} (h : Stay H H') (s : Scr K H a ns) : Scr K H' a ns := by
  rcases s with ⟨o, y⟩ | y
  · exact .inl ⟨o, h.2 _ _ _ y⟩
  · exact .inr y
theorem Drw.keep {C CD : Addr} {H H' : Hp} {d b st : Addr} {bl : List Nat} {z : Nat} {tl : List (Nat × Tv)} (h : Drw C CD H d b st bl z tl) (s : Stay H H') (hd : ∀ o, H d = some o → H' d = some o) (hb : ∀ o, H b = some o → H' b = some o) (hs : ∀ o, H st = some o → H' st = some o) : Drw C CD H' d b st bl z tl := by
  obtain ⟨dd, dx, r, as, sp, hD, hl, ht⟩ := h
  exact ⟨dd, dx, r, as, sp, ⟨hd _ hD.obj, ⟨hb _ hD.bits.obj, s.1 _ _ hD.bits.row, hD.bits.le⟩, hs _ hD.lst, hD.len, hD.short, fun j a x e1 e2 => s.1 _ _ (hD.each j a x e1 e2)⟩, hl, fun j x e => by
    obtain ⟨t, e1, e2, e3⟩ := ht j x e
    exact ⟨t, e1, e2, e3.keep s.1⟩⟩
theorem Sid.keep {w : World} {H H' : Hp} {a tL mL : Addr} {bl : List Nat} {z : Nat} {tl : List (Nat × Tv)} (h : Sid w H a tL mL bl z tl) (s : Stay H H') (ha : ∀ o, H a = some o → H' a = some o) (ht : ∀ o, H tL = some o → H' tL = some o) (hm : ∀ o, H mL = some o → H' mL = some o) : Sid w H' a tL mL bl z tl := by
  obtain ⟨r, ts, hS⟩ := h
  exact ⟨r, ts, ha _ hS.dct, s.1 _ _ hS.row, ht _ hS.told, hm _ hS.marks, hS.ne, hS.len, fun j v e => by
    obtain ⟨t, e1, e2⟩ := hS.each j v e
    exact ⟨t, e1, e2.keep s.1⟩, hS.le, hS.short⟩
structure Sep (t S Bo : Addr) (x y : Pt) : Prop where
  tS : S ≠ t
  tB : Bo ≠ t
  x1 : ∀ p ∈ x.al, p ≠ t ∧ p ≠ S ∧ p ≠ Bo
  y1 : ∀ p ∈ y.al, p ≠ t ∧ p ≠ S ∧ p ≠ Bo
  xy : ∀ p ∈ x.al, ∀ q ∈ y.al, p ≠ q
  xx : ∀ p ∈ x.dr, ∀ q ∈ x.sd, p ≠ q
  yy : ∀ p ∈ y.dr, ∀ q ∈ y.sd, p ≠ q
theorem Sep.swap {t S Bo : Addr} {x y : Pt} (h : Sep t S Bo x y) : Sep t S Bo y x := ⟨h.tS, h.tB, h.y1, h.x1, fun p hp q hq e => h.xy q hq p hp e.symm, h.yy, h.xx⟩
structure Wp (K : PySem.W.Frag) (C CD : Addr) (w : World) (H : Hp) (a t S Bo : Addr) (ns : List Int) (k : Nat) (ls lb : List V) (x y : Pt) (bx : List Nat) (z : Nat) (tl : List (Nat × Tv)) (z' : Nat) (tl' : List (Nat × Tv)) (b2 : List Nat) (z2 : Nat) (tl2 : List (Nat × Tv)) : Prop where
  scr : Scr K H a ns
  twn : Twn H t k
  lS : H S = some (.lst ls)
  lB : H Bo = some (.lst lb)
  sep : Sep t S Bo x y
  dx : Drw C CD H x.d x.b x.st bx z tl
  sx : Sid w H x.a x.tL x.mL bx z' tl'
  dy : Drw C CD H y.d y.b y.st b2 z2 tl2
  sy : Sid w H y.a y.tL y.mL b2 z2 tl2
section
variable {K : PySem.W.Frag} {C CD : Addr} {w : World} {H H' : Hp} {a t S Bo : Addr} {ns : List Int} {k k' : Nat} {ls lb : List V} {x y : Pt} {bx : List Nat} {z : Nat} {tl : List (Nat × Tv)} {z' : Nat} {tl' : List (Nat × Tv)} {b2 : List Nat} {z2 : Nat} {tl2 : List (Nat × Tv)}
theorem Wp.swap (h : Wp K C CD w H a t S Bo ns k ls lb x y bx z tl z tl b2 z2 tl2) : Wp K C CD w H a t S Bo ns k ls lb y x b2 z2 tl2 z2 tl2 bx z tl := ⟨h.scr, h.twn, h.lS, h.lB, h.sep.swap, h.dy, h.sy, h.dx, h.sx⟩
theorem Wp.same (h : Wp K C CD w H a t S Bo ns k ls lb x y bx z tl z' tl' b2 z2 tl2) (s : Same H H') : Wp K C CD w H' a t S Bo ns k ls lb x y bx z tl z' tl' b2 z2 tl2 := by
  have y1 : Stay H H' := ⟨fun c xs e => s _ _ e, fun c o u e => s _ _ e⟩
  exact ⟨s.scr h.scr, s.twn h.twn, s _ _ h.lS, s _ _ h.lB, h.sep, h.dx.keep y1 (fun o e => s _ _ e) (fun o e => s _ _ e) (fun o e => s _ _ e), h.sx.keep y1 (fun o e => s _ _ e) (fun o e => s _ _ e) (fun o e => s _ _ e), h.dy.keep y1 (fun o e => s _ _ e) (fun o e => s _ _ e) (fun o e => s _ _ e), h.sy.keep y1 (fun o e => s _ _ e) (fun o e => s _ _ e) (fun o e => s _ _ e)⟩
theorem Wp.grow (h : Wp K C CD w H a t S Bo ns k ls lb x y bx z tl z' tl' b2 z2 tl2) (g : Grow t H H') (tw : Twn H' t k') : Wp K C CD w H' a t S Bo ns k' ls lb x y bx z tl z' tl' b2 z2 tl2 := by
  have hT : H t = some _ := h.twn
  have y1 : Stay H H' := ⟨fun c xs e => g _ _ (fun q => by rw [q, hT] at e; cases e) e, fun c o u e => g _ _ (fun q => by rw [q, hT] at e; cases e) e⟩
  have kx : ∀ p ∈ x.al, ∀ o, H p = some o → H' p = some o := fun p hp o e => g _ _ (h.sep.x1 p hp).1 e
  have ky : ∀ p ∈ y.al, ∀ o, H p = some o → H' p = some o := fun p hp o e => g _ _ (h.sep.y1 p hp).1 e
  exact ⟨y1.scr h.scr, tw, g _ _ h.sep.tS h.lS, g _ _ h.sep.tB h.lB, h.sep, h.dx.keep y1 (kx _ x.d_al) (kx _ x.b_al) (kx _ x.st_al), h.sx.keep y1 (kx _ x.a_al) (kx _ x.tL_al) (kx _ x.mL_al), h.dy.keep y1 (ky _ y.d_al) (ky _ y.b_al) (ky _ y.st_al), h.sy.keep y1 (ky _ y.a_al) (ky _ y.tL_al) (ky _ y.mL_al)⟩
theorem Wp.acted {zn : Nat} {tn : List (Nat × Tv)} (h : Wp K C CD w H a t S Bo ns k ls lb x y bx z tl z' tl' b2 z2 tl2) (g : But2 x.b x.st H H') (hd : Drw C CD H' x.d x.b x.st bx zn tn) : Stay H H' ∧ Wp K C CD w H' a t S Bo ns k ls lb x y bx zn tn z' tl' b2 z2 tl2 := by
  obtain ⟨dd, dx, r, as, sp, hD, _⟩ := id h.dx
  have y1 : Stay H H' := ⟨fun c xs e => g _ _ (fun q => by rw [q, hD.bits.obj] at e; cases e) (fun q => by rw [q, hD.lst] at e; cases e) e, fun c o u e => g _ _ (fun q => by rw [q, hD.bits.obj] at e; cases e) (fun q => by rw [q, hD.lst] at e; cases e) e⟩
  have ks : ∀ p ∈ x.sd, ∀ o, H p = some o → H' p = some o := fun p hp o e => g _ _ (Ne.symm (h.sep.xx _ x.b_dr p hp)) (Ne.symm (h.sep.xx _ x.st_dr p hp)) e
  have ky : ∀ p ∈ y.al, ∀ o, H p = some o → H' p = some o := fun p hp o e => g _ _ (Ne.symm (h.sep.xy _ x.b_al p hp)) (Ne.symm (h.sep.xy _ x.st_al p hp)) e
  have b1 := h.sep.x1 _ x.b_al
  have s1 := h.sep.x1 _ x.st_al
  exact ⟨y1, y1.scr h.scr, g _ _ (Ne.symm b1.1) (Ne.symm s1.1) h.twn, g _ _ (Ne.symm b1.2.1) (Ne.symm s1.2.1) h.lS, g _ _ (Ne.symm b1.2.2) (Ne.symm s1.2.2) h.lB, h.sep, hd, h.sx.keep y1 (ks _ x.a_sd) (ks _ x.tL_sd) (ks _ x.mL_sd), h.dy.keep y1 (ky _ y.d_al) (ky _ y.b_al) (ky _ y.st_al), h.sy.keep y1 (ky _ y.a_al) (ky _ y.tL_al) (ky _ y.mL_al)⟩
theorem Wp.did {zn : Nat} {tn : List (Nat × Tv)} (h : Wp K C CD w H a t S Bo ns k ls lb x y bx z tl z' tl' b2 z2 tl2) (g : But3 x.a x.tL x.mL H H') (hd : Sid w H' x.a x.tL x.mL bx zn tn) : Stay H H' ∧ Wp K C CD w H' a t S Bo ns k ls lb x y bx z tl zn tn b2 z2 tl2 := by
  obtain ⟨r, ts, hS⟩ := id h.sx
  have y1 : Stay H H' := ⟨fun c xs e => g _ _ (fun q => by rw [q, hS.dct] at e; cases e) (fun q => by rw [q, hS.told] at e; cases e) (fun q => by rw [q, hS.marks] at e; cases e) e, fun c o u e => g _ _ (fun q => by rw [q, hS.dct] at e; cases e) (fun q => by rw [q, hS.told] at e; cases e) (fun q => by rw [q, hS.marks] at e; cases e) e⟩
  have ks : ∀ p ∈ x.dr, ∀ o, H p = some o → H' p = some o := fun p hp o e => g _ _ (h.sep.xx p hp _ x.a_sd) (h.sep.xx p hp _ x.tL_sd) (h.sep.xx p hp _ x.mL_sd) e
  have ky : ∀ p ∈ y.al, ∀ o, H p = some o → H' p = some o := fun p hp o e => g _ _ (Ne.symm (h.sep.xy _ x.a_al p hp)) (Ne.symm (h.sep.xy _ x.tL_al p hp)) (Ne.symm (h.sep.xy _ x.mL_al p hp)) e
  have b1 := h.sep.x1 _ x.a_al
  have b2 := h.sep.x1 _ x.tL_al
  have b3 := h.sep.x1 _ x.mL_al
  exact ⟨y1, y1.scr h.scr, g _ _ (Ne.symm b1.1) (Ne.symm b2.1) (Ne.symm b3.1) h.twn, g _ _ (Ne.symm b1.2.1) (Ne.symm b2.2.1) (Ne.symm b3.2.1) h.lS, g _ _ (Ne.symm b1.2.2) (Ne.symm b2.2.2) (Ne.symm b3.2.2) h.lB, h.sep, h.dx.keep y1 (ks _ x.d_dr) (ks _ x.b_dr) (ks _ x.st_dr), hd, h.dy.keep y1 (ky _ y.d_al) (ky _ y.b_al) (ky _ y.st_al), h.sy.keep y1 (ky _ y.a_al) (ky _ y.tL_al) (ky _ y.mL_al)⟩
end
theorem TvAt.eqv {H : Hp} {n : Nat} {u v : V} {t : Tv} (h1 : TvAt H u t) (h2 : TvAt H v t) (hz : ∀ xs, t = .rw xs → xs.length ≤ 1000) : Eqv H (n + 2) u v := by
  cases t with
  | nm n => obtain rfl : u = .int (n : Int) := h1; obtain rfl : v = .int (n : Int) := h2; exact .inl ⟨rfl, rfl⟩
  | rw xs => obtain ⟨p, rfl, hp⟩ := h1; obtain ⟨p', rfl, hp'⟩ := h2; exact Eqv.ints hp hp' (Nat.le_trans (hz xs rfl) (by decide))
theorem AnAt.eqv {H : Hp} {n : Nat} {u v : V} {t : An} (h1 : AnAt H u t) (h2 : AnAt H v t) (hz : ∀ t' xs, t = .tv t' → t' = .rw xs → xs.length ≤ 1000) : Eqv H (n + 2) u v := by
  cases t with
  | tv t => exact TvAt.eqv h1 h2 fun xs e => hz t xs rfl e
  | no s => obtain rfl : u = .str s := h1; obtain rfl : v = .str s := h2; exact .inl ⟨rfl, rfl⟩
theorem paired_ix {R : V → V → Prop} : ∀ (xs ys : List V), xs.length = ys.length → (∀ (j : Nat) u v, xs[j]? = some u → ys[j]? = some v → R u v) → Paired R xs ys
  | [], [], _, _ => .nil
  | x :: xs, y :: ys, hl, h => .cons (h 0 x y rfl rfl) (paired_ix xs ys (by simpa using hl) fun j u v e1 e2 => h (j + 1) u v (by simpa using e1) (by simpa using e2))
theorem drw_sid_eqv {C CD : Addr} {w : World} {H : Hp} {d dd b dx r st a tL mL r2 : Addr} {bl : List Nat} {z : Nat} {tl : List (Nat × Tv)} {as : List Addr} {sp : List (Nat × V)} {ts : List V} {p l : Addr} (hl : sp.length = tl.length) (ht : ∀ (j : Nat) (s : Nat × V), sp[j]? = some s → ∃ t, tl[j]? = some t ∧ s.1 = t.1 ∧ TvAt H s.2 t.2)
    (hl2 : ts.length = tl.length) (ht2 : ∀ (j : Nat) (v : V), ts[j]? = some v → ∃ t, tl[j]? = some t ∧ TvAt H v t.2) (hb : ∀ x ∈ tl, ∀ xs, x.2 = Tv.rw xs → xs.length ≤ 1000) (hp : H p = some (.tup (sp.map (·.2)))) (hq : H l = some (.tup ts)) (hs : sp.length ≤ 1000000) : Eqv H 3 (.ref p) (.ref l) := by
  refine .inr ⟨p, l, _, _, rfl, rfl, hp, hq, by rw [List.length_map]; exact hs, paired_ix _ _ (by rw [List.length_map, hl, hl2]) fun j u v e1 e2 => ?_⟩
  rw [List.getElem?_map] at e1
  cases e : sp[j]? with
  | none => rw [e] at e1; cases e1
  | some s =>
    rw [e] at e1
    obtain rfl := (Option.some.inj e1).symm
    obtain ⟨t, f1, _, f3⟩ := ht j s e
    obtain ⟨t', f4, f5⟩ := ht2 j v e2
    rw [f1] at f4
    cases f4
    exact TvAt.eqv f3 f5 fun xs e => hb t (List.mem_iff_getElem?.mpr ⟨j, f1⟩) xs e
section
variable {P : Program} {w : World} {K : PySem.W.Frag} {mg : Str → Option Value} {base : Heap} {f C fI fT fU fL fG CP : Addr} {fd dI dT dU dL dG : FuncData} {mP : List Value}
theorem ok_go_back (F_Bits_go_back : Fun K "go_back" "Bits.go_back" s_Bits_go_back f fd) (T : Txt K mg C fI fT fU fL fG dI dT dU dL dG) (X_NoPlace : Exc K mg "NoPlace" CP mP) : FnOk P w K mg base (CXR P w) 1 f fd p_Bits_go_back (spBack C CP) := by
  refine F_Bits_go_back.okX sc_Bits_go_back (fun vs H Q E h => ?_) (fun cdv A outer s H vs Q E hr h => ?_)
  · obtain ⟨p, dx, r, z, m, rfl, _⟩ := h
    rfl
  obtain ⟨p, dx, r, z, m, rfl, hp, q, e⟩ := h
  refine ⟨_, (pss_cons (ps_if (PW.pt (pw_or (pt_cmpR op_lt (pv 1) pe_int (nomark _)) (pw_or1 (pt_cmpR op_gt (pv 1) (pe_fld (pv 0) rfl) (nomark _))))) (pss_one (ps_raise X_NoPlace (pa_cons pe_str pa_nil))) pss_nil)
      (pss_one (ps_fld (pv 0) (pv 1) rfl))), ?_⟩
  refine ⟨_, rfl, _, _, rfl, rfl, _, rfl, ?_⟩
  refine ite2 (fun c => ?_) (fun c => ?_)
  · have c' : m < 0 := of_decide_eq_true c
    refine iteT ?_
    exact ⟨(by show 1 ≤ sizeLine; decide), e (by omega)⟩
  · have c' : ¬ m < 0 := of_decide_eq_false (Bool.eq_false_iff.mpr c)
    refine ⟨_, rfl, _, rfl, p, C, dx, _, _, rfl, hp, T.cl, T.nP, flds_place _ _, _, _, rfl, rfl, _, rfl, ?_⟩
    refine ite2 (fun c2 => ?_) (fun c2 => ?_)
    · have c3 : m > (z : Int) := of_decide_eq_true c2
      exact ⟨(by show 1 ≤ sizeLine; decide), e (by omega)⟩
    · have c3 : ¬ m > (z : Int) := of_decide_eq_false (Bool.eq_false_iff.mpr c2)
      refine ⟨_, rfl, _, rfl, p, C, dx, _, rfl, hp, T.cl, T.nP, flds_lt _ _, ?_⟩
      rw [flds_put]
      exact q ⟨by omega, by omega⟩
end
theorem drP_bd {H : Hp} {v : V} {de : Dd} {l : List Nat} {xs : List Int} {u : Nat} (h : DdAt H v de) (e : drP de l = some (some (.rw xs, u))) : xs.length ≤ 1000 := by
  cases de with
  | ev n =>
    unfold drP at e
    dsimp only at e
    cases e2 : evF n l with
    | none => rw [e2] at e; cases e
    | some p => rw [e2] at e; injection e with e; injection e with e; injection e with e _; cases e
  | pk ws =>
    unfold drP at e
    dsimp only at e
    cases e2 : pkF ws l with
    | none => rw [e2] at e; cases e
    | some p => rw [e2] at e; injection e with e; injection e with e; injection e with e _; cases e
  | sh n =>
    obtain ⟨_, _, _, _, _, hn⟩ := h
    unfold drP at e
    dsimp only at e
    cases e2 : shP (nis (List.range n)) l with
    | none => rw [e2] at e; cases e
    | some p =>
      rw [e2] at e
      cases e
      unfold shP at e2
      cases e3 : sqF (radsS (nis (List.range n)).length) l with
      | none => rw [e3] at e2; cases e2
      | some q =>
        rw [e3] at e2
        cases e2
        dsimp only
        rw [bsw_len, nis, List.length_map, List.length_range]
        omega
  | ch n k =>
    obtain ⟨_, _, _, hn⟩ := h
    unfold drP at e
    dsimp only at e
    by_cases c : wyI (n : Int) k = 0
    · rw [if_pos c] at e; cases e
    · rw [if_neg c] at e
      cases e2 : evF (wyI (n : Int) k) l with
      | none => rw [e2] at e; cases e
      | some p =>
        rw [e2] at e
        cases e
        rw [nis, List.length_map]
        have hk : k.toNat ≤ n := by
          unfold wyI at c
          split at c
          · exact absurd rfl c
          · omega
        rw [List.getD_eq_getElem?_getD]
        cases e3 : (chL n k.toNat 0)[p.1]? with
        | none => exact Nat.zero_le _
        | some os =>
          have := (chL_mem (List.mem_iff_getElem?.mpr ⟨_, e3⟩)).1
          show os.length ≤ 1000
          omega
  | bk => cases e
noncomputable def Bds (tl : List (Nat × Tv)) : Prop := ∀ x ∈ tl, ∀ xs, x.2 = .rw xs → xs.length ≤ 1000
theorem Bds.step {H : Hp} {v : V} {de : Dd} {bl : List Nat} {z : Nat} {tl : List (Nat × Tv)} (hv : DdAt H v de) (h : Bds tl) : Bds (stepP de bl z tl).2.2 ∧ (∀ t xs, (stepP de bl z tl).1 = .tv t → t = .rw xs → xs.length ≤ 1000) ∧ (stepP de bl z tl).2.2.length ≤ tl.length + 1 := by
  by_cases hb : de = .bk
  · subst hb
    unfold stepP
    dsimp only
    cases e : tl.getLast? with
    | none => exact ⟨h, (fun t xs e => nomatch e), Nat.le_succ _⟩
    | some x =>
      obtain ⟨m, t⟩ := x
      obtain ⟨l, rfl⟩ : ∃ l, tl = l ++ [(m, t)] := by
        rw [List.getLast?_eq_some_iff] at e
        exact e
      dsimp only
      rw [List.dropLast_concat]
      refine ⟨fun x hx => h x (List.mem_append_left _ hx), fun t' xs e1 e2 => ?_, by rw [List.length_append]; omega⟩
      cases e1
      exact h (m, t) (by simp) xs e2
  · rw [stepP_dr hb]
    cases e : drP de (bl.drop z) with
    | none => exact ⟨h, (fun t xs e => nomatch e), Nat.le_succ _⟩
    | some o =>
      cases o with
      | none => exact ⟨h, (fun t xs e => nomatch e), Nat.le_succ _⟩
      | some x =>
        obtain ⟨t, u⟩ := x
        have hb2 : ∀ xs, t = .rw xs → xs.length ≤ 1000 := fun xs e2 => drP_bd hv (e2 ▸ e)
        refine ⟨fun x hx xs e2 => ?_, fun t' xs e1 e2 => ?_, by show (tl ++ [(z, t)]).length ≤ _; rw [List.length_append]; exact Nat.le_refl _⟩
        · rcases List.mem_append.mp hx with hx | hx
          · exact h x hx xs e2
          · obtain rfl : x = (z, t) := by simpa using hx
            exact hb2 xs e2
        · cases e1
          exact hb2 xs e2
noncomputable def New (C CD : Addr) (w : World) (H : Hp) (x : Pt) : Prop := ∃ bl, Drw C CD H x.d x.b x.st bl 0 [] ∧ Sid w H x.a x.tL x.mL bl 0 []
theorem New.live {C CD : Addr} {w : World} {H : Hp} {x : Pt} (h : New C CD w H x) : ∀ p ∈ x.al, H p ≠ none := fun p hp => by
  obtain ⟨bl, ⟨dd, dx, r, as, sp, hD, _⟩, r2, ts, hS⟩ := h
  unfold Pt.al at hp
  simp only [List.mem_cons, List.not_mem_nil, or_false] at hp
  rcases hp with rfl | rfl | rfl | rfl | rfl | rfl
  · rw [hD.bits.obj]; exact Option.some_ne_none _
  · rw [hD.lst]; exact Option.some_ne_none _
  · rw [hD.obj]; exact Option.some_ne_none _
  · rw [hS.dct]; exact Option.some_ne_none _
  · rw [hS.told]; exact Option.some_ne_none _
  · rw [hS.marks]; exact Option.some_ne_none _
structure Bld (K : PySem.W.Frag) (C CD : Addr) (w : World) (H : Hp) (a t S Bo : Addr) (ns : List Int) (k : Nat) (ls lb : List V) (ps : List Pt) : Prop where
  scr : Scr K H a ns
  twn : Twn H t k
  lS : H S = some (.lst ls)
  lB : H Bo = some (.lst lb)
  tS : S ≠ t
  tB : Bo ≠ t
  sB : S ≠ Bo
  new : ∀ x ∈ ps, New C CD w H x
  one : ∀ x ∈ ps, ∀ p ∈ x.al, p ≠ t ∧ p ≠ S ∧ p ≠ Bo
  own : ∀ x ∈ ps, ∀ p ∈ x.dr, ∀ q ∈ x.sd, p ≠ q
  two : ps.Pairwise fun x y => ∀ p ∈ x.al, ∀ q ∈ y.al, p ≠ q
section
variable {K : PySem.W.Frag} {C CD : Addr} {w : World} {H H' : Hp} {a t S Bo : Addr} {ns : List Int} {k k' : Nat} {ls lb : List V} {ps : List Pt}
theorem New.keep {x : Pt} (h : New C CD w H x) (s : Stay H H') (k : ∀ p ∈ x.al, ∀ o, H p = some o → H' p = some o) : New C CD w H' x := by
  obtain ⟨bl, h1, h2⟩ := h
  exact ⟨bl, h1.keep s (k _ x.d_al) (k _ x.b_al) (k _ x.st_al), h2.keep s (k _ x.a_al) (k _ x.tL_al) (k _ x.mL_al)⟩
theorem Bld.same (h : Bld K C CD w H a t S Bo ns k ls lb ps) (s : Same H H') : Bld K C CD w H' a t S Bo ns k ls lb ps :=
  ⟨s.scr h.scr, s.twn h.twn, s _ _ h.lS, s _ _ h.lB, h.tS, h.tB, h.sB, fun x hx => (h.new x hx).keep ⟨fun c xs e => s _ _ e, fun c o u e => s _ _ e⟩ fun p _ o e => s _ _ e, h.one, h.own, h.two⟩
theorem Bld.grow (h : Bld K C CD w H a t S Bo ns k ls lb ps) (g : Grow t H H') (tw : Twn H' t k') : Bld K C CD w H' a t S Bo ns k' ls lb ps := by
  have hT : H t = some _ := h.twn
  have y1 : Stay H H' := ⟨fun c xs e => g _ _ (fun q => by rw [q, hT] at e; cases e) e, fun c o u e => g _ _ (fun q => by rw [q, hT] at e; cases e) e⟩
  exact ⟨y1.scr h.scr, tw, g _ _ h.tS h.lS, g _ _ h.tB h.lB, h.tS, h.tB, h.sB, fun x hx => (h.new x hx).keep y1 fun p hp o e => g _ _ (h.one x hx p hp).1 e, h.one, h.own, h.two⟩
theorem stay_upd {q : Addr} {u : HO} (h1 : ∀ xs, H q ≠ some (.tup xs)) (h2 : ∀ o u, H q ≠ some (.frz o u)) : Stay H (upd H q u) :=
  ⟨fun c xs e => (upd_ne fun (y : c = q) => h1 xs (by rw [← y]; exact e)).trans e, fun c o u e => (upd_ne fun (y : c = q) => h2 o u (by rw [← y]; exact e)).trans e⟩
theorem Bld.setB (h : Bld K C CD w H a t S Bo ns k ls lb ps) (lb' : List V) : Bld K C CD w (upd H Bo (.lst lb')) a t S Bo ns k ls lb' ps := by
  have y1 : Stay H (upd H Bo (.lst lb')) := stay_upd (fun xs e => by rw [h.lB] at e; cases e) (fun o u e => by rw [h.lB] at e; cases e)
  exact ⟨y1.scr h.scr, (upd_ne (Ne.symm h.tB)).trans h.twn, (upd_ne h.sB).trans h.lS, upd_same, h.tS, h.tB, h.sB, fun x hx => (h.new x hx).keep y1 fun p hp o e => (upd_ne (h.one x hx p hp).2.2).trans e, h.one, h.own, h.two⟩
theorem Bld.setS (h : Bld K C CD w H a t S Bo ns k ls lb ps) (ls' : List V) : Bld K C CD w (upd H S (.lst ls')) a t S Bo ns k ls' lb ps := by
  have y1 : Stay H (upd H S (.lst ls')) := stay_upd (fun xs e => by rw [h.lS] at e; cases e) (fun o u e => by rw [h.lS] at e; cases e)
  exact ⟨y1.scr h.scr, (upd_ne (Ne.symm h.tS)).trans h.twn, upd_same, (upd_ne (Ne.symm h.sB)).trans h.lB, h.tS, h.tB, h.sB, fun x hx => (h.new x hx).keep y1 fun p hp o e => (upd_ne (h.one x hx p hp).2.1).trans e, h.one, h.own, h.two⟩
theorem Bld.setD (h : Bld K C CD w H a t S Bo ns k ls lb ps) {q : Addr} {u : HO} (h1 : ∀ xs, H q ≠ some (.tup xs)) (h2 : ∀ o u, H q ≠ some (.frz o u)) (n1 : q ≠ t) (n2 : q ≠ S) (n3 : q ≠ Bo) (n4 : ∀ x ∈ ps, ∀ p ∈ x.al, p ≠ q) : Bld K C CD w (upd H q u) a t S Bo ns k ls lb ps := by
  have y1 : Stay H (upd H q u) := stay_upd h1 h2
  exact ⟨y1.scr h.scr, (upd_ne (Ne.symm n1)).trans h.twn, (upd_ne (Ne.symm n2)).trans h.lS, (upd_ne (Ne.symm n3)).trans h.lB, h.tS, h.tB, h.sB, fun x hx => (h.new x hx).keep y1 fun p hp o e => (upd_ne (n4 x hx p hp)).trans e, h.one, h.own, h.two⟩
theorem Bld.apart (h : Bld K C CD w H a t S Bo ns k ls lb ps) {q : Addr} (hq : H q = none) : (q ≠ t ∧ q ≠ S ∧ q ≠ Bo) ∧ ∀ x ∈ ps, ∀ p ∈ x.al, p ≠ q := by
  have hT : H t = some _ := h.twn
  exact ⟨⟨fun e => (by rw [e, hT] at hq; cases hq), fun e => (by rw [e, h.lS] at hq; cases hq), fun e => (by rw [e, h.lB] at hq; cases hq)⟩, fun x hx p hp e => (h.new x hx).live p hp (e ▸ hq)⟩
theorem Bld.add (h : Bld K C CD w H a t S Bo ns k ls lb ps) {x : Pt} (hn : New C CD w H x) (h1 : ∀ p ∈ x.al, (p ≠ t ∧ p ≠ S ∧ p ≠ Bo) ∧ ∀ y ∈ ps, ∀ q ∈ y.al, q ≠ p) (ho : ∀ p ∈ x.dr, ∀ q ∈ x.sd, p ≠ q) : Bld K C CD w H a t S Bo ns k ls lb (ps ++ [x]) := by
  refine ⟨h.scr, h.twn, h.lS, h.lB, h.tS, h.tB, h.sB, fun y hy => ?_, fun y hy => ?_, fun y hy => ?_, ?_⟩
  · rcases List.mem_append.mp hy with hy | hy
    · exact h.new y hy
    · obtain rfl : y = x := by simpa using hy
      exact hn
  · rcases List.mem_append.mp hy with hy | hy
    · exact h.one y hy
    · obtain rfl : y = x := by simpa using hy
      exact fun p hp => (h1 p hp).1
  · rcases List.mem_append.mp hy with hy | hy
    · exact h.own y hy
    · obtain rfl : y = x := by simpa using hy
      exact ho
  · refine List.pairwise_append.mpr ⟨h.two, by simp, fun y hy z hz p hp q hq => ?_⟩
    obtain rfl : z = x := by simpa using hz
    exact (h1 q hq).2 y hy p hp
end
section
variable {P : Program} {w : World} {K : PySem.W.Frag} {mg : Str → Option Value} {base : Heap} {f C CD fI fT fU fL fG gI gE gP gS gC gN gH gU gB : Addr} {fd dI dT dU dL dG jI jE jP jS jC jN jH jU jB : FuncData}
theorem ok_law (F_law : Fun K "law" "law" s_law f fd) (B : Bl mg) (TD : TxtD K mg CD gI gE gP gS gC gN gH gU gB jI jE jP jS jC jN jH jU jB) (g_initTD : FnOk P w K mg base CX0 3 gI jI p_Drawer___init__ (spInitD C CD)) (gD_history : FnOk P w K mg base CX0 1 gH jH p_Drawer_history (spHist C CD)) (gD_used : FnOk P w K mg base CX0 2 gU jU p_Drawer_used (spUsedD C CD))
    (g__law_draw : Fn P w K mg base "_law_draw" p__law_draw 1 (spDraw K)) (g__law_one : Fn P w K mg base "_law_one" p__law_one 2 (spOne K)) (g__law_same : Fn P w K mg base "_law_same" p__law_same 4 (spSame 4)) (g_bits_of : Fn P w K mg base "bits_of" p_bits_of 2 spBitsOf)
    (g__law_deed : Fn P w K mg base "_law_deed" p__law_deed 2 (spDeed K)) (g__law_do : Fn P w K mg base "_law_do" p__law_do 12 (spDo w)) (g__law_act : Fn P w K mg base "_law_act" p__law_act 12 (spAct C CD)) : FnOk P w K mg base CX0 13 f fd p_law (spLaw K) := by
  refine F_law.ok sc_law (fun vs H Q E h => ?_) (fun cdv A outer s H vs Q E hr h => ?_)
  · obtain ⟨a, ns, rfl, _⟩ := h
    rfl
  obtain ⟨a, ns, rfl, hS, h63, q⟩ := h
  refine ⟨_, (pss_cons (ps_set (i := 1) sc_law.nd rfl (Or.inl rfl) (pe_lst pa_nil))
      (pss_cons (ps_par (i := 2) (j := 3) rfl sc_law.nd rfl rfl (by decide) rfl rfl (pa_cons (pe_lst pa_nil) (pa_cons (pe_lst pa_nil) pa_nil)) rfl)
      (pss_cons (ps_set (i := 4) sc_law.nd rfl (Or.inl rfl) (pe_fn g__law_draw hr (pa_cons (pv 0) (pa_cons (pv 1) (pa_cons pe_int pa_nil)))))
      (pss_cons (ps_for PassesOwn.never rfl (pi_range1 rfl B.range_ (pa_cons pe_int pa_nil)) (pg_name (i := 5) sc_law.nd rfl (Or.inl rfl)) (pss_cons (ps_set (i := 4) sc_law.nd rfl (Or.inl rfl) (pe_fn g__law_one hr (PB.go (pb_cons (pv 0) (pb_cons (pv 1) (pb_cons (pe_lst (pa_cons (pv 4) (pa_cons (pe_fn g__law_draw hr (pa_cons (pv 0) (pa_cons (pv 1) (pa_cons pe_int pa_nil)))) pa_nil))) pb_nil se_List) se_Name) se_Name))))
      (pss_cons (ps_set (i := 6) sc_law.nd rfl (Or.inl rfl) (pe_fn g__law_draw hr (pa_cons (pv 0) (pa_cons (pv 1) (pa_cons pe_int pa_nil)))))
      (pss_cons (ps_expr (pe_bm PySem.F.plainAttrs_list PySem.F.slot_list_append PySem.F.type_list_append mt_append (pv 3) (pa_cons (pe_make TD.made g_initTD (hr.mono (by first | decide | omega)) rfl TD.mgC TD.b_init .nil pass0 (pa_cons (pv 4) (pa_cons (pv 6) pa_nil))) pa_nil)))
      (pss_one (ps_expr (pe_bm PySem.F.plainAttrs_list PySem.F.slot_list_append PySem.F.type_list_append mt_append (pv 2) (pa_cons (pe_dispX kdT hr.units (pps_cons pe_str (pe_fn g_bits_of hr (pa_cons (pv 4) (pa_cons (pv 6) pa_nil))) (pps_cons pe_str pe_int (pps_cons pe_str (pe_lst pa_nil) (pps_cons pe_str (pe_lst pa_nil) pps_nil)))) rfl rfl (by simp) (by decide)) pa_nil))))))))
      (pss_cons (ps_for PassesOwn.never rfl (pi_range1 rfl B.range_ (pa_cons (pe_callB (call_max2 rfl) rfl B.max_ L3.bt_max (pa_cons pe_int (pa_cons (pe_callB (call_min2 rfl) rfl B.min_ L3.bt_min (pa_cons pe_int (pa_cons (pe_callB call_len_seq rfl B.len_ L3.bt_len (pa_cons (pv 0) pa_nil)) pa_nil))) pa_nil))) pa_nil)) (pg_name (i := 7) sc_law.nd rfl (Or.inl rfl)) (pss_cons (ps_set (i := 8) sc_law.nd rfl (Or.inl rfl) (pe_fn g__law_draw hr (pa_cons (pv 0) (pa_cons (pv 1) (pa_cons pe_int pa_nil)))))
      (pss_cons (ps_set (i := 9) sc_law.nd rfl (Or.inl rfl) (pe_fn g__law_deed hr (pa_cons (pv 0) (pa_cons (pv 1) pa_nil))))
      (pss_cons (ps_set (i := 10) sc_law.nd rfl (Or.inl rfl) (pe_fn g__law_do hr (pa_cons (pe_ix ix_list (pv 2) (pv 8) (fun _ _ => rfl)) (pa_cons (pv 9) pa_nil))))
      (pss_cons (ps_if (pt_not (pt_truth (pe_fn g__law_same hr (pa_cons (pe_fn g__law_act hr (pa_cons (pe_ix ix_list (pv 3) (pv 8) (fun _ _ => rfl)) (pa_cons (pv 9) pa_nil))) (pa_cons (pv 10) pa_nil))) (fun _ => rfl))) (pss_one (ps_ret pe_bl)) pss_nil)
      (pss_cons (ps_join (ps_if (PW.pt (pw_and (pt_cmpR op_ne (pe_ix ix_tup (pv 9) pe_int (fun _ _ => rfl)) pe_str (nomark _)) (pw_and (pt_cmpR (op_notInTS hr.units) (pv 10) (pe_tup (pa_cons pe_str (pa_cons pe_str pa_nil))) rfl) (pw_and1 (pt_cmpR op_eq (pe_fn g__law_draw hr (pa_cons (pv 0) (pa_cons (pv 1) (pa_cons pe_int pa_nil)))) pe_int (nomark _)))))) (pss_one (ps_if (pt_not (pt_truth (pe_fn g__law_same hr (PB.go (pb_cons (pe_tup (pa_cons (pe_fn g__law_act hr (pa_cons (pe_ix ix_list (pv 3) (pv 8) (fun _ _ => rfl)) (pa_cons (pe_tup (pa_cons pe_str pa_nil)) pa_nil))) (pa_cons (pe_fn g__law_act hr (pa_cons (pe_ix ix_list (pv 3) (pv 8) (fun _ _ => rfl)) (pa_cons (pv 9) pa_nil))) pa_nil))) (pb_cons (pe_tup (pa_cons (pv 10) (pa_cons (pv 10) pa_nil))) pb_nil se_Tuple) se_Tuple))) (fun _ => rfl))) (pss_one (ps_ret pe_bl)) pss_nil)) pss_nil))
      (pss_one (ps_for PassesOwn.never rfl (pi_range1 rfl B.range_ (pa_cons pe_int pa_nil)) (pg_name (i := 5) sc_law.nd rfl (Or.inl rfl)) (pss_one (ps_if (pt_not (pt_truth (pe_fn g__law_same hr (PB.go (pb_cons (pe_tup (pa_cons (pe_meth0 (pe_ix ix_list (pv 3) (pv 5) (fun _ _ => rfl)) TD.cl TD.m_history gD_history (hr.mono (by first | decide | omega)) TD.b_history .nil pass0) (pa_cons (pe_meth0 (pe_ix ix_list (pv 3) (pv 5) (fun _ _ => rfl)) TD.cl TD.m_used gD_used (hr.mono (by first | decide | omega)) TD.b_used .nil pass0) pa_nil))) (pb_cons (pe_tup (pa_cons (pe_callTy call_tuple_of rfl B.tuple_ L3.bt_tuple (pa_cons (pe_dgetX kdT hr.units (pe_ix ix_list (pv 2) (pv 5) (fun _ _ => rfl)) pe_str (fun _ _ => rfl)) pa_nil)) (pa_cons (pe_dgetX kdT hr.units (pe_ix ix_list (pv 2) (pv 5) (fun _ _ => rfl)) pe_str (fun _ _ => rfl)) pa_nil))) pb_nil se_Tuple) se_Tuple))) (fun _ => rfl))) (pss_one (ps_ret pe_bl)) pss_nil))))))))))
      (pss_one (ps_ret pe_bl))))))), ?_⟩
  refine ⟨(by show 0 ≤ sizeLine; decide), fun t ft => ?_⟩
  have sT := same_new ft (.lst ([] : List V))
  have hT : Twn (upd H t (.lst [])) t 0 := upd_same
  replace hS := sT.scr hS
  generalize upd H t (.lst []) = H0 at hS hT
  refine ⟨(by show 0 ≤ sizeLine; decide), fun S fS => ⟨(by show 0 ≤ sizeLine; decide), fun Bo fB => ⟨_, _, rfl, ?_⟩⟩⟩
  have yS := same_new fS (.lst ([] : List V))
  have wS : upd H0 S (.lst ([] : List V)) S = some (.lst ([] : List V)) := upd_same
  have nSt : S ≠ t := twn_new hT fS
  generalize upd H0 S (.lst ([] : List V)) = H1 at yS wS fB ⊢
  have yB := same_new fB (.lst ([] : List V))
  have wB : upd H1 Bo (.lst ([] : List V)) Bo = some (.lst ([] : List V)) := upd_same
  have nBt : Bo ≠ t := twn_new (yS.twn hT) fB
  have nSB : S ≠ Bo := fun e => by rw [e, fB] at wS; cases wS
  generalize upd H1 Bo (.lst ([] : List V)) = H2 at yB wB ⊢
  have hB0 : Bld K C CD w H2 a t S Bo ns 0 [] [] [] := ⟨yB.scr (yS.scr hS), yB.twn (yS.twn hT), yB _ _ wS, wB, nSt, nBt, nSB, (fun x hx => nomatch hx), (fun x hx => nomatch hx), (fun x hx => nomatch hx), List.Pairwise.nil⟩
  refine ⟨_, rfl, _, rfl, a, t, ns, 0, 4294967296, rfl, hB0.scr, h63, hB0.twn, by omega, by decide, fun H3 g3 t3 => ?_⟩
  replace hB0 := hB0.grow g3 t3
  refine ⟨2, rfl, by decide, by decide, for_range (lo := 0) (n := 2) (fun i σ' H' => ∃ (sd : Int) (k : Nat) (ps : List Pt) (o5 o6 o7 o8 o9 o10 : Option V), σ' = [some (.ref a), some (.ref t), some (.ref S), some (.ref Bo), some (.int sd), o5, o6, o7, o8, o9, o10] ∧ Bld K C CD w H' a t S Bo ns k (ps.map fun x => V.ref x.a) (ps.map fun x => V.ref x.d) ps ∧ ps.length = i ∧ k ≤ 1 + 10 * i)
    ⟨_, 1, [], _, _, _, _, _, _, rfl, hB0, rfl, by omega⟩ ?_ ?_⟩
  · rintro i σ' H4 hi ⟨sd, k, ps, o5, o6, o7, o8, o9, o10, rfl, hB4, hl, hk⟩
    refine ⟨_, rfl, _, rfl, _, rfl, _, rfl, _, rfl, a, t, ns, k, 4294967296, rfl, hB4.scr, h63, hB4.twn, by omega, by decide, fun H5 g5 t5 => ⟨(by show 2 ≤ sizeLine; decide), fun L fL => ?_⟩⟩
    replace hB4 := hB4.grow g5 t5
    have yL := same_new fL (.lst [V.int sd, V.int (drw ns (k + 1) 4294967296)])
    have wL : upd H5 L (.lst [V.int sd, V.int (drw ns (k + 1) 4294967296)]) L = some (.lst [V.int sd, V.int (drw ns (k + 1) 4294967296)]) := upd_same
    have nLt : L ≠ t := twn_new hB4.twn fL
    generalize upd H5 L (.lst [V.int sd, V.int (drw ns (k + 1) 4294967296)]) = H6 at yL wL ⊢
    replace hB4 := hB4.same yL
    refine ⟨a, t, L, ns, k + 1, _, rfl, hB4.scr, h63, hB4.twn, by omega, wL, nLt, by show 0 < 2; decide, by show 2 ≤ 1000; decide, fun i' v H7 _ hv g7 t7 => ?_⟩
    replace hB4 := hB4.grow g7 t7
    obtain ⟨s', rfl⟩ : ∃ s' : Int, v = .int s' := by
      match i', hv with
      | 0, hv => cases hv; exact ⟨_, rfl⟩
      | 1, hv => cases hv; exact ⟨_, rfl⟩
      | n + 2, hv => exact absurd hv (by simp)
    refine ⟨_, rfl, _, rfl, a, t, ns, k + 1 + 1, 81, rfl, hB4.scr, h63, hB4.twn, by omega, by decide, fun H8 g8 t8 => ?_⟩
    replace hB4 := hB4.grow g8 t8
    have n0 := drw_nn ns (k + 1 + 1 + 1) (show (0 : Int) < 81 by decide)
    have n1 := drw_lt ns (k + 1 + 1 + 1) (show (0 : Int) < 81 by decide)
    obtain ⟨n, hn⟩ := nat_of n0
    rw [hn] at n1 ⊢
    clear g3 t3 hB0 g5 t5 yL wL nLt fL g7 t7 g8 t8 n0 hn
    -- the drawer
    refine ⟨_, rfl, .inl ⟨rfl, _, SqL.of hB4.lB⟩, _, rfl, _, rfl, fun d dd nd ndd nex => ?_⟩
    have s2 : Same H8 (upd (upd H8 dd (.own d)) d (.ins CD dd [])) := fun c o y => by
      rw [upd_ne (ne_of_none y nd), upd_ne (ne_of_none y ndd)]
      exact y
    refine ⟨d, dd, s', n, rfl, upd_same, by omega, fun b dx r st bl H9 hbl kp fb fst hD => ⟨rfl, ?_⟩⟩
    have s9 : Same H8 H9 := fun c o y => kp c o (ne_of_none y nd) (s2 c o y)
    have nn : ∀ {q : Addr}, upd (upd H8 dd (.own d)) d (.ins CD dd []) q = none → H8 q = none := fun {q} e => by
      cases e' : H8 q with
      | none => rfl
      | some o => rw [s2 _ _ e'] at e; cases e
    replace fb := nn fb
    replace fst := nn fst
    clear nn s2 kp ndd nex
    have aB := (hB4.apart fb).1
    have aS := (hB4.apart fst).1
    have aD := (hB4.apart nd).1
    have hB9 := hB4.same s9
    have dr9 : Drw C CD H9 d b st bl 0 [] := ⟨dd, dx, r, [], [], hD, rfl, fun j s e => nomatch e⟩
    clear hD
    refine ⟨Bo, _, _, rfl, rfl, hB9.lB, ?_, ?_⟩
    · rw [List.length_map, hl]
      exact smallL (by omega)
    have k10 : ∀ c o, c ≠ Bo → H9 c = some o → upd H9 Bo (.lst (ps.map (fun x => V.ref x.d) ++ [V.ref d])) c = some o := fun c o n e => (upd_ne n).trans e
    have st10 : Stay H9 (upd H9 Bo (.lst (ps.map (fun x => V.ref x.d) ++ [V.ref d]))) := stay_upd (fun xs e => by rw [hB9.lB] at e; cases e) (fun o u e => by rw [hB9.lB] at e; cases e)
    have hB10 := hB9.setB (ps.map (fun x => V.ref x.d) ++ [V.ref d])
    have dr10 := dr9.keep st10 (fun o e => k10 _ _ aD.2.2 e) (fun o e => k10 _ _ aB.2.2 e) (fun o e => k10 _ _ aS.2.2 e)
    generalize upd H9 Bo (.lst (ps.map (fun x => V.ref x.d) ++ [V.ref d])) = H10 at k10 hB10 dr10 ⊢
    have back : ∀ {q : Addr}, H10 q = none → H8 q = none := fun {q} e => by
      cases e' : H8 q with
      | none => rfl
      | some o =>
        have e9 := s9 _ _ e'
        by_cases c : q = Bo
        · rw [c, hB10.lB] at e; cases e
        · rw [k10 _ _ c e9] at e; cases e
    clear dr9 st10 k10 hB9
    -- the side
    refine ⟨_, rfl, .inl ⟨rfl, _, SqL.of hB10.lS⟩, fun p fp => ?_⟩
    have y11 := same_new fp (DX kdT w p [])
    have w11 : upd H10 p (DX kdT w p []) p = some (DX kdT w p []) := upd_same
    refine ⟨_, rfl, _, rfl, s', n, rfl, by omega, fun r2 H12 s12 h12 => ?_⟩
    replace s12 : Same (upd H10 p (DX kdT w p [])) H12 := s12
    generalize upd H10 p (DX kdT w p []) = H11 at y11 w11 s12
    rw [hbl] at h12
    refine ⟨(by show 0 ≤ sizeLine; decide), fun tL ftL => ?_⟩
    have y13 := same_new ftL (.lst ([] : List V))
    have w13 : upd H12 tL (.lst ([] : List V)) tL = some (.lst ([] : List V)) := upd_same
    generalize upd H12 tL (.lst ([] : List V)) = H13 at y13 w13 ⊢
    refine ⟨(by show 0 ≤ sizeLine; decide), fun mL fmL => ?_⟩
    have y14 := same_new fmL (.lst ([] : List V))
    have w14 : upd H13 mL (.lst ([] : List V)) mL = some (.lst ([] : List V)) := upd_same
    generalize upd H13 mL (.lst ([] : List V)) = H14 at y14 w14 ⊢
    have s14 : Same H10 H14 := ((y11.trans s12).trans y13).trans y14
    have hp14 : H14 p = some (DX kdT w p []) := y14 _ _ (y13 _ _ (s12 _ _ w11))
    refine ⟨hp14, sk r2 0 tL mL, rfl, sk_ks _ _ _ _ _, by show 4 ≤ 15; decide, ?_⟩
    have hB14 := hB10.same s14
    have f10 : ∀ {q : Addr}, H12 q = none → H10 q = none := fun {q} e => by
      cases e' : H10 q with
      | none => rfl
      | some o => rw [s12 _ _ (y11 _ _ e')] at e; cases e
    have fmL12 : H12 mL = none := by
      cases e' : H12 mL with
      | none => rfl
      | some o => rw [y13 _ _ e'] at fmL; cases fmL
    have aP := hB10.apart fp
    have aT := hB10.apart (f10 ftL)
    have aM := hB10.apart (f10 fmL12)
    have hB15 : Bld K C CD w (upd H14 p (DX kdT w p (sk r2 0 tL mL))) a t S Bo ns (k + 1 + 1 + 1) (ps.map fun x => V.ref x.a) (ps.map (fun x => V.ref x.d) ++ [V.ref d]) ps := hB14.setD (fun xs e => by rw [hp14] at e; cases e) (fun o u e => by rw [hp14] at e; cases e) aP.1.1 aP.1.2.1 aP.1.2.2 aP.2
    have ntp : tL ≠ p := fun e => by rw [e, s12 _ _ w11] at ftL; cases ftL
    have nmp : mL ≠ p := fun e => by rw [e, s12 _ _ w11] at fmL12; cases fmL12
    have ntm : tL ≠ mL := fun e => by rw [← e, w13] at fmL; cases fmL
    have st15 : Stay H14 (upd H14 p (DX kdT w p (sk r2 0 tL mL))) := stay_upd (fun xs e => by rw [hp14] at e; cases e) (fun o u e => by rw [hp14] at e; cases e)
    have live : ∀ {q : Addr}, H10 q ≠ none → q ≠ p := fun {q} h e => h (e ▸ fp)
    have L10 : ∀ q ∈ [b, st, d], H10 q ≠ none := fun q hq => by
      obtain ⟨_, _, _, _, _, hD, _⟩ := dr10
      simp only [List.mem_cons, List.not_mem_nil, or_false] at hq
      rcases hq with rfl | rfl | rfl
      · rw [hD.bits.obj]; exact Option.some_ne_none _
      · rw [hD.lst]; exact Option.some_ne_none _
      · rw [hD.obj]; exact Option.some_ne_none _
    have dr14 : Drw C CD H14 d b st bl 0 [] := dr10.keep ⟨fun c xs e => s14 _ _ e, fun c o u e => s14 _ _ e⟩ (fun o e => s14 _ _ e) (fun o e => s14 _ _ e) (fun o e => s14 _ _ e)
    have dr15 := dr14.keep st15 (fun o e => (upd_ne (live (L10 d (by simp)))).trans e) (fun o e => (upd_ne (live (L10 b (by simp)))).trans e) (fun o e => (upd_ne (live (L10 st (by simp)))).trans e)
    have hbl2 : bl.length = n := by
      have := congrArg List.length hbl
      rw [List.length_map, strm_length, vbits_len] at this
      exact this.symm
    have sd15 : Sid w (upd H14 p (DX kdT w p (sk r2 0 tL mL))) p tL mL bl 0 [] := ⟨r2, [], upd_same, st15.1 _ _ (y14 _ _ (y13 _ _ h12)), (upd_ne ntp).trans (y14 _ _ w13), (upd_ne nmp).trans w14, ntm, rfl, (fun j v e => nomatch e), Nat.zero_le _, by omega⟩
    have nw : New C CD w (upd H14 p (DX kdT w p (sk r2 0 tL mL))) ⟨d, b, st, p, tL, mL⟩ := ⟨bl, dr15, sd15⟩
    have hall : ∀ q ∈ Pt.al ⟨d, b, st, p, tL, mL⟩, H8 q = none := fun q hq => by
      unfold Pt.al at hq
      simp only [List.mem_cons, List.not_mem_nil, or_false] at hq
      rcases hq with rfl | rfl | rfl | rfl | rfl | rfl
      · exact fb
      · exact fst
      · exact nd
      · exact back fp
      · exact back (f10 ftL)
      · exact back (f10 fmL12)
    have hB16 := hB15.add (x := ⟨d, b, st, p, tL, mL⟩) nw (fun q hq => hB4.apart (hall q hq)) (fun u hu v hv e => by
      have h1 := L10 u hu
      unfold Pt.sd at hv
      simp only [List.mem_cons, List.not_mem_nil, or_false] at hv
      rcases hv with rfl | rfl | rfl
      · exact h1 (e ▸ fp)
      · exact h1 (e ▸ f10 ftL)
      · exact h1 (e ▸ f10 fmL12))
    refine ⟨S, _, _, rfl, rfl, hB15.lS, ?_, s', k + 1 + 1 + 1, ps ++ [⟨d, b, st, p, tL, mL⟩], _, _, _, _, _, _, rfl, ?_, by rw [List.length_append, hl]; rfl, by omega⟩
    · rw [List.length_map, hl]
      exact smallL (by omega)
    · have := hB16.setS (ps.map (fun x => V.ref x.a) ++ [V.ref p])
      rw [List.map_append, List.map_append]
      exact this
  rintro σ' H4 ⟨sd, k, ps, o5, o6, o7, o8, o9, o10, rfl, hB, hl, hk⟩
  obtain ⟨x, y, rfl⟩ : ∃ x y, ps = [x, y] := by
    match ps, hl with
    | [x, y], _ => exact ⟨x, y, rfl⟩
  clear hB0 g3 t3 hl
  obtain ⟨bx, dx0, sx0⟩ := hB.new x (by simp)
  obtain ⟨b2, dy0, sy0⟩ := hB.new y (by simp)
  have wp : Wp K C CD w H4 a t S Bo ns k [V.ref x.a, V.ref y.a] [V.ref x.d, V.ref y.d] x y bx 0 [] 0 [] b2 0 [] := ⟨hB.scr, hB.twn, hB.lS, hB.lB, ⟨hB.tS, hB.tB, hB.one x (by simp), hB.one y (by simp), (List.pairwise_cons.mp hB.two).1 y (by simp), hB.own x (by simp), hB.own y (by simp)⟩, dx0, sx0, dy0, sy0⟩
  clear hB dx0 sx0 dy0 sy0
  refine ⟨_, rfl, a, _, rfl, .inl wp.scr.seq, _, _, rfl, _, _, rfl, ?_⟩
  rw [List.length_map]
  obtain ⟨N, hN, eN⟩ : ∃ N : Nat, N ≤ 63 ∧ (if (if (ns.length : Int) < 40 then (ns.length : Int) else 40) > 8 then (if (ns.length : Int) < 40 then (ns.length : Int) else 40) else 8) = (N : Int) := by
    by_cases c1 : (ns.length : Int) < 40
    · rw [if_pos c1]
      by_cases c2 : (ns.length : Int) > 8
      · rw [if_pos c2]
        exact ⟨ns.length, h63, rfl⟩
      · rw [if_neg c2]
        exact ⟨8, by decide, rfl⟩
    · rw [if_neg c1]
      exact ⟨40, by decide, rfl⟩
  refine ⟨_, rfl, by rw [eN]; omega, by rw [eN]; omega, ?_⟩
  rw [eN, Int.toNat_natCast]
  refine for_range (lo := 0) (n := N) (fun i σ' H' => ∃ (k z1 z2 : Nat) (l1 l2 : List (Nat × Tv)) (o4 o5 o6 o7 o8 o9 o10 : Option V), σ' = [some (.ref a), some (.ref t), some (.ref S), some (.ref Bo), o4, o5, o6, o7, o8, o9, o10] ∧ Wp K C CD w H' a t S Bo ns k [V.ref x.a, V.ref y.a] [V.ref x.d, V.ref y.d] x y bx z1 l1 z1 l1 b2 z2 l2 ∧ Rise z1 l1 ∧ Rise z2 l2 ∧ Bds l1 ∧ Bds l2 ∧ l1.length ≤ i ∧ l2.length ≤ i ∧ k ≤ 30 + 30 * i)
    ⟨k, 0, 0, [], [], _, _, _, _, _, _, _, rfl, wp, List.pairwise_singleton _ _, List.pairwise_singleton _ _, (fun x hx => nomatch hx), (fun x hx => nomatch hx), Nat.le_refl _, Nat.le_refl _, by omega⟩ ?_ ?_
  rotate_left
  · rintro σ' H5 _
    exact q H5
  clear wp hk k H4
  rintro i σ' H5 hi ⟨k, z1, z2, l1, l2, o4, o5, o6, o7, o8, o9, o10, rfl, wp, r1, r2, d1, d2, n1, n2, hk⟩
  refine ⟨_, rfl, _, rfl, a, t, ns, k, 2, rfl, wp.scr, h63, wp.twn, by omega, by decide, fun H6 g6 t6 => ?_⟩
  have j0 := drw_nn ns (k + 1) (show (0 : Int) < 2 by decide)
  have j1 := drw_lt ns (k + 1) (show (0 : Int) < 2 by decide)
  obtain ⟨j, hj⟩ := nat_of j0
  rw [hj] at j1 ⊢
  replace wp := wp.grow g6 t6
  refine ⟨_, rfl, _, rfl, a, t, ns, k + 1, rfl, wp.scr, h63, wp.twn, by omega, fun v de k2 H7 g7 t7 hk2 hv => ?_⟩
  replace wp := wp.grow g7 t7
  clear g6 t6 g7 t7 j0 hj
  obtain ⟨x', y', bx', zx, lx, b2', zy, ly, e1, e2, wp', rx, dx', nx', fin⟩ : ∃ (x' y' : Pt) (bx' : List Nat) (zx : Nat) (lx : List (Nat × Tv)) (b2' : List Nat) (zy : Nat) (ly : List (Nat × Tv)), atI [V.ref x.a, V.ref y.a] (j : Int) = some (.ref x'.a) ∧ atI [V.ref x.d, V.ref y.d] (j : Int) = some (.ref x'.d) ∧ Wp K C CD w H7 a t S Bo ns k2 [V.ref x.a, V.ref y.a] [V.ref x.d, V.ref y.d] x' y' bx' zx lx zx lx b2' zy ly ∧ Rise zx lx ∧ Bds lx ∧ lx.length ≤ i ∧
      ∀ (H' : Hp) (k' zn : Nat) (ln : List (Nat × Tv)), Wp K C CD w H' a t S Bo ns k' [V.ref x.a, V.ref y.a] [V.ref x.d, V.ref y.d] x' y' bx' zn ln zn ln b2' zy ly → Rise zn ln → Bds ln → ln.length ≤ i + 1 → ∃ (z1 z2 : Nat) (l1 l2 : List (Nat × Tv)), Wp K C CD w H' a t S Bo ns k' [V.ref x.a, V.ref y.a] [V.ref x.d, V.ref y.d] x y bx z1 l1 z1 l1 b2 z2 l2 ∧ Rise z1 l1 ∧ Rise z2 l2 ∧ Bds l1 ∧ Bds l2 ∧ l1.length ≤ i + 1 ∧ l2.length ≤ i + 1 := by
    match j, j1 with
    | 0, _ => exact ⟨x, y, bx, z1, l1, b2, z2, l2, rfl, rfl, wp, r1, d1, n1, fun H' k' zn ln w1 w2 w3 w4 => ⟨zn, z2, ln, l2, w1, w2, r2, w3, d2, w4, by omega⟩⟩
    | 1, _ => exact ⟨y, x, b2, z2, l2, bx, z1, l1, rfl, rfl, wp.swap, r2, d2, n2, fun H' k' zn ln w1 w2 w3 w4 => ⟨z1, zn, l1, ln, w1.swap, r1, w2, d1, w3, by omega, w4⟩⟩
  clear wp r1 r2 d1 d2 n1 n2 j1
  refine ⟨_, rfl, _, rfl, S, _, _, _, rfl, rfl, SqL.of wp'.lS, e1, _, rfl, x'.a, x'.tL, x'.mL, bx', zx, lx, v, de, rfl, wp'.sx, hv, by omega, rx, fun g H8 hr8 => ?_⟩
  obtain ⟨b8, ag8, sd8⟩ := hr8
  obtain ⟨st8, wp8⟩ := wp'.did b8 sd8
  have hv8 := hv.keep st8.1
  refine ⟨_, rfl, _, rfl, Bo, _, _, _, rfl, rfl, SqL.of wp8.lB, e2, _, rfl, x'.d, x'.b, x'.st, bx', zx, lx, v, de, rfl, wp8.dx, hv8, by omega, rx, fun g2 H9 hr9 => ?_⟩
  obtain ⟨b9, ag9, dr9⟩ := hr9
  obtain ⟨st9, wp9⟩ := wp8.acted b9 dr9
  have hv9 := hv8.keep st9.1
  have ag := ag8.keep st9.1
  obtain ⟨bd, bt, bn⟩ := Bds.step (bl := bx') (z := zx) hv dx'
  have rn := rx.step (d := de) (bl := bx')
  refine ⟨_, rfl, g2, g, rfl, AnAt.eqv ag9 ag bt, fun H10 s10 => ⟨true, rfl, iteF ?_⟩⟩
  have wp10 := wp9.same s10
  have hv10 := hv9.keep fun c xs e => s10 _ _ e
  have ag10 := ag.keep fun c xs e => s10 _ _ e
  clear wp9 wp8 wp' hv9 hv8 ag9 ag8 ag b8 b9 dr9 sd8 st8 st9 s10 hv
  refine ⟨fun σ' H' => ∃ k3, σ' = [some (.ref a), some (.ref t), some (.ref S), some (.ref Bo), o4, o5, o6, some (.int (0 + (i : Int))), some (.int (j : Int)), some v, some g] ∧ Wp K C CD w H' a t S Bo ns k3 [V.ref x.a, V.ref y.a] [V.ref x.d, V.ref y.d] x' y' bx' (stepP de bx' zx lx).2.1 (stepP de bx' zx lx).2.2 (stepP de bx' zx lx).2.1 (stepP de bx' zx lx).2.2 b2' zy ly ∧ k3 ≤ k2 + 1, ?_, ?_⟩
  · rintro σ11 H11 ⟨k3, rfl, wp11, hk3⟩
    obtain ⟨z1, z2, l1, l2, wq, r1, r2, d1, d2, n1, n2⟩ := fin H11 k3 _ _ wp11 rn bd (by omega)
    clear wp11 wp10
    refine ⟨2, rfl, by decide, by decide, for_range (lo := 0) (n := 2) (fun i2 σ H' => ∃ o5', σ = [some (.ref a), some (.ref t), some (.ref S), some (.ref Bo), o4, o5', o6, some (.int (0 + (i : Int))), some (.int (j : Int)), some v, some g] ∧ Wp K C CD w H' a t S Bo ns k3 [V.ref x.a, V.ref y.a] [V.ref x.d, V.ref y.d] x y bx z1 l1 z1 l1 b2 z2 l2)
      ⟨_, rfl, wq⟩ ?_ ?_⟩
    · rintro i2 σ12 H12 hi2 ⟨o5', rfl, wp12⟩
      rw [Int.zero_add]
      obtain ⟨X, bX, zX, lX, e1, e2, ⟨dd, dx, r, as, sp, hD, hl, ht⟩, ⟨r3, ts, hS⟩, hb⟩ : ∃ (X : Pt) (bX : List Nat) (zX : Nat) (lX : List (Nat × Tv)), atI [V.ref x.a, V.ref y.a] (i2 : Int) = some (.ref X.a) ∧ atI [V.ref x.d, V.ref y.d] (i2 : Int) = some (.ref X.d) ∧ Drw C CD H12 X.d X.b X.st bX zX lX ∧ Sid w H12 X.a X.tL X.mL bX zX lX ∧ Bds lX := by
        match i2, hi2 with
        | 0, _ => exact ⟨x, bx, z1, l1, rfl, rfl, wp12.dx, wp12.sx, d1⟩
        | 1, _ => exact ⟨y, b2, z2, l2, rfl, rfl, wp12.dy, wp12.sy, d2⟩
      refine ⟨_, rfl, _, rfl, Bo, _, _, _, rfl, rfl, SqL.of wp12.lB, e2, X.d, dd, _, rfl, hD.obj, df_no _ _ (by decide +kernel) (by decide +kernel), X.d, dd, X.b, dx, r, X.st, bX, zX, as, sp, rfl, hD, fun p H13 s13 hp => ?_⟩
      have hD13 := hD.same s13
      refine ⟨_, rfl, _, rfl, Bo, _, _, _, rfl, rfl, SqL.of (s13 _ _ wp12.lB), e2, X.d, dd, _, rfl, hD13.obj, df_no _ _ (by decide +kernel) (by decide +kernel), X.d, dd, X.b, dx, r, X.st, bX, zX, as, sp, rfl, hD13, (by show 2 ≤ sizeLine; decide), fun p1 f1 => ?_⟩
      have y1 := same_new f1 (.tup [V.ref p, V.int (zX : Int)])
      have w1 : upd H13 p1 (.tup [V.ref p, V.int (zX : Int)]) p1 = some (.tup [V.ref p, V.int (zX : Int)]) := upd_same
      generalize upd H13 p1 (.tup [V.ref p, V.int (zX : Int)]) = H14 at y1 w1 ⊢
      have s14 : Same H12 H14 := s13.trans y1
      have hS14 := hS.same s14
      refine ⟨_, rfl, _, rfl, S, _, _, _, rfl, rfl, SqL.of (s14 _ _ wp12.lS), e1, X.a, _, (2 : Fin 4), _, rfl, hS14.rd, ky_told _, sk_told _ _ _ _, X.tL, _, rfl, .inl ⟨SqL.of hS14.told, fun l fl => ?_⟩⟩
      have y2 := same_new fl (.tup ts)
      have w2 : upd H14 l (.tup ts) l = some (.tup ts) := upd_same
      generalize upd H14 l (.tup ts) = H15 at y2 w2 ⊢
      have hS15 := hS14.same y2
      refine ⟨_, rfl, _, rfl, S, _, _, _, rfl, rfl, SqL.of (y2 _ _ (s14 _ _ wp12.lS)), e1, X.a, _, (1 : Fin 4), _, rfl, hS15.rd, ky_at _, sk_at _ _ _ _, (by show 2 ≤ sizeLine; decide), fun p3 f3 => ?_⟩
      have y3 := same_new f3 (.tup [V.ref l, V.int (zX : Int)])
      have w3 : upd H15 p3 (.tup [V.ref l, V.int (zX : Int)]) p3 = some (.tup [V.ref l, V.int (zX : Int)]) := upd_same
      generalize upd H15 p3 (.tup [V.ref l, V.int (zX : Int)]) = H16 at y3 w3 ⊢
      have s16 : Same H12 H16 := (s14.trans y2).trans y3
      have hS16 := hS15.same y3
      refine ⟨.ref p1, .ref p3, rfl, .inr ⟨p1, p3, _, _, rfl, rfl, y3 _ _ (y2 _ _ w1), w3, (by show 2 ≤ 1000000; decide), .cons (drw_sid_eqv (C := C) (CD := CD) (w := w) (d := X.d) (dd := dd) (b := X.b) (dx := dx) (r := r) (st := X.st) (a := X.a) (tL := X.tL) (mL := X.mL) (r2 := r3) (bl := bX) (z := zX) (as := as) hl (fun jj s e => ?_) hS16.len hS16.each hb (y3 _ _ (y2 _ _ (y1 _ _ hp))) (y3 _ _ w2) (by have := hD.short; omega)) (.cons (.inl ⟨rfl, rfl⟩) .nil)⟩, fun H17 s17 => ⟨true, rfl, iteF ?_⟩⟩
      · obtain ⟨tt, f1, f2, f3⟩ := ht jj s e
        exact ⟨tt, f1, f2, f3.keep fun c xs e => s16 _ _ e⟩
      · exact ⟨_, rfl, wp12.same (s16.trans s17)⟩
    · rintro σ12 H12 ⟨o5', rfl, wp12⟩
      exact ⟨k3, z1, z2, l1, l2, _, _, _, _, _, _, _, rfl, wp12, r1, r2, d1, d2, n1, n2, by omega⟩
  have stop : ∀ (H' : Hp) (k3 : Nat), Same H10 H' → k3 = k2 → Wp K C CD w H' a t S Bo ns k2 [V.ref x.a, V.ref y.a] [V.ref x.d, V.ref y.d] x' y' bx' (stepP de bx' zx lx).2.1 (stepP de bx' zx lx).2.2 (stepP de bx' zx lx).2.1 (stepP de bx' zx lx).2.2 b2' zy ly := fun H' k3 s _ => wp10.same s
  by_cases hbk : de = .bk
  · subst hbk
    obtain ⟨a0, rfl, ha⟩ := hv10
    refine ⟨_, rfl, a0, _, _, _, rfl, rfl, SqT.of ha, rfl, rfl, _, rfl, ite2 (fun c => absurd c (by decide +kernel)) (fun _ => ?_)⟩
    exact ⟨k2, rfl, wp10, by omega⟩
  have hh : ∃ (a0 : Addr) (nm : Str) (xs : List V), v = .ref a0 ∧ H10 a0 = some (.tup (.str nm :: xs)) ∧ ¬ nm = "back" := by
    cases de with
    | ev n => obtain ⟨a0, e, ha, _⟩ := hv10; exact ⟨a0, _, _, e, ha, by decide +kernel⟩
    | pk ws => obtain ⟨a0, x, e, ha, _⟩ := hv10; exact ⟨a0, _, _, e, ha, by decide +kernel⟩
    | sh n => obtain ⟨a0, x, e, ha, _⟩ := hv10; exact ⟨a0, _, _, e, ha, by decide +kernel⟩
    | ch n k => obtain ⟨a0, e, ha, _⟩ := hv10; exact ⟨a0, _, _, e, ha, by decide +kernel⟩
    | bk => exact absurd rfl hbk
  obtain ⟨a0, nm, xs0, rfl, ha, hnm⟩ := hh
  refine ⟨_, rfl, a0, _, _, .str nm, rfl, rfl, SqT.of ha, atI_nat (j := 0) rfl, rfl, _, rfl, ite2 (fun _ => ?_) (fun c => absurd (by rw [decide_eq_false (fun e => hnm (V.str.inj e))]; rfl) c)⟩
  refine ⟨_, rfl, (by show 2 ≤ sizeLine; decide), fun c fc => ?_⟩
  have y11 := same_new fc (.tup [V.str "NoBits", V.str "NoPlace"])
  have w11 : upd H10 c (.tup [V.str "NoBits", V.str "NoPlace"]) c = some (.tup [V.str "NoBits", V.str "NoPlace"]) := upd_same
  generalize upd H10 c (.tup [V.str "NoBits", V.str "NoPlace"]) = H11 at y11 w11 ⊢
  have wp11 := wp10.same y11
  have hv11 := hv10.keep fun c xs e => y11 _ _ e
  have ag11 := ag10.keep fun c xs e => y11 _ _ e
  have hst := stepP_dr hbk bx' zx lx
  clear wp10 hv10 ag10 stop ha
  cases hdr : drP de (bx'.drop zx) with
  | none =>
    rw [hst, hdr] at ag11
    obtain rfl : g = .str "NoPlace" := ag11
    exact ⟨c, ["NoBits", "NoPlace"], rfl, SqT.of w11, .inl ⟨rfl, _, rfl, ite2 (fun y => absurd y (by decide +kernel)) (fun _ => ⟨k2, rfl, wp11, by omega⟩)⟩⟩
  | some o =>
    cases o with
    | none =>
      rw [hst, hdr] at ag11
      obtain rfl : g = .str "NoBits" := ag11
      exact ⟨c, ["NoBits", "NoPlace"], rfl, SqT.of w11, .inl ⟨rfl, _, rfl, ite2 (fun y => absurd y (by decide +kernel)) (fun _ => ⟨k2, rfl, wp11, by omega⟩)⟩⟩
    | some o =>
      obtain ⟨tv, u⟩ := o
      have es : stepP de bx' zx lx = (.tv tv, zx + u, lx ++ [(zx, tv)]) := by rw [hst, hdr]; rfl
      have hg11 : TvAt H11 g tv := by rw [es] at ag11; exact ag11
      refine notIn_tv hg11 (SqT.of w11) ⟨_, rfl, ite2 (fun _ => ?_) (fun y => absurd rfl y)⟩
      refine ⟨_, rfl, _, rfl, a, t, ns, k2, 4, rfl, wp11.scr, h63, wp11.twn, by omega, by decide, fun H12 g12 t12 => ⟨rfl, _, rfl, ite2 (fun _ => ?_) (fun _ => ?_)⟩⟩
      rotate_left
      · exact ⟨k2 + 1, rfl, wp11.grow g12 t12, by omega⟩
      have wp12 := wp11.grow g12 t12
      have hv12 := hv11.keep fun c xs e => g12.tup wp11.twn e
      have ag12 := ag11.keep fun c xs e => g12.tup wp11.twn e
      clear wp11 hv11 ag11 hg11 w11 y11 g12 t12 fc
      rw [es] at wp12 rn bn
      refine ⟨_, rfl, _, rfl, Bo, _, _, _, rfl, rfl, SqL.of wp12.lB, e2, (by show 1 ≤ sizeLine; decide), fun pb fpb => ?_⟩
      have y13 := same_new fpb (.tup [V.str "back"])
      have w13 : upd H12 pb (.tup [V.str "back"]) pb = some (.tup [V.str "back"]) := upd_same
      generalize upd H12 pb (.tup [V.str "back"]) = H13 at y13 w13 ⊢
      have wp13 := wp12.same y13
      refine ⟨x'.d, x'.b, x'.st, bx', zx + u, lx ++ [(zx, tv)], .ref pb, .bk, rfl, wp13.dx, ⟨pb, rfl, w13⟩, by rw [List.length_append]; show lx.length + 1 < 999; omega, rn, fun g3 H14 hr14 => ?_⟩
      have eb : stepP .bk bx' (zx + u) (lx ++ [(zx, tv)]) = (.tv tv, zx, lx) := by
        unfold stepP
        dsimp only
        rw [List.getLast?_append, List.dropLast_concat]
        rfl
      rw [eb] at hr14
      obtain ⟨b14, ag14, dr14⟩ := hr14
      obtain ⟨st14, wp14⟩ := wp13.acted b14 dr14
      have hv14 := (hv12.keep fun c xs e => y13 _ _ e).keep st14.1
      have agd14 := (ag12.keep fun c xs e => y13 _ _ e).keep st14.1
      refine ⟨_, rfl, _, rfl, Bo, _, _, _, rfl, rfl, SqL.of wp14.lB, e2, _, rfl, x'.d, x'.b, x'.st, bx', zx, lx, _, de, rfl, wp14.dx, hv14, by omega, rx, fun g4 H15 hr15 => ?_⟩
      obtain ⟨b15, ag15, dr15⟩ := hr15
      obtain ⟨st15, wp15⟩ := wp14.acted b15 dr15
      have agd15 := agd14.keep st15.1
      have ag3 := ag14.keep st15.1
      rw [es] at agd15 ag15 bt
      refine ⟨(by show 2 ≤ sizeLine; decide), fun p1 f1 => ?_⟩
      have y16 := same_new f1 (.tup [g3, g4])
      have w16 : upd H15 p1 (.tup [g3, g4]) p1 = some (.tup [g3, g4]) := upd_same
      generalize upd H15 p1 (.tup [g3, g4]) = H16 at y16 w16 ⊢
      refine ⟨_, rfl, _, rfl, (by show 2 ≤ sizeLine; decide), fun p2 f2 => ?_⟩
      have y17 := same_new f2 (.tup [g, g])
      have w17 : upd H16 p2 (.tup [g, g]) p2 = some (.tup [g, g]) := upd_same
      generalize upd H16 p2 (.tup [g, g]) = H17 at y17 w17 ⊢
      have s17 : Same H15 H17 := y16.trans y17
      have k17 : ∀ c xs, H15 c = some (.tup xs) → H17 c = some (.tup xs) := fun c xs e => s17 _ _ e
      refine ⟨.ref p1, .ref p2, rfl, .inr ⟨p1, p2, _, _, rfl, rfl, y17 _ _ w16, w17, (by show 2 ≤ 1000000; decide), .cons (AnAt.eqv (ag3.keep k17) (agd15.keep k17) bt) (.cons (AnAt.eqv (ag15.keep k17) (agd15.keep k17) bt) .nil)⟩, fun H18 s18 => ⟨true, rfl, iteF ?_⟩⟩
      have wp18 := wp15.same (s17.trans s18)
      rw [es] at wp18
      refine ⟨k2 + 1, rfl, ?_, by omega⟩
      rw [es]
      exact wp18
end
theorem lenS {us : List Value} {n : Nat} (h : us.length = n + 1) : ∃ a t, us = a :: t ∧ t.length = n := by
  cases us with
  | nil => cases h
  | cons a t => exact ⟨a, t, rfl, Nat.succ.inj h⟩
theorem lenU0 {us : List Value} (h : us.length = 0) : us = [] := List.eq_nil_of_length_eq_zero h
theorem lenU1 {us : List Value} (h : us.length = 1) : ∃ a0, us = [a0] := by
  obtain ⟨a0, t, rfl, h2⟩ := lenS h
  obtain ⟨rfl⟩ := lenU0 h2
  exact ⟨a0, rfl⟩
theorem lenU2 {us : List Value} (h : us.length = 2) : ∃ a0 a1, us = [a0, a1] := by
  obtain ⟨a0, t, rfl, h2⟩ := lenS h
  obtain ⟨a1, rfl⟩ := lenU1 h2
  exact ⟨a0, a1, rfl⟩
theorem lenU3 {us : List Value} (h : us.length = 3) : ∃ a0 a1 a2, us = [a0, a1, a2] := by
  obtain ⟨a0, t, rfl, h2⟩ := lenS h
  obtain ⟨a1, a2, rfl⟩ := lenU2 h2
  exact ⟨a0, a1, a2, rfl⟩
theorem all_mk {l : PySem.W.OpenLaw} {w : World} {K : PySem.W.Frag} {h : Heap} {mg : Str → Option Value} {fa f1 f2 f3 f4 f5 f6 f7 f8 f9 f10 f11 f12 f13 f14 f15 f16 f17 f18 f19 f20 f21 f22 f23 f24 f25 c_Bits c_Drawer f26 f27 f28 f29 f30 f31 f32 f33 f34 f35 f36 f37 f38 f39 e_NoBits e_NoPlace e_NoStep : Addr} (X : K.In h) (G : h.Ns mainGlobals mg) (hfa : mg "law" = some (.ref fa))
    {od1 an1 od2 an2 od3 an3 od4 an4 od5 an5 od6 an6 od7 an7 od8 an8 od9 an9 od10 an10 od11 an11 od12 an12 od13 an13 od14 an14 od15 an15 od16 an16 od17 an17 od18 an18 od19 an19 od20 an20 od21 an21 od22 an22 od23 an23 od24 an24 od25 an25 od26 an26 od27 an27 od28 an28 od29 an29 od30 an30 od31 an31 od32 an32 od33 an33 od34 an34 od35 an35 od36 an36 od37 an37 od38 an38 od39 an39 xo_NoBits xo_NoPlace xo_NoStep : Option Addr} {sl1 sl2 sl3 sl4 sl5 sl6 sl7 sl8 sl9 sl10 sl11 sl12 sl13 sl14 sl15 sl16 sl17 sl18 sl19 sl20 sl21 sl22 sl23 sl24 sl25 sl26 sl27 sl28 sl29 sl30 sl31 sl32 sl33 sl34 sl35 sl36 sl37 sl38 sl39 xs_NoBits xs_NoPlace xs_NoStep : Array (Option Value)} {oc1 kV1 dc1 pm1 cd1 ct1 oc2 kV2 dc2 pm2 cd2 ct2 oc3 kV3 dc3 pm3 cd3 ct3 oc4 kV4 dc4 pm4 cd4 ct4 oc5 kV5 dc5 pm5 cd5 ct5 oc6 kV6 dc6 pm6 cd6 ct6 oc7 kV7 dc7 pm7 cd7 ct7 oc8 kV8 dc8 pm8 cd8 ct8 oc9 kV9 dc9 pm9 cd9 ct9 oc10 kV10 dc10 pm10 cd10 ct10 oc11 kV11 dc11 pm11 cd11 ct11 oc12 kV12 dc12 pm12 cd12 ct12 oc13 kV13 dc13 pm13 cd13 ct13 oc14 kV14 dc14 pm14 cd14 ct14 oc15 kV15 dc15 pm15 cd15 ct15 oc16 kV16 dc16 pm16 cd16 ct16 oc17 kV17 dc17 pm17 cd17 ct17 oc18 kV18 dc18 pm18 cd18 ct18 oc19 kV19 dc19 pm19 cd19 ct19 oc20 kV20 dc20 pm20 cd20 ct20 oc21 kV21 dc21 pm21 cd21 ct21 oc22 kV22 dc22 pm22 cd22 ct22 oc23 kV23 dc23 pm23 cd23 ct23 oc24 kV24 dc24 pm24 cd24 ct24 oc25 kV25 dc25 pm25 cd25 ct25 oc26 kV26 dc26 pm26 cd26 ct26 oc27 kV27 dc27 pm27 cd27 ct27 oc28 kV28 dc28 pm28 cd28 ct28 oc29 kV29 dc29 pm29 cd29 ct29 oc30 kV30 dc30 pm30 cd30 ct30 oc31 kV31 dc31 pm31 cd31 ct31 oc32 kV32 dc32 pm32 cd32 ct32 oc33 kV33 dc33 pm33 cd33 ct33 oc34 kV34 dc34 pm34 cd34 ct34 oc35 kV35 dc35 pm35 cd35 ct35 oc36 kV36 dc36 pm36 cd36 ct36 oc37 kV37 dc37 pm37 cd37 ct37 oc38 kV38 dc38 pm38 cd38 ct38 oc39 kV39 dc39 pm39 cd39 ct39 xc_NoBits xc_NoPlace xc_NoStep : Value} {ed_NoBits ed_NoPlace ed_NoStep : ClassData} {w1 w2 w3 w4 : Tok}
    (a1 : PySem.W.nsIn K mainGlobals "drawn_whole" = some (some (.ref f1))) (l1 : K.lookup f1 = some ⟨oc1, od1, .func (PySem.W.fnOf "drawn_whole" "drawn_whole" (defArgs s_drawn_whole) (defBody s_drawn_whole) (defScope s_drawn_whole) .none kV1 dc1 pm1 an1 cd1 ct1), sl1⟩) (c1 : PySem.W.codeIn K cd1 "drawn_whole" = true) (k1 : PySem.W.keepIn K (.ref f1) = true)
    (a2 : PySem.W.nsIn K mainGlobals "next_state" = some (some (.ref f2))) (l2 : K.lookup f2 = some ⟨oc2, od2, .func (PySem.W.fnOf "next_state" "next_state" (defArgs s_next_state) (defBody s_next_state) (defScope s_next_state) .none kV2 dc2 pm2 an2 cd2 ct2), sl2⟩) (c2 : PySem.W.codeIn K cd2 "next_state" = true) (k2 : PySem.W.keepIn K (.ref f2) = true)
    (a3 : PySem.W.nsIn K mainGlobals "bits_of" = some (some (.ref f3))) (l3 : K.lookup f3 = some ⟨oc3, od3, .func (PySem.W.fnOf "bits_of" "bits_of" (defArgs s_bits_of) (defBody s_bits_of) (defScope s_bits_of) .none kV3 dc3 pm3 an3 cd3 ct3), sl3⟩) (c3 : PySem.W.codeIn K cd3 "bits_of" = true) (k3 : PySem.W.keepIn K (.ref f3) = true)
    (a4 : PySem.W.nsIn K mainGlobals "even_evens" = some (some (.ref f4))) (l4 : K.lookup f4 = some ⟨oc4, od4, .func (PySem.W.fnOf "even" "even" (defArgs s_even) (defBody s_even) (defScope s_even) .none kV4 dc4 pm4 an4 cd4 ct4), sl4⟩) (c4 : PySem.W.codeIn K cd4 "even" = true) (k4 : PySem.W.keepIn K (.ref f4) = true)
    (a5 : PySem.W.nsIn K mainGlobals "take_even" = some (some (.ref f5))) (l5 : K.lookup f5 = some ⟨oc5, od5, .func (PySem.W.fnOf "take_even" "take_even" (defArgs s_take_even) (defBody s_take_even) (defScope s_take_even) .none kV5 dc5 pm5 an5 cd5 ct5), sl5⟩) (c5 : PySem.W.codeIn K cd5 "take_even" = true) (k5 : PySem.W.keepIn K (.ref f5) = true)
    (a6 : PySem.W.nsIn K mainGlobals "check_place" = some (some (.ref f6))) (l6 : K.lookup f6 = some ⟨oc6, od6, .func (PySem.W.fnOf "check_place" "check_place" (defArgs s_check_place) (defBody s_check_place) (defScope s_check_place) .none kV6 dc6 pm6 an6 cd6 ct6), sl6⟩) (c6 : PySem.W.codeIn K cd6 "check_place" = true) (k6 : PySem.W.keepIn K (.ref f6) = true)
    (a7 : PySem.W.nsIn K mainGlobals "places_of_swaps" = some (some (.ref f7))) (l7 : K.lookup f7 = some ⟨oc7, od7, .func (PySem.W.fnOf "places_of_swaps" "places_of_swaps" (defArgs s_places_of_swaps) (defBody s_places_of_swaps) (defScope s_places_of_swaps) .none kV7 dc7 pm7 an7 cd7 ct7), sl7⟩) (c7 : PySem.W.codeIn K cd7 "places_of_swaps" = true) (k7 : PySem.W.keepIn K (.ref f7) = true)
    (a8 : PySem.W.nsIn K mainGlobals "exchange" = some (some (.ref f8))) (l8 : K.lookup f8 = some ⟨oc8, od8, .func (PySem.W.fnOf "exchange" "exchange" (defArgs s_exchange) (defBody s_exchange) (defScope s_exchange) .none kV8 dc8 pm8 an8 cd8 ct8), sl8⟩) (c8 : PySem.W.codeIn K cd8 "exchange" = true) (k8 : PySem.W.keepIn K (.ref f8) = true)
    (a9 : PySem.W.nsIn K mainGlobals "by_swaps" = some (some (.ref f9))) (l9 : K.lookup f9 = some ⟨oc9, od9, .func (PySem.W.fnOf "by_swaps" "by_swaps" (defArgs s_by_swaps) (defBody s_by_swaps) (defScope s_by_swaps) .none kV9 dc9 pm9 an9 cd9 ct9), sl9⟩) (c9 : PySem.W.codeIn K cd9 "by_swaps" = true) (k9 : PySem.W.keepIn K (.ref f9) = true)
    (a10 : PySem.W.nsIn K mainGlobals "ways" = some (some (.ref f10))) (l10 : K.lookup f10 = some ⟨oc10, od10, .func (PySem.W.fnOf "ways" "ways" (defArgs s_ways) (defBody s_ways) (defScope s_ways) .none kV10 dc10 pm10 an10 cd10 ct10), sl10⟩) (c10 : PySem.W.codeIn K cd10 "ways" = true) (k10 : PySem.W.keepIn K (.ref f10) = true)
    (a11 : PySem.W.nsIn K mainGlobals "choice_at" = some (some (.ref f11))) (l11 : K.lookup f11 = some ⟨oc11, od11, .func (PySem.W.fnOf "choice_at" "choice_at" (defArgs s_choice_at) (defBody s_choice_at) (defScope s_choice_at) .none kV11 dc11 pm11 an11 cd11 ct11), sl11⟩) (c11 : PySem.W.codeIn K cd11 "choice_at" = true) (k11 : PySem.W.keepIn K (.ref f11) = true)
    (a12 : PySem.W.nsIn K mainGlobals "last_ones_within" = some (some (.ref f12))) (l12 : K.lookup f12 = some ⟨oc12, od12, .func (PySem.W.fnOf "last_ones_within" "last_ones_within" (defArgs s_last_ones_within) (defBody s_last_ones_within) (defScope s_last_ones_within) .none kV12 dc12 pm12 an12 cd12 ct12), sl12⟩) (c12 : PySem.W.codeIn K cd12 "last_ones_within" = true) (k12 : PySem.W.keepIn K (.ref f12) = true)
    (a13 : PySem.W.nsIn K mainGlobals "shuffled_orders" = some (some (.ref f13))) (l13 : K.lookup f13 = some ⟨oc13, od13, .func (PySem.W.fnOf "shuffled" "shuffled" (defArgs s_shuffled) (defBody s_shuffled) (defScope s_shuffled) .none kV13 dc13 pm13 an13 cd13 ct13), sl13⟩) (c13 : PySem.W.codeIn K cd13 "shuffled" = true) (k13 : PySem.W.keepIn K (.ref f13) = true)
    (a14 : PySem.W.nsIn K mainGlobals "take_shuffled" = some (some (.ref f14))) (l14 : K.lookup f14 = some ⟨oc14, od14, .func (PySem.W.fnOf "take_shuffled" "take_shuffled" (defArgs s_take_shuffled) (defBody s_take_shuffled) (defScope s_take_shuffled) .none kV14 dc14 pm14 an14 cd14 ct14), sl14⟩) (c14 : PySem.W.codeIn K cd14 "take_shuffled" = true) (k14 : PySem.W.keepIn K (.ref f14) = true)
    (a15 : PySem.W.nsIn K mainGlobals "choice_orders" = some (some (.ref f15))) (l15 : K.lookup f15 = some ⟨oc15, od15, .func (PySem.W.fnOf "choice" "choice" (defArgs s_choice) (defBody s_choice) (defScope s_choice) .none kV15 dc15 pm15 an15 cd15 ct15), sl15⟩) (c15 : PySem.W.codeIn K cd15 "choice" = true) (k15 : PySem.W.keepIn K (.ref f15) = true)
    (a16 : PySem.W.nsIn K mainGlobals "pick_plans" = some (some (.ref f16))) (l16 : K.lookup f16 = some ⟨oc16, od16, .func (PySem.W.fnOf "pick" "pick" (defArgs s_pick) (defBody s_pick) (defScope s_pick) .none kV16 dc16 pm16 an16 cd16 ct16), sl16⟩) (c16 : PySem.W.codeIn K cd16 "pick" = true) (k16 : PySem.W.keepIn K (.ref f16) = true)
    (a17 : PySem.W.nsIn K mainGlobals "take_pick" = some (some (.ref f17))) (l17 : K.lookup f17 = some ⟨oc17, od17, .func (PySem.W.fnOf "take_pick" "take_pick" (defArgs s_take_pick) (defBody s_take_pick) (defScope s_take_pick) .none kV17 dc17 pm17 an17 cd17 ct17), sl17⟩) (c17 : PySem.W.codeIn K cd17 "take_pick" = true) (k17 : PySem.W.keepIn K (.ref f17) = true)
    (a18 : PySem.W.nsIn K mainGlobals "_law_same" = some (some (.ref f18))) (l18 : K.lookup f18 = some ⟨oc18, od18, .func (PySem.W.fnOf "_law_same" "_law_same" (defArgs s__law_same) (defBody s__law_same) (defScope s__law_same) .none kV18 dc18 pm18 an18 cd18 ct18), sl18⟩) (c18 : PySem.W.codeIn K cd18 "_law_same" = true) (k18 : PySem.W.keepIn K (.ref f18) = true)
    (a19 : PySem.W.nsIn K mainGlobals "_law_draw" = some (some (.ref f19))) (l19 : K.lookup f19 = some ⟨oc19, od19, .func (PySem.W.fnOf "_law_draw" "_law_draw" (defArgs s__law_draw) (defBody s__law_draw) (defScope s__law_draw) .none kV19 dc19 pm19 an19 cd19 ct19), sl19⟩) (c19 : PySem.W.codeIn K cd19 "_law_draw" = true) (k19 : PySem.W.keepIn K (.ref f19) = true)
    (a20 : PySem.W.nsIn K mainGlobals "_law_one" = some (some (.ref f20))) (l20 : K.lookup f20 = some ⟨oc20, od20, .func (PySem.W.fnOf "_law_one" "_law_one" (defArgs s__law_one) (defBody s__law_one) (defScope s__law_one) .none kV20 dc20 pm20 an20 cd20 ct20), sl20⟩) (c20 : PySem.W.codeIn K cd20 "_law_one" = true) (k20 : PySem.W.keepIn K (.ref f20) = true)
    (a21 : PySem.W.nsIn K mainGlobals "_law_act" = some (some (.ref f21))) (l21 : K.lookup f21 = some ⟨oc21, od21, .func (PySem.W.fnOf "_law_act" "_law_act" (defArgs s__law_act) (defBody s__law_act) (defScope s__law_act) .none kV21 dc21 pm21 an21 cd21 ct21), sl21⟩) (c21 : PySem.W.codeIn K cd21 "_law_act" = true) (k21 : PySem.W.keepIn K (.ref f21) = true)
    (a22 : PySem.W.nsIn K mainGlobals "_law_by_bits" = some (some (.ref f22))) (l22 : K.lookup f22 = some ⟨oc22, od22, .func (PySem.W.fnOf "_law_by_bits" "_law_by_bits" (defArgs s__law_by_bits) (defBody s__law_by_bits) (defScope s__law_by_bits) .none kV22 dc22 pm22 an22 cd22 ct22), sl22⟩) (c22 : PySem.W.codeIn K cd22 "_law_by_bits" = true) (k22 : PySem.W.keepIn K (.ref f22) = true)
    (a23 : PySem.W.nsIn K mainGlobals "_law_do" = some (some (.ref f23))) (l23 : K.lookup f23 = some ⟨oc23, od23, .func (PySem.W.fnOf "_law_do" "_law_do" (defArgs s__law_do) (defBody s__law_do) (defScope s__law_do) .none kV23 dc23 pm23 an23 cd23 ct23), sl23⟩) (c23 : PySem.W.codeIn K cd23 "_law_do" = true) (k23 : PySem.W.keepIn K (.ref f23) = true)
    (a24 : PySem.W.nsIn K mainGlobals "_law_deed" = some (some (.ref f24))) (l24 : K.lookup f24 = some ⟨oc24, od24, .func (PySem.W.fnOf "_law_deed" "_law_deed" (defArgs s__law_deed) (defBody s__law_deed) (defScope s__law_deed) .none kV24 dc24 pm24 an24 cd24 ct24), sl24⟩) (c24 : PySem.W.codeIn K cd24 "_law_deed" = true) (k24 : PySem.W.keepIn K (.ref f24) = true)
    (a25 : PySem.W.nsIn K mainGlobals "law" = some (some (.ref f25))) (l25 : K.lookup f25 = some ⟨oc25, od25, .func (PySem.W.fnOf "law" "law" (defArgs s_law) (defBody s_law) (defScope s_law) .none kV25 dc25 pm25 an25 cd25 ct25), sl25⟩) (c25 : PySem.W.codeIn K cd25 "law" = true) (k25 : PySem.W.keepIn K (.ref f25) = true)
    (z1 : PySem.W.nsIn K mainGlobals "all" = some none)
    (z2 : PySem.W.nsIn K mainGlobals "bool" = some none)
    (z3 : PySem.W.nsIn K mainGlobals "enumerate" = some none)
    (z4 : PySem.W.nsIn K mainGlobals "int" = some none)
    (z5 : PySem.W.nsIn K mainGlobals "isinstance" = some none)
    (z6 : PySem.W.nsIn K mainGlobals "len" = some none)
    (z7 : PySem.W.nsIn K mainGlobals "list" = some none)
    (z8 : PySem.W.nsIn K mainGlobals "max" = some none)
    (z9 : PySem.W.nsIn K mainGlobals "min" = some none)
    (z10 : PySem.W.nsIn K mainGlobals "range" = some none)
    (z11 : PySem.W.nsIn K mainGlobals "str" = some none)
    (z12 : PySem.W.nsIn K mainGlobals "sum" = some none)
    (z13 : PySem.W.nsIn K mainGlobals "tuple" = some none)
    (z14 : PySem.W.nsIn K mainGlobals "zip" = some none)
    (v1 : PySem.W.nsIn K mainGlobals "STATES" = some (some (.int 4294967296 w1)))
    (v2 : PySem.W.nsIn K mainGlobals "HALF_OF_STATES" = some (some (.int 2147483648 w2)))
    (v3 : PySem.W.nsIn K mainGlobals "FACTOR" = some (some (.int 1664525 w3)))
    (v4 : PySem.W.nsIn K mainGlobals "ADDED" = some (some (.int 1013904223 w4)))
    (ca_Bits : PySem.W.nsIn K mainGlobals "Bits" = some (some (.ref c_Bits)))
    (pg_Bits : PySem.W.plainGet K c_Bits Str.empty = true) (hd_Bits : PySem.W.hasDictIn K c_Bits = true) (po_Bits : PySem.W.plainOver K c_Bits = true) (sa_Bits : PySem.W.findIn K (.ref c_Bits) "__setattr__" = some (some (.builtin "object.__setattr__"))) (mk_Bits : PySem.W.makesIn K c_Bits = true) (kc_Bits : PySem.W.keepIn K (.ref c_Bits) = true)
    (n_Bits_row : PySem.W.findIn K (.ref c_Bits) "row" = some none)
    (n_Bits_place : PySem.W.findIn K (.ref c_Bits) "place" = some none)
    (ca_Drawer : PySem.W.nsIn K mainGlobals "Drawer" = some (some (.ref c_Drawer)))
    (pg_Drawer : PySem.W.plainGet K c_Drawer Str.empty = true) (hd_Drawer : PySem.W.hasDictIn K c_Drawer = true) (po_Drawer : PySem.W.plainOver K c_Drawer = true) (sa_Drawer : PySem.W.findIn K (.ref c_Drawer) "__setattr__" = some (some (.builtin "object.__setattr__"))) (mk_Drawer : PySem.W.makesIn K c_Drawer = true) (kc_Drawer : PySem.W.keepIn K (.ref c_Drawer) = true)
    (n_Drawer_bits : PySem.W.findIn K (.ref c_Drawer) "bits" = some none)
    (n_Drawer_steps : PySem.W.findIn K (.ref c_Drawer) "steps" = some none)
    (a26 : PySem.W.findIn K (.ref c_Bits) "__init__" = some (some (.ref f26))) (i26 : PySem.W.isFn K (.ref f26) = true) (l26 : K.lookup f26 = some ⟨oc26, od26, .func (PySem.W.fnOf "__init__" "Bits.__init__" (defArgs s_Bits___init__) (defBody s_Bits___init__) (defScope s_Bits___init__) .none kV26 dc26 pm26 an26 cd26 ct26), sl26⟩) (c26 : PySem.W.codeIn K cd26 "Bits.__init__" = true) (k26 : PySem.W.keepIn K (.ref f26) = true)
    (a27 : PySem.W.findIn K (.ref c_Bits) "take" = some (some (.ref f27))) (i27 : PySem.W.isFn K (.ref f27) = true) (l27 : K.lookup f27 = some ⟨oc27, od27, .func (PySem.W.fnOf "take" "Bits.take" (defArgs s_Bits_take) (defBody s_Bits_take) (defScope s_Bits_take) .none kV27 dc27 pm27 an27 cd27 ct27), sl27⟩) (c27 : PySem.W.codeIn K cd27 "Bits.take" = true) (k27 : PySem.W.keepIn K (.ref f27) = true)
    (a28 : PySem.W.findIn K (.ref c_Bits) "used" = some (some (.ref f28))) (i28 : PySem.W.isFn K (.ref f28) = true) (l28 : K.lookup f28 = some ⟨oc28, od28, .func (PySem.W.fnOf "used" "Bits.used" (defArgs s_Bits_used) (defBody s_Bits_used) (defScope s_Bits_used) .none kV28 dc28 pm28 an28 cd28 ct28), sl28⟩) (c28 : PySem.W.codeIn K cd28 "Bits.used" = true) (k28 : PySem.W.keepIn K (.ref f28) = true)
    (a29 : PySem.W.findIn K (.ref c_Bits) "left" = some (some (.ref f29))) (i29 : PySem.W.isFn K (.ref f29) = true) (l29 : K.lookup f29 = some ⟨oc29, od29, .func (PySem.W.fnOf "left" "Bits.left" (defArgs s_Bits_left) (defBody s_Bits_left) (defScope s_Bits_left) .none kV29 dc29 pm29 an29 cd29 ct29), sl29⟩) (c29 : PySem.W.codeIn K cd29 "Bits.left" = true) (k29 : PySem.W.keepIn K (.ref f29) = true)
    (a30 : PySem.W.findIn K (.ref c_Bits) "go_back" = some (some (.ref f30))) (i30 : PySem.W.isFn K (.ref f30) = true) (l30 : K.lookup f30 = some ⟨oc30, od30, .func (PySem.W.fnOf "go_back" "Bits.go_back" (defArgs s_Bits_go_back) (defBody s_Bits_go_back) (defScope s_Bits_go_back) .none kV30 dc30 pm30 an30 cd30 ct30), sl30⟩) (c30 : PySem.W.codeIn K cd30 "Bits.go_back" = true) (k30 : PySem.W.keepIn K (.ref f30) = true)
    (a31 : PySem.W.findIn K (.ref c_Drawer) "__init__" = some (some (.ref f31))) (i31 : PySem.W.isFn K (.ref f31) = true) (l31 : K.lookup f31 = some ⟨oc31, od31, .func (PySem.W.fnOf "__init__" "Drawer.__init__" (defArgs s_Drawer___init__) (defBody s_Drawer___init__) (defScope s_Drawer___init__) .none kV31 dc31 pm31 an31 cd31 ct31), sl31⟩) (c31 : PySem.W.codeIn K cd31 "Drawer.__init__" = true) (k31 : PySem.W.keepIn K (.ref f31) = true)
    (a32 : PySem.W.findIn K (.ref c_Drawer) "even" = some (some (.ref f32))) (i32 : PySem.W.isFn K (.ref f32) = true) (l32 : K.lookup f32 = some ⟨oc32, od32, .func (PySem.W.fnOf "even" "Drawer.even" (defArgs s_Drawer_even) (defBody s_Drawer_even) (defScope s_Drawer_even) .none kV32 dc32 pm32 an32 cd32 ct32), sl32⟩) (c32 : PySem.W.codeIn K cd32 "Drawer.even" = true) (k32 : PySem.W.keepIn K (.ref f32) = true)
    (a33 : PySem.W.findIn K (.ref c_Drawer) "pick" = some (some (.ref f33))) (i33 : PySem.W.isFn K (.ref f33) = true) (l33 : K.lookup f33 = some ⟨oc33, od33, .func (PySem.W.fnOf "pick" "Drawer.pick" (defArgs s_Drawer_pick) (defBody s_Drawer_pick) (defScope s_Drawer_pick) .none kV33 dc33 pm33 an33 cd33 ct33), sl33⟩) (c33 : PySem.W.codeIn K cd33 "Drawer.pick" = true) (k33 : PySem.W.keepIn K (.ref f33) = true)
    (a34 : PySem.W.findIn K (.ref c_Drawer) "shuffled" = some (some (.ref f34))) (i34 : PySem.W.isFn K (.ref f34) = true) (l34 : K.lookup f34 = some ⟨oc34, od34, .func (PySem.W.fnOf "shuffled" "Drawer.shuffled" (defArgs s_Drawer_shuffled) (defBody s_Drawer_shuffled) (defScope s_Drawer_shuffled) .none kV34 dc34 pm34 an34 cd34 ct34), sl34⟩) (c34 : PySem.W.codeIn K cd34 "Drawer.shuffled" = true) (k34 : PySem.W.keepIn K (.ref f34) = true)
    (a35 : PySem.W.findIn K (.ref c_Drawer) "choice" = some (some (.ref f35))) (i35 : PySem.W.isFn K (.ref f35) = true) (l35 : K.lookup f35 = some ⟨oc35, od35, .func (PySem.W.fnOf "choice" "Drawer.choice" (defArgs s_Drawer_choice) (defBody s_Drawer_choice) (defScope s_Drawer_choice) .none kV35 dc35 pm35 an35 cd35 ct35), sl35⟩) (c35 : PySem.W.codeIn K cd35 "Drawer.choice" = true) (k35 : PySem.W.keepIn K (.ref f35) = true)
    (a36 : PySem.W.findIn K (.ref c_Drawer) "noted" = some (some (.ref f36))) (i36 : PySem.W.isFn K (.ref f36) = true) (l36 : K.lookup f36 = some ⟨oc36, od36, .func (PySem.W.fnOf "noted" "Drawer.noted" (defArgs s_Drawer_noted) (defBody s_Drawer_noted) (defScope s_Drawer_noted) .none kV36 dc36 pm36 an36 cd36 ct36), sl36⟩) (c36 : PySem.W.codeIn K cd36 "Drawer.noted" = true) (k36 : PySem.W.keepIn K (.ref f36) = true)
    (a37 : PySem.W.findIn K (.ref c_Drawer) "history" = some (some (.ref f37))) (i37 : PySem.W.isFn K (.ref f37) = true) (l37 : K.lookup f37 = some ⟨oc37, od37, .func (PySem.W.fnOf "history" "Drawer.history" (defArgs s_Drawer_history) (defBody s_Drawer_history) (defScope s_Drawer_history) .none kV37 dc37 pm37 an37 cd37 ct37), sl37⟩) (c37 : PySem.W.codeIn K cd37 "Drawer.history" = true) (k37 : PySem.W.keepIn K (.ref f37) = true)
    (a38 : PySem.W.findIn K (.ref c_Drawer) "used" = some (some (.ref f38))) (i38 : PySem.W.isFn K (.ref f38) = true) (l38 : K.lookup f38 = some ⟨oc38, od38, .func (PySem.W.fnOf "used" "Drawer.used" (defArgs s_Drawer_used) (defBody s_Drawer_used) (defScope s_Drawer_used) .none kV38 dc38 pm38 an38 cd38 ct38), sl38⟩) (c38 : PySem.W.codeIn K cd38 "Drawer.used" = true) (k38 : PySem.W.keepIn K (.ref f38) = true)
    (a39 : PySem.W.findIn K (.ref c_Drawer) "back" = some (some (.ref f39))) (i39 : PySem.W.isFn K (.ref f39) = true) (l39 : K.lookup f39 = some ⟨oc39, od39, .func (PySem.W.fnOf "back" "Drawer.back" (defArgs s_Drawer_back) (defBody s_Drawer_back) (defScope s_Drawer_back) .none kV39 dc39 pm39 an39 cd39 ct39), sl39⟩) (c39 : PySem.W.codeIn K cd39 "Drawer.back" = true) (k39 : PySem.W.keepIn K (.ref f39) = true)
    (xa_NoBits : PySem.W.nsIn K mainGlobals "NoBits" = some (some (.ref e_NoBits))) (xl_NoBits : K.lookup e_NoBits = some ⟨xc_NoBits, xo_NoBits, .cls ed_NoBits, xs_NoBits⟩) (xi_NoBits : PySem.W.excIn K e_NoBits [.type "ValueError", .type "Exception", .type "BaseException", .type "object"] "ValueError.__new__" = true)
    (xa_NoPlace : PySem.W.nsIn K mainGlobals "NoPlace" = some (some (.ref e_NoPlace))) (xl_NoPlace : K.lookup e_NoPlace = some ⟨xc_NoPlace, xo_NoPlace, .cls ed_NoPlace, xs_NoPlace⟩) (xi_NoPlace : PySem.W.excIn K e_NoPlace [.type "ValueError", .type "Exception", .type "BaseException", .type "object"] "ValueError.__new__" = true)
    (xa_NoStep : PySem.W.nsIn K mainGlobals "NoStep" = some (some (.ref e_NoStep))) (xl_NoStep : K.lookup e_NoStep = some ⟨xc_NoStep, xo_NoStep, .cls ed_NoStep, xs_NoStep⟩) (xi_NoStep : PySem.W.excIn K e_NoStep [.type "ValueError", .type "Exception", .type "BaseException", .type "object"] "ValueError.__new__" = true)
    (xm_NoBits_NoBits : ed_NoBits.mro.contains (.ref e_NoBits) = true)
    (xm_NoBits_NoPlace : ed_NoBits.mro.contains (.ref e_NoPlace) = false)
    (xm_NoBits_NoStep : ed_NoBits.mro.contains (.ref e_NoStep) = false)
    (xm_NoPlace_NoBits : ed_NoPlace.mro.contains (.ref e_NoBits) = false)
    (xm_NoPlace_NoPlace : ed_NoPlace.mro.contains (.ref e_NoPlace) = true)
    (xm_NoPlace_NoStep : ed_NoPlace.mro.contains (.ref e_NoStep) = false)
    (xm_NoStep_NoBits : ed_NoStep.mro.contains (.ref e_NoBits) = false)
    (xm_NoStep_NoPlace : ed_NoStep.mro.contains (.ref e_NoPlace) = false)
    (xm_NoStep_NoStep : ed_NoStep.mro.contains (.ref e_NoStep) = true) :
    ∃ fd : FuncData, (∀ (s : Shared) (v : Value), BindsTo s fd ⟨[v], []⟩ [("_law_script", v)]) ∧ ∀ base : Heap, K.In base → base.Ns mainGlobals mg → FnOk l.prog w K mg base CX0 13 fa fd ["_law_script"] (spLaw K) := by
  have e := hfa.symm.trans (PySem.W.mg_of X G a25)
  cases e
  have B : Bl mg := ⟨PySem.W.mg_none_of X G z1, PySem.W.mg_none_of X G z2, PySem.W.mg_none_of X G z3, PySem.W.mg_none_of X G z4, PySem.W.mg_none_of X G z5, PySem.W.mg_none_of X G z6, PySem.W.mg_none_of X G z7, PySem.W.mg_none_of X G z8, PySem.W.mg_none_of X G z9, PySem.W.mg_none_of X G z10, PySem.W.mg_none_of X G z11, PySem.W.mg_none_of X G z12, PySem.W.mg_none_of X G z13, PySem.W.mg_none_of X G z14⟩
  have C : Cn mg := ⟨⟨_, PySem.W.mg_of X G v1⟩, ⟨_, PySem.W.mg_of X G v2⟩, ⟨_, PySem.W.mg_of X G v3⟩, ⟨_, PySem.W.mg_of X G v4⟩⟩
  have F_drawn_whole := fun_mk (st := s_drawn_whole) l1 c1 k1
  have F_next_state := fun_mk (st := s_next_state) l2 c2 k2
  have F_bits_of := fun_mk (st := s_bits_of) l3 c3 k3
  have F_even := fun_mk (st := s_even) l4 c4 k4
  have F_take_even := fun_mk (st := s_take_even) l5 c5 k5
  have F_check_place := fun_mk (st := s_check_place) l6 c6 k6
  have F_places_of_swaps := fun_mk (st := s_places_of_swaps) l7 c7 k7
  have F_exchange := fun_mk (st := s_exchange) l8 c8 k8
  have F_by_swaps := fun_mk (st := s_by_swaps) l9 c9 k9
  have F_ways := fun_mk (st := s_ways) l10 c10 k10
  have F_choice_at := fun_mk (st := s_choice_at) l11 c11 k11
  have F_last_ones_within := fun_mk (st := s_last_ones_within) l12 c12 k12
  have F_shuffled := fun_mk (st := s_shuffled) l13 c13 k13
  have F_take_shuffled := fun_mk (st := s_take_shuffled) l14 c14 k14
  have F_choice := fun_mk (st := s_choice) l15 c15 k15
  have F_pick := fun_mk (st := s_pick) l16 c16 k16
  have F_take_pick := fun_mk (st := s_take_pick) l17 c17 k17
  have F__law_same := fun_mk (st := s__law_same) l18 c18 k18
  have F__law_draw := fun_mk (st := s__law_draw) l19 c19 k19
  have F__law_one := fun_mk (st := s__law_one) l20 c20 k20
  have F__law_act := fun_mk (st := s__law_act) l21 c21 k21
  have F__law_by_bits := fun_mk (st := s__law_by_bits) l22 c22 k22
  have F__law_do := fun_mk (st := s__law_do) l23 c23 k23
  have F__law_deed := fun_mk (st := s__law_deed) l24 c24 k24
  have F_law := fun_mk (st := s_law) l25 c25 k25
  have F_Bits___init__ := fun_mk (st := s_Bits___init__) l26 c26 k26
  have b_Bits___init__ := F_Bits___init__.binds (ps := p_Bits___init__) fun _ _ _ _ _ _ us hl => (by obtain ⟨_, _, rfl⟩ := lenU2 hl; rfl)
  have m_Bits___init__ : Meth K c_Bits "__init__" f26 := ⟨a26, i26, k26⟩
  have F_Bits_take := fun_mk (st := s_Bits_take) l27 c27 k27
  have b_Bits_take := F_Bits_take.binds (ps := p_Bits_take) fun _ _ _ _ _ _ us hl => (by obtain ⟨_, rfl⟩ := lenU1 hl; rfl)
  have m_Bits_take : Meth K c_Bits "take" f27 := ⟨a27, i27, k27⟩
  have F_Bits_used := fun_mk (st := s_Bits_used) l28 c28 k28
  have b_Bits_used := F_Bits_used.binds (ps := p_Bits_used) fun _ _ _ _ _ _ us hl => (by obtain ⟨_, rfl⟩ := lenU1 hl; rfl)
  have m_Bits_used : Meth K c_Bits "used" f28 := ⟨a28, i28, k28⟩
  have F_Bits_left := fun_mk (st := s_Bits_left) l29 c29 k29
  have b_Bits_left := F_Bits_left.binds (ps := p_Bits_left) fun _ _ _ _ _ _ us hl => (by obtain ⟨_, rfl⟩ := lenU1 hl; rfl)
  have m_Bits_left : Meth K c_Bits "left" f29 := ⟨a29, i29, k29⟩
  have F_Bits_go_back := fun_mk (st := s_Bits_go_back) l30 c30 k30
  have b_Bits_go_back := F_Bits_go_back.binds (ps := p_Bits_go_back) fun _ _ _ _ _ _ us hl => (by obtain ⟨_, _, rfl⟩ := lenU2 hl; rfl)
  have m_Bits_go_back : Meth K c_Bits "go_back" f30 := ⟨a30, i30, k30⟩
  have F_Drawer___init__ := fun_mk (st := s_Drawer___init__) l31 c31 k31
  have b_Drawer___init__ := F_Drawer___init__.binds (ps := p_Drawer___init__) fun _ _ _ _ _ _ us hl => (by obtain ⟨_, _, _, rfl⟩ := lenU3 hl; rfl)
  have m_Drawer___init__ : Meth K c_Drawer "__init__" f31 := ⟨a31, i31, k31⟩
  have F_Drawer_even := fun_mk (st := s_Drawer_even) l32 c32 k32
  have b_Drawer_even := F_Drawer_even.binds (ps := p_Drawer_even) fun _ _ _ _ _ _ us hl => (by obtain ⟨_, _, rfl⟩ := lenU2 hl; rfl)
  have m_Drawer_even : Meth K c_Drawer "even" f32 := ⟨a32, i32, k32⟩
  have F_Drawer_pick := fun_mk (st := s_Drawer_pick) l33 c33 k33
  have b_Drawer_pick := F_Drawer_pick.binds (ps := p_Drawer_pick) fun _ _ _ _ _ _ us hl => (by obtain ⟨_, _, rfl⟩ := lenU2 hl; rfl)
  have m_Drawer_pick : Meth K c_Drawer "pick" f33 := ⟨a33, i33, k33⟩
  have F_Drawer_shuffled := fun_mk (st := s_Drawer_shuffled) l34 c34 k34
  have b_Drawer_shuffled := F_Drawer_shuffled.binds (ps := p_Drawer_shuffled) fun _ _ _ _ _ _ us hl => (by obtain ⟨_, _, rfl⟩ := lenU2 hl; rfl)
  have m_Drawer_shuffled : Meth K c_Drawer "shuffled" f34 := ⟨a34, i34, k34⟩
  have F_Drawer_choice := fun_mk (st := s_Drawer_choice) l35 c35 k35
  have b_Drawer_choice := F_Drawer_choice.binds (ps := p_Drawer_choice) fun _ _ _ _ _ _ us hl => (by obtain ⟨_, _, _, rfl⟩ := lenU3 hl; rfl)
  have m_Drawer_choice : Meth K c_Drawer "choice" f35 := ⟨a35, i35, k35⟩
  have F_Drawer_noted := fun_mk (st := s_Drawer_noted) l36 c36 k36
  have b_Drawer_noted := F_Drawer_noted.binds (ps := p_Drawer_noted) fun _ _ _ _ _ _ us hl => (by obtain ⟨_, _, _, rfl⟩ := lenU3 hl; rfl)
  have m_Drawer_noted : Meth K c_Drawer "noted" f36 := ⟨a36, i36, k36⟩
  have F_Drawer_history := fun_mk (st := s_Drawer_history) l37 c37 k37
  have b_Drawer_history := F_Drawer_history.binds (ps := p_Drawer_history) fun _ _ _ _ _ _ us hl => (by obtain ⟨_, rfl⟩ := lenU1 hl; rfl)
  have m_Drawer_history : Meth K c_Drawer "history" f37 := ⟨a37, i37, k37⟩
  have F_Drawer_used := fun_mk (st := s_Drawer_used) l38 c38 k38
  have b_Drawer_used := F_Drawer_used.binds (ps := p_Drawer_used) fun _ _ _ _ _ _ us hl => (by obtain ⟨_, rfl⟩ := lenU1 hl; rfl)
  have m_Drawer_used : Meth K c_Drawer "used" f38 := ⟨a38, i38, k38⟩
  have F_Drawer_back := fun_mk (st := s_Drawer_back) l39 c39 k39
  have b_Drawer_back := F_Drawer_back.binds (ps := p_Drawer_back) fun _ _ _ _ _ _ us hl => (by obtain ⟨_, rfl⟩ := lenU1 hl; rfl)
  have m_Drawer_back : Meth K c_Drawer "back" f39 := ⟨a39, i39, k39⟩
  have cls_Bits : Cls K c_Bits := ⟨pg_Bits, hd_Bits, po_Bits, sa_Bits⟩
  have cls_Drawer : Cls K c_Drawer := ⟨pg_Drawer, hd_Drawer, po_Drawer, sa_Drawer⟩
  have mk_Bits : Mk K c_Bits f26 := ⟨mk_Bits, a26, i26, kc_Bits⟩
  have mgC_Bits := PySem.W.mg_of X G ca_Bits
  have mk_Drawer : Mk K c_Drawer f31 := ⟨mk_Drawer, a31, i31, kc_Drawer⟩
  have mgC_Drawer := PySem.W.mg_of X G ca_Drawer
  have X_NoBits : Exc K mg "NoBits" e_NoBits ed_NoBits.mro := ⟨PySem.W.mg_of X G xa_NoBits, xi_NoBits, _, _, _, _, xl_NoBits, rfl⟩
  have X_NoPlace : Exc K mg "NoPlace" e_NoPlace ed_NoPlace.mro := ⟨PySem.W.mg_of X G xa_NoPlace, xi_NoPlace, _, _, _, _, xl_NoPlace, rfl⟩
  have X_NoStep : Exc K mg "NoStep" e_NoStep ed_NoStep.mro := ⟨PySem.W.mg_of X G xa_NoStep, xi_NoStep, _, _, _, _, xl_NoStep, rfl⟩
  have b_drawn_whole := F_drawn_whole.binds (ps := p_drawn_whole) fun _ _ _ _ _ _ us hl => (by obtain ⟨_, _, _, rfl⟩ := lenU3 hl; rfl)
  have b_next_state := F_next_state.binds (ps := p_next_state) fun _ _ _ _ _ _ us hl => (by obtain ⟨_, rfl⟩ := lenU1 hl; rfl)
  have b_bits_of := F_bits_of.binds (ps := p_bits_of) fun _ _ _ _ _ _ us hl => (by obtain ⟨_, _, rfl⟩ := lenU2 hl; rfl)
  have b_even := F_even.binds (ps := p_even) fun _ _ _ _ _ _ us hl => (by obtain ⟨_, _, rfl⟩ := lenU2 hl; rfl)
  have b_take_even := F_take_even.binds (ps := p_take_even) fun _ _ _ _ _ _ us hl => (by obtain ⟨_, _, rfl⟩ := lenU2 hl; rfl)
  have b_check_place := F_check_place.binds (ps := p_check_place) fun _ _ _ _ _ _ us hl => (by obtain ⟨_, _, rfl⟩ := lenU2 hl; rfl)
  have b_places_of_swaps := F_places_of_swaps.binds (ps := p_places_of_swaps) fun _ _ _ _ _ _ us hl => (by obtain ⟨_, rfl⟩ := lenU1 hl; rfl)
  have b_exchange := F_exchange.binds (ps := p_exchange) fun _ _ _ _ _ _ us hl => (by obtain ⟨_, _, _, rfl⟩ := lenU3 hl; rfl)
  have b_by_swaps := F_by_swaps.binds (ps := p_by_swaps) fun _ _ _ _ _ _ us hl => (by obtain ⟨_, _, rfl⟩ := lenU2 hl; rfl)
  have b_ways := F_ways.binds (ps := p_ways) fun _ _ _ _ _ _ us hl => (by obtain ⟨_, _, rfl⟩ := lenU2 hl; rfl)
  have b_choice_at := F_choice_at.binds (ps := p_choice_at) fun _ _ _ _ _ _ us hl => (by obtain ⟨_, _, _, rfl⟩ := lenU3 hl; rfl)
  have b_last_ones_within := F_last_ones_within.binds (ps := p_last_ones_within) fun _ _ _ _ _ _ us hl => (by obtain ⟨_, _, _, rfl⟩ := lenU3 hl; rfl)
  have b_shuffled := F_shuffled.binds (ps := p_shuffled) fun _ _ _ _ _ _ us hl => (by obtain ⟨_, _, rfl⟩ := lenU2 hl; rfl)
  have b_take_shuffled := F_take_shuffled.binds (ps := p_take_shuffled) fun _ _ _ _ _ _ us hl => (by obtain ⟨_, _, rfl⟩ := lenU2 hl; rfl)
  have b_choice := F_choice.binds (ps := p_choice) fun _ _ _ _ _ _ us hl => (by obtain ⟨_, _, _, rfl⟩ := lenU3 hl; rfl)
  have b_pick := F_pick.binds (ps := p_pick) fun _ _ _ _ _ _ us hl => (by obtain ⟨_, _, rfl⟩ := lenU2 hl; rfl)
  have b_take_pick := F_take_pick.binds (ps := p_take_pick) fun _ _ _ _ _ _ us hl => (by obtain ⟨_, _, rfl⟩ := lenU2 hl; rfl)
  have b__law_same := F__law_same.binds (ps := p__law_same) fun _ _ _ _ _ _ us hl => (by obtain ⟨_, _, rfl⟩ := lenU2 hl; rfl)
  have b__law_draw := F__law_draw.binds (ps := p__law_draw) fun _ _ _ _ _ _ us hl => (by obtain ⟨_, _, _, rfl⟩ := lenU3 hl; rfl)
  have b__law_one := F__law_one.binds (ps := p__law_one) fun _ _ _ _ _ _ us hl => (by obtain ⟨_, _, _, rfl⟩ := lenU3 hl; rfl)
  have b__law_act := F__law_act.binds (ps := p__law_act) fun _ _ _ _ _ _ us hl => (by obtain ⟨_, _, rfl⟩ := lenU2 hl; rfl)
  have b__law_by_bits := F__law_by_bits.binds (ps := p__law_by_bits) fun _ _ _ _ _ _ us hl => (by obtain ⟨_, _, _, rfl⟩ := lenU3 hl; rfl)
  have b__law_do := F__law_do.binds (ps := p__law_do) fun _ _ _ _ _ _ us hl => (by obtain ⟨_, _, rfl⟩ := lenU2 hl; rfl)
  have b__law_deed := F__law_deed.binds (ps := p__law_deed) fun _ _ _ _ _ _ us hl => (by obtain ⟨_, _, rfl⟩ := lenU2 hl; rfl)
  have b_law := F_law.binds (ps := p_law) fun _ _ _ _ _ _ us hl => (by obtain ⟨_, rfl⟩ := lenU1 hl; rfl)
  refine ⟨PySem.W.fnOf "law" "law" (defArgs s_law) (defBody s_law) (defScope s_law) .none kV25 dc25 pm25 an25 cd25 ct25, fun s v => .of_eq rfl, fun base _ _ => ?_⟩
  have m_drawn_whole := fun {sp : Sp} {j : Nat} (O : FnOk l.prog w K mg base (CXR l.prog w) j f1 _ p_drawn_whole sp) => FnX.mk (x := "drawn_whole") O (PySem.W.mg_of X G a1) k1 b_drawn_whole
  have m_next_state := fun {sp : Sp} {j : Nat} (O : FnOk l.prog w K mg base CX0 j f2 _ p_next_state sp) => Fn.of (x := "next_state") O (PySem.W.mg_of X G a2) k2 b_next_state
  have m_bits_of := fun {sp : Sp} {j : Nat} (O : FnOk l.prog w K mg base CX0 j f3 _ p_bits_of sp) => Fn.of (x := "bits_of") O (PySem.W.mg_of X G a3) k3 b_bits_of
  have m_even := fun {sp : Sp} {j : Nat} (O : FnOk l.prog w K mg base (CXR l.prog w) j f4 _ p_even sp) => FnX.mk (x := "even_evens") O (PySem.W.mg_of X G a4) k4 b_even
  have m_take_even := fun {sp : Sp} {j : Nat} (O : FnOk l.prog w K mg base (CXR l.prog w) j f5 _ p_take_even sp) => FnX.mk (x := "take_even") O (PySem.W.mg_of X G a5) k5 b_take_even
  have m_check_place := fun {sp : Sp} {j : Nat} (O : FnOk l.prog w K mg base (CXR l.prog w) j f6 _ p_check_place sp) => FnX.mk (x := "check_place") O (PySem.W.mg_of X G a6) k6 b_check_place
  have m_places_of_swaps := fun {sp : Sp} {j : Nat} (O : FnOk l.prog w K mg base CX0 j f7 _ p_places_of_swaps sp) => Fn.of (x := "places_of_swaps") O (PySem.W.mg_of X G a7) k7 b_places_of_swaps
  have m_exchange := fun {sp : Sp} {j : Nat} (O : FnOk l.prog w K mg base CX0 j f8 _ p_exchange sp) => Fn.of (x := "exchange") O (PySem.W.mg_of X G a8) k8 b_exchange
  have m_by_swaps := fun {sp : Sp} {j : Nat} (O : FnOk l.prog w K mg base CX0 j f9 _ p_by_swaps sp) => Fn.of (x := "by_swaps") O (PySem.W.mg_of X G a9) k9 b_by_swaps
  have m_ways := fun {sp : Sp} {j : Nat} (O : FnOk l.prog w K mg base CX0 j f10 _ p_ways sp) => Fn.of (x := "ways") O (PySem.W.mg_of X G a10) k10 b_ways
  have m_choice_at := fun {sp : Sp} {j : Nat} (O : FnOk l.prog w K mg base (CXR l.prog w) j f11 _ p_choice_at sp) => FnX.mk (x := "choice_at") O (PySem.W.mg_of X G a11) k11 b_choice_at
  have m_last_ones_within := fun {sp : Sp} {j : Nat} (O : FnOk l.prog w K mg base CX0 j f12 _ p_last_ones_within sp) => Fn.of (x := "last_ones_within") O (PySem.W.mg_of X G a12) k12 b_last_ones_within
  have m_shuffled := fun {sp : Sp} {j : Nat} (O : FnOk l.prog w K mg base (CXR l.prog w) j f13 _ p_shuffled sp) => FnX.mk (x := "shuffled_orders") O (PySem.W.mg_of X G a13) k13 b_shuffled
  have m_take_shuffled := fun {sp : Sp} {j : Nat} (O : FnOk l.prog w K mg base (CXR l.prog w) j f14 _ p_take_shuffled sp) => FnX.mk (x := "take_shuffled") O (PySem.W.mg_of X G a14) k14 b_take_shuffled
  have m_choice := fun {sp : Sp} {j : Nat} (O : FnOk l.prog w K mg base (CXR l.prog w) j f15 _ p_choice sp) => FnX.mk (x := "choice_orders") O (PySem.W.mg_of X G a15) k15 b_choice
  have m_pick := fun {sp : Sp} {j : Nat} (O : FnOk l.prog w K mg base (CXR l.prog w) j f16 _ p_pick sp) => FnX.mk (x := "pick_plans") O (PySem.W.mg_of X G a16) k16 b_pick
  have m_take_pick := fun {sp : Sp} {j : Nat} (O : FnOk l.prog w K mg base (CXR l.prog w) j f17 _ p_take_pick sp) => FnX.mk (x := "take_pick") O (PySem.W.mg_of X G a17) k17 b_take_pick
  have m__law_same := fun {sp : Sp} {j : Nat} (O : FnOk l.prog w K mg base CX0 j f18 _ p__law_same sp) => Fn.of (x := "_law_same") O (PySem.W.mg_of X G a18) k18 b__law_same
  have m__law_draw := fun {sp : Sp} {j : Nat} (O : FnOk l.prog w K mg base CX0 j f19 _ p__law_draw sp) => Fn.of (x := "_law_draw") O (PySem.W.mg_of X G a19) k19 b__law_draw
  have m__law_one := fun {sp : Sp} {j : Nat} (O : FnOk l.prog w K mg base CX0 j f20 _ p__law_one sp) => Fn.of (x := "_law_one") O (PySem.W.mg_of X G a20) k20 b__law_one
  have m__law_act := fun {sp : Sp} {j : Nat} (O : FnOk l.prog w K mg base CX0 j f21 _ p__law_act sp) => Fn.of (x := "_law_act") O (PySem.W.mg_of X G a21) k21 b__law_act
  have m__law_by_bits := fun {sp : Sp} {j : Nat} (O : FnOk l.prog w K mg base CX0 j f22 _ p__law_by_bits sp) => Fn.of (x := "_law_by_bits") O (PySem.W.mg_of X G a22) k22 b__law_by_bits
  have m__law_do := fun {sp : Sp} {j : Nat} (O : FnOk l.prog w K mg base CX0 j f23 _ p__law_do sp) => Fn.of (x := "_law_do") O (PySem.W.mg_of X G a23) k23 b__law_do
  have m__law_deed := fun {sp : Sp} {j : Nat} (O : FnOk l.prog w K mg base CX0 j f24 _ p__law_deed sp) => Fn.of (x := "_law_deed") O (PySem.W.mg_of X G a24) k24 b__law_deed
  have q_draw := m__law_draw (ok__law_draw F__law_draw B)
  have q_one := m__law_one (ok__law_one F__law_one B q_draw)
  have q_s0 := m__law_same (ok__law_same0 (sp := spSame 0) (fun _ _ _ _ ⟨_, _, _, h, _⟩ => h))
  have q_s1 := m__law_same (ok__law_same1 F__law_same B q_s0)
  have q_s2 := m__law_same (ok__law_same1 F__law_same B q_s1)
  have q_s3 := m__law_same (ok__law_same1 F__law_same B q_s2)
  have q_s4 := m__law_same (ok__law_same1 F__law_same B q_s3)
  have T : Txt K mg c_Bits _ _ _ _ _ _ _ _ _ _ := ⟨cls_Bits, n_Bits_row, n_Bits_place, mgC_Bits, mk_Bits, m_Bits_take, m_Bits_used, m_Bits_left, m_Bits_go_back, b_Bits___init__, b_Bits_take, b_Bits_used, b_Bits_left, b_Bits_go_back⟩
  have TD : TxtD K mg c_Drawer _ _ _ _ _ _ _ _ _ _ _ _ _ _ _ _ _ _ := ⟨cls_Drawer, n_Drawer_bits, n_Drawer_steps, mgC_Drawer, mk_Drawer, m_Drawer_even, m_Drawer_pick, m_Drawer_shuffled, m_Drawer_choice, m_Drawer_noted, m_Drawer_history, m_Drawer_used, m_Drawer_back, b_Drawer___init__, b_Drawer_even, b_Drawer_pick, b_Drawer_shuffled, b_Drawer_choice, b_Drawer_noted, b_Drawer_history, b_Drawer_used, b_Drawer_back⟩
  have q_init := ok_init (P := l.prog) (w := w) (base := base) F_Bits___init__ B T
  have q_used := ok_used (P := l.prog) (w := w) (base := base) F_Bits_used T
  have q_left := ok_left (P := l.prog) (w := w) (base := base) F_Bits_left B T
  have q_take := (ok_take (P := l.prog) (w := w) (base := base) F_Bits_take T X_NoBits q_left).imp take_imp
  have q_goH := okH_go_back (P := l.prog) (w := w) (base := base) F_Bits_go_back T
  have q_go := ok_go_back (P := l.prog) (w := w) (base := base) F_Bits_go_back T X_NoPlace
  have q_dw := m_drawn_whole (ok_drawn_whole (k0 := 3) F_drawn_whole T X_NoBits xm_NoBits_NoBits q_used q_goH)
  have q_dw4 := m_drawn_whole (ok_drawn_whole (k0 := 3) F_drawn_whole T X_NoBits xm_NoBits_NoBits q_used q_goH)
  have q_dw8 := m_drawn_whole (ok_drawn_whole (k0 := 7) F_drawn_whole T X_NoBits xm_NoBits_NoBits q_used q_goH)
  have q_te := m_take_even (ok_take_even F_take_even T q_take)
  have q_ev := m_even (ok_even F_even q_dw4 q_te)
  have q_cp := m_check_place (ok_check_place F_check_place X_NoPlace)
  have q_ps := m_places_of_swaps (ok_places_of_swaps F_places_of_swaps B)
  have q_ex := m_exchange (ok_exchange F_exchange B)
  have q_bs := m_by_swaps (ok_by_swaps F_by_swaps B q_ps q_ex)
  have q_ts := m_take_shuffled (ok_take_shuffled F_take_shuffled B q_ev q_ps q_bs)
  have q_sh := m_shuffled (ok_shuffled F_shuffled q_dw8 q_ts)
  have q_wy := m_ways (ok_ways F_ways B)
  have q_lo := m_last_ones_within (ok_last_ones_within F_last_ones_within B q_wy)
  have q_ca := m_choice_at (ok_choice_at F_choice_at B q_cp q_wy q_lo)
  have q_ch := m_choice (ok_choice F_choice q_wy q_cp q_ca q_ev)
  have q_tp := m_take_pick (ok_take_pick F_take_pick B T q_take)
  have q_pk := m_pick (ok_pick F_pick B q_dw4 q_tp)
  have q_ns := m_next_state (ok_next_state F_next_state C)
  have q_bo := m_bits_of (ok_bits_of F_bits_of B C q_ns)
  have q_uD := ok_usedD (P := l.prog) (w := w) (base := base) F_Drawer_used T TD q_used
  have q_nD := ok_noted (P := l.prog) (w := w) (base := base) (C := c_Bits) F_Drawer_noted TD
  have q_eD := ok_evenD (P := l.prog) (w := w) (base := base) F_Drawer_even TD q_uD q_nD q_ev
  have q_pD := ok_pickD (P := l.prog) (w := w) (base := base) F_Drawer_pick TD q_uD q_nD q_pk
  have q_sD := ok_shuffledD (P := l.prog) (w := w) (base := base) F_Drawer_shuffled TD q_uD q_nD q_sh
  have q_cD := ok_choiceD (P := l.prog) (w := w) (base := base) F_Drawer_choice TD q_uD q_nD q_ch
  have q_bD := ok_back (P := l.prog) (w := w) (base := base) F_Drawer_back B T TD X_NoStep q_go
  have q_hD := ok_history (P := l.prog) (w := w) (base := base) (C := c_Bits) F_Drawer_history B TD
  have q_iD := ok_initTD (P := l.prog) (w := w) (base := base) F_Drawer___init__ T TD q_init q_bo
  have q_act := m__law_act (ok__law_act F__law_act TD X_NoBits X_NoPlace X_NoStep xm_NoBits_NoBits xm_NoPlace_NoBits xm_NoPlace_NoPlace xm_NoStep_NoBits xm_NoStep_NoPlace xm_NoStep_NoStep q_eD q_pD q_sD q_cD q_bD)
  have q_by := m__law_by_bits (ok__law_by_bits F__law_by_bits T X_NoBits X_NoPlace xm_NoBits_NoBits xm_NoPlace_NoBits xm_NoPlace_NoPlace q_init q_used q_ev q_pk q_sh q_ch)
  have q_do := m__law_do (ok__law_do F__law_do q_by)
  have q_de := m__law_deed (ok__law_deed F__law_deed B q_draw)
  exact ok_law F_law B TD q_iD q_hD q_uD q_draw q_one q_s4 q_bo q_de q_do q_act
theorem walk {l : PySem.W.OpenLaw} {q : Program} {loose : List Str} {XP : (Str → Option Value) → Heap → Prop} {YP : World → Heap → Prop} {d : DefRec} {K : Params → PySem.W.Frag} (hn : l.most = some 63) (hdf : d.params.defaults = [])
    (hY : ∀ (w : World) (h : Heap), YP w h → (K w.params).In h)
    (F : ∀ (w : World) (mg : Str → Option Value) (fa : Addr) (h : Heap), (K w.params).In h → h.Ns mainGlobals mg → mg d.name = some (.ref fa) →
      ∃ fd : FuncData, (∀ (s : Shared) (u : Value), BindsTo s fd ⟨[u], []⟩ [("_law_script", u)]) ∧ ∀ base : Heap, (K w.params).In base → base.Ns mainGlobals mg → FnOk l.prog w (K w.params) mg base CX0 13 fa fd ["_law_script"] (spLaw (K w.params))) :
    PySem.W.WalkO q loose XP YP l.row.toRowW d [] (fun f vs => PySem.call f vs) :=
  L2.walk_of (n := 63) (k := 13) (x := "_law_script") (CX := fun _ => CX0) (sp := fun w => spLaw (K w.params)) hn (by decide) hdf ⟨rfl, by decide, by decide⟩ hY F (fun _ _ a ns hl hO hS => ⟨a, ns, rfl, Scr.of hS hO, hl, fun _ => rfl⟩) fun _ _ _ _ _ z => z
/-! what the program's top leaves: the objects that the proof looks at -/
noncomputable abbrev kE (P : Params) (x : Str) (t : Tok) (v : Value) : DictEntry := ⟨PyData.keyHash P x, .str x t, v⟩
noncomputable abbrev kF (nm ql : Str) (st : Stmt) (md : Value) (c : Addr) : Obj := ⟨.type "function", none, .func (PySem.W.fnOf nm ql (defArgs st) (defBody st) (defScope st) .none .none .none md none (.ref c) .none), #[]⟩
noncomputable abbrev kC (nm ql : Str) (t l n f r z m : Nat) : Obj := ⟨.type "code", none, .fields #[.str nm t, .str ql (t + 1), .str "/claim/cut.py" (t + 2), .int l 0, .int n 0, .int 0 0, .int 0 0, .int f 0, .ref r, .bool true, .int z 0, .ref (r + 1), .none, .ref (r + 2), .ref (r + 3), .ref (r + 4), .int m 0, .int l 0, .str "/claim/cut.py" (m + 1)], #[]⟩
noncomputable def KK (P : Params) : PySem.W.Frag :=
  (nat_lit 2, ⟨.none, none, .dict #[] 0, #[]⟩) ::
  (nat_lit 3, ⟨(.type "dict"), none, .dict #[kE P "__name__" 165 (.str "law_bitdraws_k37_whole_drawers" 588), kE P "__doc__" 166 .none, kE P "__package__" 167 .none, kE P "__loader__" 168 (.builtin "__main__.__loader__#opaque"), kE P "__spec__" 169 .none, kE P "__annotations__" 170 (.ref 6), kE P "__builtins__" 171 (.ref 4), kE P "__file__" 173 (.str "/claim/cut.py" 172), kE P "__cached__" 174 .none, kE P "DrawError" 206 (.ref 24), kE P "NoBits" 222 (.ref 37), kE P "NoPlace" 238 (.ref 49), kE P "NoStep" 254 (.ref 61), kE P "STATES" 258 (.int 4294967296 257), kE P "HALF_OF_STATES" 260 (.int 2147483648 259), kE P "FACTOR" 262 (.int 1664525 261), kE P "ADDED" 264 (.int 1013904223 263), kE P "Bits" 324 (.ref 108), kE P "drawn_whole" 334 (.ref 119), kE P "next_state" 341 (.ref 126), kE P "bits_of" 351 (.ref 133), kE P "even" 361 (.ref 140), kE P "even_evens" 362 (.ref 140), kE P "take_even" 372 (.ref 147), kE P "check_place" 382 (.ref 154), kE P "places_of_swaps" 389 (.ref 161), kE P "exchange" 399 (.ref 168), kE P "by_swaps" 410 (.ref 175), kE P "ways" 420 (.ref 182), kE P "choice_at" 434 (.ref 189), kE P "last_ones_within" 447 (.ref 196), kE P "shuffled" 455 (.ref 203), kE P "shuffled_orders" 456 (.ref 203), kE P "take_shuffled" 462 (.ref 208), kE P "choice" 472 (.ref 215), kE P "choice_orders" 473 (.ref 215), kE P "pick" 484 (.ref 222), kE P "pick_plans" 485 (.ref 222), kE P "take_pick" 491 (.ref 227), kE P "Drawer" 587 (.ref 298), kE P "_law_same" 595 (.ref 307), kE P "_law_draw" 608 (.ref 314), kE P "_law_one" 617 (.ref 321), kE P "_law_act" 626 (.ref 328), kE P "_law_by_bits" 637 (.ref 335), kE P "_law_do" 647 (.ref 342), kE P "_law_deed" 653 (.ref 347), kE P "law" 670 (.ref 354)] 48, #[]⟩) ::
  (nat_lit 23, ⟨(.type "dict"), none, .dict #[kE P "__module__" 196 (.str "bitdraws.errors" 187), kE P "__firstlineno__" 200 (.int 2 199), kE P "__static_attributes__" 201 (.ref 22), kE P "__weakref__" 203 (.ref 25), kE P "__doc__" 204 .none] 3, #[]⟩) ::
  (nat_lit 24, ⟨(.type "type"), none, .cls { name := "DrawError", bases := [(.type "ValueError")], mro := [(.ref 24), (.type "ValueError"), (.type "Exception"), (.type "BaseException"), (.type "object")], ns := 23, qualname := "DrawError", subclasses := [(.ref 37), (.ref 49), (.ref 61)] }, #[some (.ref 15), none, some (.str "DrawError" 189), some (.str "DrawError" 197), some (.builtin "ValueError.__new__"), some (.bool true)]⟩) ::
  (nat_lit 25, ⟨(.type "getset_descriptor"), none, .fields #[(.str "__weakref__" 202), (.ref 24), (.builtin "ExceptionGroup.__weakref__"), .none], #[]⟩) ::
  (nat_lit 36, ⟨(.type "dict"), none, .dict #[kE P "__module__" 214 (.str "bitdraws.errors" 187), kE P "__firstlineno__" 218 (.int 4 217), kE P "__static_attributes__" 219 (.ref 35), kE P "__doc__" 220 .none] 2, #[]⟩) ::
  (nat_lit 37, ⟨(.type "type"), none, .cls { name := "NoBits", bases := [(.ref 24)], mro := [(.ref 37), (.ref 24), (.type "ValueError"), (.type "Exception"), (.type "BaseException"), (.type "object")], ns := 36, qualname := "NoBits" }, #[some (.ref 28), none, some (.str "NoBits" 207), some (.str "NoBits" 215), some (.builtin "ValueError.__new__"), some (.bool true)]⟩) ::
  (nat_lit 48, ⟨(.type "dict"), none, .dict #[kE P "__module__" 230 (.str "bitdraws.errors" 187), kE P "__firstlineno__" 234 (.int 6 233), kE P "__static_attributes__" 235 (.ref 47), kE P "__doc__" 236 .none] 2, #[]⟩) ::
  (nat_lit 49, ⟨(.type "type"), none, .cls { name := "NoPlace", bases := [(.ref 24)], mro := [(.ref 49), (.ref 24), (.type "ValueError"), (.type "Exception"), (.type "BaseException"), (.type "object")], ns := 48, qualname := "NoPlace" }, #[some (.ref 40), none, some (.str "NoPlace" 223), some (.str "NoPlace" 231), some (.builtin "ValueError.__new__"), some (.bool true)]⟩) ::
  (nat_lit 60, ⟨(.type "dict"), none, .dict #[kE P "__module__" 246 (.str "bitdraws.errors" 187), kE P "__firstlineno__" 250 (.int 8 249), kE P "__static_attributes__" 251 (.ref 59), kE P "__doc__" 252 .none] 2, #[]⟩) ::
  (nat_lit 61, ⟨(.type "type"), none, .cls { name := "NoStep", bases := [(.ref 24)], mro := [(.ref 61), (.ref 24), (.type "ValueError"), (.type "Exception"), (.type "BaseException"), (.type "object")], ns := 60, qualname := "NoStep" }, #[some (.ref 52), none, some (.str "NoStep" 239), some (.str "NoStep" 247), some (.builtin "ValueError.__new__"), some (.bool true)]⟩) ::
  (nat_lit 76, kC "__init__" "Bits.__init__" 277 17 2 3 71 181 282) ::
  (nat_lit 77, kF "__init__" "Bits.__init__" s_Bits___init__ (.str "bitdraws.bits" 255) 76) ::
  (nat_lit 83, kC "take" "Bits.take" 285 21 1 3 78 181 290) ::
  (nat_lit 84, kF "take" "Bits.take" s_Bits_take (.str "bitdraws.bits" 255) 83) ::
  (nat_lit 90, kC "used" "Bits.used" 293 28 1 3 85 181 297) ::
  (nat_lit 91, kF "used" "Bits.used" s_Bits_used (.str "bitdraws.bits" 255) 90) ::
  (nat_lit 97, kC "left" "Bits.left" 300 31 1 3 92 181 304) ::
  (nat_lit 98, kF "left" "Bits.left" s_Bits_left (.str "bitdraws.bits" 255) 97) ::
  (nat_lit 104, kC "go_back" "Bits.go_back" 307 34 2 3 99 181 312) ::
  (nat_lit 105, kF "go_back" "Bits.go_back" s_Bits_go_back (.str "bitdraws.bits" 255) 104) ::
  (nat_lit 107, ⟨(.type "dict"), none, .dict #[kE P "__module__" 272 (.str "bitdraws.bits" 255), kE P "__firstlineno__" 276 (.int 15 275), kE P "__init__" 284 (.ref 77), kE P "take" 292 (.ref 84), kE P "used" 299 (.ref 91), kE P "left" 306 (.ref 98), kE P "go_back" 314 (.ref 105), kE P "__static_attributes__" 317 (.ref 106), kE P "__dict__" 319 (.ref 109), kE P "__weakref__" 321 (.ref 110), kE P "__doc__" 322 .none] 4, #[]⟩) ::
  (nat_lit 108, ⟨(.type "type"), none, .cls { name := "Bits", bases := [(.type "object")], mro := [(.ref 108), (.type "object")], ns := 107, qualname := "Bits" }, #[none, none, some (.str "Bits" 265), some (.str "Bits" 273), some (.builtin "object.__new__"), some (.bool true)]⟩) ::
  (nat_lit 109, ⟨(.type "getset_descriptor"), none, .fields #[(.str "__dict__" 318), (.ref 108), (.builtin "function.__dict__"), (.builtin "function.__dict__#set")], #[]⟩) ::
  (nat_lit 110, ⟨(.type "getset_descriptor"), none, .fields #[(.str "__weakref__" 320), (.ref 108), (.builtin "ExceptionGroup.__weakref__"), .none], #[]⟩) ::
  (nat_lit 118, kC "drawn_whole" "drawn_whole" 325 38 3 3 113 181 332) ::
  (nat_lit 119, kF "drawn_whole" "drawn_whole" s_drawn_whole (.str "bitdraws.bits" 255) 118) ::
  (nat_lit 125, kC "next_state" "next_state" 335 45 1 3 120 181 339) ::
  (nat_lit 126, kF "next_state" "next_state" s_next_state (.str "bitdraws.bits" 255) 125) ::
  (nat_lit 132, kC "bits_of" "bits_of" 342 47 2 3 127 181 349) ::
  (nat_lit 133, kF "bits_of" "bits_of" s_bits_of (.str "bitdraws.bits" 255) 132) ::
  (nat_lit 139, kC "even" "even" 354 55 2 3 134 181 359) ::
  (nat_lit 140, kF "even" "even" s_even (.str "bitdraws.evens" 352) 139) ::
  (nat_lit 146, kC "take_even" "take_even" 363 58 2 3 141 181 370) ::
  (nat_lit 147, kF "take_even" "take_even" s_take_even (.str "bitdraws.evens" 352) 146) ::
  (nat_lit 153, kC "check_place" "check_place" 375 70 2 3 148 181 380) ::
  (nat_lit 154, kF "check_place" "check_place" s_check_place (.str "bitdraws.orders" 373) 153) ::
  (nat_lit 160, kC "places_of_swaps" "places_of_swaps" 383 73 1 3 155 181 387) ::
  (nat_lit 161, kF "places_of_swaps" "places_of_swaps" s_places_of_swaps (.str "bitdraws.orders" 373) 160) ::
  (nat_lit 167, kC "exchange" "exchange" 390 75 3 3 162 181 397) ::
  (nat_lit 168, kF "exchange" "exchange" s_exchange (.str "bitdraws.orders" 373) 167) ::
  (nat_lit 174, kC "by_swaps" "by_swaps" 400 79 2 3 169 181 408) ::
  (nat_lit 175, kF "by_swaps" "by_swaps" s_by_swaps (.str "bitdraws.orders" 373) 174) ::
  (nat_lit 181, kC "ways" "ways" 411 84 2 3 176 181 418) ::
  (nat_lit 182, kF "ways" "ways" s_ways (.str "bitdraws.orders" 373) 181) ::
  (nat_lit 188, kC "choice_at" "choice_at" 421 91 3 3 183 181 432) ::
  (nat_lit 189, kF "choice_at" "choice_at" s_choice_at (.str "bitdraws.orders" 373) 188) ::
  (nat_lit 195, kC "last_ones_within" "last_ones_within" 435 102 3 3 190 181 445) ::
  (nat_lit 196, kF "last_ones_within" "last_ones_within" s_last_ones_within (.str "bitdraws.orders" 373) 195) ::
  (nat_lit 202, kC "shuffled" "shuffled" 448 116 2 3 197 181 453) ::
  (nat_lit 203, kF "shuffled" "shuffled" s_shuffled (.str "bitdraws.orders" 373) 202) ::
  (nat_lit 207, ⟨(.type "code"), none, .fields #[(.str "take_shuffled" 457), (.str "take_shuffled" 458), (.str "/claim/cut.py" 459), (.int 119 0), (.int 2 0), (.int 0 0), (.int 0 0), (.int 3 0), (.ref 204), (.bool true), (.int 181 0), (.ref 205), .none, .none, .none, (.ref 206), (.int 460 0), (.int 119 0), (.str "/claim/cut.py" 461)], #[]⟩) ::
  (nat_lit 208, kF "take_shuffled" "take_shuffled" s_take_shuffled (.str "bitdraws.orders" 373) 207) ::
  (nat_lit 214, kC "choice" "choice" 463 121 3 3 209 181 470) ::
  (nat_lit 215, kF "choice" "choice" s_choice (.str "bitdraws.orders" 373) 214) ::
  (nat_lit 221, kC "pick" "pick" 476 127 2 3 216 181 482) ::
  (nat_lit 222, kF "pick" "pick" s_pick (.str "bitdraws.plans" 474) 221) ::
  (nat_lit 226, ⟨(.type "code"), none, .fields #[(.str "take_pick" 486), (.str "take_pick" 487), (.str "/claim/cut.py" 488), (.int 133 0), (.int 2 0), (.int 0 0), (.int 0 0), (.int 3 0), (.ref 223), (.bool true), (.int 181 0), (.ref 224), .none, .none, .none, (.ref 225), (.int 489 0), (.int 133 0), (.str "/claim/cut.py" 490)], #[]⟩) ::
  (nat_lit 227, kF "take_pick" "take_pick" s_take_pick (.str "bitdraws.plans" 474) 226) ::
  (nat_lit 240, kC "__init__" "Drawer.__init__" 506 147 3 3 235 181 512) ::
  (nat_lit 241, kF "__init__" "Drawer.__init__" s_Drawer___init__ (.str "bitdraws.drawers" 492) 240) ::
  (nat_lit 247, kC "even" "Drawer.even" 515 151 2 3 242 181 520) ::
  (nat_lit 248, kF "even" "Drawer.even" s_Drawer_even (.str "bitdraws.drawers" 492) 247) ::
  (nat_lit 254, kC "pick" "Drawer.pick" 523 154 2 3 249 181 528) ::
  (nat_lit 255, kF "pick" "Drawer.pick" s_Drawer_pick (.str "bitdraws.drawers" 492) 254) ::
  (nat_lit 261, kC "shuffled" "Drawer.shuffled" 531 157 2 3 256 181 536) ::
  (nat_lit 262, kF "shuffled" "Drawer.shuffled" s_Drawer_shuffled (.str "bitdraws.drawers" 492) 261) ::
  (nat_lit 268, kC "choice" "Drawer.choice" 539 160 3 3 263 181 545) ::
  (nat_lit 269, kF "choice" "Drawer.choice" s_Drawer_choice (.str "bitdraws.drawers" 492) 268) ::
  (nat_lit 275, kC "noted" "Drawer.noted" 548 163 3 3 270 181 554) ::
  (nat_lit 276, kF "noted" "Drawer.noted" s_Drawer_noted (.str "bitdraws.drawers" 492) 275) ::
  (nat_lit 280, ⟨(.type "code"), none, .fields #[(.str "history" 557), (.str "Drawer.history" 558), (.str "/claim/cut.py" 559), (.int 167 0), (.int 1 0), (.int 0 0), (.int 0 0), (.int 3 0), (.ref 277), (.bool true), (.int 181 0), (.ref 278), .none, .none, .none, (.ref 279), (.int 560 0), (.int 167 0), (.str "/claim/cut.py" 561)], #[]⟩) ::
  (nat_lit 281, kF "history" "Drawer.history" s_Drawer_history (.str "bitdraws.drawers" 492) 280) ::
  (nat_lit 287, kC "used" "Drawer.used" 563 170 1 3 282 181 567) ::
  (nat_lit 288, kF "used" "Drawer.used" s_Drawer_used (.str "bitdraws.drawers" 492) 287) ::
  (nat_lit 294, kC "back" "Drawer.back" 570 173 1 3 289 181 575) ::
  (nat_lit 295, kF "back" "Drawer.back" s_Drawer_back (.str "bitdraws.drawers" 492) 294) ::
  (nat_lit 297, ⟨(.type "dict"), none, .dict #[kE P "__module__" 501 (.str "bitdraws.drawers" 492), kE P "__firstlineno__" 505 (.int 145 504), kE P "__init__" 514 (.ref 241), kE P "even" 522 (.ref 248), kE P "pick" 530 (.ref 255), kE P "shuffled" 538 (.ref 262), kE P "choice" 547 (.ref 269), kE P "noted" 556 (.ref 276), kE P "history" 562 (.ref 281), kE P "used" 569 (.ref 288), kE P "back" 577 (.ref 295), kE P "__static_attributes__" 580 (.ref 296), kE P "__dict__" 582 (.ref 299), kE P "__weakref__" 584 (.ref 300), kE P "__doc__" 585 .none] 4, #[]⟩) ::
  (nat_lit 298, ⟨(.type "type"), none, .cls { name := "Drawer", bases := [(.type "object")], mro := [(.ref 298), (.type "object")], ns := 297, qualname := "Drawer" }, #[none, none, some (.str "Drawer" 494), some (.str "Drawer" 502), some (.builtin "object.__new__"), some (.bool true)]⟩) ::
  (nat_lit 299, ⟨(.type "getset_descriptor"), none, .fields #[(.str "__dict__" 581), (.ref 298), (.builtin "function.__dict__"), (.builtin "function.__dict__#set")], #[]⟩) ::
  (nat_lit 300, ⟨(.type "getset_descriptor"), none, .fields #[(.str "__weakref__" 583), (.ref 298), (.builtin "ExceptionGroup.__weakref__"), .none], #[]⟩) ::
  (nat_lit 306, ⟨(.type "code"), none, .fields #[(.str "_law_same" 590), (.str "_law_same" 591), (.str "/claim/cut.py" 592), (.int 180 0), (.int 2 0), (.int 0 0), (.int 0 0), (.int 3 0), (.ref 303), (.bool true), (.int 181 0), (.ref 304), .none, .none, .none, (.ref 305), (.int 593 0), (.int 180 0), (.str "/claim/cut.py" 594)], #[]⟩) ::
  (nat_lit 307, kF "_law_same" "_law_same" s__law_same (.str "law_bitdraws_k37_whole_drawers" 588) 306) ::
  (nat_lit 313, kC "_law_draw" "_law_draw" 596 192 3 3 308 181 606) ::
  (nat_lit 314, kF "_law_draw" "_law_draw" s__law_draw (.str "law_bitdraws_k37_whole_drawers" 588) 313) ::
  (nat_lit 320, kC "_law_one" "_law_one" 609 202 3 3 315 181 615) ::
  (nat_lit 321, kF "_law_one" "_law_one" s__law_one (.str "law_bitdraws_k37_whole_drawers" 588) 320) ::
  (nat_lit 327, kC "_law_act" "_law_act" 618 204 2 3 322 181 624) ::
  (nat_lit 328, kF "_law_act" "_law_act" s__law_act (.str "law_bitdraws_k37_whole_drawers" 588) 327) ::
  (nat_lit 334, kC "_law_by_bits" "_law_by_bits" 627 224 3 3 329 181 635) ::
  (nat_lit 335, kF "_law_by_bits" "_law_by_bits" s__law_by_bits (.str "law_bitdraws_k37_whole_drawers" 588) 334) ::
  (nat_lit 341, kC "_law_do" "_law_do" 638 240 2 3 336 181 645) ::
  (nat_lit 342, kF "_law_do" "_law_do" s__law_do (.str "law_bitdraws_k37_whole_drawers" 588) 341) ::
  (nat_lit 346, ⟨(.type "code"), none, .fields #[(.str "_law_deed" 648), (.str "_law_deed" 649), (.str "/claim/cut.py" 650), (.int 252 0), (.int 2 0), (.int 0 0), (.int 0 0), (.int 3 0), (.ref 343), (.bool true), (.int 181 0), (.ref 344), .none, .none, .none, (.ref 345), (.int 651 0), (.int 252 0), (.str "/claim/cut.py" 652)], #[]⟩) ::
  (nat_lit 347, kF "_law_deed" "_law_deed" s__law_deed (.str "law_bitdraws_k37_whole_drawers" 588) 346) ::
  (nat_lit 353, kC "law" "law" 654 258 1 3 348 181 668) ::
  (nat_lit 354, kF "law" "law" s_law (.str "law_bitdraws_k37_whole_drawers" 588) 353) :: []
noncomputable def KA : List Addr := [2, 3, 23, 24, 25, 36, 37, 48, 49, 60, 61, 76, 77, 83, 84, 90, 91, 97, 98, 104, 105, 107, 108, 109, 110, 118, 119, 125, 126, 132, 133, 139, 140, 146, 147, 153, 154, 160, 161, 167, 168, 174, 175, 181, 182, 188, 189, 195, 196, 202, 203, 207, 208, 214, 215, 221, 222, 226, 227, 240, 241, 247, 248, 254, 255, 261, 262, 268, 269, 275, 276, 280, 281, 287, 288, 294, 295, 297, 298, 299, 300, 306, 307, 313, 314, 320, 321, 327, 328, 334, 335, 341, 342, 346, 347, 353, 354]
theorem KA_is (P : Params) : KA = (KK P).map (·.1) := by kernel_rfl
noncomputable abbrev qv : Program := PySem.W.view PySem.Challenge.pw_bitdraws_k37_whole_drawers [1, 2, 3, 4, 6, 7, 8, 9, 10, 11, 12, 13, 15, 16, 17, 19, 20, 21, 22, 23, 24, 25, 26, 27, 28, 29, 30, 32, 33, 34, 36, 38, 39, 40, 41, 42, 43, 44, 45]
noncomputable abbrev qL : List Str := [⟨⟨[101, 118, 101, 110, 95, 101, 118, 101, 110, 115]⟩⟩, ⟨⟨[115, 104, 117, 102, 102, 108, 101, 100, 95, 111, 114, 100, 101, 114, 115]⟩⟩, ⟨⟨[99, 104, 111, 105, 99, 101, 95, 111, 114, 100, 101, 114, 115]⟩⟩, ⟨⟨[112, 105, 99, 107, 95, 112, 108, 97, 110, 115]⟩⟩]
noncomputable abbrev qV : List (Str × PySem.W.WData) := []
noncomputable abbrev qX (s : Shared) : Bool := PySem.W.xlAt qv qV s && PySem.W.recOk (PySem.W.RowW.records (PySem.W.OpenRow.toRowW (PySem.W.OpenLaw.row PySem.Challenge.rw_bitdraws_k37_whole_drawers))) s
theorem left_of {p q : Program} {loose : List Str} {Xt : Shared → Bool} {α : Type} {Yf : Shared → α} {Ya : World → α} {N m₀ : Nat} {ann : Option Value} (e : PySem.W.opening p = PySem.W.plainProg p.main.scope.names) (hN : Nat.ble 600 N = true) (f : ∀ s, fenceModules? p s = some s)
    (size : ∀ w : World, ((PySem.W.boot_heap w.params).isNs mainGlobals, (PySem.W.boot_heap w.params).objs.size, (PySem.W.boot_heap w.params).nsMap mainGlobals "__annotations__") = (true, m₀, ann))
    (run : ∀ (w : World) (os : OsState), (PySem.W.topRun treeTable p w m₀ ann N ⟨PySem.W.boot_heap w.params, #[], PySem.W.boot_drawn, PySem.W.boot_toks, os⟩ (PySem.W.topStub p)).map (fun s => ((PySem.W.staticsOk (importedModules p.main.body) (PySem.W.boot_heap w.params) s.heap && PySem.W.namesBound p s.heap && PySem.W.gensDone s && PySem.W.laidKept (PySem.W.boot_heap w.params) s.heap), PySem.W.openSeen q loose (importedModules p.main.body) Xt true s, Yf s)) = some (true, PySem.W.openGood q loose, Ya w)) :
    PySem.W.LeftO p q loose Xt Yf Ya N := fun w => by
  obtain ⟨⟨h, gs, d, k, os⟩, e, e'⟩ := Option.map_eq_some_iff.mp (PySem.W.boot_open e hN f w)
  obtain ⟨rfl, rfl, rfl, rfl⟩ : h = PySem.W.boot_heap w.params ∧ gs = #[] ∧ d = PySem.W.boot_drawn ∧ k = PySem.W.boot_toks := by simpa using e'
  obtain ⟨z1, z2, z3⟩ : _ ∧ _ ∧ _ := by simpa only [Prod.mk.injEq] using size w
  obtain ⟨s, r1, r2⟩ := Option.map_eq_some_iff.mp (run w os)
  obtain ⟨l1, l2, l3⟩ : _ ∧ _ ∧ _ := by simpa only [Prod.mk.injEq] using r2
  have t : PySem.W.topFrom treeTable p w N ⟨PySem.W.boot_heap w.params, #[], PySem.W.boot_drawn, PySem.W.boot_toks, os⟩ = some s := by
    unfold PySem.W.topFrom
    dsimp only
    rw [z1, z2, z3, r1]
    show (match PySem.W.staticsOk _ _ s.heap && _ && _ && _ with | true => _ | false => _) = _
    rw [l1]
  unfold PySem.W.openEnds
  rw [e]
  show (PySem.W.topFrom treeTable p w N _).map _ = _
  rw [t]
  exact congrArg some (Prod.ext l2 l3)
theorem sizeB : ∀ w : World, ((PySem.W.boot_heap w.params).isNs mainGlobals, (PySem.W.boot_heap w.params).objs.size, (PySem.W.boot_heap w.params).nsMap mainGlobals "__annotations__") = (true, 11, some (.ref 6)) := by
  intro w; kernel_rfl
theorem runB : ∀ (w : World) (os : OsState), (PySem.W.Fast.tw14082659384304107361 PySem.W.Fast.tw14364793385576792824 PySem.Challenge.pw_bitdraws_k37_whole_drawers w 11 (some (.ref 6)) 5266 ⟨PySem.W.boot_heap w.params, #[], PySem.W.boot_drawn, PySem.W.boot_toks, os⟩ (PySem.W.topStub PySem.Challenge.pw_bitdraws_k37_whole_drawers)).map (fun s => ((PySem.W.staticsOk (PySem.W.Fast.tw5923862056798008813 PySem.Challenge.pw_bitdraws_k37_whole_drawers.main.body) (PySem.W.boot_heap w.params) s.heap && PySem.W.namesBound PySem.Challenge.pw_bitdraws_k37_whole_drawers s.heap && PySem.W.gensDone s && PySem.W.laidKept (PySem.W.boot_heap w.params) s.heap), PySem.W.Fast.tw4187177175401517315 qv qL (PySem.W.Fast.tw5923862056798008813 PySem.Challenge.pw_bitdraws_k37_whole_drawers.main.body) qX true s, KA.map s.heap.get?)) = some (true, PySem.W.openGood qv qL, (KK w.params).map fun p => some p.2) := by
  intro w os; kernel_rfl
theorem left : PySem.W.LeftO PySem.Challenge.pw_bitdraws_k37_whole_drawers qv qL qX (PySem.W.Hook.obs (PySem.W.kHook KK KA KA_is)) (PySem.W.Hook.val (PySem.W.kHook KK KA KA_is)) 5266 := by
  refine left_of (m₀ := 11) (ann := some (.ref 6)) (by kernel_rfl) (by decide) (fun s => rfl) sizeB fun w os => ?_
  have h := runB w os
  rw [← PySem.W.Fast.te5923862056798008813, ← PySem.W.Fast.te4187177175401517315, ← PySem.W.Fast.te14364793385576792824, ← PySem.W.Fast.te14082659384304107361] at h
  exact h
end Lw
open PySem PySem.W PyProof.Rows
noncomputable abbrev PySem.W.Fast.tw11033825712341601348 : PySem.Program := PySem.Challenge.pw_bitdraws_k37_whole_drawers
theorem PySem.W.Fast.te11033825712341601348 : PySem.Challenge.pw_bitdraws_k37_whole_drawers = PySem.W.Fast.tw11033825712341601348 := rfl
set_option maxRecDepth 100000 in
set_option maxHeartbeats 0 in
theorem PySem.Challenge.cw_bitdraws_k37_whole_drawers_holds : PySem.Challenge.rw_bitdraws_k37_whole_drawers.Holds := by
  w_on; o_law
  refine holds_open (q := Lw.qv) (loose := Lw.qL) (Xt := Lw.qX) (XP := XL Lw.qv Lw.qV) (Yf := Hook.obs (kHook Lw.KK Lw.KA Lw.KA_is)) (Ya := Hook.val (kHook Lw.KK Lw.KA Lw.KA_is)) (YP := Hook.says (kHook Lw.KK Lw.KA Lw.KA_is)) (N := 5266) Lw.left (Hook.of _) (Hook.keeps _) (fun s e => xl_of s (Bool.and_eq_true_iff.mp e).1) XL.keeps (by rfl) (by rfl) (by rfl) (fun s e => recFacts_of (Bool.and_eq_true_iff.mp e).2) (by rfl) (by assumption) (by decide +kernel) ⟨rfl, rfl, rfl, rfl, rfl, by decide +kernel⟩ ?hw ?hc
  (case hw => w_witness2)
  k_fill
  refine Lw.walk (l := PySem.Challenge.rw_bitdraws_k37_whole_drawers) rfl rfl (fun w h Y => PySem.W.kIn_of Y) ?F
  case F =>
    intro w mg fa h KX G hmg
    refine' Lw.all_mk KX G hmg ?a1 ?l1 ?c1 ?k1 ?a2 ?l2 ?c2 ?k2 ?a3 ?l3 ?c3 ?k3 ?a4 ?l4 ?c4 ?k4 ?a5 ?l5 ?c5 ?k5 ?a6 ?l6 ?c6 ?k6 ?a7 ?l7 ?c7 ?k7 ?a8 ?l8 ?c8 ?k8 ?a9 ?l9 ?c9 ?k9 ?a10 ?l10 ?c10 ?k10 ?a11 ?l11 ?c11 ?k11 ?a12 ?l12 ?c12 ?k12 ?a13 ?l13 ?c13 ?k13 ?a14 ?l14 ?c14 ?k14 ?a15 ?l15 ?c15 ?k15 ?a16 ?l16 ?c16 ?k16 ?a17 ?l17 ?c17 ?k17 ?a18 ?l18 ?c18 ?k18 ?a19 ?l19 ?c19 ?k19 ?a20 ?l20 ?c20 ?k20 ?a21 ?l21 ?c21 ?k21 ?a22 ?l22 ?c22 ?k22 ?a23 ?l23 ?c23 ?k23 ?a24 ?l24 ?c24 ?k24 ?a25 ?l25 ?c25 ?k25 ?z1 ?z2 ?z3 ?z4 ?z5 ?z6 ?z7 ?z8 ?z9 ?z10 ?z11 ?z12 ?z13 ?z14 ?v1 ?v2 ?v3 ?v4 ?ca_Bits ?pg_Bits ?hd_Bits ?po_Bits ?sa_Bits ?mk_Bits ?kc_Bits ?n_Bits_row ?n_Bits_place ?ca_Drawer ?pg_Drawer ?hd_Drawer ?po_Drawer ?sa_Drawer ?mk_Drawer ?kc_Drawer ?n_Drawer_bits ?n_Drawer_steps ?a26 ?i26 ?l26 ?c26 ?k26 ?a27 ?i27 ?l27 ?c27 ?k27 ?a28 ?i28 ?l28 ?c28 ?k28 ?a29 ?i29 ?l29 ?c29 ?k29 ?a30 ?i30 ?l30 ?c30 ?k30 ?a31 ?i31 ?l31 ?c31 ?k31 ?a32 ?i32 ?l32 ?c32 ?k32 ?a33 ?i33 ?l33 ?c33 ?k33 ?a34 ?i34 ?l34 ?c34 ?k34 ?a35 ?i35 ?l35 ?c35 ?k35 ?a36 ?i36 ?l36 ?c36 ?k36 ?a37 ?i37 ?l37 ?c37 ?k37 ?a38 ?i38 ?l38 ?c38 ?k38 ?a39 ?i39 ?l39 ?c39 ?k39 ?xa_NoBits ?xl_NoBits ?xi_NoBits ?xa_NoPlace ?xl_NoPlace ?xi_NoPlace ?xa_NoStep ?xl_NoStep ?xi_NoStep ?xm_NoBits_NoBits ?xm_NoBits_NoPlace ?xm_NoBits_NoStep ?xm_NoPlace_NoBits ?xm_NoPlace_NoPlace ?xm_NoPlace_NoStep ?xm_NoStep_NoBits ?xm_NoStep_NoPlace ?xm_NoStep_NoStep
    (case a1 => k_is)
    (case l1 => k_is)
    (case c1 => k_is)
    (case k1 => k_is)
    (case a2 => k_is)
    (case l2 => k_is)
    (case c2 => k_is)
    (case k2 => k_is)
    (case a3 => k_is)
    (case l3 => k_is)
    (case c3 => k_is)
    (case k3 => k_is)
    (case a4 => k_is)
    (case l4 => k_is)
    (case c4 => k_is)
    (case k4 => k_is)
    (case a5 => k_is)
    (case l5 => k_is)
    (case c5 => k_is)
    (case k5 => k_is)
    (case a6 => k_is)
    (case l6 => k_is)
    (case c6 => k_is)
    (case k6 => k_is)
    (case a7 => k_is)
    (case l7 => k_is)
    (case c7 => k_is)
    (case k7 => k_is)
    (case a8 => k_is)
    (case l8 => k_is)
    (case c8 => k_is)
    (case k8 => k_is)
    (case a9 => k_is)
    (case l9 => k_is)
    (case c9 => k_is)
    (case k9 => k_is)
    (case a10 => k_is)
    (case l10 => k_is)
    (case c10 => k_is)
    (case k10 => k_is)
    (case a11 => k_is)
    (case l11 => k_is)
    (case c11 => k_is)
    (case k11 => k_is)
    (case a12 => k_is)
    (case l12 => k_is)
    (case c12 => k_is)
    (case k12 => k_is)
    (case a13 => k_is)
    (case l13 => k_is)
    (case c13 => k_is)
    (case k13 => k_is)
    (case a14 => k_is)
    (case l14 => k_is)
    (case c14 => k_is)
    (case k14 => k_is)
    (case a15 => k_is)
    (case l15 => k_is)
    (case c15 => k_is)
    (case k15 => k_is)
    (case a16 => k_is)
    (case l16 => k_is)
    (case c16 => k_is)
    (case k16 => k_is)
    (case a17 => k_is)
    (case l17 => k_is)
    (case c17 => k_is)
    (case k17 => k_is)
    (case a18 => k_is)
    (case l18 => k_is)
    (case c18 => k_is)
    (case k18 => k_is)
    (case a19 => k_is)
    (case l19 => k_is)
    (case c19 => k_is)
    (case k19 => k_is)
    (case a20 => k_is)
    (case l20 => k_is)
    (case c20 => k_is)
    (case k20 => k_is)
    (case a21 => k_is)
    (case l21 => k_is)
    (case c21 => k_is)
    (case k21 => k_is)
    (case a22 => k_is)
    (case l22 => k_is)
    (case c22 => k_is)
    (case k22 => k_is)
    (case a23 => k_is)
    (case l23 => k_is)
    (case c23 => k_is)
    (case k23 => k_is)
    (case a24 => k_is)
    (case l24 => k_is)
    (case c24 => k_is)
    (case k24 => k_is)
    (case a25 => k_is)
    (case l25 => k_is)
    (case c25 => k_is)
    (case k25 => k_is)
    (case z1 => k_is)
    (case z2 => k_is)
    (case z3 => k_is)
    (case z4 => k_is)
    (case z5 => k_is)
    (case z6 => k_is)
    (case z7 => k_is)
    (case z8 => k_is)
    (case z9 => k_is)
    (case z10 => k_is)
    (case z11 => k_is)
    (case z12 => k_is)
    (case z13 => k_is)
    (case z14 => k_is)
    (case v1 => k_is)
    (case v2 => k_is)
    (case v3 => k_is)
    (case v4 => k_is)
    (case ca_Bits => k_is)
    (case pg_Bits => k_is)
    (case hd_Bits => k_is)
    (case po_Bits => k_is)
    (case sa_Bits => k_is)
    (case mk_Bits => k_is)
    (case kc_Bits => k_is)
    (case n_Bits_row => k_is)
    (case n_Bits_place => k_is)
    (case ca_Drawer => k_is)
    (case pg_Drawer => k_is)
    (case hd_Drawer => k_is)
    (case po_Drawer => k_is)
    (case sa_Drawer => k_is)
    (case mk_Drawer => k_is)
    (case kc_Drawer => k_is)
    (case n_Drawer_bits => k_is)
    (case n_Drawer_steps => k_is)
    (case a26 => k_is)
    (case i26 => k_is)
    (case l26 => k_is)
    (case c26 => k_is)
    (case k26 => k_is)
    (case a27 => k_is)
    (case i27 => k_is)
    (case l27 => k_is)
    (case c27 => k_is)
    (case k27 => k_is)
    (case a28 => k_is)
    (case i28 => k_is)
    (case l28 => k_is)
    (case c28 => k_is)
    (case k28 => k_is)
    (case a29 => k_is)
    (case i29 => k_is)
    (case l29 => k_is)
    (case c29 => k_is)
    (case k29 => k_is)
    (case a30 => k_is)
    (case i30 => k_is)
    (case l30 => k_is)
    (case c30 => k_is)
    (case k30 => k_is)
    (case a31 => k_is)
    (case i31 => k_is)
    (case l31 => k_is)
    (case c31 => k_is)
    (case k31 => k_is)
    (case a32 => k_is)
    (case i32 => k_is)
    (case l32 => k_is)
    (case c32 => k_is)
    (case k32 => k_is)
    (case a33 => k_is)
    (case i33 => k_is)
    (case l33 => k_is)
    (case c33 => k_is)
    (case k33 => k_is)
    (case a34 => k_is)
    (case i34 => k_is)
    (case l34 => k_is)
    (case c34 => k_is)
    (case k34 => k_is)
    (case a35 => k_is)
    (case i35 => k_is)
    (case l35 => k_is)
    (case c35 => k_is)
    (case k35 => k_is)
    (case a36 => k_is)
    (case i36 => k_is)
    (case l36 => k_is)
    (case c36 => k_is)
    (case k36 => k_is)
    (case a37 => k_is)
    (case i37 => k_is)
    (case l37 => k_is)
    (case c37 => k_is)
    (case k37 => k_is)
    (case a38 => k_is)
    (case i38 => k_is)
    (case l38 => k_is)
    (case c38 => k_is)
    (case k38 => k_is)
    (case a39 => k_is)
    (case i39 => k_is)
    (case l39 => k_is)
    (case c39 => k_is)
    (case k39 => k_is)
    (case xa_NoBits => k_is)
    (case xl_NoBits => k_is)
    (case xi_NoBits => first | kernel_rfl | rfl | decide +kernel | k_is)
    (case xa_NoPlace => k_is)
    (case xl_NoPlace => k_is)
    (case xi_NoPlace => first | kernel_rfl | rfl | decide +kernel | k_is)
    (case xa_NoStep => k_is)
    (case xl_NoStep => k_is)
    (case xi_NoStep => first | kernel_rfl | rfl | decide +kernel | k_is)
    (case xm_NoBits_NoBits => first | kernel_rfl | rfl | decide +kernel | k_is)
    (case xm_NoBits_NoPlace => first | kernel_rfl | rfl | decide +kernel | k_is)
    (case xm_NoBits_NoStep => first | kernel_rfl | rfl | decide +kernel | k_is)
    (case xm_NoPlace_NoBits => first | kernel_rfl | rfl | decide +kernel | k_is)
    (case xm_NoPlace_NoPlace => first | kernel_rfl | rfl | decide +kernel | k_is)
    (case xm_NoPlace_NoStep => first | kernel_rfl | rfl | decide +kernel | k_is)
    (case xm_NoStep_NoBits => first | kernel_rfl | rfl | decide +kernel | k_is)
    (case xm_NoStep_NoPlace => first | kernel_rfl | rfl | decide +kernel | k_is)
    (case xm_NoStep_NoStep => first | kernel_rfl | rfl | decide +kernel | k_is)
