import PyProof.Rows.All
import Wide.All
import OpenK.AllK
import Wide.FinOn
import Lean
import PyProof.EqAt
import PyProof.EqKinds
import PyProof.TupleCall
import KE.KRevIter
import PyProof.StrBlockL
import PyProof.StrCalls2
import PyProof.FString5
import PyProof.StrWalks
import PyProof.Rows.StrItems
import PyProof.EnumMake
import PyProof.Draws
import PyProof.Rows.SortWalk
import PyProof.Rows.SetFrom
import PyProof.SetRoads
import KE.KDictSum
import PyProof.Rows.SortStr
import PyProof.SetScanFacts
import PyProof.StrLawsTight
import PyProof.StrLawsChain
import PyProof.StrLawsIn
import PyProof.Rows.StrJoin2
import PySem.Challenge.RW_mixkeep_k41_whole_middle
set_option Elab.async false
set_option linter.all false
set_option bootstrap.genMatcherCode false
set_option maxHeartbeats 4000000
set_option maxRecDepth 100000
namespace L2
open PySem PySem.Spec PyProof.Rows
noncomputable abbrev Key := Sum Int Str
noncomputable def keyIs : Key → Value → Bool
  | .inl k, v => Value.isInt k v
  | .inr x, v => Value.isStrOf x v
noncomputable def keyH (w : World) : Key → Int
  | .inl k => hashInt k
  | .inr x => hashStr w x
theorem aCc : ∀ {k : Key} {v : Value}, keyIs k v = true → (∃ i t, k = Sum.inl i ∧ v = Value.int i t) ∨ (∃ x t, k = Sum.inr x ∧ v = Value.str x t)
  | .inl i, v, h => by
    obtain ⟨t, e⟩ := Value.isInt_shape (k := i) (v := v) h
    exact .inl ⟨i, t, rfl, e⟩
  | .inr x, v, h => by
    obtain ⟨t, e⟩ := Value.isStrOf_shape (x := x) (v := v) h
    exact .inr ⟨x, t, rfl, e⟩
theorem keyIs_int (i : Int) (t : Tok) : keyIs (.inl i) (.int i t) = true := by simp [keyIs, Value.isInt]
theorem keyIs_str (x : Str) (t : Tok) : keyIs (.inr x) (.str x t) = true := by simp [keyIs, Value.isStrOf]
theorem key_ll (a b : Int) : decide ((Sum.inl a : Key) = Sum.inl b) = (a == b) := by
  by_cases e : a = b
  · subst e; simp
  · have h : ¬ (Sum.inl a : Key) = Sum.inl b := fun q => e (Sum.inl.inj q)
    rw [decide_eq_false h]
    exact (beq_eq_false_iff_ne.mpr e).symm
theorem key_rr (a b : Str) : decide ((Sum.inr a : Key) = Sum.inr b) = decide (a = b) := by
  by_cases e : a = b
  · subst e; simp
  · have h : ¬ (Sum.inr a : Key) = Sum.inr b := fun q => e (Sum.inr.inj q)
    rw [decide_eq_false h, decide_eq_false e]
theorem key_lr (a : Int) (b : Str) : decide ((Sum.inl a : Key) = Sum.inr b) = false := decide_eq_false (fun q => nomatch q)
theorem key_rl (a : Str) (b : Int) : decide ((Sum.inr a : Key) = Sum.inl b) = false := decide_eq_false (fun q => nomatch q)
noncomputable def aCy (prog : Program) (w : World) : PySem.KeyKind prog w Key where
  is := keyIs
  hash := keyH w
  inj := fun v a b ha hb => by
    rcases aCc ha with ⟨i, t, rfl, rfl⟩ | ⟨x, t, rfl, rfl⟩
    · rcases aCc hb with ⟨j, u, rfl, e⟩ | ⟨y, u, rfl, e⟩
      · injection e with e1 _; rw [e1]
      · exact nomatch e
    · rcases aCc hb with ⟨j, u, rfl, e⟩ | ⟨y, u, rfl, e⟩
      · exact nomatch e
      · injection e with e1 _; rw [e1]
  byValue := fun k v h => by
    rcases aCc h with ⟨i, t, rfl, rfl⟩ | ⟨x, t, rfl, rfl⟩ <;> rfl
  pyHash := fun hv h => by
    rcases aCc hv with ⟨i, t, rfl, rfl⟩ | ⟨x, t, rfl, rfl⟩
    · exact wpAny_pyHash_int h
    · exact wpAny_pyHash_str h
  eqBool := fun hu hv h => by
    rcases aCc hu with ⟨i, t, rfl, rfl⟩ | ⟨x, t, rfl, rfl⟩
    · rcases aCc hv with ⟨j, u, rfl, rfl⟩ | ⟨y, u, rfl, rfl⟩
      · rw [key_ll] at h; exact wpAny_eqBool_int h
      · rw [key_lr] at h; exact SeqAt.EqAt.int_str i t y u _ _ _ _ h
    · rcases aCc hv with ⟨j, u, rfl, rfl⟩ | ⟨y, u, rfl, rfl⟩
      · rw [key_rl] at h; exact SeqAt.EqAt.str_int x t j u _ _ _ _ h
      · rw [key_rr] at h; exact wpAny_eqBool_str h
  «strs» := fun k x t v h => by
    rcases aCc h with ⟨i, u, rfl, e⟩ | ⟨y, u, rfl, e⟩
    · exact nomatch e
    · injection e with e1 _
      subst e1
      cases v <;> rfl
theorem mixKind_int (prog : Program) (w : World) (i : Int) (t : Tok) : (aCy prog w).is (.inl i) (.int i t) = true := keyIs_int i t
theorem mixKind_str (prog : Program) (w : World) (x : Str) (t : Tok) : (aCy prog w).is (.inr x) (.str x t) = true := keyIs_str x t
end L2
namespace L2
open PySem PySem.Spec PyProof.Rows
inductive V where
  | non | bl (b : Bool) | int (i : Int) | str (x : Str) | byt (b : Array UInt8) | flt (b : UInt64) | ref (a : Addr) | ty (n : String)
  deriving DecidableEq
noncomputable def RelV : V → Value → Prop
  | .non, u => u = Value.none
  | .bl b, u => u = Value.bool b
  | .int i, u => ∃ t, u = Value.int i t
  | .str x, u => ∃ t, u = Value.str x t
  | .byt b, u => ∃ t, u = Value.bytes b t
  | .flt b, u => ∃ t, u = Value.float b t
  | .ref a, u => u = Value.ref a
  | .ty n, u => u = Value.type n
noncomputable abbrev Vals : List V → List Value → Prop := Paired RelV
theorem Vals.length {xs : List V} {us : List Value} (r : Vals xs us) : xs.length = us.length := Paired.length r
theorem Vals.get : ∀ {xs : List V} {us : List Value} {i : Nat} {x : V}, Vals xs us → xs[i]? = some x → ∃ u, us[i]? = some u ∧ RelV x u
  | _, _, _, _, .nil, e => by simp at e
  | _, _, 0, _, .cons r _, e => by simp at e; subst e; exact ⟨_, rfl, r⟩
  | _, _, i + 1, x, .cons _ t, e => by
    obtain ⟨u, h1, h2⟩ := Vals.get (i := i) (x := x) t (by simpa using e)
    exact ⟨u, by simpa using h1, h2⟩
theorem Vals.append : ∀ {xs ys : List V} {us ws : List Value}, Vals xs us → Vals ys ws → Vals (xs ++ ys) (us ++ ws)
  | _, _, _, _, .nil, s => s
  | _, _, _, _, .cons r t, s => .cons r (Vals.append t s)
theorem Vals.take : ∀ {xs : List V} {us : List Value} (n : Nat), Vals xs us → Vals (xs.take n) (us.take n)
  | _, _, 0, _ => .nil
  | _, _, _ + 1, .nil => .nil
  | _, _, n + 1, .cons r t => .cons r (Vals.take n t)
theorem Vals.drop : ∀ {xs : List V} {us : List Value} (n : Nat), Vals xs us → Vals (xs.drop n) (us.drop n)
  | _, _, 0, r => r
  | _, _, _ + 1, .nil => .nil
  | _, _, n + 1, .cons _ t => Vals.drop n t
noncomputable def RelO : Option V → Option Value → Prop
  | some v, some u => RelV v u
  | none, none => True
  | _, _ => False
noncomputable def KV {κ : Type} : List (κ × V) → List (κ × Value) → Prop := Paired fun (p : κ × V) (q : κ × Value) => p.1 = q.1 ∧ RelV p.2 q.2
noncomputable def kV : Key → V
  | .inl i => .int i
  | .inr x => .str x
inductive HO where
  /-- a list -/
  | lst (xs : List V)
  /-- a tuple (never changes) -/
  | tup (xs : List V)
  /-- a dict whose keys are ints and texts; one whose keys are tuples of ints and texts (the empty one is both) -/
  | dK (kvs : List (Key × V)) | dT (kvs : List (List Key × V))
  /-- a set of ints: its members, its size -/
  | set (S : Int → Bool) (n : Nat)
  /-- an instance of the class at C, its dict at dx, its attributes -/
  | ins (C dx : Addr) (fs : List (Str × V))
  /-- the dict of the instance at x -/
  | own (x : Addr)
  /-- the dict of an exception -/
  | xd (fs : List (Str × V))
  /-- a bound method, f of x -/
  | met (f x : Addr)
  /-- a range object lo, lo + 1, .. below hi -/
  | rng (lo hi : Int)
  /-- a thing that is known to the object (the script; a dict while a loop walks it): read, never written while it is so -/
  | frz (o : Obj) (u : HO)
  /-- a code object's table -/
  | tbl (ps : Array Value)
  /-- any other thing, by what is true of its one object (a def of one's own: SetO a S n := HO.ext fun h => ..) -/
  | ext (φ : Heap → Prop)
noncomputable abbrev Hp := Addr → Option HO
noncomputable def upd (H : Hp) (a : Addr) (o : HO) : Hp := fun b => if b = a then some o else H b
theorem aAt {H : Hp} {a : Addr} {o : HO} : upd H a o a = some o := by unfold upd; rw [if_pos rfl]
theorem aAn {H : Hp} {a b : Addr} {o : HO} (h : b ≠ a) : upd H a o b = H b := by unfold upd; rw [if_neg h]
theorem ne_of {H : Hp} {a b : Addr} {o u : HO} (h : H a = some o) (h' : H b = some u) (d : o ≠ u) : a ≠ b := by
  intro e; subst e; rw [h] at h'; exact d (Option.some.inj h')
theorem aBq {H : Hp} {a b : Addr} {o : HO} (h : H a = some o) (h' : H b = none) : a ≠ b := by
  intro e; subst e; rw [h] at h'; cases h'
noncomputable def aHk (h : Heap) (a : Addr) (items : Array Value) : Prop := ∃ o, h.get? a = some o ∧ (o.cls = .type "tuple" ∧ o.dict = none) ∧ ∃ n, o.data = .seq items n
theorem aHk.tup {h : Heap} {a : Addr} {items : Array Value} (x : aHk h a items) : IsTup h a items := let ⟨o, e, c, n, d⟩ := x; ⟨o, e, c.1, n, d⟩
theorem aHk.lt {h : Heap} {a : Addr} {items : Array Value} (x : aHk h a items) : a < h.objs.size := let ⟨_, e, _⟩ := x; Heap.lt_size e
theorem aHk.new (h : Heap) (items : Array Value) : aHk (h.push { cls := .type "tuple", data := .seq items }) h.objs.size items := ⟨_, Heap.get?_push_size _ rfl, ⟨rfl, rfl⟩, _, rfl⟩
section
variable (P : Program) (w : World)
noncomputable def aDu (H : Hp) (h : Heap) (a : Addr) : HO → Prop
  | .lst xs => xs.length ≤ sizeLine ∧ ∃ (its : List Value) (n : Nat), Vals xs its ∧ h.get? a = some { cls := .type "list", data := .seq its.toArray n }
  | .tup xs => xs.length ≤ sizeLine ∧ ∃ its : List Value, Vals xs its ∧ aHk h a its.toArray
  | .dK kvs => kvs.length ≤ sizeLine ∧ (a == sysModules) = false ∧ ∃ vs, KV kvs vs ∧ h.DictOf (aCy P w) a vs
  | .dT kvs => kvs.length ≤ sizeLine ∧ (a == sysModules) = false ∧ ∃ xs : List (List Key × Addr × Value),
      Paired (fun (p : List Key × V) (q : List Key × Addr × Value) => p.1 = q.1 ∧ H q.2.1 = some (.tup (p.1.map kV)) ∧ RelV p.2 q.2.2) kvs xs ∧
      ∃ o es ep, h.get? a = some o ∧ o.ExactDict ∧ o.data = .dict es ep ∧ es.toList = xs.map (entryOfKey (tupleKind (aCy P w))) ∧ (xs.map (·.1)).Nodup
  | .set S n => h.SetOf (intKind P w) a S n
  | .ins C dx fs => H dx = some (.own a) ∧ fs.length ≤ 1000 ∧ dx ≠ a ∧ h.get? a = some (PySem.W.instObj C dx) ∧
      ∃ mA, h.Ns1 dx mA ∧ (∀ f, RelO (fs.lookup f) (mA f)) ∧ PySem.Within mA (fs.map (·.1))
  | .own _ => ∃ o, h.get? a = some o
  | .xd fs => ∃ mA, h.Ns1 a mA ∧ ∀ f, RelO (fs.lookup f) (mA f)
  | .rng lo hi => ∃ t u v, h.get? a = some { cls := .type "range", data := .fields #[.int lo t, .int hi u, .int 1 v] }
  | .frz o u => h.get? a = some o ∧ aDu H h a u
  | .tbl ps => h.get? a = some { cls := .none, data := .fields ps }
  | .met f x => h.get? a = some (PySem.W.methodObj (.ref f) (.ref x))
  | .ext φ => φ h ∧ (∃ o, h.get? a = some o) ∧ ∀ h1 h2 : Heap, φ h1 → (∀ o, h1.get? a = some o → h2.get? a = some o) → φ h2
noncomputable def HOk (H : Hp) (h : Heap) : Prop := ∀ a o, H a = some o → aDu P w H h a o
end
section
variable {P : Program} {w : World} {H H' : Hp} {h h' : Heap} {a : Addr} {o : HO}
theorem aDu.lt (x : aDu P w H h a o) : a < h.objs.size := by
  cases o with
  | lst xs => obtain ⟨_, _, _, _, e⟩ := x; exact Heap.lt_size e
  | tup xs => obtain ⟨_, _, _, p⟩ := x; exact p.lt
  | dK kvs => obtain ⟨_, _, _, _, o, _, _, e, _⟩ := x; exact Heap.lt_size e
  | dT kvs => obtain ⟨_, _, _, _, o, _, _, e, _⟩ := x; exact Heap.lt_size e
  | set S n => obtain ⟨o, _, _, _, e, _⟩ := x; exact Heap.lt_size e
  | ins C dx fs => obtain ⟨_, _, _, e, _⟩ := x; exact Heap.lt_size e
  | own y => obtain ⟨_, e⟩ := x; exact Heap.lt_size e
  | xd fs => obtain ⟨_, ⟨_, _, _, e, _⟩, _⟩ := x; exact Heap.lt_size e
  | rng lo hi => obtain ⟨_, _, _, e⟩ := x; exact Heap.lt_size e
  | frz ob u => obtain ⟨e, _⟩ := x; exact Heap.lt_size e
  | tbl ps => exact Heap.lt_size (show h.get? a = some _ from x)
  | met f y => exact Heap.lt_size (show h.get? a = some _ from x)
  | ext φ => obtain ⟨_, ⟨_, e⟩, _⟩ := x; exact Heap.lt_size e
theorem Paired.mapP {α β : Type} {F G : α → β → Prop} : ∀ {l₁ : List α} {l₂ : List β}, Paired F l₁ l₂ → (∀ a b, F a b → G a b) → Paired G l₁ l₂
  | _, _, .nil, _ => .nil
  | _, _, .cons r t, f => .cons (f _ _ r) (Paired.mapP t f)
theorem aDu.stay (x : aDu P w H h a o) (k : ∀ b u, (b = a ∨ H b = some (.own a)) → h.get? b = some u → h'.get? b = some u)
    (ho : ∀ b, H b = some (.own a) → H' b = some (.own a)) (ht : ∀ b xs, H b = some (.tup xs) → H' b = some (.tup xs)) : aDu P w H' h' a o := by
  induction o with
  | lst xs => obtain ⟨z, its, n, r, e⟩ := x; exact ⟨z, its, n, r, k _ _ (.inl rfl) e⟩
  | tup xs => obtain ⟨z, its, r, ob, e, c⟩ := x; exact ⟨z, its, r, ob, k _ _ (.inl rfl) e, c⟩
  | dK kvs => obtain ⟨z, y, vs, r, ob, es, ep, e, c⟩ := x; exact ⟨z, y, vs, r, ob, es, ep, k _ _ (.inl rfl) e, c⟩
  | dT kvs =>
    obtain ⟨z, y, xs, r, ob, es, ep, e, c⟩ := x
    exact ⟨z, y, xs, Paired.mapP r fun p q z => ⟨z.1, ht _ _ z.2.1, z.2.2⟩, ob, es, ep, k _ _ (.inl rfl) e, c⟩
  | set S n => obtain ⟨ob, es, ep, t, e, c⟩ := x; exact ⟨ob, es, ep, t, k _ _ (.inl rfl) e, c⟩
  | ins C dx fs =>
    obtain ⟨d, z, ne, e, mA, ⟨od, es, ep, e2, c⟩, r⟩ := x
    exact ⟨ho _ d, z, ne, k _ _ (.inl rfl) e, mA, ⟨od, es, ep, k _ _ (.inr d) e2, c⟩, r⟩
  | own y => obtain ⟨ob, e⟩ := x; exact ⟨ob, k _ _ (.inl rfl) e⟩
  | xd fs => obtain ⟨mA, ⟨od, es, ep, e, c⟩, r⟩ := x; exact ⟨mA, ⟨od, es, ep, k _ _ (.inl rfl) e, c⟩, r⟩
  | rng lo hi => obtain ⟨t, u, v, e⟩ := x; exact ⟨t, u, v, k _ _ (.inl rfl) e⟩
  | frz ob u ih => obtain ⟨e, q⟩ := x; exact ⟨k _ _ (.inl rfl) e, ih q⟩
  | tbl ps =>
    have e : h.get? a = some { cls := .none, data := .fields ps } := x
    show h'.get? a = some { cls := .none, data := .fields ps }
    exact k a _ (.inl rfl) e
  | met f y =>
    have e : h.get? a = some (PySem.W.methodObj (.ref f) (.ref y)) := x
    show h'.get? a = some (PySem.W.methodObj (.ref f) (.ref y))
    exact k a _ (.inl rfl) e
  | ext φ => obtain ⟨p, ⟨o, e⟩, st⟩ := x; exact ⟨st _ _ p fun o q => k _ _ (.inl rfl) q, ⟨o, k _ _ (.inl rfl) e⟩, st⟩
theorem HOk.lt (x : HOk P w H h) (e : H a = some o) : a < h.objs.size := (x a o e).lt
theorem HOk.fresh (x : HOk P w H h) (e : h.objs.size ≤ a) : H a = none := by
  cases q : H a with
  | none => rfl
  | some u => exact absurd (Nat.lt_of_lt_of_le (x.lt q) e) (Nat.lt_irrefl _)
theorem HOk.kept (x : HOk P w H h) (k : ∀ b u, h.get? b = some u → h'.get? b = some u) : HOk P w H h' := fun a o e =>
  (x a o e).stay (fun b u _ q => k b u q) (fun _ q => q) fun _ _ q => q
theorem HOk.laid (x : HOk P w H h) (k : ∀ b u, h.get? b = some u → h'.get? b = some u) (hp : h.objs.size ≤ a) (new : aDu P w (upd H a o) h' a o) : HOk P w (upd H a o) h' := fun b u e => by
  have hn := x.fresh hp
  by_cases hb : b = a
  · subst hb; rw [aAt] at e; cases e; exact new
  · rw [aAn hb] at e
    exact (x b u e).stay (fun c v _ q => k c v q) (fun c q => by rw [aAn (aBq q hn)]; exact q) fun c xs q => by rw [aAn (aBq q hn)]; exact q
end
noncomputable def Rd (H : Hp) (a : Addr) (u : HO) : Prop := H a = some u ∨ ∃ o, H a = some (.frz o u)
theorem Rd.ok {P : Program} {w : World} {H : Hp} {h : Heap} {a : Addr} {u : HO} (r : Rd H a u) (x : HOk P w H h) : aDu P w H h a u := by
  rcases r with r | ⟨o, r⟩
  · exact x a u r
  · obtain ⟨_, q⟩ := x a _ r
    exact q
noncomputable def Mut : Option HO → Prop
  | some (.lst _) => True
  | some (.dK _) => True
  | some (.dT _) => True
  | some (.set _ _) => True
  | some (.ins _ _ _) => True
  | some (.ext _) => True
  | _ => False
section
variable {P : Program} {w : World} {H : Hp} {h h' : Heap} {x e : Addr} {o' : HO}
theorem HOk.write (ok : HOk P w H h) (mu : Mut (H x)) (he : e = x ∨ H e = some (.own x)) (k : ∀ b u, b ≠ e → h.get? b = some u → h'.get? b = some u) (heo : ∃ u, h'.get? e = some u)
    (new : aDu P w (upd H x o') h' x o') : HOk P w (upd H x o') h' := fun b u q => by
  have nown : ∀ c y, H c = some (.own y) → c ≠ x := fun c y r z => by subst z; rw [r] at mu; exact mu
  have ntup : ∀ c xs, H c = some (.tup xs) → c ≠ x := fun c xs r z => by subst z; rw [r] at mu; exact mu
  by_cases hb : b = x
  · subst hb; rw [aAt] at q; cases q; exact new
  · rw [aAn hb] at q
    by_cases hbe : b = e
    · have q' : H b = some (.own x) := by
        rcases he with z | z
        · exact absurd (hbe.trans z) hb
        · rw [hbe]; exact z
      rw [q] at q'; cases q'
      obtain ⟨v, hv⟩ := heo
      exact ⟨v, by rw [hbe]; exact hv⟩
    · refine (ok b u q).stay (fun c v hc r => k c v ?_ r) (fun c r => by rw [aAn (nown c b r)]; exact r) fun c xs r => by rw [aAn (ntup c xs r)]; exact r
      rcases hc with rfl | hc
      · exact hbe
      · rintro rfl
        rcases he with z | z
        · exact nown c b hc z
        · rw [hc] at z; cases z; exact hb rfl
end
structure Un (fs ex : List Addr) (H H' : Hp) (h h' : Heap) : Prop where
  keep : ∀ b o, h.get? b = some o → H b = none → b ∉ fs → b ∉ ex → h'.get? b = some o
  slot : ∀ b o, h.get? b = some o → H b = none → b ∈ fs → b ∉ ex → ∃ sl, h'.get? b = some { o with slots := sl }
  free : ∀ b o, h.get? b = some o → H b = none → b ∉ ex → H' b = none
  there : ∀ b o, h.get? b = some o → b ∉ ex → ∃ o', h'.get? b = some o'
  tups : ∀ b xs, H b = some (.tup xs) → H' b = some (.tup xs)
  frzs : ∀ b o u, H b = some (.frz o u) → H' b = some (.frz o u)
  tbls : ∀ b ps, H b = some (.tbl ps) → ∃ more, H' b = some (.tbl (ps ++ more))
section
variable {fs fs' ex ex' : List Addr} {H H1 H2 : Hp} {h h1 h2 h' : Heap} {a x e : Addr} {o : HO}
theorem Un.any (u : Un fs ex H H1 h h1) {b : Addr} {ob : Obj} (q : h.get? b = some ob) (n : H b = none) (hx : b ∉ ex) : ∃ sl, h1.get? b = some { ob with slots := sl } := by
  by_cases hb : b ∈ fs
  · exact u.slot b ob q n hb hx
  · exact ⟨ob.slots, u.keep b ob q n hb hx⟩
theorem Un.kept (k : ∀ b u, h.get? b = some u → h'.get? b = some u) : Un fs ex H H h h' :=
  ⟨fun b ob q _ _ _ => k b ob q, fun b ob q _ _ _ => ⟨ob.slots, k b ob q⟩, fun _ _ _ n _ => n, fun b ob q _ => ⟨ob, k b ob q⟩, fun _ _ q => q, fun _ _ _ q => q, fun _ ps q => ⟨#[], by rw [q]; simp⟩⟩
theorem Un.refl : Un fs ex H H h h := Un.kept fun _ _ q => q
theorem Un.laid (k : ∀ b u, h.get? b = some u → h'.get? b = some u) (hp : h.objs.size ≤ a) (hn : H a = none) : Un fs ex H (upd H a o) h h' where
  keep := fun b u q _ _ _ => k b u q
  slot := fun b u q _ _ _ => ⟨u.slots, k b u q⟩
  free := fun b u q n _ => by rw [aAn (Nat.ne_of_lt (Nat.lt_of_lt_of_le (Heap.lt_size q) hp))]; exact n
  there := fun b u q _ => ⟨u, k b u q⟩
  tups := fun b xs q => by rw [aAn (aBq q hn)]; exact q
  frzs := fun b u xs q => by rw [aAn (aBq q hn)]; exact q
  tbls := fun b ps q => ⟨#[], by rw [aAn (aBq q hn), q]; simp⟩
theorem Un.write (mu : Mut (H x)) (he : e = x ∨ H e = some (.own x)) (k : ∀ b u, b ≠ e → h.get? b = some u → h'.get? b = some u) (heo : ∃ u, h'.get? e = some u) : Un fs ex H (upd H x o) h h' := by
  have hx : ∀ b, H b = none → b ≠ x := fun b n z => by subst z; rw [n] at mu; exact mu
  have hb : ∀ b, H b = none → b ≠ e := fun b n z => by
    subst z
    rcases he with r | r
    · exact hx b n r
    · rw [n] at r; cases r
  have hm : ∀ b u, H b = some u → ¬ Mut (some u) → b ≠ x := fun b u q nm z => by subst z; rw [q] at mu; exact nm mu
  refine ⟨fun b u q n _ _ => k b u (hb b n) q, fun b u q n _ _ => ⟨u.slots, k b u (hb b n) q⟩, fun b u q n _ => by rw [aAn (hx b n)]; exact n, fun b u q _ => ?_,
    fun b xs q => by rw [aAn (hm b _ q fun z => z)]; exact q, fun b u xs q => by rw [aAn (hm b _ q fun z => z)]; exact q, fun b ps q => ⟨#[], by rw [aAn (hm b _ q fun z => z), q]; simp⟩⟩
  by_cases hbe : b = e
  · subst hbe; exact heo
  · exact ⟨u, k b u hbe q⟩
end
noncomputable def trk (h : Heap) (H : Hp) : List Addr := (List.range h.objs.size).filter fun a => (H a).isSome
noncomputable def hidT (h : Heap) (H : Hp) : Heap := PySem.W.hideAll h (trk h H)
theorem hidT_size (h : Heap) (H : Hp) : (hidT h H).objs.size = h.objs.size := PySem.W.hideAll_size _ _
theorem hidT_get {h : Heap} {H : Hp} {b : Addr} {o : Obj} (e : h.get? b = some o) (n : H b = none) : (hidT h H).get? b = some o :=
  PySem.W.hideAll_get _ e fun hm => by
    have q : (H b).isSome = true := (List.mem_filter.mp hm).2
    rw [n] at q; simp at q
theorem of_hidT {h : Heap} {H : Hp} {b : Addr} {o : Obj} (e : (hidT h H).get? b = some o) : h.get? b = some o ∧ H b = none := by
  have e' : h.get? b = some o := PySem.W.of_hideAll (trk h H) e
  refine ⟨e', ?_⟩
  cases q : H b with
  | none => rfl
  | some x =>
    have hm : b ∈ trk h H := List.mem_filter.mpr ⟨List.mem_range.mpr (Heap.lt_size e'), by simp [q]⟩
    have z : (hidT h H).get? b = none := PySem.W.hideAll_none (trk h H) hm
    rw [z] at e; cases e
noncomputable def allNews (g h : Heap) (L : Addr) : List (Addr × Obj) := (List.range h.objs.size).filterMap fun a => if a = L ∨ (g.get? a).isSome = true then none else (h.get? a).map fun o => (a, o)
noncomputable def rest (g h : Heap) (L d : Addr) : List (Addr × Obj) := (allNews g h L).filter fun p => decide (p.1 ≠ d)
end L2
namespace L2
open PySem PySem.Spec PyProof.Rows
structure Mod (K : PySem.W.Frag) (mg : Str → Option Value) (base : Heap) : Prop where
  kin : K.In base
  glob : base.Ns mainGlobals mg
  blt : ∃ mb, base.Ns builtinsNs mb ∧ ∀ x : Str, x ≠ "__name__" → mb x = bootBuiltins x
  nolimit : base.NoLimit
structure Cx where
  prog : Program
  w : World
  K : PySem.W.Frag
  mg : Str → Option Value
  base : Heap
  A : Around
  N : List Str
  s₀ : Shared
  H₀ : Hp
  env : Env
  outer : List Env
  stack : List Env
  ex : List Addr
  fn : Str → Bool
  calm : Bool
  pn : List (Addr × Obj)
  xe : Value → Shared → Prop
noncomputable def frs (l : List Env) : List Addr := l.filterMap (·.frame)
noncomputable abbrev Cx.fs (X : Cx) : List Addr := frs X.outer
noncomputable def Vis (sc : Scope) (x : Str) : Prop := sc.names.lookup x = some .local ∨ sc.names.lookup x = some .cell ∨ sc.names.lookup x = some .free
noncomputable def Loc (sc : Scope) (x : Str) : Prop := sc.names.lookup x = some .local ∨ sc.names.lookup x = some .cell
noncomputable def Look (env : Env) (h : Heap) (m : Str → Option Value) (x : Str) (u : Value) : Prop :=
  (env.kindOf x = some .local ∧ m x = some u) ∨ ((env.kindOf x = some .cell ∨ env.kindOf x = some .free) ∧ ∃ c, env.cells.lookup x = some c ∧ h.IsCell c (some u))
structure Cx.Ok (X : Cx) : Prop where
  mod : Mod X.K X.mg X.base
  kind : X.env.scope.kind = .function
  glob : X.env.globals = mainGlobals
  blt : X.env.builtins = builtinsNs
  above : X.s₀.heap.objs.size ≤ X.env.locals
  inj : ∀ x y c, X.env.cells.lookup x = some c → X.env.cells.lookup y = some c → x = y
  has : ∀ x, (X.env.kindOf x = some .cell ∨ X.env.kindOf x = some .free) → ∃ c, X.env.cells.lookup x = some c
  cab : ∀ x c, X.fn x = true → X.env.cells.lookup x = some c → X.s₀.heap.objs.size ≤ c
  hd : X.calm = true → X.A.handled = none
  frames : X.A.frames = some X.stack
  stk : X.stack = X.outer ∨ (X.stack = X.env :: X.outer ∧ X.env.frame = some X.env.locals)
  exf : ∀ b ∈ X.ex, b ≠ X.env.locals ∧ ∀ x c, X.env.cells.lookup x = some c → c ≠ b
  bs : ∀ b o, X.base.get? b = some o → X.s₀.heap.get? b = some o ∧ X.H₀ b = none
  bsz : X.base.objs.size ≤ X.s₀.heap.objs.size
  noex : ∀ b o, X.base.get? b = some o → b ∉ X.ex
  exfs : ∀ b ∈ X.ex, b ∉ X.fs
  funs : X.s₀.heap.FunFrames X.base X.outer
  frf : ∀ b ∈ X.fs, X.H₀ b = none
structure Inv (X : Cx) (pins : List (Addr × Obj)) (σ : List (Option V)) (H : Hp) (s : Shared) : Prop where
  ok : X.Ok
  os : s.os = X.s₀.os
  bare : AllBare s.gens
  base : Un X.fs X.ex X.H₀ H X.s₀.heap s.heap
  loc : ∃ m, s.heap.Ns X.env.locals m ∧ ∀ (i : Nat) (x : Str) (v : V), X.N[i]? = some x → σ[i]? = some (some v) → Vis X.env.scope x → ∃ u, RelV v u ∧ Look X.env s.heap m x u
  cell : ∀ x c, X.env.cells.lookup x = some c → ∃ v, s.heap.IsCell c v
  free : H X.env.locals = none
  freeC : ∀ x c, X.env.cells.lookup x = some c → H c = none
  pin : ∀ p ∈ X.pn ++ pins, s.heap.get? p.1 = some p.2 ∧ H p.1 = none ∧ p.1 ≠ X.env.locals ∧ p.1 ∉ X.fs ∧ ∀ v, p.2.data ≠ .cell v
  hok : HOk X.prog X.w H s.heap
  len : σ.length = X.N.length
section
variable {X : Cx} {pins : List (Addr × Obj)} {σ : List (Option V)} {H H' : Hp} {s : Shared} {h' : Heap}
theorem Cx.Ok.nofr (ok : X.Ok) {b : Addr} {o : Obj} (e : X.base.get? b = some o) : b ∉ X.fs := fun hb => by
  have := (ok.funs.mem hb).1
  rw [e] at this; cases this
theorem Inv.bs (I : Inv X pins σ H s) : ∀ b o, X.base.get? b = some o → s.heap.get? b = some o ∧ H b = none := fun b o e =>
  ⟨I.base.keep b o (I.ok.bs b o e).1 (I.ok.bs b o e).2 (I.ok.nofr e) (I.ok.noex b o e), I.base.free b o (I.ok.bs b o e).1 (I.ok.bs b o e).2 (I.ok.noex b o e)⟩
theorem Inv.bk (I : Inv X pins σ H s) : ∀ b o, X.base.get? b = some o → s.heap.get? b = some o := fun b o e => (I.bs b o e).1
theorem Inv.mod (I : Inv X pins σ H s) : Mod X.K X.mg X.base := I.ok.mod
theorem Inv.kIn (I : Inv X pins σ H s) : X.K.In s.heap := I.ok.mod.kin.keeps I.bk
theorem Inv.lt (I : Inv X pins σ H s) : X.env.locals < s.heap.objs.size := let ⟨_, hn, _⟩ := I.loc; hn.lt
theorem Inv.sz (I : Inv X pins σ H s) : X.s₀.heap.objs.size ≤ s.heap.objs.size := Nat.le_trans I.ok.above (Nat.le_of_lt I.lt)
theorem Inv.nofs (I : Inv X pins σ H s) {a : Addr} (h : s.heap.objs.size ≤ a) : a ∉ X.fs := fun hb => by
  obtain ⟨_, o, ho, _⟩ := I.ok.funs.mem hb
  exact absurd (Nat.lt_of_lt_of_le (Heap.lt_size ho) (Nat.le_trans I.sz h)) (Nat.lt_irrefl _)
theorem Inv.cne (I : Inv X pins σ H s) : ∀ x c, X.env.cells.lookup x = some c → c ≠ X.env.locals := fun x c e z => by
  obtain ⟨v, o, ho, hd⟩ := I.cell x c e
  obtain ⟨m, ⟨o', es, ep, ho', hd', _⟩, _⟩ := I.loc
  rw [z, ho'] at ho; cases ho; rw [hd'] at hd; cases hd
theorem Inv.funs (I : Inv X pins σ H s) : s.heap.FunFrames X.base X.outer := by
  have all : ∀ (l : List Env), (∀ b ∈ frs l, b ∈ X.fs) → X.s₀.heap.FunFrames X.base l → s.heap.FunFrames X.base l := by
    intro l
    induction l with
    | nil => intro _ _; trivial
    | cons env r ih =>
      intro hs hl
      obtain ⟨hk, ⟨L, o, hf, hn, ho, hd⟩, hr⟩ := hl
      have hL : L ∈ X.fs := hs L (by unfold frs; rw [List.filterMap_cons, hf]; exact List.mem_cons_self)
      obtain ⟨sl, e⟩ := I.base.slot L o ho (I.ok.frf L hL) hL fun z => I.ok.exfs L z hL
      exact ⟨hk, ⟨L, _, hf, hn, e, hd⟩, ih (fun b hb => hs b (by unfold frs; rw [List.filterMap_cons, hf]; exact List.mem_cons_of_mem _ hb)) hr⟩
  exact all X.outer (fun _ hb => hb) I.ok.funs
theorem Inv.stack (I : Inv X pins σ H s) : s.heap.FunFrames X.base X.stack := by
  rcases I.ok.stk with e | ⟨e, hf⟩
  · rw [e]; exact I.funs
  · rw [e]
    obtain ⟨m, hn, _⟩ := I.loc
    refine .cons (by rw [I.ok.kind]; decide) hf hn ?_ I.funs
    exact Heap.get?_none_of_le (Nat.le_trans I.ok.bsz I.ok.above)
theorem Inv.stkSub (I : Inv X pins σ H s) : ∀ b ∈ frs X.stack, b ∈ X.env.locals :: X.fs := fun b hb => by
  rcases I.ok.stk with e | ⟨e, hf⟩
  · rw [e] at hb; exact List.mem_cons_of_mem _ hb
  · rw [e] at hb
    unfold frs at hb
    rw [List.filterMap_cons, hf] at hb
    exact hb
theorem Inv.stkFree (I : Inv X pins σ H s) : ∀ b ∈ frs X.stack, H b = none := fun b hb => by
  rcases List.mem_cons.mp (I.stkSub b hb) with e | hb
  · rw [e]; exact I.free
  · obtain ⟨_, o, ho, _⟩ := I.ok.funs.mem hb
    exact I.base.free b o ho (I.ok.frf b hb) fun z => I.ok.exfs b z hb
theorem Inv.step {g' : Array GenState} {t' : Nat} {d' : Drawn} {ch : List Addr} (I : Inv X pins σ H s)
    (hch : ∀ b ∈ ch, (b ∈ X.ex ∨ X.s₀.heap.objs.size ≤ b) ∧ b ≠ X.env.locals ∧ (∀ x c, X.env.cells.lookup x = some c → c ≠ b) ∧ ∀ p ∈ X.pn ++ pins, p.1 ≠ b)
    (keep : ∀ b o, b ≠ X.env.locals → b ∉ X.fs → b ∉ ch → s.heap.get? b = some o → H b = none → h'.get? b = some o)
    (slot : ∀ b o, b ≠ X.env.locals → b ∈ X.fs → b ∉ ch → s.heap.get? b = some o → H b = none → ∃ sl, h'.get? b = some { o with slots := sl }) (free : ∀ b o, b ∉ ch → s.heap.get? b = some o → H b = none → H' b = none)
    (there : ∀ b o, b ∉ ch → s.heap.get? b = some o → ∃ o', h'.get? b = some o')
    (tups : ∀ b xs, H b = some (.tup xs) → H' b = some (.tup xs)) (frzs : ∀ b o u, H b = some (.frz o u) → H' b = some (.frz o u)) (tbls : ∀ b ps, H b = some (.tbl ps) → ∃ more, H' b = some (.tbl (ps ++ more)))
    (ns : ∀ m, s.heap.Ns X.env.locals m → h'.Ns X.env.locals m) (hok : HOk X.prog X.w H' h') (hg : AllBare g') :
    Inv X pins σ H' { s with heap := h', gens := g', drawn := d', toks := t' } := by
  have neL : ∀ b o, X.s₀.heap.get? b = some o → b ≠ X.env.locals := fun b o e => Nat.ne_of_lt (Nat.lt_of_lt_of_le (Heap.lt_size e) I.ok.above)
  have neC : ∀ b o, X.s₀.heap.get? b = some o → b ∉ X.ex → b ∉ ch := fun b o e hx hb => by
    rcases (hch b hb).1 with z | z
    · exact hx z
    · exact absurd (Nat.lt_of_lt_of_le (Heap.lt_size e) z) (Nat.lt_irrefl _)
  have cellK : ∀ x c, X.env.cells.lookup x = some c → ∀ v, s.heap.IsCell c v → h'.IsCell c v := fun x c e v ⟨o, ho, hd⟩ => by
    have nch : c ∉ ch := fun z => (hch c z).2.2.1 x c e rfl
    by_cases hc : c ∈ X.fs
    · obtain ⟨sl, q⟩ := slot c o (I.cne x c e) hc nch ho (I.freeC x c e)
      exact ⟨_, q, hd⟩
    · exact ⟨o, keep c o (I.cne x c e) hc nch ho (I.freeC x c e), hd⟩
  refine ⟨I.ok, I.os, hg, ⟨fun b o e n hb hx => ?_, fun b o e n hb hx => ?_, fun b o e n hx => ?_, fun b o e hx => ?_, fun b xs e => tups b xs (I.base.tups b xs e), fun b o xs e => frzs b o xs (I.base.frzs b o xs e), fun b ps e => ?_⟩, ?_, fun x c e => ?_, ?_, fun x c e => ?_, fun p hp => ?_, hok, I.len⟩
  · exact keep b o (neL b o e) hb (neC b o e hx) (I.base.keep b o e n hb hx) (I.base.free b o e n hx)
  · obtain ⟨sl, e1⟩ := I.base.slot b o e n hb hx
    obtain ⟨sl', e2⟩ := slot b _ (neL b o e) hb (neC b o e hx) e1 (I.base.free b o e n hx)
    exact ⟨sl', e2⟩
  · obtain ⟨o', e1⟩ := I.base.there b o e hx
    exact free b o' (neC b o e hx) e1 (I.base.free b o e n hx)
  · obtain ⟨o', e1⟩ := I.base.there b o e hx
    exact there b o' (neC b o e hx) e1
  · obtain ⟨m1, e1⟩ := I.base.tbls b ps e
    obtain ⟨m2, e2⟩ := tbls b _ e1
    exact ⟨m1 ++ m2, by rw [e2, Array.append_assoc]⟩
  · obtain ⟨m, hn, hl⟩ := I.loc
    refine ⟨m, ns m hn, fun i x v e1 e2 e3 => ?_⟩
    obtain ⟨u, r, l⟩ := hl i x v e1 e2 e3
    refine ⟨u, r, ?_⟩
    rcases l with l | ⟨k, c, e, z⟩
    · exact .inl l
    · exact .inr ⟨k, c, e, cellK x c e _ z⟩
  · obtain ⟨v, z⟩ := I.cell x c e
    exact ⟨v, cellK x c e v z⟩
  · obtain ⟨m, ⟨o, _, _, ho, _⟩, _⟩ := I.loc
    exact free _ o (fun z => (hch _ z).2.1 rfl) ho I.free
  · obtain ⟨v, o, ho, hd⟩ := I.cell x c e
    exact free c o (fun z => (hch c z).2.2.1 x c e rfl) ho (I.freeC x c e)
  · obtain ⟨e, n, ne, nf, d⟩ := I.pin p hp
    have nch : p.1 ∉ ch := fun z => (hch p.1 z).2.2.2 p hp rfl
    exact ⟨keep p.1 p.2 ne nf nch e n, free p.1 p.2 nch e n, ne, nf, d⟩
theorem Inv.un {t' : Nat} (I : Inv X pins σ H s) (u : Un X.fs [] H H' s.heap h') (hok : HOk X.prog X.w H' h') : Inv X pins σ H' { s with heap := h', toks := t' } := by
  obtain ⟨m, ⟨o, es, ep, ho, r⟩, _⟩ := id I.loc
  obtain ⟨sl, hL⟩ := u.any ho I.free (by simp)
  exact I.step (g' := s.gens) (d' := s.drawn) (ch := []) (fun _ z => nomatch z) (fun b o _ hb _ e n => u.keep b o e n hb (by simp)) (fun b o _ hb _ e n => u.slot b o e n hb (by simp)) (fun b o _ e n => u.free b o e n (by simp)) (fun b o _ e => u.there b o e (by simp)) u.tups u.frzs u.tbls (fun m' hm => by
    obtain ⟨o', es', ep', ho', r'⟩ := hm
    rw [ho] at ho'; cases ho'
    exact ⟨_, es', ep', hL, r'⟩) hok I.bare
theorem Inv.call {g' : Array GenState} {t' : Nat} {d' : Drawn} {ch : List Addr} (I : Inv X pins σ H s) (u : Un (frs X.stack) ch H H' s.heap h') (hok : HOk X.prog X.w H' h') (hg : AllBare g')
    (hch : ∀ b ∈ ch, (b ∈ X.ex ∨ X.s₀.heap.objs.size ≤ b) ∧ b ≠ X.env.locals ∧ (∀ x c, X.env.cells.lookup x = some c → c ≠ b) ∧ ∀ p ∈ X.pn ++ pins, p.1 ≠ b) :
    Inv X pins σ H' { s with heap := h', gens := g', drawn := d', toks := t' } := by
  obtain ⟨m, ⟨o, es, ep, ho, r⟩, _⟩ := id I.loc
  obtain ⟨sl, hL⟩ := u.any ho I.free fun z => (hch _ z).2.1 rfl
  exact I.step (ch := ch) hch (fun b o hL hb hc e n => u.keep b o e n (fun z => (List.mem_cons.mp (I.stkSub b z)).elim hL hb) hc) (fun b o _ _ hc e n => u.any e n hc) (fun b o hc e n => u.free b o e n hc) (fun b o hc e => u.there b o e hc) u.tups u.frzs u.tbls (fun m' hm => by
    obtain ⟨o', es', ep', ho', r'⟩ := hm
    rw [ho] at ho'; cases ho'
    exact ⟨_, es', ep', hL, r'⟩) hok hg
theorem Inv.turned {t' : Nat} {it : Addr} (I : Inv X pins σ H s) (k : ∀ b o, b ≠ it → s.heap.get? b = some o → h'.get? b = some o) (hn : H it = none) (hL : it ≠ X.env.locals)
    (h1 : it ∈ X.ex ∨ X.s₀.heap.objs.size ≤ it) (h2 : ∀ x c, X.env.cells.lookup x = some c → c ≠ it) (h3 : ∀ p ∈ X.pn ++ pins, p.1 ≠ it) : Inv X pins σ H { s with heap := h', toks := t' } := by
  have nit : ∀ b u, H b = some u → b ≠ it := fun b u e z => by rw [z, hn] at e; cases e
  refine I.step (g' := s.gens) (d' := s.drawn) (ch := [it]) (fun b hb => ?_) (fun b o _ _ hc e _ => k b o (fun z => hc (by simp [z])) e) (fun b o _ _ hc e _ => ⟨o.slots, k b o (fun z => hc (by simp [z])) e⟩) (fun _ _ _ _ n => n)
    (fun b o hc e => ⟨o, k b o (fun z => hc (by simp [z])) e⟩) (fun _ _ e => e) (fun _ _ _ e => e) (fun b ps e => ⟨#[], by rw [e]; simp⟩) (fun m hm => ?_) (fun b u e => ?_) I.bare
  · have e : b = it := by simpa using hb
    subst e
    exact ⟨h1, hL, h2, h3⟩
  · obtain ⟨o, es, ep, ho, r⟩ := hm
    exact ⟨o, es, ep, k _ o (Ne.symm hL) ho, r⟩
  · refine (I.hok b u e).stay (fun c v hc q => k c v ?_ q) (fun _ q => q) fun _ _ q => q
    rcases hc with z | z
    · rw [z]; exact nit b u e
    · exact nit c _ z
theorem Inv.tok (I : Inv X pins σ H s) (t : Nat) : Inv X pins σ H { s with toks := t } := I.un (h' := s.heap) (t' := t) Un.refl I.hok
theorem Inv.kept {t' : Nat} (I : Inv X pins σ H s) (k : ∀ b u, s.heap.get? b = some u → h'.get? b = some u) : Inv X pins σ H { s with heap := h', toks := t' } := I.un (Un.kept k) (I.hok.kept k)
theorem Inv.laid {a : Addr} {o : HO} {t' : Nat} (I : Inv X pins σ H s) (k : ∀ b u, s.heap.get? b = some u → h'.get? b = some u) (hp : s.heap.objs.size ≤ a) (new : aDu X.prog X.w (upd H a o) h' a o) :
    Inv X pins σ (upd H a o) { s with heap := h', toks := t' } := I.un (Un.laid k hp (I.hok.fresh hp)) (I.hok.laid k hp new)
theorem Inv.write {x e : Addr} {o : HO} {t' : Nat} (I : Inv X pins σ H s) (mu : Mut (H x)) (he : e = x ∨ H e = some (.own x)) (k : ∀ b u, b ≠ e → s.heap.get? b = some u → h'.get? b = some u) (heo : ∃ u, h'.get? e = some u)
    (new : aDu X.prog X.w (upd H x o) h' x o) : Inv X pins σ (upd H x o) { s with heap := h', toks := t' } := I.un (Un.write mu he k heo) (I.hok.write mu he k heo new)
theorem Inv.pins_of {pins' : List (Addr × Obj)} (I : Inv X pins σ H s) (h : ∀ p ∈ pins', s.heap.get? p.1 = some p.2 ∧ H p.1 = none ∧ p.1 ≠ X.env.locals ∧ p.1 ∉ X.fs ∧ ∀ v, p.2.data ≠ .cell v) : Inv X pins' σ H s :=
  ⟨I.ok, I.os, I.bare, I.base, I.loc, I.cell, I.free, I.freeC, fun p hp => (List.mem_append.mp hp).elim (fun z => I.pin p (List.mem_append_left _ z)) (h p), I.hok, I.len⟩
theorem nodup_ix {N : List Str} (hN : N.Nodup) {i j : Nat} {x : Str} (a : N[i]? = some x) (b : N[j]? = some x) : i = j := by
  obtain ⟨h1, e1⟩ := List.getElem?_eq_some_iff.mp a
  obtain ⟨h2, e2⟩ := List.getElem?_eq_some_iff.mp b
  exact (List.getElem_inj hN).mp (e1.trans e2.symm)
theorem store_ok2 {M : Model} {A : Around} {E : Value → Shared → Prop} {i : Nat} {x : Str} {v : V} {u : Value} {Q : Unit → Shared → Prop} (I : Inv X pins σ H s) (hN : X.N.Nodup) (hi : X.N[i]? = some x) (hx : Loc X.env.scope x) (r : RelV v u)
    (h : ∀ s', Inv X pins (σ.set i (some v)) H s' → (∃ a, Heap.SameBut a s.heap s'.heap ∧ (a = X.env.locals ∨ X.env.cells.lookup x = some a)) → Q () s') (hf : X.fn x = true ∨ X.env.scope.names.lookup x = some .local := by first | exact .inl rfl | exact .inr rfl | assumption) : wpAny M A (storeName X.env x u) Q E s := by
  obtain ⟨m, hn, hl⟩ := id I.loc
  have hcls : (X.env.scope.kind == .class || (X.env.scope.kind == .module && X.env.locals != X.env.globals)) = false := by rw [I.ok.kind]; rfl
  have hiσ : i < σ.length := by rw [I.len]; exact (List.getElem?_eq_some_iff.mp hi).1
  have cne := I.cne
  have tracked : ∀ {a : Addr} {h' : Heap}, (∃ o, s.heap.get? a = some o ∧ H a = none) → Heap.SameBut a s.heap h' → HOk X.prog X.w H h' := fun {a h'} ha hs b ob e => by
    obtain ⟨_, _, hfree⟩ := ha
    refine (I.hok b ob e).stay (fun c w' hc q => (hs.2 c ?_).trans q) (fun _ q => q) fun _ _ q => q
    rintro rfl
    rcases hc with rfl | hc
    · rw [hfree] at e; cases e
    · rw [hfree] at hc; cases hc
  rcases hx with hk | hk
  · refine wpAny_storeName_local hk hn (fun h' hn' hs => ?_) hcls
    obtain ⟨oL, _, _, hoL, _⟩ := id hn
    refine h _ ⟨I.ok, I.os, I.bare, ⟨fun b o e n hb hx => ?_, fun b o e n hb hx => ?_, I.base.free, fun b o e hx => ?_, I.base.tups, I.base.frzs, I.base.tbls⟩, ⟨_, hn', fun j y v' e1 e2 e3 => ?_⟩, fun y c e => ?_, I.free, I.freeC, fun p hp => ?_, tracked ⟨oL, hoL, I.free⟩ hs, by simpa using I.len⟩ ⟨_, hs, .inl rfl⟩
    · exact (hs.2 b (Nat.ne_of_lt (Nat.lt_of_lt_of_le (Heap.lt_size e) I.ok.above))).trans (I.base.keep b o e n hb hx)
    · obtain ⟨sl, e1⟩ := I.base.slot b o e n hb hx
      exact ⟨sl, (hs.2 b (Nat.ne_of_lt (Nat.lt_of_lt_of_le (Heap.lt_size e) I.ok.above))).trans e1⟩
    · obtain ⟨o', e1⟩ := I.base.there b o e hx
      exact ⟨o', (hs.2 b (Nat.ne_of_lt (Nat.lt_of_lt_of_le (Heap.lt_size e) I.ok.above))).trans e1⟩
    · by_cases hj : j = i
      · subst hj
        rw [hi] at e1; cases e1
        rw [List.getElem?_set_self hiσ] at e2
        cases e2
        exact ⟨u, r, .inl ⟨hk, by simp⟩⟩
      · rw [List.getElem?_set_ne (Ne.symm hj)] at e2
        obtain ⟨u', r', q⟩ := hl j y v' e1 e2 e3
        refine ⟨u', r', ?_⟩
        rcases q with ⟨k, e⟩ | ⟨k, c, e, z⟩
        · refine .inl ⟨k, ?_⟩
          have : y ≠ x := fun e => hj (nodup_ix hN e1 (e ▸ hi))
          simp [this, e]
        · exact .inr ⟨k, c, e, z.sameBut hs (cne y c e)⟩
    · obtain ⟨w', z⟩ := I.cell y c e
      exact ⟨w', z.sameBut hs (cne y c e)⟩
    · obtain ⟨e, n, ne, nf, d⟩ := I.pin p hp
      exact ⟨(hs.2 p.1 ne).trans e, n, ne, nf, d⟩
  · have hfn : X.fn x = true := by
      rcases hf with z | z
      · exact z
      · rw [z] at hk; cases hk
    obtain ⟨c, hc⟩ := I.ok.has x (.inl hk)
    obtain ⟨w', z⟩ := I.cell x c hc
    refine wpAny_storeName_cell I.ok.kind hk hc z (fun h' hc' hs => ?_)
    obtain ⟨oc, hoc, hocd⟩ := id z
    refine h { s with heap := h' } ⟨I.ok, I.os, I.bare, ⟨fun b o e n hb hx => ?_, fun b o e n hb hx => ?_, I.base.free, fun b o e hx => ?_, I.base.tups, I.base.frzs, I.base.tbls⟩, ⟨m, hn.sameBut hs (Ne.symm (cne x c hc)), fun j y v' e1 e2 e3 => ?_⟩, fun y c' e => ?_, I.free, I.freeC, fun p hp => ?_, tracked ⟨oc, hoc, I.freeC x c hc⟩ hs, by simpa using I.len⟩ ⟨c, hs, .inr hc⟩
    · exact (hs.2 b (Nat.ne_of_lt (Nat.lt_of_lt_of_le (Heap.lt_size e) (I.ok.cab x c hfn hc)))).trans (I.base.keep b o e n hb hx)
    · obtain ⟨sl, e1⟩ := I.base.slot b o e n hb hx
      exact ⟨sl, (hs.2 b (Nat.ne_of_lt (Nat.lt_of_lt_of_le (Heap.lt_size e) (I.ok.cab x c hfn hc)))).trans e1⟩
    · obtain ⟨o', e1⟩ := I.base.there b o e hx
      exact ⟨o', (hs.2 b (Nat.ne_of_lt (Nat.lt_of_lt_of_le (Heap.lt_size e) (I.ok.cab x c hfn hc)))).trans e1⟩
    · by_cases hj : j = i
      · subst hj
        rw [hi] at e1; cases e1
        rw [List.getElem?_set_self hiσ] at e2
        cases e2
        exact ⟨u, r, .inr ⟨.inl hk, c, hc, hc'⟩⟩
      · rw [List.getElem?_set_ne (Ne.symm hj)] at e2
        obtain ⟨u', r', q⟩ := hl j y v' e1 e2 e3
        refine ⟨u', r', ?_⟩
        rcases q with q | ⟨k, c', e, z'⟩
        · exact .inl q
        · refine .inr ⟨k, c', e, z'.sameBut hs ?_⟩
          rintro rfl
          exact hj (nodup_ix hN e1 (I.ok.inj _ _ _ e hc ▸ hi))
    · by_cases hcc : c' = c
      · subst hcc; exact ⟨_, hc'⟩
      · obtain ⟨w2, z2⟩ := I.cell y c' e
        exact ⟨w2, z2.sameBut hs hcc⟩
    · obtain ⟨e, n, ne, nf, d⟩ := I.pin p hp
      refine ⟨(hs.2 p.1 ?_).trans e, n, ne, nf, d⟩
      intro q
      rw [q, hoc] at e
      have q' : oc = p.2 := Option.some.inj e
      exact d w' (by rw [← q']; exact hocd)
theorem aGm {M : Model} {A : Around} {E : Value → Shared → Prop} {i : Nat} {x : Str} {v : V} {u : Value} {Q : Unit → Shared → Prop} (I : Inv X pins σ H s) (hN : X.N.Nodup) (hi : X.N[i]? = some x) (hx : Loc X.env.scope x) (r : RelV v u)
    (h : ∀ s', Inv X pins (σ.set i (some v)) H s' → Q () s') (hf : X.fn x = true ∨ X.env.scope.names.lookup x = some .local := by first | exact .inl rfl | exact .inr rfl | assumption) : wpAny M A (storeName X.env x u) Q E s :=
  store_ok2 I hN hi hx r (fun s' I' _ => h s' I') hf
end
noncomputable abbrev XK := Value → Option Addr → Hp → Prop
noncomputable abbrev St := List (Option V)
noncomputable abbrev VK := V → Hp → Prop
noncomputable abbrev TE := St → Hp → VK → Prop
noncomputable abbrev TT := St → Hp → (Bool → Hp → Prop) → Prop
noncomputable abbrev TA := St → Hp → (List V → Hp → Prop) → Prop
structure Ends where
  nx : St → Hp → Prop
  rt : VK
  bk : St → Hp → Prop := fun _ _ => False
  ct : St → Hp → Prop := fun _ _ => False
noncomputable abbrev TS := Ends → St → Hp → Prop
noncomputable def EP (X : Cx) (pins : List (Addr × Obj)) (σ : St) (Q : VK) (u : Value) (s' : Shared) : Prop := ∃ v H', Inv X pins σ H' s' ∧ RelV v u ∧ Q v H'
noncomputable def TP (X : Cx) (pins : List (Addr × Obj)) (σ : St) (Q : Bool → Hp → Prop) (b : Bool) (s' : Shared) : Prop := ∃ H', Inv X pins σ H' s' ∧ Q b H'
noncomputable def AP (X : Cx) (pins : List (Addr × Obj)) (σ : St) (Q : List V → Hp → Prop) (us : List Value) (s' : Shared) : Prop := ∃ vs H', Inv X pins σ H' s' ∧ Vals vs us ∧ Q vs H'
noncomputable def SP (X : Cx) (pins : List (Addr × Obj)) (D : Ends) (f : Flow) (s' : Shared) : Prop :=
  match f with
  | .next => ∃ σ' H', Inv X pins σ' H' s' ∧ D.nx σ' H'
  | .brk => ∃ σ' H', Inv X pins σ' H' s' ∧ D.bk σ' H'
  | .cont => ∃ σ' H', Inv X pins σ' H' s' ∧ D.ct σ' H'
  | .ret u => ∃ v σ' H', Inv X pins σ' H' s' ∧ RelV v u ∧ D.rt v H'
noncomputable def PE (X : Cx) (e : Expr) (t : TE) : Prop :=
  ∀ (pins : List (Addr × Obj)) (s : Shared) (σ : St) (H : Hp) (Q : VK), Inv X pins σ H s → t σ H Q → wpAny (model X.prog X.w) X.A (eval e X.env) (EP X pins σ Q) X.xe s
noncomputable def PT (X : Cx) (e : Expr) (t : TT) : Prop :=
  ∀ (pins : List (Addr × Obj)) (s : Shared) (σ : St) (H : Hp) (Q : Bool → Hp → Prop), Inv X pins σ H s → t σ H Q → wpAny (model X.prog X.w) X.A (isTrue e X.env (eval e X.env)) (TP X pins σ Q) X.xe s
noncomputable def PW (X : Cx) (e : Expr) (t : TT) : Prop :=
  ∀ (whole : Sem Value) (pins : List (Addr × Obj)) (s : Shared) (σ : St) (H : Hp) (Q : Bool → Hp → Prop), Inv X pins σ H s → t σ H Q → wpAny (model X.prog X.w) X.A (isTrue e X.env whole) (TP X pins σ Q) X.xe s
theorem PW.pt {X : Cx} {e : Expr} {t : TT} (h : PW X e t) : PT X e t := h _
noncomputable def PA (X : Cx) (es : List Expr) (t : TA) : Prop :=
  ∀ (pos : Pos) (pins : List (Addr × Obj)) (s : Shared) (σ : St) (H : Hp) (Q : List V → Hp → Prop), Inv X pins σ H s → t σ H Q → wpAny (model X.prog X.w) X.A (spliced (backTo pos (starEach es X.env))) (AP X pins σ Q) X.xe s
noncomputable def PS (X : Cx) (st : Stmt) (t : TS) : Prop :=
  ∀ (pins : List (Addr × Obj)) (s : Shared) (σ : St) (H : Hp) (D : Ends), Inv X pins σ H s → t D σ H → wpAny (model X.prog X.w) X.A (exec st X.env) (SP X pins D) X.xe s
noncomputable def PSs (X : Cx) (st : List Stmt) (t : TS) : Prop :=
  ∀ (pins : List (Addr × Obj)) (s : Shared) (σ : St) (H : Hp) (D : Ends), Inv X pins σ H s → t D σ H → wpAny (model X.prog X.w) X.A (execs st X.env) (SP X pins D) X.xe s
theorem thn {α : Type} {t : Sem α} {Q Q' : α → Shared → Prop} {M : Model} {A : Around} {E : Value → Shared → Prop} {s : Shared} (h : wpAny M A t Q E s) (hQ : ∀ a s, Q a s → Q' a s) : wpAny M A t Q' E s := wpAny_mono h hQ fun _ _ x => x
end L2
namespace L2
open PySem PySem.Spec PyProof.Rows
section
variable {X : Cx}
noncomputable def tVar (i : Nat) : TE := fun σ H Q => ∃ v, σ[i]? = some (some v) ∧ Q v H
noncomputable def tC (v : V) : TE := fun _ H Q => Q v H
theorem aHl {i : Nat} {x : Str} {pos : Pos} (hN : X.N[i]? = some x) (hv : Vis X.env.scope x) (hd : (x == ("__debug__" : Str)) = false := by decide) (hcd : (x == ("__classdict__" : Str)) = false := by decide) : PE X (.Name x pos) (tVar i) := by
  intro pins s σ H Q I h
  obtain ⟨v, e, h⟩ := h
  obtain ⟨m, hn, hl⟩ := I.loc
  obtain ⟨u, r, l⟩ := hl i x v hN e hv
  have fin : EP X pins σ Q u s := ⟨v, H, I, r, h⟩
  rcases l with ⟨hk, hm⟩ | ⟨hk, c, hc, hcell⟩
  · exact wpAny_Name (wpAny_loadName_local I.ok.kind hk hn hm fin) hd
  · rcases hk with hk | hk
    · exact wpAny_Name (wpAny_loadName_cell I.ok.kind hk hc hcell fin) hd
    · exact wpAny_Name (wpAny_loadName_free I.ok.kind hk hc hcell fin hcd) hd
theorem pe_int {i j pos} : PE X (.Constant (.int i) j pos) (tC (.int i)) := fun _ _ _ H _ I h => wpAny_Constant_int ⟨.int i, H, I.tok _, ⟨_, rfl⟩, h⟩
theorem pe_bl {b j pos} : PE X (.Constant (.bool b) j pos) (tC (.bl b)) := fun _ _ _ H _ I h => Constant_bool ⟨.bl b, H, I, rfl, h⟩
theorem pe_non {j pos} : PE X (.Constant .none j pos) (tC .non) := fun _ _ _ H _ I h => Constant_none ⟨.non, H, I, rfl, h⟩
theorem pe_str {x j pos} : PE X (.Constant (.str x) j pos) (tC (.str x)) := fun _ _ _ H _ I h => Calls.Constant_str ⟨.str x, H, I.tok _, ⟨_, rfl⟩, h⟩
noncomputable def Gl (X : Cx) (x : Str) : Prop := X.env.kindOf x = some .globalImplicit
theorem ld_glob {E : Value → Shared → Prop} {pins : List (Addr × Obj)} {s : Shared} {σ : St} {H : Hp} {x : Str} {u : Value} {pos : Pos} {Q : Value → Shared → Prop} (I : Inv X pins σ H s) (hg : Gl X x) (hm : X.mg x = some u) (h : Q u s)
    (hd : (x == ("__debug__" : Str)) = false := by decide) : wpAny (model X.prog X.w) X.A (eval (.Name x pos) X.env) Q E s :=
  Calls.Name_function_global I.ok.kind hg (Calls.loadGlobal_global (by rw [I.ok.glob]; exact I.mod.glob.keeps I.bk) hm h) hd
theorem ld_blt {E : Value → Shared → Prop} {pins : List (Addr × Obj)} {s : Shared} {σ : St} {H : Hp} {x : Str} {u : Value} {pos : Pos} {Q : Value → Shared → Prop} (I : Inv X pins σ H s) (hg : Gl X x) (hm : X.mg x = none) (hv : bootBuiltins x = some u) (h : Q u s)
    (hn : x ≠ "__name__" := by decide) (hd : (x == ("__debug__" : Str)) = false := by decide) : wpAny (model X.prog X.w) X.A (eval (.Name x pos) X.env) Q E s := by
  obtain ⟨mb, h1, h2⟩ := I.mod.blt
  exact Calls.Name_function_global I.ok.kind hg (Calls.loadGlobal_builtin (by rw [I.ok.glob]; exact I.mod.glob.keeps I.bk) hm (by rw [I.ok.blt]; exact h1.keeps I.bk) ((h2 x hn).trans hv) h) hd
theorem pe_bltn {x : Str} {v : V} {u : Value} {pos : Pos} (hg : Gl X x) (hm : X.mg x = none) (hv : bootBuiltins x = some u) (r : RelV v u) (hn : x ≠ "__name__" := by decide) (hd : (x == ("__debug__" : Str)) = false := by decide) : PE X (.Name x pos) (tC v) :=
  fun _ _ _ H _ I h => ld_blt I hg hm hv ⟨v, H, I, r, h⟩ hn hd
noncomputable def t2I (ta tb : TE) (k : Int → Int → Hp → Prop) : St → Hp → Prop := fun σ H => ta σ H fun x H1 => tb σ H1 fun y H2 => ∃ i j, x = .int i ∧ y = .int j ∧ k i j H2
variable {a b : Expr} {ta tb : TE} {pos : Pos}
noncomputable def tCmp (p : Int → Int → Bool) (ta tb : TE) : TE := fun σ H Q => t2I ta tb (fun i j H2 => Q (.bl (p i j)) H2) σ H
noncomputable abbrev tGt : TE → TE → TE := tCmp fun i j => decide (j < i)
variable {tA tB' : TT} {rest : List Expr}
noncomputable def tAnd (t u : TT) : TT := fun σ H Q => t σ H fun c H1 => if c = true then u σ H1 Q else Q false H1
noncomputable def tOr (t u : TT) : TT := fun σ H Q => t σ H fun c H1 => if c = true then Q true H1 else u σ H1 Q
noncomputable def tNot (t : TT) : TT := fun σ H Q => t σ H fun c H1 => Q (!c) H1
theorem pw_and1 (ha : PT X a tA) : PW X (.BoolOp .And [a] pos) tA := by
  intro wh pins s σ H Q I h
  refine isTrue_and (thn (ha pins s σ H Q I h) fun c s1 e => ?_)
  cases c with
  | true => exact isTrue_and_nil e
  | false => exact e
theorem pw_or1 (ha : PT X a tA) : PW X (.BoolOp .Or [a] pos) tA := by
  intro wh pins s σ H Q I h
  refine isTrue_or (thn (ha pins s σ H Q I h) fun c s1 e => ?_)
  cases c with
  | false => exact isTrue_or_nil e
  | true => exact e
theorem pw_and (ha : PT X a tA) (hb : PW X (.BoolOp .And (b :: rest) pos) tB') : PW X (.BoolOp .And (a :: b :: rest) pos) (tAnd tA tB') := by
  intro wh pins s σ H Q I h
  refine isTrue_and (thn (ha pins s σ H _ I h) fun c s1 ⟨H1, I1, q1⟩ => ?_)
  cases c with
  | true => exact hb wh pins s1 σ H1 Q I1 q1
  | false => exact ⟨H1, I1, q1⟩
theorem pw_or (ha : PT X a tA) (hb : PW X (.BoolOp .Or (b :: rest) pos) tB') : PW X (.BoolOp .Or (a :: b :: rest) pos) (tOr tA tB') := by
  intro wh pins s σ H Q I h
  refine isTrue_or (thn (ha pins s σ H _ I h) fun c s1 ⟨H1, I1, q1⟩ => ?_)
  cases c with
  | true => exact ⟨H1, I1, q1⟩
  | false => exact hb wh pins s1 σ H1 Q I1 q1
theorem pt_not (ha : PT X a tA) : PT X (.UnaryOp .Not a pos) (tNot tA) := by
  intro pins s σ H Q I h
  exact isTrue_not (ha pins s σ H (fun c H1 => Q (!c) H1) I h)
noncomputable def tAndV (ta tb : TE) : TE := fun σ H Q => ta σ H fun x H1 => ∃ c, x = .bl c ∧ if c = true then tb σ H1 Q else Q (.bl false) H1
noncomputable def tNotV (ta : TE) : TE := fun σ H Q => ta σ H fun x H1 => ∃ c, x = .bl c ∧ Q (.bl (!c)) H1
theorem pe_one {op} {t : TE} (h : PE X a t) : PE X (.BoolOp op [a] pos) t := fun pins s σ H Q I hw => BoolOp_one (h pins s σ H Q I hw)
theorem pe_and (ha : PE X a ta) (hb : PE X (.BoolOp .And (b :: rest) pos) tb) : PE X (.BoolOp .And (a :: b :: rest) pos) (tAndV ta tb) := by
  intro pins s σ H Q I h
  refine BoolOp_and (thn (ha pins s σ H _ I h) fun v s1 ⟨x, H1, I1, r1, q1⟩ => ?_)
  obtain ⟨c, rfl, q1⟩ := q1
  cases r1
  refine wpAny_truthy_bool ?_
  cases c with
  | true => exact hb pins s1 σ H1 Q I1 q1
  | false => exact ⟨.bl false, H1, I1, rfl, q1⟩
theorem pe_not (ha : PE X a ta) : PE X (.UnaryOp .Not a pos) (tNotV ta) := by
  intro pins s σ H Q I h
  refine UnaryOp_ (thn (ha pins s σ H _ I h) fun v s1 ⟨x, H1, I1, r1, q1⟩ => ?_)
  obtain ⟨c, rfl, q1⟩ := q1
  cases r1
  exact not_of (wpAny_truthy_bool ⟨.bl (!c), H1, I1, rfl, q1⟩)
noncomputable def tIf (t : TT) (ta tb : TE) : TE := fun σ H Q => t σ H fun c H1 => if c = true then ta σ H1 Q else tb σ H1 Q
theorem pe_ifExp {c : Expr} (hc : PT X c tA) (ha : PE X a ta) (hb : PE X b tb) : PE X (.IfExp c a b pos) (tIf tA ta tb) := by
  intro pins s σ H Q I h
  refine wpAny_IfExp (thn (hc pins s σ H _ I h) fun d s1 ⟨H1, I1, q1⟩ => ?_)
  cases d with
  | true => exact ha pins s1 σ H1 Q I1 q1
  | false => exact hb pins s1 σ H1 Q I1 q1
end
end L2
namespace L2
open PySem PySem.Spec PyProof.Rows
noncomputable def SqL (K : PySem.W.Frag) (H : Hp) (a : Addr) (xs : List V) : Prop :=
  Rd H a (.lst xs) ∨
    ∃ (o : Obj) (its : Array Value) (n : Nat), K.lookup a = some o ∧ o.cls = .type "list" ∧ o.dict = none ∧ o.data = .seq its n ∧ its.size ≤ sizeLine ∧ Vals xs its.toList
noncomputable def SqT (K : PySem.W.Frag) (H : Hp) (a : Addr) (xs : List V) : Prop :=
  Rd H a (.tup xs) ∨
    ∃ (o : Obj) (its : Array Value) (n : Nat), K.lookup a = some o ∧ (o.cls = .type "tuple" ∧ o.dict = none) ∧ o.data = .seq its n ∧ its.size ≤ sizeLine ∧ Vals xs its.toList
noncomputable def absV : Value → Option V
  | .none => some .non
  | .bool b => some (.bl b)
  | .int i _ => some (.int i)
  | .str x _ => some (.str x)
  | .bytes b _ => some (.byt b)
  | .float b _ => some (.flt b)
  | .ref a => some (.ref a)
  | .type n => some (.ty n)
  | _ => none
theorem RelV.abs {x : V} {u : Value} (r : RelV x u) : absV u = some x := by
  cases x with
  | non => cases r; rfl
  | bl _ => cases r; rfl
  | int _ => obtain ⟨t, rfl⟩ := r; rfl
  | str _ => obtain ⟨t, rfl⟩ := r; rfl
  | byt _ => obtain ⟨t, rfl⟩ := r; rfl
  | flt _ => obtain ⟨t, rfl⟩ := r; rfl
  | ref _ => cases r; rfl
  | ty _ => cases r; rfl
theorem RelV.inj {x y : V} {u : Value} (r : RelV x u) (q : RelV y u) : x = y := Option.some.inj (r.abs.symm.trans q.abs)
theorem Vals.inj : ∀ {xs ys : List V} {us : List Value}, Vals xs us → Vals ys us → xs = ys
  | _, _, _, .nil, .nil => rfl
  | _, _, _, .cons r t, .cons r' t' => by rw [r.inj r', Vals.inj t t']
section
variable {X : Cx} {pins : List (Addr × Obj)} {σ : St} {H : Hp} {s : Shared} {a : Addr} {xs ys : List V}
theorem Inv.list (I : Inv X pins σ H s) (h : SqL X.K H a xs) : ∃ its : List Value, Vals xs its ∧ PlainL s.heap a its.toArray ∧ xs.length ≤ sizeLine := by
  rcases h with h | ⟨o, its, n, hk, hc, hd, hs, hz, r⟩
  · obtain ⟨z, its, n, r, e⟩ := h.ok I.hok
    exact ⟨its, r, ⟨_, n, e, rfl, rfl, rfl⟩, z⟩
  · refine ⟨its.toList, r, ⟨o, n, I.kIn a o hk, hc, hd, by simpa using hs⟩, ?_⟩
    have e := r.length
    simp only [Array.length_toList] at e
    omega
theorem Inv.tuple (I : Inv X pins σ H s) (h : SqT X.K H a xs) : ∃ its : List Value, Vals xs its ∧ IsTup s.heap a its.toArray ∧ xs.length ≤ sizeLine := by
  rcases h with h | ⟨o, its, n, hk, hc, hs, hz, r⟩
  · obtain ⟨z, its, r, p⟩ := h.ok I.hok
    exact ⟨its, r, p.tup, z⟩
  · refine ⟨its.toList, r, ⟨o, I.kIn a o hk, hc.1, n, by simpa using hs⟩, ?_⟩
    have e := r.length
    simp only [Array.length_toList] at e
    omega
theorem Inv.list_inj (I : Inv X pins σ H s) (h : SqL X.K H a xs) (h' : SqL X.K H a ys) : xs = ys := by
  obtain ⟨its, r, ⟨o, n, e, _, _, d⟩, _⟩ := I.list h
  obtain ⟨its', r', ⟨o', n', e', _, _, d'⟩, _⟩ := I.list h'
  rw [e] at e'; cases e'
  rw [d] at d'
  injection d' with d1 _
  have : its = its' := by simpa using congrArg Array.toList d1
  subst this
  exact r.inj r'
theorem Inv.tuple_inj (I : Inv X pins σ H s) (h : SqT X.K H a xs) (h' : SqT X.K H a ys) : xs = ys := by
  obtain ⟨its, r, ⟨o, e, _, n, d⟩, _⟩ := I.tuple h
  obtain ⟨its', r', ⟨o', e', _, n', d'⟩, _⟩ := I.tuple h'
  rw [e] at e'; cases e'
  rw [d] at d'
  injection d' with d1 _
  have : its = its' := by simpa using congrArg Array.toList d1
  subst this
  exact r.inj r'
end
noncomputable abbrev Cx.wish (X : Cx) (E : Value → Shared → Prop) : Cx := { X with xe := E }
noncomputable abbrev Cx.nox (X : Cx) : Cx := X.wish fun _ _ => False
theorem Cx.Ok.wish {X : Cx} (ok : X.Ok) (E : Value → Shared → Prop) : (X.wish E).Ok :=
  ⟨ok.mod, ok.kind, ok.glob, ok.blt, ok.above, ok.inj, ok.has, ok.cab, ok.hd, ok.frames, ok.stk, ok.exf, ok.bs, ok.bsz, ok.noex, ok.exfs, ok.funs, ok.frf⟩
theorem Cx.Ok.unwish {X : Cx} {E : Value → Shared → Prop} (ok : (X.wish E).Ok) : X.Ok :=
  ⟨ok.mod, ok.kind, ok.glob, ok.blt, ok.above, ok.inj, ok.has, ok.cab, ok.hd, ok.frames, ok.stk, ok.exf, ok.bs, ok.bsz, ok.noex, ok.exfs, ok.funs, ok.frf⟩
section
variable {X : Cx} {pins : List (Addr × Obj)} {σ : St} {H : Hp} {s : Shared} {E : Value → Shared → Prop}
theorem Inv.wish (I : Inv X pins σ H s) (E : Value → Shared → Prop) : Inv (X.wish E) pins σ H s := ⟨I.ok.wish E, I.os, I.bare, I.base, I.loc, I.cell, I.free, I.freeC, I.pin, I.hok, I.len⟩
theorem Inv.unwish (I : Inv (X.wish E) pins σ H s) : Inv X pins σ H s := ⟨I.ok.unwish, I.os, I.bare, I.base, I.loc, I.cell, I.free, I.freeC, I.pin, I.hok, I.len⟩
theorem SP.unwish {D : Ends} {f : Flow} {s' : Shared} (h : SP (X.wish E) pins D f s') : SP X pins D f s' := by
  cases f with
  | next => obtain ⟨σ', H', I, q⟩ := h; exact ⟨σ', H', I.unwish, q⟩
  | brk => obtain ⟨σ', H', I, q⟩ := h; exact ⟨σ', H', I.unwish, q⟩
  | cont => obtain ⟨σ', H', I, q⟩ := h; exact ⟨σ', H', I.unwish, q⟩
  | ret u => obtain ⟨v, σ', H', I, r, q⟩ := h; exact ⟨v, σ', H', I.unwish, r, q⟩
theorem PSs.nox {st : List Stmt} {t : TS} (h : PSs X.nox st t) : PSs X st t := fun pins s σ H D I hw =>
  wpAny_mono (h pins s σ H D (I.wish _) hw) (fun _ _ q => q.unwish) fun _ _ z => False.elim z
end
section
variable {X : Cx} {st : Stmt} {rest : List Stmt} {t u : TS} {e : Expr} {te : TE} {pos : Pos}
noncomputable def tNext : TS := fun D σ H => D.nx σ H
noncomputable def tSeq (t u : TS) : TS := fun D σ H => t { D with nx := u D } σ H
theorem pss_nil : PSs X [] tNext := fun _ _ σ H _ I h => wpAny_execs_nil ⟨σ, H, I, h⟩
theorem pss_cons (h1 : PS X st t) (h2 : PSs X rest u) : PSs X (st :: rest) (tSeq t u) := by
  intro pins s σ H D I h
  refine wpAny_execs_cons (thn (h1 pins s σ H { D with nx := u D } I h) fun f s1 q => ?_)
  cases f with
  | next =>
    obtain ⟨σ', H', I', q⟩ := q
    exact h2 pins s1 σ' H' D I' q
  | ret v => exact q
  | brk => exact q
  | cont => exact q
theorem pss_one (h1 : PS X st t) : PSs X [st] t := by
  intro pins s σ H D I h
  refine wpAny_execs_cons (thn (h1 pins s σ H D I h) fun f s1 q => ?_)
  cases f with
  | next => exact wpAny_execs_nil q
  | ret v => exact q
  | brk => exact q
  | cont => exact q
theorem Inv.quiet {pins : List (Addr × Obj)} {σ : St} {H : Hp} {s : Shared} (I : Inv X pins σ H s) : interactive X.env = false := by simp [interactive, I.ok.kind]
noncomputable def tDrop (te : TE) : TS := fun D σ H => te σ H fun _ H1 => D.nx σ H1
theorem ps_expr (he : PE X e te) (hs : swapsWith e none pos.line X.env = pure false := by rfl) : PS X (.Expr e pos) (tDrop te) := by
  intro pins s σ H D I h
  exact wpAny_Expr_any (thn (he pins s σ H _ I h) fun v s1 ⟨x, H1, I1, r1, q1⟩ => ⟨σ, H1, I1, q1⟩) I.quiet hs
noncomputable def tRet (te : TE) : TS := fun D σ H => te σ H D.rt
theorem ps_ret (he : PE X e te) : PS X (.Return (some e) pos) (tRet te) := by
  intro pins s σ H D I h
  exact wpAny_Return_some (thn (he pins s σ H _ I h) fun v s1 ⟨x, H1, I1, r1, q1⟩ => ⟨x, σ, H1, I1, r1, q1⟩)
noncomputable def tRetN : TS := fun D _ H => D.rt .non H
theorem ps_retN : PS X (.Return none pos) tRetN := fun _ _ σ H _ I h => wpAny_Return_none ⟨.non, σ, H, I, rfl, h⟩
noncomputable def tIfS (c : TT) (t u : TS) : TS := fun D σ H => c σ H fun b H1 => if b = true then t D σ H1 else u D σ H1
theorem ps_if {c : Expr} {a b : List Stmt} {tc : TT} (hc : PT X c tc) (ha : PSs X a t) (hb : PSs X b u) : PS X (.If c a b pos) (tIfS tc t u) := by
  intro pins s σ H D I h
  refine wpAny_If (thn (hc pins s σ H _ I h) fun d s1 ⟨H1, I1, q1⟩ => ?_)
  cases d with
  | true => exact ha pins s1 σ H1 D I1 q1
  | false => exact hb pins s1 σ H1 D I1 q1
end
noncomputable abbrev TG := V → St → Hp → (St → Hp → Prop) → Prop
noncomputable abbrev TGs := List V → St → Hp → (St → Hp → Prop) → Prop
noncomputable def PG (X : Cx) (target : Expr) (t : TG) : Prop :=
  ∀ (pins : List (Addr × Obj)) (s : Shared) (σ : St) (H : Hp) (v : V) (u : Value) (Q : St → Hp → Prop), Inv X pins σ H s → RelV v u → t v σ H Q →
    wpAny (model X.prog X.w) X.A (assign target X.env u) (fun _ s' => ∃ σ' H', Inv X pins σ' H' s' ∧ Q σ' H') X.xe s
noncomputable def PGs (X : Cx) (ts : List Expr) (t : TGs) : Prop :=
  ∀ (pins : List (Addr × Obj)) (s : Shared) (σ : St) (H : Hp) (vs : List V) (us : List Value) (Q : St → Hp → Prop), Inv X pins σ H s → Vals vs us → t vs σ H Q →
    wpAny (model X.prog X.w) X.A (assignInOrder ((assignEach ts X.env).map (·.2)) us) (fun _ s' => ∃ σ' H', Inv X pins σ' H' s' ∧ Q σ' H') X.xe s
noncomputable abbrev TSet := V → V → V → Hp → (Hp → Prop) → Prop
noncomputable abbrev TIp := V → V → Hp → VK → Prop
noncomputable def PIp (X : Cx) (op : Operator) (t : TIp) : Prop :=
  ∀ (pins : List (Addr × Obj)) (s : Shared) (σ : St) (H : Hp) (x y : V) (v u : Value) (Q : VK), Inv X pins σ H s → RelV x v → RelV y u → t x y H Q →
    wpAny (model X.prog X.w) X.A (inplaceOp op v u) (EP X pins σ Q) X.xe s
section
variable {X : Cx} {pos : Pos}
noncomputable def gName (i : Nat) : TG := fun v σ H Q => Q (σ.set i (some v)) H
theorem pg_name {i : Nat} {x : Str} (hN : X.N.Nodup) (hi : X.N[i]? = some x) (hx : Loc X.env.scope x) (hf : X.fn x = true ∨ X.env.scope.names.lookup x = some .local := by first | exact .inl rfl | exact .inr rfl | assumption) : PG X (.Name x pos) (gName i) := by
  intro pins s σ H v u Q I r h
  exact wpAny_assign_Name (aGm I hN hi hx r (fun s' I' => ⟨_, H, I', h⟩) hf)
noncomputable def gNil : TGs := fun vs σ H Q => vs = [] ∧ Q σ H
noncomputable def gCons (t : TG) (u : TGs) : TGs := fun vs σ H Q => ∃ v r, vs = v :: r ∧ t v σ H fun σ' H' => u r σ' H' Q
theorem pgs_nil : PGs X [] gNil := by
  intro pins s σ H vs us Q I r h
  obtain ⟨e, h⟩ := h
  subst e
  cases r
  exact assignInOrder_nil ⟨σ, H, I, h⟩
theorem pgs_cons {e : Expr} {es : List Expr} {t : TG} {u : TGs} (h1 : PG X e t) (h2 : PGs X es u)
    (hs : (assignEach (e :: es) X.env).map (·.2) = assign e X.env :: (assignEach es X.env).map (·.2) := by rfl) : PGs X (e :: es) (gCons t u) := by
  intro pins s σ H vs us Q I r h
  obtain ⟨v, vr, e1, h⟩ := h
  subst e1
  cases r with
  | cons r rr =>
    rw [hs]
    refine assignInOrder_cons (thn (h1 pins s σ H _ _ _ I r h) fun _ s1 ⟨σ1, H1, I1, q1⟩ => ?_)
    exact h2 pins s1 σ1 H1 _ _ Q I1 rr q1
noncomputable def gTup (K : PySem.W.Frag) (n : Nat) (t : TGs) : TG := fun v σ H Q => ∃ a xs, v = .ref a ∧ SqT K H a xs ∧ xs.length = n ∧ t xs σ H Q
theorem pg_tup {es : List Expr} {k : Nat} {t : TGs} {n : Nat} (hc : X.calm = true) (h : PGs X es t)
    (hn : (assignEach es X.env).length = n := by rfl) (hst : (assignEach es X.env).findIdx? (·.1) = none := by rfl) : PG X (.Tuple es k pos) (gTup X.K n t) := by
  intro pins s σ H v u Q I r hw
  obtain ⟨a, xs, e1, hq, hl, hw⟩ := hw
  subst e1
  cases r
  obtain ⟨its, rv, ht, hz⟩ := I.tuple hq
  refine assign_Tuple_tuple (I.ok.hd hc) ht (by simp [hn, ← hl, rv.length]) hst fun h' hx => ?_
  have I1 : Inv X pins σ H { s with heap := h' } := I.kept (t' := s.toks) fun b o e => hx b o (Nat.ne_of_lt (Heap.lt_size e)) e
  exact h pins _ σ H xs _ Q I1 (by simpa using rv) hw
noncomputable def gSub (to ti : TE) (t : TSet) : TG := fun v σ H Q => to σ H fun o H1 => ti σ H1 fun i H2 => t o i v H2 fun H3 => Q σ H3
noncomputable def tAsg (te : TE) (g : TG) : TS := fun D σ H => te σ H fun x H1 => g x σ H1 D.nx
theorem ps_asg {tg e : Expr} {te : TE} {g : TG} (he : PE X e te) (hg : PG X tg g) (hs : swapsWithSole [tg] e pos.line X.env = pure false := by rfl) (hw : swappedStores [tg] e X.env = pure none := by rfl)
    (h1 : (assignEach [tg] X.env).map (·.2) = [assign tg X.env] := by rfl) : PS X (.Assign [tg] e pos) (tAsg te g) := by
  intro pins s σ H D I h
  refine wpAny_Assign_stores (thn (he pins s σ H _ I h) fun v s1 ⟨x, H1, I1, r1, q1⟩ => ?_) hs hw
  rw [h1]
  exact thn (hg pins s1 σ H1 x v _ I1 r1 q1) fun _ s2 q => q
theorem ps_set {i : Nat} {x : Str} {e : Expr} {te : TE} {pos' : Pos} (hN : X.N.Nodup) (hi : X.N[i]? = some x) (hx : Loc X.env.scope x) (he : PE X e te) (hs : swapsWith e (some (.Name x pos')) pos.line X.env = pure false := by rfl) (hf : X.fn x = true ∨ X.env.scope.names.lookup x = some .local := by first | exact .inl rfl | exact .inr rfl | assumption) :
    PS X (.Assign [.Name x pos'] e pos) (tAsg te (gName i)) := by
  intro pins s σ H D I h
  refine wpAny_Assign_Name (thn (he pins s σ H _ I h) fun v s1 ⟨y, H1, I1, r1, q1⟩ => ?_) hs
  exact aGm I1 hN hi hx r1 (fun s2 I2 => ⟨_, H1, I2, q1⟩) hf
noncomputable def tAug (i : Nat) (te : TE) (ti : TIp) : TS := fun D σ H => ∃ x, σ[i]? = some (some x) ∧ te σ H fun y H1 => ti x y H1 fun z H2 => D.nx (σ.set i (some z)) H2
theorem ps_aug {i : Nat} {x : Str} {e : Expr} {te : TE} {op : Operator} {ti : TIp} {pos' : Pos} (hN : X.N.Nodup) (hi : X.N[i]? = some x) (hx : Loc X.env.scope x) (he : PE X e te) (ho : PIp X op ti) (hf : X.fn x = true ∨ X.env.scope.names.lookup x = some .local := by first | exact .inl rfl | exact .inr rfl | assumption) :
    PS X (.AugAssign (.Name x pos') op e pos) (tAug i te ti) := by
  intro pins s σ H D I h
  obtain ⟨v, e1, h⟩ := h
  obtain ⟨m, hn, hl⟩ := I.loc
  have vis : Vis X.env.scope x := by rcases hx with k | k; exact .inl k; exact .inr (.inl k)
  obtain ⟨u, r, l⟩ := hl i x v hi e1 vis
  refine wpAny_AugAssign_Name ?_
  have go : wpAny (model X.prog X.w) X.A (eval e X.env) (fun w s₂ => wpAny (model X.prog X.w) X.A (inplaceOp op u w) (fun r s₃ => wpAny (model X.prog X.w) X.A (storeName X.env x r) (fun _ => SP X pins D .next) X.xe s₃) X.xe s₂) X.xe s := by
    refine thn (he pins s σ H _ I h) fun w s1 ⟨y, H1, I1, r1, q1⟩ => ?_
    refine thn (ho pins s1 σ H1 v y u w _ I1 r r1 q1) fun z s2 ⟨zv, H2, I2, r2, q2⟩ => ?_
    exact aGm I2 hN hi hx r2 (fun s3 I3 => ⟨_, H2, I3, q2⟩) hf
  rcases l with ⟨hk, hm⟩ | ⟨hk, c, hc, hcell⟩
  · exact wpAny_loadName_local I.ok.kind hk hn hm go
  · rcases hk with hk | hk
    · exact wpAny_loadName_cell I.ok.kind hk hc hcell go
    · rcases hx with k | k
      · have : X.env.scope.names.lookup x = some .free := hk
        rw [k] at this; cases this
      · have : X.env.scope.names.lookup x = some .free := hk
        rw [k] at this; cases this
noncomputable def ipI (f : Int → Int → Int) : TIp := fun x y H Q => ∃ i j, x = .int i ∧ y = .int j ∧ Q (.int (f i j)) H
end
section
variable {X : Cx} {pos : Pos}
noncomputable def tWhile (c : TT) (tb : TS) : TS := fun D σ H => ∃ W : Nat → St → Hp → Prop, (∃ m, W m σ H) ∧ ∀ m σ H, W m σ H →
  c σ H fun b H1 => if b = true then ∃ N : St → Hp → Prop, (∀ σ' H', N σ' H' → ∃ m', m' < m ∧ W m' σ' H') ∧ tb { D with nx := N, ct := N, bk := D.nx } σ H1 else D.nx σ H1
theorem ps_while {c : Expr} {body : List Stmt} {tc : TT} {tb : TS} (hp : PassesOwn (model X.prog X.w) X.A X.env X.xe) (hc : PT X c tc) (hb : PSs X body tb) : PS X (.While c body [] pos) (tWhile tc tb) := by
  intro pins s σ H D I h
  obtain ⟨W, ⟨m0, w0⟩, turn⟩ := h
  refine wpAny_While (codeAny_whileLoop (fun n s' => ∃ σ' H', Inv X pins σ' H' s' ∧ W n σ' H') ?_ m0 ⟨σ, H, I, w0⟩)
  rintro n s1 ⟨σ1, H1, I1, w1⟩
  refine wpAny_passesOwn hp (thn (hc pins s1 σ1 H1 _ I1 (turn n σ1 H1 w1)) fun b s2 ⟨H2, I2, q2⟩ => ?_)
  cases b with
  | true =>
    obtain ⟨N, hN, q2⟩ := q2
    rw [if_pos rfl]
    refine wpAny_passesOwn hp (thn (hb pins s2 σ1 H2 _ I2 q2) fun f s3 q3 => ?_)
    cases f with
    | next =>
      obtain ⟨σ3, H3, I3, n3⟩ := q3
      obtain ⟨m', hm, w3⟩ := hN σ3 H3 n3
      exact ⟨m', hm, σ3, H3, I3, w3⟩
    | cont =>
      obtain ⟨σ3, H3, I3, n3⟩ := q3
      obtain ⟨m', hm, w3⟩ := hN σ3 H3 n3
      exact ⟨m', hm, σ3, H3, I3, w3⟩
    | brk => exact q3
    | ret v => exact q3
  | false =>
    rw [if_neg Bool.false_ne_true]
    exact wpAny_execs_nil ⟨σ1, H2, I2, q2⟩
end
structure It where
  go : Nat → Hp → Prop
  yld : Nat → Hp → V → Hp → Prop
  stop : Nat → Hp → Prop
noncomputable def FpOk (X : Cx) (pins : List (Addr × Obj)) (H : Hp) (b : Addr) : Prop :=
  H b = none ∧ b ≠ X.env.locals ∧ b ∉ X.fs ∧ (b ∈ X.ex ∨ X.s₀.heap.objs.size ≤ b) ∧ (∀ x c, X.env.cells.lookup x = some c → c ≠ b) ∧ ∀ p ∈ X.pn ++ pins, p.1 ≠ b
theorem Inv.fpOk {X : Cx} {pins : List (Addr × Obj)} {σ : St} {H H' : Hp} {s : Shared} {b : Addr} (I : Inv X pins σ H s) (hb : s.heap.objs.size ≤ b) (hn : H' b = none) : FpOk X pins H' b := by
  refine ⟨hn, Nat.ne_of_gt (Nat.lt_of_lt_of_le I.lt hb), I.nofs hb, .inr (Nat.le_trans I.sz hb), fun x c e z => ?_, fun p hp z => ?_⟩
  · obtain ⟨v, q⟩ := I.cell x c e
    exact absurd (Nat.lt_of_lt_of_le q.lt (by rw [z]; exact hb)) (Nat.lt_irrefl _)
  · exact absurd (Nat.lt_of_lt_of_le (Heap.lt_size (I.pin p hp).1) (by rw [z]; exact hb)) (Nat.lt_irrefl _)
structure Turn (P : Program) (w : World) (K : PySem.W.Frag) (tg : Expr) (J : It) (fp : List Addr) (it : Addr) (tn : Nat → Heap → Prop) : Prop where
  mem : it ∈ fp
  obj : ∀ i h, tn i h → ∀ b ∈ fp, ∃ o, h.get? b = some o ∧ ∀ v, o.data ≠ .cell v
  keep : ∀ i h h', tn i h → (∀ b ∈ fp, ∀ o, h.get? b = some o → h'.get? b = some o) → tn i h'
  item : ∀ (X : Cx), X.prog = P → X.w = w → X.K = K → X.calm = true → ∀ (i : Nat) (pins : List (Addr × Obj)) (s : Shared) (σ : St) (H : Hp) (E : Value → Shared → Prop), Inv X pins σ H s → (∀ b ∈ fp, FpOk X pins H b) → tn i s.heap → J.go i H →
    wpAny (model P w) X.A (pyNext (.ref it)) (fun r s1 => ∃ u, r = some u ∧
      wpAny (model P w) X.A (letOwnedTupleGo tg (.ref it) u) (fun _ s2 => ∃ x H', Inv X pins σ H' s2 ∧ RelV x u ∧ J.yld i H x H' ∧ tn (i + 1) s2.heap ∧ ∀ b ∈ fp, H' b = none) E s1) E s
  done : ∀ (X : Cx), X.prog = P → X.w = w → X.K = K → X.calm = true → ∀ (i : Nat) (pins : List (Addr × Obj)) (s : Shared) (σ : St) (H : Hp) (E : Value → Shared → Prop), Inv X pins σ H s → (∀ b ∈ fp, FpOk X pins H b) → tn i s.heap → J.stop i H →
    wpAny (model P w) X.A (pyNext (.ref it)) (fun r s1 => r = none ∧ Inv X pins σ H s1) E s
  self : ∀ (A : Around) (i : Nat) (s : Shared) (Q : Value → Shared → Prop) (E : Value → Shared → Prop), tn i s.heap → Q (.ref it) s → wpAny (model P w) A (pyIter (.ref it)) Q E s
noncomputable abbrev TI := St → Hp → (It → Hp → Prop) → Prop
noncomputable def PIE (X : Cx) (pins : List (Addr × Obj)) (σ : St) (tg : Expr) (R : It → Hp → Prop) (itv : Value) (s2 : Shared) : Prop :=
  ∃ (it : Addr) (fp : List Addr) (tn : Nat → Heap → Prop) (J : It) (H' : Hp), itv = .ref it ∧ Inv X pins σ H' s2 ∧ Turn X.prog X.w X.K tg J fp it tn ∧ tn 0 s2.heap ∧ (∀ b ∈ fp, FpOk X pins H' b) ∧ R J H'
noncomputable def PI (X : Cx) (tg iter : Expr) (wi : TI) : Prop :=
  ∀ (pins : List (Addr × Obj)) (s : Shared) (σ : St) (H : Hp) (R : It → Hp → Prop), Inv X pins σ H s → wi σ H R →
    wpAny (model X.prog X.w) X.A (eval iter X.env) (fun v s1 => wpAny (model X.prog X.w) X.A (pyIter v) (PIE X pins σ tg R) X.xe s1) X.xe s
theorem go_of {M : Model} {A : Around} {E : Value → Shared → Prop} {s : Shared} {tg : Expr} {it : Addr} {u : Value} {o : Obj} {n : String} {vs : Array Value} {Q : Unit → Shared → Prop} (ho : s.heap.get? it = some o) (hc : o.cls = .type n) (hd : o.data = .fields vs)
    (hn : ["enumerate", "zip", "dict_itemiterator", "dict_reverseitemiterator", "odict_iterator", "itertools.zip_longest", "itertools.pairwise"].contains n = false) (hQ : Q () s) : wpAny M A (letOwnedTupleGo tg (.ref it) u) Q E s := by
  unfold letOwnedTupleGo
  cases tg <;> first
    | exact wpAny_pure hQ
    | (cases u <;> first
        | exact wpAny_pure hQ
        | (refine wpAny_bind (wpAny_load ho ?_)
           rw [hc, hd]
           show wpAny M A (if (["enumerate", "zip", "dict_itemiterator", "dict_reverseitemiterator", "odict_iterator", "itertools.zip_longest", "itertools.pairwise"].contains n && vs[0]? == some (rawInt _)) = true then _ else _) Q E s
           rw [if_neg (by intro h; rw [hn, Bool.false_and] at h; cases h)]
           exact wpAny_pure hQ))
noncomputable def Itl (K : PySem.W.Frag) (a : Addr) : It :=
  ⟨fun i H => ∃ xs x, SqL K H a xs ∧ xs[i]? = some x, fun i H x H' => H' = H ∧ ∀ xs, SqL K H a xs → xs[i]? = some x, fun i H => ∃ xs, SqL K H a xs ∧ xs.length ≤ i⟩
noncomputable def Itt (K : PySem.W.Frag) (a : Addr) : It :=
  ⟨fun i H => ∃ xs x, SqT K H a xs ∧ xs[i]? = some x, fun i H x H' => H' = H ∧ ∀ xs, SqT K H a xs → xs[i]? = some x, fun i H => ∃ xs, SqT K H a xs ∧ xs.length ≤ i⟩
noncomputable def Itr (lo : Int) (n : Nat) : It := ⟨fun i _ => i < n, fun i H x H' => H' = H ∧ x = .int (lo + i), fun i _ => n ≤ i⟩
theorem turn_list {P : Program} {w : World} {K : PySem.W.Frag} {tg : Expr} (a it : Addr) : Turn P w K tg (Itl K a) [it] it (fun i h => h.IsListIter it a i) where
  mem := by simp
  obj := fun i h st b hb => by
    have e : b = it := by simpa using hb
    subst e
    obtain ⟨o, e, c, d⟩ := st
    exact ⟨o, e, fun v z => by rw [d] at z; cases z⟩
  keep := fun i h h' st k => st.at fun o e => k it (by simp) o e
  item := by
    intro X hP hw hK hc i pins s σ H E I hf st hg
    subst hP hw hK
    obtain ⟨xs, x, hq, hx⟩ := hg
    obtain ⟨its, rv, p, hz⟩ := I.list hq
    obtain ⟨u, hu, ru⟩ := rv.get hx
    obtain ⟨f0, f1, f2, f3, f4, f5⟩ := hf it (by simp)
    refine wpAny_pyNext_list_item st p.isList (x := u) (by simpa using hu) fun h' st' sb => ?_
    have I1 : Inv X pins σ H { s with heap := h' } := I.turned (t' := s.toks) (fun b o hb e => (sb.2 b hb).trans e) f0 f1 f3 f4 f5
    obtain ⟨o, e, c, d⟩ := id st'
    exact ⟨u, rfl, go_of (s := { s with heap := h' }) e c d (by decide) ⟨x, H, I1, ru, ⟨rfl, fun ys hy => by rw [I.list_inj hy hq]; exact hx⟩, st', fun b hb => (hf b hb).1⟩⟩
  done := by
    intro X hP hw hK hc i pins s σ H E I hf st hg
    subst hP hw hK
    obtain ⟨xs, hq, hx⟩ := hg
    obtain ⟨its, rv, p, hz⟩ := I.list hq
    obtain ⟨f0, f1, f2, f3, f4, f5⟩ := hf it (by simp)
    have hl := rv.length
    exact wpAny_pyNext_list_end (I.ok.hd hc) st p.isList (by simp; omega) fun h' eb => ⟨rfl, I.turned (t' := s.toks) (fun b o hb e => eb b o hb e) f0 f1 f3 f4 f5⟩
  self := fun _ _ _ _ _ st h => wpAny_pyIter_listiter st h
theorem turn_tuple {P : Program} {w : World} {K : PySem.W.Frag} {tg : Expr} (a it : Addr) : Turn P w K tg (Itt K a) [it] it (fun i h => h.IsTupleIter it a i) where
  mem := by simp
  obj := fun i h st b hb => by
    have e : b = it := by simpa using hb
    subst e
    obtain ⟨o, e, c, d⟩ := st
    exact ⟨o, e, fun v z => by rw [d] at z; cases z⟩
  keep := fun i h h' st k => st.at fun o e => k it (by simp) o e
  item := by
    intro X hP hw hK hc i pins s σ H E I hf st hg
    subst hP hw hK
    obtain ⟨xs, x, hq, hx⟩ := hg
    obtain ⟨its, rv, p, hz⟩ := I.tuple hq
    obtain ⟨u, hu, ru⟩ := rv.get hx
    obtain ⟨f0, f1, f2, f3, f4, f5⟩ := hf it (by simp)
    refine wpAny_pyNext_tuple_item st (show s.heap.IsTuple a its.toArray from p) (x := u) (by simpa using hu) fun h' st' sb => ?_
    have I1 : Inv X pins σ H { s with heap := h' } := I.turned (t' := s.toks) (fun b o hb e => (sb.2 b hb).trans e) f0 f1 f3 f4 f5
    obtain ⟨o, e, c, d⟩ := id st'
    exact ⟨u, rfl, go_of (s := { s with heap := h' }) e c d (by decide) ⟨x, H, I1, ru, ⟨rfl, fun ys hy => by rw [I.tuple_inj hy hq]; exact hx⟩, st', fun b hb => (hf b hb).1⟩⟩
  done := by
    intro X hP hw hK hc i pins s σ H E I hf st hg
    subst hP hw hK
    obtain ⟨xs, hq, hx⟩ := hg
    obtain ⟨its, rv, p, hz⟩ := I.tuple hq
    obtain ⟨f0, f1, f2, f3, f4, f5⟩ := hf it (by simp)
    have hl := rv.length
    exact wpAny_pyNext_tuple_end (I.ok.hd hc) st (show s.heap.IsTuple a its.toArray from p) (by simp; omega) fun h' eb => ⟨rfl, I.turned (t' := s.toks) (fun b o hb e => eb b o hb e) f0 f1 f3 f4 f5⟩
  self := fun _ _ _ _ _ st h => wpAny_pyIter_tupleiter st h
theorem turn_range {P : Program} {w : World} {K : PySem.W.Frag} {tg : Expr} (it : Addr) (lo : Int) (n : Nat) : Turn P w K tg (Itr lo n) [it] it (fun i h => IsRangeIter h it (lo + (i : Nat) * 1) ((n : Int) - (i : Nat)) 1) where
  mem := by simp
  obj := fun i h st b hb => by
    have e : b = it := by simpa using hb
    subst e
    exact ⟨_, st, fun v z => by
      have z' : Data.fields _ = Data.cell v := z
      cases z'⟩
  keep := fun i h h' st k => k it (by simp) _ st
  item := by
    intro X hP hw hK hc i pins s σ H E I hf st hg
    subst hP hw hK
    obtain ⟨f0, f1, f2, f3, f4, f5⟩ := hf it (by simp)
    have W := Walks.range (prog := X.prog) (w := X.w) (I.ok.hd hc) it lo 1 n
    refine W.item i s _ _ hg st fun v h' tk hv st' kk => ?_
    obtain ⟨t, rfl⟩ := hv
    have I1 : Inv X pins σ H { s with heap := h', toks := tk } := I.turned (fun b o hb e => kk b o (by simpa using hb) e) f0 f1 f3 f4 f5
    refine ⟨_, rfl, go_of (s := { s with heap := h', toks := tk }) (n := "range_iterator") st' rfl rfl (by decide) ⟨.int (lo + i), H, I1, ⟨t, ?_⟩, ⟨rfl, rfl⟩, st', fun b hb => (hf b hb).1⟩⟩
    rw [Int.mul_one]
  done := by
    intro X hP hw hK hc i pins s σ H E I hf st hg
    subst hP hw hK
    obtain ⟨f0, f1, f2, f3, f4, f5⟩ := hf it (by simp)
    exact wpAny_pyNext_range_end (I.ok.hd hc) st (by have : n ≤ i := hg; omega) fun h' eb => ⟨rfl, I.turned (t' := s.toks) (fun b o hb e => eb b o hb e) f0 f1 f3 f4 f5⟩
  self := fun _ _ _ _ _ st h => wpAny_pyIter_rangeiter st h
end L2
namespace L2
open PySem PySem.Spec PyProof.Rows
section
variable {X : Cx} {tg : Expr}
noncomputable def iList (K : PySem.W.Frag) (tl : TE) : TI := fun σ H R => tl σ H fun x H1 => ∃ a, x = .ref a ∧ (∃ xs, SqL K H1 a xs) ∧ R (Itl K a) H1
noncomputable def iTup (K : PySem.W.Frag) (tl : TE) : TI := fun σ H R => tl σ H fun x H1 => ∃ a, x = .ref a ∧ (∃ xs, SqT K H1 a xs) ∧ R (Itt K a) H1
theorem pi_list {l : Expr} {tl : TE} (hl : PE X l tl) : PI X tg l (iList X.K tl) := by
  intro pins s σ H R I h
  refine thn (hl pins s σ H _ I h) fun v s1 ⟨x, H1, I1, r1, q1⟩ => ?_
  obtain ⟨a, e, ⟨xs, hq⟩, q⟩ := q1
  subst e
  cases r1
  obtain ⟨its, rv, p, hz⟩ := I1.list hq
  refine wpAny_pyIter_list p.isList ?_
  refine ⟨s1.heap.objs.size, [s1.heap.objs.size], _, _, H1, rfl, I1.kept (t' := s1.toks) fun b o e => Heap.get?_push_of_some _ e, turn_list a _, ⟨_, Heap.get?_push_size _ rfl, rfl, rfl⟩, fun b hb => ?_, q⟩
  have e : b = s1.heap.objs.size := by simpa using hb
  subst e
  exact I1.fpOk (Nat.le_refl _) (I1.hok.fresh (Nat.le_refl _))
theorem pi_tup {l : Expr} {tl : TE} (hl : PE X l tl) : PI X tg l (iTup X.K tl) := by
  intro pins s σ H R I h
  refine thn (hl pins s σ H _ I h) fun v s1 ⟨x, H1, I1, r1, q1⟩ => ?_
  obtain ⟨a, e, ⟨xs, hq⟩, q⟩ := q1
  subst e
  cases r1
  obtain ⟨its, rv, p, hz⟩ := I1.tuple hq
  refine wpAny_pyIter_tuple (show s1.heap.IsTuple a its.toArray from p) ?_
  refine ⟨s1.heap.objs.size, [s1.heap.objs.size], _, _, H1, rfl, I1.kept (t' := s1.toks) fun b o e => Heap.get?_push_of_some _ e, turn_tuple a _, ⟨_, Heap.get?_push_size _ rfl, rfl, rfl⟩, fun b hb => ?_, q⟩
  have e : b = s1.heap.objs.size := by simpa using hb
  subst e
  exact I1.fpOk (Nat.le_refl _) (I1.hok.fresh (Nat.le_refl _))
theorem range_it {pins : List (Addr × Obj)} {σ : St} {H : Hp} {s : Shared} {R : It → Hp → Prop} {E : Value → Shared → Prop} {lo hi : Int} {t u v : Tok} {tk : Nat} (I : Inv X pins σ H s) (h1 : -(2 ^ 62) ≤ lo) (h2 : lo < 2 ^ 62) (h3 : -(2 ^ 62) ≤ hi) (h4 : hi < 2 ^ 62)
    (q : R (Itr lo (hi - lo).toNat) H) : wpAny (model X.prog X.w) X.A (pyIter (.ref s.heap.objs.size)) (PIE X pins σ tg R) E { s with heap := s.heap.push { cls := .type "range", data := .fields #[.int lo t, .int hi u, .int 1 v] }, toks := tk } := by
  refine wpAny_pyIter_range (IsRange.new ..) (small_one h1 h2 h3 h4) ?_
  have I1 : Inv X pins σ H { s with heap := s.heap.push { cls := .type "range", data := .fields #[.int lo t, .int hi u, .int 1 v] }, toks := tk } := I.kept fun b o e => Heap.get?_push_of_some _ e
  refine ⟨(s.heap.push { cls := .type "range", data := .fields #[.int lo t, .int hi u, .int 1 v] }).objs.size, [(s.heap.push { cls := .type "range", data := .fields #[.int lo t, .int hi u, .int 1 v] }).objs.size], _, _, H, rfl,
    I1.kept (t' := tk) fun b o e => Heap.get?_push_of_some _ e, turn_range _ lo (hi - lo).toNat, ?_, fun b hb => ?_, q⟩
  · have e1 : lo + ((0 : Nat) : Int) * 1 = lo := by simp
    have e2 : (((hi - lo).toNat : Nat) : Int) - ((0 : Nat) : Int) = Builtin.Range.rangeSize lo hi 1 := by rw [rangeSize_one]; split <;> omega
    show IsRangeIter _ _ (lo + ((0 : Nat) : Int) * 1) ((((hi - lo).toNat : Nat) : Int) - ((0 : Nat) : Int)) 1
    rw [e1, e2]
    exact Heap.get?_push_size _ rfl
  · have e : b = (s.heap.push { cls := .type "range", data := .fields #[.int lo t, .int hi u, .int 1 v] }).objs.size := by simpa using hb
    subst e
    exact I1.fpOk (Nat.le_refl _) (I1.hok.fresh (Nat.le_refl _))
noncomputable def iRng1 (ta : TA) : TI := fun σ H R => ta σ H fun vs H1 => ∃ j : Int, vs = [.int j] ∧ -(2 ^ 62) ≤ j ∧ j < 2 ^ 62 ∧ R (Itr 0 j.toNat) H1
theorem pi_range1 {a : Expr} {ta : TA} {p pos : Pos} (hg : Gl X "range") (hm : X.mg "range" = none) (ha : PA X [a] ta) (hs : starEach [a] X.env = [(false, eval a X.env)] := by rfl) : PI X tg (.Call (.Name "range" p) [a] [] pos) (iRng1 ta) := by
  intro pins s σ H R I h
  refine Call_ (ld_blt I hg hm boot_range (PyProof.Rows.callWith_type1 (thn (ha pos pins s σ H _ I h) fun us s1 ⟨vs, H1, I1, r1, q1⟩ => ?_) hs rfl))
  obtain ⟨j, e, q1, q2, q⟩ := q1
  subst e
  cases r1 with
  | cons r rr =>
    cases rr
    obtain ⟨t, rfl⟩ := r
    exact call_range_1 (range_it I1 (by omega) (by omega) q1 q2 (by simpa using q))
noncomputable def tFor (wi : TI) (g : TG) (tb : TS) : TS := fun D σ H => wi σ H fun J H1 => ∃ W : Nat → Nat → St → Hp → Prop, (∃ m, W 0 m σ H1) ∧ ∀ i m σ H, W i m σ H →
  (J.stop i H ∧ D.nx σ H) ∨ (J.go i H ∧ ∃ N : St → Hp → Prop, (∀ σ' H', N σ' H' → ∃ m', m' < m ∧ W (i + 1) m' σ' H') ∧ ∀ x H', J.yld i H x H' → g x σ H' fun σ2 H2 => tb { D with nx := N, ct := N, bk := D.nx } σ2 H2)
noncomputable def pinsAt (fp : List Addr) (h : Heap) : List (Addr × Obj) := fp.filterMap fun b => (h.get? b).map fun o => (b, o)
theorem aFy {fp : List Addr} {h : Heap} {b : Addr} {o : Obj} (hb : b ∈ fp) (e : h.get? b = some o) : (b, o) ∈ pinsAt fp h := List.mem_filterMap.mpr ⟨b, hb, by rw [e]; rfl⟩
theorem of_pinsAt {fp : List Addr} {h : Heap} {p : Addr × Obj} (hp : p ∈ pinsAt fp h) : p.1 ∈ fp ∧ h.get? p.1 = some p.2 := by
  obtain ⟨b, hb, e⟩ := List.mem_filterMap.mp hp
  cases q : h.get? b with
  | none => rw [q] at e; cases e
  | some o =>
    rw [q] at e
    have e' : (b, o) = p := Option.some.inj e
    subst e'
    exact ⟨hb, q⟩
theorem Inv.pinned {pins : List (Addr × Obj)} {σ : St} {H : Hp} {s : Shared} {fp : List Addr} (I : Inv X pins σ H s) (hf : ∀ b ∈ fp, FpOk X pins H b) (ho : ∀ b ∈ fp, ∃ o, s.heap.get? b = some o ∧ ∀ v, o.data ≠ .cell v) : Inv X (pins ++ pinsAt fp s.heap) σ H s :=
  I.pins_of fun p hp => (List.mem_append.mp hp).elim (fun z => I.pin p (List.mem_append_right _ z)) fun z => by
    obtain ⟨hb, e⟩ := of_pinsAt z
    obtain ⟨f0, f1, f2, _⟩ := hf p.1 hb
    obtain ⟨o, e', d⟩ := ho p.1 hb
    rw [e] at e'; cases e'
    exact ⟨e, f0, f1, f2, d⟩
theorem Inv.unpinned {pins pl : List (Addr × Obj)} {σ : St} {H : Hp} {s : Shared} (I : Inv X (pins ++ pl) σ H s) : Inv X pins σ H s := I.pins_of fun p hp => I.pin p (List.mem_append_right _ (List.mem_append_left _ hp))
theorem ps_for {iter : Expr} {body : List Stmt} {wi : TI} {g : TG} {tb : TS} {pos : Pos} (hp : PassesOwn (model X.prog X.w) X.A X.env X.xe) (hc : X.calm = true) (hi : PI X tg iter wi) (hg : PG X tg g) (hb : PSs X body tb)
    (hs : ∀ x, foldedSetIterable iter X.env x = pure x := by intro _; rfl) : PS X (.For tg iter body [] pos) (tFor wi g tb) := by
  intro pins s σ H D I h
  refine wpAny_For (thn (hi pins s σ H _ I h) fun v s1 h1 => thn h1 fun itv s2 h2 => ?_) hs
  obtain ⟨it, fp, tn, J, H2, e, I2, T, st2, f2, W, ⟨m0, w0⟩, turn⟩ := h2
  subst e
  -- what stays true of the iterator's objects through the loop
  have stat : ∀ {H' : Hp}, (∀ b ∈ fp, H' b = none) → ∀ b ∈ fp, FpOk X pins H' b := fun hn b hb => ⟨hn b hb, (f2 b hb).2⟩
  refine codeAny_forLoop_any (fun n s' => ∃ i σ' H', Inv X pins σ' H' s' ∧ tn i s'.heap ∧ (∀ b ∈ fp, H' b = none) ∧ W i n σ' H') ?_ m0 ⟨0, σ, H2, I2, st2, fun b hb => (f2 b hb).1, w0⟩
  rintro n s3 ⟨i, σ3, H3, I3, st3, fr3, w3⟩
  rcases turn i n σ3 H3 w3 with ⟨stop, qn⟩ | ⟨go, N, hN, step⟩
  · refine wpAny_passesOwn hp (thn (T.done X rfl rfl rfl hc i pins s3 σ3 H3 X.xe I3 (stat fr3) st3 stop) fun r s4 ⟨hr, I4⟩ => ?_)
    subst hr
    exact wpAny_execs_nil ⟨σ3, H3, I4, qn⟩
  · refine wpAny_passesOwn hp (thn (T.item X rfl rfl rfl hc i pins s3 σ3 H3 X.xe I3 (stat fr3) st3 go) fun r s4 ⟨u, hr, h4⟩ => ?_)
    subst hr
    refine wpAny_passesOwn hp (thn h4 fun _ s5 ⟨x, H5, I5, r5, y5, st5, fr5⟩ => ?_)
    have I5' := I5.pinned (stat fr5) (T.obj _ _ st5)
    refine wpAny_passesOwn hp (thn (hg _ s5 σ3 H5 x u _ I5' r5 (step x H5 y5)) fun _ s6 ⟨σ6, H6, I6, q6⟩ => ?_)
    refine wpAny_passesOwn hp (thn (hb _ s6 σ6 H6 _ I6 q6) fun f s7 q7 => ?_)
    have again : ∀ {σ7 : St} {H7 : Hp}, Inv X (pins ++ pinsAt fp s5.heap) σ7 H7 s7 → N σ7 H7 → ∃ m, m < n ∧ ∃ i σ' H', Inv X pins σ' H' s7 ∧ tn i s7.heap ∧ (∀ b ∈ fp, H' b = none) ∧ W i m σ' H' := fun {σ7 H7} I7 n7 => by
      obtain ⟨m', hm, w7⟩ := hN σ7 H7 n7
      refine ⟨m', hm, i + 1, σ7, H7, I7.unpinned, T.keep _ _ _ st5 fun b hb o e => (I7.pin (b, o) (List.mem_append_right _ (List.mem_append_right _ (aFy hb e)))).1, fun b hb => ?_, w7⟩
      obtain ⟨o, e, d⟩ := T.obj _ _ st5 b hb
      exact (I7.pin (b, o) (List.mem_append_right _ (List.mem_append_right _ (aFy hb e)))).2.1
    cases f with
    | next => obtain ⟨σ7, H7, I7, n7⟩ := q7; exact again I7 n7
    | cont => obtain ⟨σ7, H7, I7, n7⟩ := q7; exact again I7 n7
    | brk => obtain ⟨σ7, H7, I7, q7⟩ := q7; exact ⟨σ7, H7, I7.unpinned, q7⟩
    | ret v => obtain ⟨x7, σ7, H7, I7, r7, q7⟩ := q7; exact ⟨x7, σ7, H7, I7.unpinned, r7, q7⟩
end
end L2
namespace L2
open PySem PySem.Spec PyProof.Rows
noncomputable abbrev R2 := V → V → Hp → VK → Prop
noncomputable def OpR (X : Cx) (f : Value → Value → Sem Value) (r : R2) : Prop :=
  ∀ (pins : List (Addr × Obj)) (s : Shared) (σ : St) (H : Hp) (x y : V) (v u : Value) (Q : VK), Inv X pins σ H s → RelV x v → RelV y u → r x y H Q →
    wpAny (model X.prog X.w) X.A (f v u) (EP X pins σ Q) X.xe s
noncomputable def UnR (X : Cx) (f : Value → Sem Value) (r : V → Hp → VK → Prop) : Prop :=
  ∀ (pins : List (Addr × Obj)) (s : Shared) (σ : St) (H : Hp) (x : V) (v : Value) (Q : VK), Inv X pins σ H s → RelV x v → r x H Q →
    wpAny (model X.prog X.w) X.A (f v) (EP X pins σ Q) X.xe s
noncomputable def CallR (X : Cx) (f : Value) (r : List V → Hp → VK → Prop) : Prop :=
  ∀ (pins : List (Addr × Obj)) (s : Shared) (σ : St) (H : Hp) (xs : List V) (us : List Value) (Q : VK), Inv X pins σ H s → Vals xs us → r xs H Q →
    wpAny (model X.prog X.w) X.A (call f us) (EP X pins σ Q) X.xe s
noncomputable def TruR (X : Cx) (r : V → Hp → (Bool → Hp → Prop) → Prop) : Prop :=
  ∀ (pins : List (Addr × Obj)) (s : Shared) (σ : St) (H : Hp) (x : V) (v : Value) (Q : Bool → Hp → Prop), Inv X pins σ H s → RelV x v → r x H Q →
    wpAny (model X.prog X.w) X.A (truthy v) (TP X pins σ Q) X.xe s
noncomputable def tOp (r : R2) (ta tb : TE) : TE := fun σ H Q => ta σ H fun x H1 => tb σ H1 fun y H2 => r x y H2 Q
noncomputable def tUn (r : V → Hp → VK → Prop) (ta : TE) : TE := fun σ H Q => ta σ H fun x H1 => r x H1 Q
noncomputable def rI (C : Int → Int → Prop) (g : Int → Int → V) : R2 := fun x y H Q => ∃ i j, x = .int i ∧ y = .int j ∧ C i j ∧ Q (g i j) H
noncomputable def rI0 (g : Int → Int → V) : R2 := fun x y H Q => ∃ i j, x = .int i ∧ y = .int j ∧ Q (g i j) H
noncomputable def rU (g : Int → V) : V → Hp → VK → Prop := fun x H Q => ∃ i, x = .int i ∧ Q (g i) H
section
variable {X : Cx} {a b c : Expr} {ta tb tc : TE} {pos : Pos}
theorem binT (ha : PE X a ta) (hb : PE X b tb) {pins : List (Addr × Obj)} {s : Shared} {σ : St} {H : Hp} {R : V → V → Hp → Prop} (I : Inv X pins σ H s)
    (h : ta σ H fun x H1 => tb σ H1 fun y H2 => R x y H2) {Q : Value → Shared → Prop} {f : Value → Value → Sem Value}
    (hf : ∀ v u s2 x y H2, Inv X pins σ H2 s2 → RelV x v → RelV y u → R x y H2 → wpAny (model X.prog X.w) X.A (f v u) Q X.xe s2) :
    wpAny (model X.prog X.w) X.A (eval a X.env) (fun v s₁ => wpAny (model X.prog X.w) X.A (eval b X.env) (fun u s₂ => wpAny (model X.prog X.w) X.A (f v u) Q X.xe s₂) X.xe s₁) X.xe s := by
  refine thn (ha pins s σ H _ I h) fun v s1 ⟨x, H1, I1, r1, q1⟩ => ?_
  refine thn (hb pins s1 σ H1 _ I1 q1) fun u s2 ⟨y, H2, I2, r2, q2⟩ => ?_
  exact hf v u s2 x y H2 I2 r1 r2 q2
theorem pe_op {op : Operator} {r : R2} (ho : OpR X (binaryOp op) r) (ha : PE X a ta) (hb : PE X b tb) : PE X (.BinOp a op b pos) (tOp r ta tb) := by
  intro pins s σ H Q I h
  exact wpAny_BinOp (binT ha hb I h fun v u s2 x y H2 I2 rx ry q => ho pins s2 σ H2 x y v u Q I2 rx ry q)
theorem pe_un {op : UnaryOp} {r : V → Hp → VK → Prop} (ho : UnR X (unaryOp op) r) (ha : PE X a ta) : PE X (.UnaryOp op a pos) (tUn r ta) := by
  intro pins s σ H Q I h
  exact UnaryOp_ (thn (ha pins s σ H _ I h) fun v s1 ⟨x, H1, I1, r1, q1⟩ => ho pins s1 σ H1 x v Q I1 r1 q1)
theorem opI {f : Value → Value → Sem Value} {C : Int → Int → Prop} {g : Int → Int → Int}
    (rule : ∀ (i j : Int) (t u : Tok) (s : Shared) (Q : Value → Shared → Prop) (E : Value → Shared → Prop), C i j → Q (.int (g i j) s.toks) { s with toks := s.toks + 1 } → wpAny (model X.prog X.w) X.A (f (.int i t) (.int j u)) Q E s) :
    OpR X f (rI C fun i j => .int (g i j)) := by
  intro pins s σ H x y v u Q I rx ry h
  obtain ⟨i, j, rfl, rfl, hc, q⟩ := h
  obtain ⟨t, rfl⟩ := rx
  obtain ⟨t', rfl⟩ := ry
  exact rule i j t t' s _ _ hc ⟨.int (g i j), H, I.tok _, ⟨_, rfl⟩, q⟩
theorem opI0 {f : Value → Value → Sem Value} {g : Int → Int → Int}
    (rule : ∀ (i j : Int) (t u : Tok) (s : Shared) (Q : Value → Shared → Prop) (E : Value → Shared → Prop), Q (.int (g i j) s.toks) { s with toks := s.toks + 1 } → wpAny (model X.prog X.w) X.A (f (.int i t) (.int j u)) Q E s) :
    OpR X f (rI0 fun i j => .int (g i j)) := by
  intro pins s σ H x y v u Q I rx ry h
  obtain ⟨i, j, rfl, rfl, q⟩ := h
  obtain ⟨t, rfl⟩ := rx
  obtain ⟨t', rfl⟩ := ry
  exact rule i j t t' s _ _ ⟨.int (g i j), H, I.tok _, ⟨_, rfl⟩, q⟩
theorem opB0 {f : Value → Value → Sem Value} {g : Int → Int → Bool}
    (rule : ∀ (i j : Int) (t u : Tok) (s : Shared) (Q : Value → Shared → Prop) (E : Value → Shared → Prop), Q (.bool (g i j)) s → wpAny (model X.prog X.w) X.A (f (.int i t) (.int j u)) Q E s) :
    OpR X f (rI0 fun i j => .bl (g i j)) := by
  intro pins s σ H x y v u Q I rx ry h
  obtain ⟨i, j, rfl, rfl, q⟩ := h
  obtain ⟨t, rfl⟩ := rx
  obtain ⟨t', rfl⟩ := ry
  exact rule i j t t' s _ _ ⟨.bl (g i j), H, I, rfl, q⟩
noncomputable def CDiv (i j : Int) : Prop := 0 < j ∧ j < 1073741824
noncomputable def CPow (i j : Int) : Prop := 0 ≤ j ∧ j ≤ 1000000 ∧ i.natAbs < 2 ^ 64
noncomputable def CMul (i j : Int) : Prop := (-(2 ^ 64) < i ∧ i < 2 ^ 64) ∨ (-(2 ^ 64) < j ∧ j < 2 ^ 64)
theorem CMul.ok {i j : Int} (h : CMul i j) : IntMulOk i j := by
  rcases h with ⟨h1, h2⟩ | ⟨h1, h2⟩
  · exact .of_left (intBits_le_64 h1 h2)
  · exact .of_right (intBits_le_64 h1 h2)
theorem two_pow_nn (k : Nat) : (0 : Int) ≤ 2 ^ k := by
  rw [two_pow_cast]
  exact Int.natCast_nonneg _
theorem op_add : OpR X (binaryOp .Add) (rI0 fun i j => .int (i + j)) := opI0 fun _ _ _ _ _ _ _ q => add_int q
theorem op_sub : OpR X (binaryOp .Sub) (rI0 fun i j => .int (i - j)) := opI0 fun _ _ _ _ _ _ _ q => sub_int q
theorem op_mul : OpR X (binaryOp .Mult) (rI CMul fun i j => .int (i * j)) := opI fun _ _ _ _ _ _ _ hc q => mul_int q hc.ok
theorem op_fdiv : OpR X (binaryOp .FloorDiv) (rI CDiv fun i j => .int (i / j)) := opI fun i j _ _ _ _ _ hc q => by
  have h1 : (0 : Int) < j := hc.1
  have h2 : j < 1073741824 := hc.2
  exact floordiv_int (by omega) (by rw [Int.fdiv_eq_ediv_of_nonneg i (by omega)]; exact q) (.inl (PyProof.noPylong_small (by omega)))
theorem op_mod : OpR X (binaryOp .Mod) (rI (fun _ j => 0 < j) fun i j => .int (i % j)) := opI fun i j _ _ _ _ _ hc q => by
  have h1 : (0 : Int) < j := hc
  exact mod_int' (by omega) (by rw [Int.fmod_eq_emod_of_nonneg i (by omega)]; exact q)
theorem op_shl : OpR X (binaryOp .LShift) (rI CPow fun i j => .int (i * 2 ^ j.toNat)) := opI fun _ _ _ _ _ _ _ hc q => lshift_int_small hc.1 hc.2.1 hc.2.2 q
theorem op_shr : OpR X (binaryOp .RShift) (rI (fun _ j => 0 ≤ j) fun i j => .int (i / 2 ^ j.toNat)) := opI fun i j _ _ _ _ _ hc q =>
  rshift_int hc (by rw [Int.fdiv_eq_ediv_of_nonneg i (two_pow_nn _)]; exact q)
theorem op_and : OpR X (binaryOp .BitAnd) (rI0 fun i j => .int (Builtin.bitAnd i j)) := opI0 fun _ _ _ _ _ _ _ q => and_int q
theorem op_or : OpR X (binaryOp .BitOr) (rI0 fun i j => .int (Builtin.bitOr i j)) := opI0 fun _ _ _ _ _ _ _ q => or_int q
theorem unI {f : Value → Sem Value} {g : Int → Int}
    (rule : ∀ (i : Int) (t : Tok) (s : Shared) (Q : Value → Shared → Prop) (E : Value → Shared → Prop), Q (.int (g i) s.toks) { s with toks := s.toks + 1 } → wpAny (model X.prog X.w) X.A (f (.int i t)) Q E s) :
    UnR X f (rU fun i => .int (g i)) := by
  intro pins s σ H x v Q I rx h
  obtain ⟨i, rfl, q⟩ := h
  obtain ⟨t, rfl⟩ := rx
  exact rule i t s _ _ ⟨.int (g i), H, I.tok _, ⟨_, rfl⟩, q⟩
theorem un_neg : UnR X (unaryOp .USub) (rU fun i => .int (-i)) := unI fun _ _ _ _ _ q => neg_int q
theorem un_inv : UnR X (unaryOp .Invert) (rU fun i => .int (Builtin.bitNot i)) := unI fun _ _ _ _ _ q => invert_int q
end
noncomputable def scal : V → V → Bool
  | .non, .non => true | .non, .int _ => true | .int _, .non => true | .non, .bl _ => true | .bl _, .non => true | .non, .str _ => true | .str _, .non => true
  | .int _, .int _ => true | .bl _, .bl _ => true | .str _, .str _ => true | .byt _, .byt _ => true
  | .int _, .str _ => true | .str _, .int _ => true | .bl _, .str _ => true | .str _, .bl _ => true
  | _, _ => false
noncomputable def rEq : R2 := fun x y H Q => scal x y = true ∧ Q (.bl (decide (x = y))) H
noncomputable def rNe : R2 := fun x y H Q => scal x y = true ∧ Q (.bl (!decide (x = y))) H
theorem dec_int {i j : Int} : decide (V.int i = V.int j) = (i == j) := by
  rw [Bool.eq_iff_iff]
  simp
theorem dec_bl {i j : Bool} : decide (V.bl i = V.bl j) = (i == j) := by
  rw [Bool.eq_iff_iff]
  simp
theorem dec_str {i j : Str} : decide (V.str i = V.str j) = (i == j) := by
  rw [Bool.eq_iff_iff]
  simp
theorem dec_byt {i j : Array UInt8} : decide (V.byt i = V.byt j) = (i.toList == j.toList) := by
  rw [Bool.eq_iff_iff]
  cases i
  cases j
  simp
section
variable {X : Cx} {a b c : Expr} {ta tb tc : TE} {pos : Pos}
theorem aBl {pins : List (Addr × Obj)} {σ : St} {H : Hp} {s : Shared} {Q : VK} {k k' : Bool} (I : Inv X pins σ H s) (q : Q (.bl k) H) (e : k = k') : EP X pins σ Q (.bool k') s := by
  subst e
  exact ⟨.bl k, H, I, rfl, q⟩
theorem op_eq : OpR X (compareOp .Eq) rEq := by
  intro pins s σ H x y v u Q I rx ry h
  obtain ⟨hs, q⟩ := h
  cases x with
  | non =>
    cases rx
    cases y with
    | non => cases ry; exact PySem.EqNone.eq_none_none (aBl I q (by simp))
    | bl j => cases ry; exact PySem.EqNone.eq_none_bool (aBl I q (by simp))
    | int j => obtain ⟨t', rfl⟩ := ry; exact PySem.EqNone.eq_none_int (aBl I q (by simp))
    | str j => obtain ⟨t', rfl⟩ := ry; exact PySem.EqNone.eq_none_str (aBl I q (by simp))
    | _ => exact absurd (show false = true from hs) Bool.false_ne_true
  | bl i =>
    cases rx
    cases y with
    | non => cases ry; exact PySem.EqNone.eq_bool_none (aBl I q (by simp))
    | bl j => cases ry; exact eq_bool (aBl I q dec_bl)
    | str j => obtain ⟨t', rfl⟩ := ry; exact PySem.EqMixed.eq_bool_str (aBl I q (by simp))
    | _ => exact absurd (show false = true from hs) Bool.false_ne_true
  | int i =>
    obtain ⟨t, rfl⟩ := rx
    cases y with
    | non => cases ry; exact PySem.EqNone.eq_int_none (aBl I q (by simp))
    | int j => obtain ⟨t', rfl⟩ := ry; exact eq_int (aBl I q dec_int)
    | str j => obtain ⟨t', rfl⟩ := ry; exact PySem.EqMixed.eq_int_str (aBl I q (by simp))
    | _ => exact absurd (show false = true from hs) Bool.false_ne_true
  | str i =>
    obtain ⟨t, rfl⟩ := rx
    cases y with
    | non => cases ry; exact PySem.EqNone.eq_str_none (aBl I q (by simp))
    | bl j => cases ry; exact PySem.EqMixed.eq_str_bool (aBl I q (by simp))
    | int j => obtain ⟨t', rfl⟩ := ry; exact PySem.EqMixed.eq_str_int (aBl I q (by simp))
    | str j => obtain ⟨t', rfl⟩ := ry; exact eq_str (aBl I q dec_str)
    | _ => exact absurd (show false = true from hs) Bool.false_ne_true
  | byt i =>
    obtain ⟨t, rfl⟩ := rx
    cases y with
    | byt j => obtain ⟨t', rfl⟩ := ry; exact PySem.W.eq_bytes (aBl I q dec_byt)
    | _ => exact absurd (show false = true from hs) Bool.false_ne_true
  | _ => cases y <;> exact absurd (show false = true from hs) Bool.false_ne_true
theorem op_ne : OpR X (compareOp .NotEq) rNe := by
  intro pins s σ H x y v u Q I rx ry h
  obtain ⟨hs, q⟩ := h
  cases x with
  | non =>
    cases rx
    cases y with
    | non => cases ry; exact PySem.EqNone.ne_none_none (aBl I q (by simp))
    | bl j => cases ry; exact PySem.EqNone.ne_none_bool (aBl I q (by simp))
    | int j => obtain ⟨t', rfl⟩ := ry; exact PySem.EqNone.ne_none_int (aBl I q (by simp))
    | str j => obtain ⟨t', rfl⟩ := ry; exact PySem.EqNone.ne_none_str (aBl I q (by simp))
    | _ => exact absurd (show false = true from hs) Bool.false_ne_true
  | bl i =>
    cases rx
    cases y with
    | non => cases ry; exact PySem.EqNone.ne_bool_none (aBl I q (by simp))
    | bl j => cases ry; exact ne_bool (aBl I q (congrArg not dec_bl))
    | str j => obtain ⟨t', rfl⟩ := ry; exact PySem.EqMixed.ne_bool_str (aBl I q (by simp))
    | _ => exact absurd (show false = true from hs) Bool.false_ne_true
  | int i =>
    obtain ⟨t, rfl⟩ := rx
    cases y with
    | non => cases ry; exact PySem.EqNone.ne_int_none (aBl I q (by simp))
    | int j => obtain ⟨t', rfl⟩ := ry; exact ne_int (aBl I q (congrArg not dec_int))
    | str j => obtain ⟨t', rfl⟩ := ry; exact PySem.EqMixed.ne_int_str (aBl I q (by simp))
    | _ => exact absurd (show false = true from hs) Bool.false_ne_true
  | str i =>
    obtain ⟨t, rfl⟩ := rx
    cases y with
    | non => cases ry; exact PySem.EqNone.ne_str_none (aBl I q (by simp))
    | bl j => cases ry; exact PySem.EqMixed.ne_str_bool (aBl I q (by simp))
    | int j => obtain ⟨t', rfl⟩ := ry; exact PySem.EqMixed.ne_str_int (aBl I q (by simp))
    | str j => obtain ⟨t', rfl⟩ := ry; exact ne_str (aBl I q (congrArg not dec_str))
    | _ => exact absurd (show false = true from hs) Bool.false_ne_true
  | byt i =>
    obtain ⟨t, rfl⟩ := rx
    cases y with
    | byt j => obtain ⟨t', rfl⟩ := ry; exact PySem.W.ne_bytes (aBl I q (congrArg not dec_byt))
    | _ => exact absurd (show false = true from hs) Bool.false_ne_true
  | _ => cases y <;> exact absurd (show false = true from hs) Bool.false_ne_true
theorem op_lt : OpR X (compareOp .Lt) (rI0 fun i j => .bl (decide (i < j))) := opB0 fun _ _ _ _ _ _ _ q => lt_int q
theorem op_le : OpR X (compareOp .LtE) (rI0 fun i j => .bl (decide (i ≤ j))) := opB0 fun _ _ _ _ _ _ _ q => le_int q
theorem op_gt : OpR X (compareOp .Gt) (rI0 fun i j => .bl (decide (j < i))) := opB0 fun _ _ _ _ _ _ _ q => gt_int q
theorem op_ge : OpR X (compareOp .GtE) (rI0 fun i j => .bl (decide (j ≤ i))) := opB0 fun _ _ _ _ _ _ _ q => ge_int q
theorem op_isN : OpR X (compareOp .Is) (fun x y H Q => y = .non ∧ Q (.bl (decide (x = .non))) H) := by
  intro pins s σ H x y v u Q I rx ry h
  obtain ⟨rfl, q⟩ := h
  cases ry
  refine is_none_gen (aBl I q ?_)
  cases x <;> first
    | (cases rx; rfl)
    | (obtain ⟨t, rfl⟩ := rx; rfl)
theorem op_notN : OpR X (compareOp .IsNot) (fun x y H Q => y = .non ∧ Q (.bl (!decide (x = .non))) H) := by
  intro pins s σ H x y v u Q I rx ry h
  obtain ⟨rfl, q⟩ := h
  cases ry
  refine isnot_none_gen (aBl I q ?_)
  cases x <;> first
    | (cases rx; rfl)
    | (obtain ⟨t, rfl⟩ := rx; rfl)
theorem OpR.or {f : Value → Value → Sem Value} {r r' : R2} (h : OpR X f r) (h' : OpR X f r') : OpR X f (fun x y H Q => r x y H Q ∨ r' x y H Q) := by
  intro pins s σ H x y v u Q I rx ry q
  rcases q with q | q
  · exact h pins s σ H x y v u Q I rx ry q
  · exact h' pins s σ H x y v u Q I rx ry q
theorem aAj (b : Expr) {op : CmpOp} (h : op ≠ .In := by decide) (h2 : op ≠ .NotIn := by decide) : behindInMarks op b = false := by
  have e1 : (op == CmpOp.In) = false := by cases op <;> first | rfl | exact absurd rfl h
  have e2 : (op == CmpOp.NotIn) = false := by cases op <;> first | rfl | exact absurd rfl h2
  cases b <;> simp [behindInMarks, e1, e2]
theorem pe_cmpR {op : CmpOp} {r : R2} (ho : OpR X (compareOp op) r) (ha : PE X a ta) (hb : PE X b tb) (hm : behindInMarks op b = false) : PE X (.Compare a [op] [b] pos) (tOp r ta tb) := by
  intro pins s σ H Q I h
  exact wpAny_Compare1 (binT ha hb I h fun v u s2 x y H2 I2 rx ry q => ho pins s2 σ H2 x y v u Q I2 rx ry q) hm
noncomputable def tTest (t : TE) : TT := fun σ H Q => t σ H fun x H' => ∃ k, x = .bl k ∧ Q k H'
theorem pt_cmpR {op : CmpOp} {r : R2} (ho : OpR X (compareOp op) r) (ha : PE X a ta) (hb : PE X b tb) (hm : behindInMarks op b = false) : PT X (.Compare a [op] [b] pos) (tTest (tOp r ta tb)) := by
  intro pins s σ H Q I h
  refine wpAny_isTrue_Compare1 (thn (ha pins s σ H _ I h) fun v s1 ⟨x, H1, I1, r1, q1⟩ => thn (hb pins s1 σ H1 _ I1 q1) fun u s2 ⟨y, H2, I2, r2, q2⟩ =>
    thn (ho pins s2 σ H2 x y v u _ I2 r1 r2 q2) fun c s3 ⟨z, H3, I3, r3, k, e, q3⟩ => ?_) hm
  subst e
  cases r3
  exact wpAny_truthy_bool ⟨H3, I3, q3⟩
noncomputable def tChain (r r' : R2) (ta tb tc : TE) : TE := fun σ H Q => ta σ H fun x H1 => tb σ H1 fun y H2 => r x y H2 fun z H3 => ∃ k, z = .bl k ∧
  (if k = true then tc σ H3 fun w' H4 => r' y w' H4 Q else Q (.bl false) H3)
theorem pe_chain {op op' : CmpOp} {r r' : R2} (ho : OpR X (compareOp op) r) (ho' : OpR X (compareOp op') r') (ha : PE X a ta) (hb : PE X b tb) (hc : PE X c tc)
    (hm : lastMarks [op, op'] [b, c] = false := by with_unfolding_all rfl) : PE X (.Compare a [op, op'] [b, c] pos) (tChain r r' ta tb tc) := by
  intro pins s σ H Q I h
  refine Compare_chain (thn (ha pins s σ H _ I h) fun v s1 ⟨x, H1, I1, r1, q1⟩ => chain_link (thn (hb pins s1 σ H1 _ I1 q1) fun u s2 ⟨y, H2, I2, r2, q2⟩ =>
    thn (ho pins s2 σ H2 x y v u _ I2 r1 r2 q2) fun d s3 ⟨z, H3, I3, r3, k, e, q3⟩ => ?_)) hm
  subst e
  cases r3
  refine wpAny_truthy_bool ?_
  cases k with
  | false => exact ite_ff ⟨.bl false, H3, I3, rfl, q3⟩
  | true => exact ite_tt (chain_last (thn (hc pins s3 σ H3 _ I3 q3) fun w' s4 ⟨z', H4, I4, r4, q4⟩ => ho' pins s4 σ H4 y z' u w' Q I4 r2 r4 q4))
noncomputable def TruV (K : PySem.W.Frag) (x : V) (H : Hp) (k : Bool) : Prop :=
  match x with
  | .non => k = false
  | .bl b => k = b
  | .int i => k = (i != 0)
  | .str y => y.length ≤ sizeLine ∧ k = ((y.length : Int) != 0)
  | .byt y => y.size ≤ sizeLine ∧ k = ((y.size : Int) != 0)
  | .ref p => (∃ xs, SqL K H p xs ∧ k = !xs.isEmpty) ∨ (∃ xs, SqT K H p xs ∧ k = !xs.isEmpty) ∨ ∃ kvs, H p = some (.dK kvs) ∧ k = !kvs.isEmpty
  | _ => False
theorem isEmpty_kv {κ : Type} {kvs : List (κ × V)} {vs : List (κ × Value)} (r : KV kvs vs) : (!vs.isEmpty) = !kvs.isEmpty := by
  cases r <;> rfl
theorem isEmpty_of {xs : List V} {its : List Value} (r : Vals xs its) : (!its.toArray.isEmpty) = !xs.isEmpty := by
  cases r <;> simp
theorem line63 : (sizeLine : Nat) < 2 ^ 63 := by rw [sizeLine_eq]; decide
theorem tru_ok : TruR X (fun x H Q => ∃ k, TruV X.K x H k ∧ Q k H) := by
  intro pins s σ H x v Q I rx h
  obtain ⟨k, e, q⟩ := h
  have hl := line63
  have hs : sizeLine = 16777216 := sizeLine_eq
  cases x with
  | non =>
    cases rx
    have e' : k = false := e
    subst e'
    exact truthy_none ⟨H, I, q⟩
  | bl b =>
    cases rx
    have e' : k = b := e
    subst e'
    exact wpAny_truthy_bool ⟨H, I, q⟩
  | int i =>
    obtain ⟨t, rfl⟩ := rx
    have e' : k = (i != 0) := e
    subst e'
    exact PySem.P.truthy_int ⟨H, I, q⟩
  | str y =>
    obtain ⟨t, rfl⟩ := rx
    obtain ⟨hy, e'⟩ : y.length ≤ sizeLine ∧ k = ((y.length : Int) != 0) := e
    subst e'
    exact PySem.P.truthy_str (by omega) ⟨H, I.tok _, q⟩
  | byt y =>
    obtain ⟨t, rfl⟩ := rx
    obtain ⟨hy, e'⟩ : y.size ≤ sizeLine ∧ k = ((y.size : Int) != 0) := e
    subst e'
    exact PySem.W.truthy_bytes (by omega) ⟨H, I.tok _, q⟩
  | ref p =>
    cases rx
    have e' : (∃ xs, SqL X.K H p xs ∧ k = !xs.isEmpty) ∨ (∃ xs, SqT X.K H p xs ∧ k = !xs.isEmpty) ∨ ∃ kvs, H p = some (.dK kvs) ∧ k = !kvs.isEmpty := e
    rcases e' with ⟨xs, hx, e'⟩ | ⟨xs, hx, e'⟩ | ⟨kvs, hx, e'⟩
    · subst e'
      obtain ⟨its, r, pl, hz⟩ := I.list hx
      have hlen := r.length
      exact wpAny_truthy_list pl.isList (by simp only [List.size_toArray]; omega) ⟨H, I.tok _, by rw [isEmpty_of r]; exact q⟩
    · subst e'
      obtain ⟨its, r, pl, hz⟩ := I.tuple hx
      have hlen := r.length
      exact truthy_tuple pl (by simp only [List.size_toArray]; omega) ⟨H, I.tok _, by rw [isEmpty_of r]; exact q⟩
    · subst e'
      obtain ⟨hz, hS, vs, r, m⟩ : kvs.length ≤ sizeLine ∧ (p == sysModules) = false ∧ ∃ vs, KV kvs vs ∧ s.heap.DictOf (aCy X.prog X.w) p vs := I.hok p _ hx
      have hlen : kvs.length = vs.length := Paired.length r
      exact wpAny_truthy_dict hS m (by omega) ⟨H, I.tok _, by rw [isEmpty_kv r]; exact q⟩
  | _ => exact (show False from e).elim
theorem pt_truth (ha : PE X a ta) (he : ∀ whole, isTrue a X.env whole = (do let v ← whole; standAt a.pos; holding [v] (truthy v))) :
    PT X a (fun σ H Q => ta σ H fun x H' => ∃ k, TruV X.K x H' k ∧ Q k H') := by
  intro pins s σ H Q I h
  exact isTrue_plain (thn (ha pins s σ H _ I h) fun v s1 ⟨x, H1, I1, r1, q1⟩ => tru_ok pins s1 σ H1 x v Q I1 r1 q1) (he _)
theorem op_add_str : OpR X (binaryOp .Add) (fun x y H Q => ∃ i j, x = .str i ∧ y = .str j ∧ i.length + j.length ≤ sizeLine ∧ Q (.str (i ++ j)) H) := by
  intro pins s σ H x y v u Q I rx ry h
  obtain ⟨i, j, rfl, rfl, hz, q⟩ := h
  obtain ⟨t, rfl⟩ := rx
  obtain ⟨t', rfl⟩ := ry
  exact add_str (fun t' tk => ⟨.str (i ++ j), H, I.tok _, ⟨_, rfl⟩, q⟩) hz
theorem vals1 {x : V} {us : List Value} (r : Vals [x] us) : ∃ u, us = [u] ∧ RelV x u := by
  cases r with
  | cons r1 r2 => cases r2; exact ⟨_, rfl, r1⟩
theorem vals2 {x y : V} {us : List Value} (r : Vals [x, y] us) : ∃ u w', us = [u, w'] ∧ RelV x u ∧ RelV y w' := by
  cases r with
  | cons r1 r2 =>
    cases r2 with
    | cons r3 r4 => cases r4; exact ⟨_, _, rfl, r1, r3⟩
theorem call_min2 (hc : X.calm = true) : CallR X (.builtin "min") (fun xs H Q => ∃ i j, xs = [.int i, .int j] ∧ Q (.int (if j < i then j else i)) H) := by
  intro pins s σ H xs us Q I r h
  obtain ⟨i, j, rfl, q⟩ := h
  obtain ⟨u, w', rfl, ⟨t, rfl⟩, ⟨t', rfl⟩⟩ := vals2 r
  refine min_two_ints (I.ok.hd hc) fun h' tk k => ⟨_, H, I.kept k, ?_, q⟩
  by_cases hj : j < i
  · rw [if_pos hj, if_pos hj]; exact ⟨_, rfl⟩
  · rw [if_neg hj, if_neg hj]; exact ⟨_, rfl⟩
theorem call_int1 : CallR X (.type "int") (fun xs H Q => (∃ i, xs = [.int i] ∧ Q (.int i) H) ∨ ∃ k, xs = [.bl k] ∧ Q (.int (if k then 1 else 0)) H) := by
  intro pins s σ H xs us Q I r h
  rcases h with ⟨i, rfl, q⟩ | ⟨k, rfl, q⟩
  · obtain ⟨u, rfl, t, rfl⟩ := vals1 r
    exact call_int_int ⟨.int i, H, I, ⟨_, rfl⟩, q⟩
  · obtain ⟨u, rfl, r1⟩ := vals1 r
    cases r1
    exact call_int_bool ⟨.int (if k then 1 else 0), H, I.tok _, ⟨_, rfl⟩, q⟩
noncomputable def LenV (K : PySem.W.Frag) (x : V) (H : Hp) (n : Nat) : Prop :=
  match x with
  | .str y => y.length ≤ sizeLine ∧ n = y.length
  | .byt y => y.size ≤ sizeLine ∧ n = y.size
  | .ref p => (∃ xs, SqL K H p xs ∧ n = xs.length) ∨ ∃ xs, SqT K H p xs ∧ n = xs.length
  | _ => False
theorem aBj : CallR X (.builtin "len") (fun xs H Q => ∃ x n, xs = [x] ∧ LenV X.K x H n ∧ Q (.int n) H) := by
  intro pins s σ H xs us Q I r h
  obtain ⟨x, n, rfl, e, q⟩ := h
  obtain ⟨u, rfl, rx⟩ := vals1 r
  have hl := line63
  have hs : sizeLine = 16777216 := sizeLine_eq
  cases x with
  | str y =>
    obtain ⟨t, rfl⟩ := rx
    obtain ⟨hy, e'⟩ : y.length ≤ sizeLine ∧ n = y.length := e
    subst e'
    exact len_str (by omega) ⟨.int _, H, I.tok _, ⟨_, rfl⟩, q⟩
  | byt y =>
    obtain ⟨t, rfl⟩ := rx
    obtain ⟨hy, e'⟩ : y.size ≤ sizeLine ∧ n = y.size := e
    subst e'
    exact PySem.W.len_bytes (by omega) ⟨.int _, H, I.tok _, ⟨_, rfl⟩, q⟩
  | ref p =>
    cases rx
    have e' : (∃ xs, SqL X.K H p xs ∧ n = xs.length) ∨ ∃ xs, SqT X.K H p xs ∧ n = xs.length := e
    rcases e' with ⟨xs, hx, e'⟩ | ⟨xs, hx, e'⟩
    · subst e'
      obtain ⟨its, r', pl, hz⟩ := I.list hx
      have hlen := r'.length
      exact Calls.call_len_list pl.isList (by simp only [List.size_toArray]; omega) ⟨.int xs.length, H, I.tok _, ⟨_, by simp only [List.size_toArray]; rw [hlen]⟩, q⟩
    · subst e'
      obtain ⟨its, r', pl, hz⟩ := I.tuple hx
      have hlen := r'.length
      exact len_tuple pl (by simp only [List.size_toArray]; omega) ⟨.int xs.length, H, I.tok _, ⟨_, by simp only [List.size_toArray]; rw [hlen]⟩, q⟩
  | _ => exact (show False from e).elim
end
end L2
namespace L2
open PySem PySem.Spec PyProof.Rows
structure ObjM (h : Heap) (x dx C : Addr) (mA : Str → Option Value) : Prop where
  obj : h.get? x = some (PySem.W.instObj C dx)
  ns : h.Ns1 dx mA
  ne : dx ≠ x
theorem lookIn_ns {h : Heap} {dx : Addr} {mA : Str → Option Value} (n : h.Ns1 dx mA) : ∃ od, h.get? dx = some od ∧ ∀ name, PySem.W.lookIn name od = some (mA name) := by
  obtain ⟨o, es, ep, ho, hd, hk, _, hm⟩ := n
  refine ⟨o, ho, fun name => ?_⟩
  have e := hm name
  unfold nsFind findBy at e
  rw [← Array.find?_toList] at e
  unfold PySem.W.lookIn
  rw [hd]
  dsimp only
  split
  · rename_i y q
    rw [q] at e
    exact congrArg some e
  · rename_i q
    rw [q] at e
    have a : es.toList.any (·.refKey) = false := by
      rw [List.any_eq_false]
      intro y hy
      obtain ⟨z, t, hkey⟩ := hk y (Array.mem_toList_iff.mp hy)
      simp [DictEntry.refKey, hkey]
    have a' : ¬ es.toList.any (·.refKey) = true := by rw [a]; exact Bool.false_ne_true
    rw [if_neg a']
    exact congrArg some e
theorem ObjM.look {h : Heap} {x dx C : Addr} {mA : Str → Option Value} (I : ObjM h x dx C mA) : ∃ od, PySem.W.InstAt h x (PySem.W.instObj C dx) C (some od) ∧ ∀ name, PySem.W.lookIn name od = some (mA name) :=
  let ⟨od, ho, hl⟩ := lookIn_ns I.ns
  ⟨od, ⟨I.obj, rfl, rfl, ho⟩, hl⟩
section
variable {prog : Program} {w : World} {A : Around} {E : Value → Shared → Prop} {s : Shared} {K : PySem.W.Frag} {x dx C f : Addr} {mA : Str → Option Value} {name : Str} {v : Value}
theorem get_map {expr : Bool} {Q : Value → Shared → Prop} (X : K.In s.heap) (I : ObjM s.heap x dx C mA) (hg : PySem.W.plainGet K C name = true) (hh : PySem.W.hasDictIn K C = true)
    (ha : PySem.W.findIn K (.ref C) name = some none) (hv : mA name = some v) (hv' : PySem.W.handedIn v = true) (h : Q v { s with toks := s.toks + 1 }) :
    wpAny (model prog w) A (getAttr (.ref x) name expr) Q E s := by
  obtain ⟨od, J, hl⟩ := I.look
  exact PySem.W.get_value X J (PySem.W.plainGet_of hg).1 (PySem.W.findObj_own hh ha rfl (by rw [hl, hv])) hv' h
theorem get_meth {pl : Sem Bool} {Q : Value × List Value → Shared → Prop} (X : K.In s.heap) (I : ObjM s.heap x dx C mA) (hg : PySem.W.plainGet K C name = true)
    (hf : PySem.W.findIn K (.ref C) name = some (some (.ref f))) (ht : PySem.W.isFn K (.ref f) = true) (hv : mA name = none) (h : Q (.ref f, [.ref x]) s) :
    wpAny (model prog w) A (getMethod (.ref x) name pl) Q E s := by
  obtain ⟨od, J, hl⟩ := I.look
  exact PySem.W.method_fn X J (PySem.W.plainGet_of hg).1 (PySem.W.plainGet_of hg).2 hf (beq_iff_eq.mp ht) (by show (PySem.W.lookIn name od).map (·.isSome) = some false; rw [hl, hv]; rfl) h
theorem set_map {ns : List Str} {Q : Unit → Shared → Prop} (X : K.In s.heap) (I : ObjM s.heap x dx C mA)
    (hs : PySem.W.findIn K (.ref C) "__setattr__" = some (some (.builtin "object.__setattr__"))) (hp : PySem.W.plainOver K C = true) (ht : PySem.W.takerIn K C name = some none) (hh : PySem.W.hasDictIn K C = true)
    (hw : PySem.Within mA ns) (hsz : ns.length ≤ sizeLine)
    (h : ∀ h', ObjM h' x dx C (fun y => if y = name then some v else mA y) → Heap.SameBut dx s.heap h' → Q () { s with heap := h', toks := s.toks + 2 }) :
    wpAny (model prog w) A (setAttr (.ref x) name v) Q E s := by
  obtain ⟨od, J, hl⟩ := I.look
  refine PySem.W.set_plain X J hs (PySem.W.osa_open (s := { s with toks := s.toks + 1 }) (r := none) X J hp ht fun b => ?_)
  obtain ⟨cd, hc, hd'⟩ := PySem.W.any_some hh
  have hx : s.heap.get? x = some ⟨.ref C, some dx, .plain, #[]⟩ := I.obj
  refine wpAny_bind (wpAny_pure (wpAny_bind (wpAny_bind (wpAny_loadPart hx (wpAny_bind (PySem.W.Looks.here (s := { s with toks := s.toks + 1 }) (PySem.W.looks_clsIn X hc) ?_))))))
  rw [hd']
  refine wpAny_pure (a := some dx) (wpAny_bind (wpAny_pure (wpAny_bind ?_)))
  refine wpAny_nsSet1 (s := { s with toks := s.toks + 1 }) I.ns fun h' hn2 hs2 => ?_
  obtain ⟨oD, esD, epD, hoD, hdD, hcD⟩ := hn2.count (PySem.Within.cons name v hw)
  refine wpAny_bind (wpAny_lookBehind hoD (by rw [hdD]; exact pastItsLine_dict (Nat.le_trans hcD (by rw [List.length_cons]; omega))) ?_)
  exact wpAny_pure (h _ ⟨(hs2.2 _ (Ne.symm I.ne)).trans I.obj, hn2, I.ne⟩ hs2)
theorem make_map {R : Result → Shared → Prop} {vs : List Value} {kw : List (Str × Value)} (X : K.In s.heap) (hm : PySem.W.makesIn K C = true)
    (hi : PySem.W.findIn K (.ref C) "__init__" = some (some (.ref f))) (hf : PySem.W.typeIn K (.ref f) = some (.type "function"))
    (h : codeAny (model prog w) (A.under (.builtin "type.__call__" ⟨.ref C :: vs, kw⟩)) (.call (.ref f) ⟨.ref (s.heap.objs.size + 1) :: vs, kw⟩) (PySem.W.InitBack (s.heap.objs.size + 1) R)
      { s with heap := (s.heap.push PySem.W.emptyDict).push (PySem.W.instObj C s.heap.objs.size) }) :
    codeAny (model prog w) A (.call (.ref C) ⟨vs, kw⟩) R s := by
  obtain ⟨hh, g, d, t, os⟩ := s
  exact PySem.W.make_core (PySem.W.makes_of X hm) (PySem.W.looks_findIn X hi) (fun self => PySem.W.bind_fn X self hf) (.inl rfl) h
end
noncomputable def putF (f : Str) (v : V) : List (Str × V) → List (Str × V)
  | [] => [(f, v)]
  | (g, x) :: r => if g = f then (g, v) :: r else (g, x) :: putF f v r
theorem lookup_putF (f g : Str) (v : V) : ∀ fs : List (Str × V), (putF f v fs).lookup g = if g = f then some v else fs.lookup g
  | [] => by
    show List.lookup g [(f, v)] = _
    by_cases h : g = f
    · have hb : (g == f) = true := beq_iff_eq.mpr h
      simp only [List.lookup, hb, if_pos h]
    · have hb : (g == f) = false := beq_eq_false_iff_ne.mpr h
      simp only [List.lookup, hb, if_neg h]
  | (k, x) :: r => by
    have ih := lookup_putF f g v r
    rw [show putF f v ((k, x) :: r) = (if k = f then (k, v) :: r else (k, x) :: putF f v r) from rfl]
    by_cases hk : k = f
    · rw [if_pos hk]
      by_cases h : g = k
      · have hb : (g == k) = true := beq_iff_eq.mpr h
        simp only [List.lookup, hb, if_pos (h.trans hk)]
      · have hb : (g == k) = false := beq_eq_false_iff_ne.mpr h
        simp only [List.lookup, hb, if_neg (fun e : g = f => h (e.trans hk.symm))]
    · rw [if_neg hk]
      by_cases h : g = k
      · have hb : (g == k) = true := beq_iff_eq.mpr h
        simp only [List.lookup, hb, if_neg (fun e : g = f => hk (h.symm.trans e))]
      · have hb : (g == k) = false := beq_eq_false_iff_ne.mpr h
        simp only [List.lookup, hb]
        exact ih
theorem keys_putF (f : Str) (v : V) : ∀ fs : List (Str × V), f ∈ (putF f v fs).map (·.1) ∧ ∀ g, g ∈ fs.map (·.1) → g ∈ (putF f v fs).map (·.1)
  | [] => ⟨by simp [putF], fun g h => by simp at h⟩
  | (k, x) :: r => by
    obtain ⟨i1, i2⟩ := keys_putF f v r
    rw [show putF f v ((k, x) :: r) = (if k = f then (k, v) :: r else (k, x) :: putF f v r) from rfl]
    by_cases hk : k = f
    · rw [if_pos hk]
      subst hk
      exact ⟨by simp, fun g h => by simpa using h⟩
    · rw [if_neg hk]
      refine ⟨?_, fun g h => ?_⟩
      · rw [List.map_cons]
        exact List.mem_cons_of_mem _ i1
      · rw [List.map_cons] at h ⊢
        rcases List.mem_cons.mp h with e | e
        · exact List.mem_cons.mpr (.inl e)
        · exact List.mem_cons_of_mem _ (i2 g e)
theorem length_putF (f : Str) (v : V) : ∀ fs : List (Str × V), (putF f v fs).length ≤ fs.length + 1
  | [] => by simp [putF]
  | (k, x) :: r => by
    have ih := length_putF f v r
    rw [show putF f v ((k, x) :: r) = (if k = f then (k, v) :: r else (k, x) :: putF f v r) from rfl]
    by_cases hk : k = f
    · rw [if_pos hk, List.length_cons, List.length_cons]; omega
    · rw [if_neg hk, List.length_cons, List.length_cons]; omega
theorem RelO.some_of {v : V} {o : Option Value} (r : RelO (some v) o) : ∃ u, o = some u ∧ RelV v u := by
  cases o with
  | none => exact (show False from r).elim
  | some u => exact ⟨u, rfl, r⟩
theorem RelO.none_of {o : Option Value} (r : RelO none o) : o = none := by
  cases o with
  | none => rfl
  | some u => exact (show False from r).elim
theorem handed_of {v : V} {u : Value} (r : RelV v u) : PySem.W.handedIn u = true := by
  cases v with
  | non => cases (show u = Value.none from r); rfl
  | bl b => cases (show u = Value.bool b from r); rfl
  | int i => obtain ⟨t, e⟩ := (show ∃ t, u = Value.int i t from r); cases e; rfl
  | str x => obtain ⟨t, e⟩ := (show ∃ t, u = Value.str x t from r); cases e; rfl
  | byt b => obtain ⟨t, e⟩ := (show ∃ t, u = Value.bytes b t from r); cases e; rfl
  | flt b => obtain ⟨t, e⟩ := (show ∃ t, u = Value.float b t from r); cases e; rfl
  | ref a => cases (show u = Value.ref a from r); rfl
  | ty n => cases (show u = Value.type n from r); rfl
section
variable {P : Program} {w : World} {H H' : Hp} {h h' : Heap} {a C dx : Addr} {fs fs' : List (Str × V)}
theorem ins_get (hok : HOk P w H h) (e : H a = some (.ins C dx fs)) : ∃ mA, ObjM h a dx C mA ∧ (∀ f, RelO (fs.lookup f) (mA f)) ∧ PySem.Within mA (fs.map (·.1)) ∧ fs.length ≤ 1000 ∧ H dx = some (.own a) := by
  obtain ⟨d, z, ne, ob, mA, n, r, q⟩ := (show aDu P w H h a (.ins C dx fs) from hok a _ e)
  exact ⟨mA, ⟨ob, n, ne⟩, r, q, z, d⟩
end
structure Cls (K : PySem.W.Frag) (C : Addr) : Prop where
  pg : PySem.W.plainGet K C Str.empty = true
  hd : PySem.W.hasDictIn K C = true
  po : PySem.W.plainOver K C = true
  sa : PySem.W.findIn K (.ref C) "__setattr__" = some (some (.builtin "object.__setattr__"))
theorem Cls.get {K : PySem.W.Frag} {C : Addr} (c : Cls K C) (f : Str) : PySem.W.plainGet K C f = true := c.pg
noncomputable def NoAttr (K : PySem.W.Frag) (C : Addr) (f : Str) : Prop := PySem.W.findIn K (.ref C) f = some none
theorem NoAttr.taker {K : PySem.W.Frag} {C : Addr} {f : Str} (n : NoAttr K C f) : PySem.W.takerIn K C f = some none := by
  unfold PySem.W.takerIn
  rw [show PySem.W.findIn K (.ref C) f = some none from n]
  rfl
structure Meth (K : PySem.W.Frag) (C : Addr) (m : Str) (f : Addr) : Prop where
  at_ : PySem.W.findIn K (.ref C) m = some (some (.ref f))
  fn : PySem.W.isFn K (.ref f) = true
  kp : PySem.W.keepIn K (.ref f) = true
section
variable {X : Cx} {pins : List (Addr × Obj)} {σ : St} {H : Hp} {s : Shared} {a C dx : Addr} {fs : List (Str × V)} {f : Str} {v : V} {A : Around} {E : Value → Shared → Prop}
theorem getattr_ok {b : Bool} {Q : Value → Shared → Prop} (I : Inv X pins σ H s) (e : H a = some (.ins C dx fs)) (c : Cls X.K C) (n : NoAttr X.K C f) (l : fs.lookup f = some v)
    (h : ∀ u s', Inv X pins σ H s' → RelV v u → Q u s') : wpAny (model X.prog X.w) A (getAttr (.ref a) f b) Q E s := by
  obtain ⟨mA, O, r, _, _, _⟩ := ins_get I.hok e
  obtain ⟨u, hu, ru⟩ := RelO.some_of (v := v) (o := mA f) (by rw [← l]; exact r f)
  exact get_map I.kIn O (c.get f) c.hd n hu (handed_of ru) (h u _ (I.tok _) ru)
theorem getmeth_ok {m : Str} {g : Addr} {pl : Sem Bool} {Q : Value × List Value → Shared → Prop} (I : Inv X pins σ H s) (e : H a = some (.ins C dx fs)) (c : Cls X.K C) (k : Meth X.K C m g) (l : fs.lookup m = none)
    (h : Q (.ref g, [.ref a]) s) : wpAny (model X.prog X.w) A (getMethod (.ref a) m pl) Q E s := by
  obtain ⟨mA, O, r, _, _, _⟩ := ins_get I.hok e
  have hn : mA m = none := RelO.none_of (by rw [← l]; exact r m)
  exact get_meth I.kIn O (c.get m) k.at_ k.fn hn h
theorem setattr_ok {y : V} {u : Value} {Q : Unit → Shared → Prop} (I : Inv X pins σ H s) (e : H a = some (.ins C dx fs)) (c : Cls X.K C) (n : NoAttr X.K C f) (hl : fs.length < 1000) (ry : RelV y u)
    (h : ∀ s', Inv X pins σ (upd H a (.ins C dx (putF f y fs))) s' → Q () s') : wpAny (model X.prog X.w) A (setAttr (.ref a) f u) Q E s := by
  obtain ⟨mA, O, r, wi, _, ho⟩ := ins_get I.hok e
  have hz : (fs.map (·.1)).length ≤ sizeLine := by rw [List.length_map, sizeLine_eq]; omega
  refine set_map I.kIn O c.sa c.po n.taker c.hd wi hz fun h' O' sb => h _ ?_
  have hd : ∃ o, h'.get? dx = some o := let ⟨o, _, _, e', _⟩ := O'.ns; ⟨o, e'⟩
  refine I.write (x := a) (e := dx) (by rw [e]; exact True.intro) (.inr ho) (fun b q hb z => (sb.2 b hb).trans z) hd ?_
  refine ⟨by rw [aAn O.ne]; exact ho, ?_, O.ne, O'.obj, _, O'.ns, fun g => ?_, fun g hg => ?_⟩
  · have := length_putF f y fs; omega
  · show RelO ((putF f y fs).lookup g) (if g = f then some u else mA g)
    rw [lookup_putF]
    by_cases q : g = f
    · rw [if_pos q, if_pos q]; exact ry
    · rw [if_neg q, if_neg q]; exact r g
  · by_cases q : g = f
    · rw [q]; exact (keys_putF f y fs).1
    · refine (keys_putF f y fs).2 g (wi g fun z => hg ?_)
      show (if g = f then some u else mA g) = none
      rw [if_neg q]; exact z
theorem Inv.made (I : Inv X pins σ H s) : Inv X pins σ (upd (upd H s.heap.objs.size (.own (s.heap.objs.size + 1))) (s.heap.objs.size + 1) (.ins C s.heap.objs.size []))
    { s with heap := (s.heap.push PySem.W.emptyDict).push (PySem.W.instObj C s.heap.objs.size) } := by
  have e1 : (s.heap.push PySem.W.emptyDict).get? s.heap.objs.size = some PySem.W.emptyDict := Heap.get?_push_size s.heap rfl
  have e2 : ((s.heap.push PySem.W.emptyDict).push (PySem.W.instObj C s.heap.objs.size)).get? (s.heap.objs.size + 1) = some (PySem.W.instObj C s.heap.objs.size) := by
    have := Heap.get?_push_size (s.heap.push PySem.W.emptyDict) (o := PySem.W.instObj C s.heap.objs.size) rfl
    rwa [Heap.size_push] at this
  have e3 : (s.heap.push PySem.W.emptyDict).Ns s.heap.objs.size (fun _ => none) := ⟨PySem.W.emptyDict, #[], _, e1, rfl, (fun e he => absurd he (by simp)), fun _ => rfl⟩
  have I1 := I.laid (a := s.heap.objs.size) (o := .own (s.heap.objs.size + 1)) (h' := s.heap.push PySem.W.emptyDict) (t' := s.toks) (fun b u q => Heap.get?_push_of_some _ q) (Nat.le_refl _) ⟨_, e1⟩
  refine I1.laid (a := s.heap.objs.size + 1) (o := .ins C s.heap.objs.size []) (t' := s.toks) (fun b u q => Heap.get?_push_of_some _ q) (Nat.le_of_eq (Heap.size_push _ _)) ?_
  have ne : s.heap.objs.size ≠ s.heap.objs.size + 1 := Nat.ne_of_lt (Nat.lt_succ_self _)
  refine ⟨by rw [aAn ne, aAt], Nat.zero_le _, ne, e2, fun _ => none, (Heap.Ns1.of_empty e3).at fun o q => Heap.get?_push_of_some _ q, fun _ => True.intro, fun y hy => absurd rfl hy⟩
theorem attr_of {prog : Program} {w : World} {env : Env} {e : Expr} {f : Str} {pos : Pos} {s : Shared} {Q : Value → Shared → Prop} (hb : attributeBase e f env (eval e env) = eval e env)
    (h : wpAny (model prog w) A (eval e env) (fun o s₁ => wpAny (model prog w) A (getAttr o f true) Q E s₁) E s) : wpAny (model prog w) A (eval (.Attribute e f pos) env) Q E s :=
  Attribute_any_ h (by rw [arm_eval_Attribute, hb])
end
noncomputable def tFld (K : PySem.W.Frag) (ta : TE) (f : Str) : TE := fun σ H Q => ta σ H fun x H1 => ∃ a C dx fs v, x = .ref a ∧ H1 a = some (.ins C dx fs) ∧ Cls K C ∧ NoAttr K C f ∧ fs.lookup f = some v ∧ Q v H1
noncomputable def sFld (K : PySem.W.Frag) (ta tv : TE) (f : Str) : TS := fun D σ H => tv σ H fun y H1 => ta σ H1 fun x H2 => ∃ a C dx fs, x = .ref a ∧ H2 a = some (.ins C dx fs) ∧ Cls K C ∧ NoAttr K C f ∧ fs.length < 1000 ∧
  D.nx σ (upd H2 a (.ins C dx (putF f y fs)))
section
variable {X : Cx} {o e value : Expr} {f : Str} {pos pos' tpos : Pos} {ta tv : TE}
theorem pe_fld (he : PE X e ta) (hb : attributeBase e f X.env (eval e X.env) = eval e X.env) : PE X (.Attribute e f pos) (tFld X.K ta f) := by
  intro pins s σ H Q I h
  refine attr_of hb (thn (he pins s σ H _ I h) fun u s1 ⟨x, H1, I1, rx, a, C, dx, fs, v, ex, ea, c, n, l, q⟩ => ?_)
  subst ex
  obtain rfl : u = Value.ref a := rx
  exact getattr_ok I1 ea c n l fun u' s2 I2 ru => ⟨v, H1, I2, ru, q⟩
theorem ps_fld (ha : PE X o ta) (hv : PE X value tv) (hs : swapsWith value (some (.Attribute o f pos')) pos.line X.env = pure false) : PS X (.Assign [.Attribute o f pos'] value pos) (sFld X.K ta tv f) := by
  intro pins s σ H D I h
  refine plainObj_wpAny_Assign_Attribute (thn (hv pins s σ H _ I h) fun u s1 ⟨y, H1, I1, ry, q⟩ => thn (ha pins s1 σ H1 _ I1 q) fun ov s2 ⟨x, H2, I2, rx, a, C, dx, fs, ex, ea, c, n, l, q2⟩ => ?_) hs
  subst ex
  obtain rfl : ov = Value.ref a := rx
  exact setattr_ok I2 ea c n l ry fun s3 I3 => ⟨σ, _, I3, q2⟩
end
section
variable {X : Cx} {pins : List (Addr × Obj)} {σ : St} {H : Hp} {s : Shared} {A : Around} {E : Value → Shared → Prop} {Q : Value → Shared → Prop} {c : Value} {b : Bool}
end
end L2
namespace L2
open PySem PySem.Spec PyProof.Rows
structure Room (k : Nat) (A : Around) : Prop where
  hd : A.handled = none
  dp : A.depth + 3 * k + 5 < recursionLimit
  un : A.units + 16 * k + 200 < cLine
theorem Room.mono {j k : Nat} {A : Around} (r : Room k A) (h : j ≤ k) : Room j A := ⟨r.hd, by have := r.dp; omega, by have := r.un; omega⟩
theorem Room.deeper {k : Nat} {A : Around} (r : Room (k + 1) A) (env : Env) : Room k (A.deeper env) :=
  ⟨r.hd, by have := r.dp; show A.depth + 1 + 3 * k + 5 < _; omega, by have := r.un; show A.units + 3 + 16 * k + 200 < _; omega⟩
theorem make_depth {A : Around} {C : Addr} {us : List Value} {kw : List (Str × Value)} : (A.under (.builtin "type.__call__" ⟨.ref C :: us, kw⟩)).depth = A.depth + 1 := by
  first | rfl | simp [Around.under, Code.weight, Code.isCreation, Code.isGuard, Code.isCaller, Code.frames, Code.isFrame, guardIds]
theorem make_units {A : Around} {C : Addr} {us : List Value} {kw : List (Str × Value)} : (A.under (.builtin "type.__call__" ⟨.ref C :: us, kw⟩)).units = A.units + 1 := by
  first | rfl | simp [Around.under, Code.cUnits, Code.frames, Code.isFrame]
theorem Room.make {k : Nat} {A : Around} (r : Room (k + 1) A) (C : Addr) (us : List Value) (kw : List (Str × Value)) : Room k (A.under (.builtin "type.__call__" ⟨.ref C :: us, kw⟩)) :=
  ⟨r.hd, by have := r.dp; rw [make_depth]; omega, by have := r.un; rw [make_units]; omega⟩
theorem Room.depth {k : Nat} {A : Around} (r : Room k A) : A.depth < recursionLimit := by have := r.dp; omega
theorem Room.units {k : Nat} {A : Around} (r : Room k A) : A.units + 64 < cLine := by have := r.un; omega
noncomputable def tNil : TA := fun _ H Q => Q [] H
noncomputable def tCons (ta : TE) (tr : TA) : TA := fun σ H Q => ta σ H fun x H1 => tr σ H1 fun xs H2 => Q (x :: xs) H2
section
variable {X : Cx} {e : Expr} {es : List Expr} {te : TE} {t : TA} {pos : Pos}
theorem pa_nil : PA X [] tNil := fun _ _ _ _ H Q I h => Calls.spliced_nil ⟨[], H, I, .nil, h⟩
theorem aEw (ha : PE X e te) (hr : PA X es t) (hs : starEach (e :: es) X.env = (false, eval e X.env) :: starEach es X.env := by rfl) : PA X (e :: es) (tCons te t) := by
  intro pos pins s σ H Q I h
  rw [hs]
  show wpAny _ _ (spliced ((false, eval e X.env) :: backTo pos (starEach es X.env))) _ _ s
  refine Calls.spliced_cons (thn (ha pins s σ H _ I h) fun u s1 ⟨x, H1, I1, r1, q1⟩ => ?_)
  exact thn (hr pos pins s1 σ H1 _ I1 q1) fun us s2 ⟨xs, H2, I2, r2, q2⟩ => ⟨x :: xs, H2, I2, .cons r1 r2, q2⟩
noncomputable def tTup (t : TA) : TE := fun σ H Q => t σ H fun xs H1 => xs.length ≤ sizeLine ∧ ∀ p, H1 p = none → Q (.ref p) (upd H1 p (.tup xs))
noncomputable def tLst (t : TA) : TE := fun σ H Q => t σ H fun xs H1 => xs.length ≤ sizeLine ∧ ∀ p, H1 p = none → Q (.ref p) (upd H1 p (.lst xs))
theorem pe_tup {x1} (h : PA X es t) : PE X (.Tuple es x1 pos) (tTup t) := by
  intro pins s σ H Q I hq
  refine wpAny_Tuple_spliced (thn (h pos pins s σ H _ I hq) fun us s1 ⟨xs, H1, I1, r, z, q⟩ => ⟨by rw [← r.length]; exact z, ?_⟩)
  have hf : H1 s1.heap.objs.size = none := I1.hok.fresh (Nat.le_refl _)
  refine ⟨.ref s1.heap.objs.size, upd H1 s1.heap.objs.size (.tup xs), I1.laid (t' := s1.toks) (fun b u e => Heap.get?_push_of_some _ e) (Nat.le_refl _) ?_, rfl, q _ hf⟩
  exact ⟨z, us, r, ⟨_, Heap.get?_push_size _ rfl, ⟨rfl, rfl⟩, _, rfl⟩⟩
theorem pe_lst (h : PA X es t) : PE X (.List es pos) (tLst t) := by
  intro pins s σ H Q I hq
  refine wpAny_List_spliced (thn (h pos pins s σ H _ I hq) fun us s1 ⟨xs, H1, I1, r, z, q⟩ => ⟨by rw [← r.length]; exact z, ?_⟩)
  have hf : H1 s1.heap.objs.size = none := I1.hok.fresh (Nat.le_refl _)
  refine ⟨.ref s1.heap.objs.size, upd H1 s1.heap.objs.size (.lst xs), I1.laid (t' := s1.toks) (fun b u e => Heap.get?_push_of_some _ e) (Nat.le_refl _) ?_, rfl, q _ hf⟩
  exact ⟨z, us, 0, r, Heap.get?_push_size _ rfl⟩
end
noncomputable abbrev Sp := List V → Hp → VK → XK → Prop
noncomputable abbrev CXT := List Env → Hp → Shared → XK → Value → Shared → Prop
structure Env0 (P : Program) (w : World) (K : PySem.W.Frag) (mg : Str → Option Value) (base : Heap) (A : Around) (outer : List Env) (s : Shared) (H : Hp) : Prop where
  frames : A.frames = some outer
  mod : Mod K mg base
  bs : ∀ b o, base.get? b = some o → s.heap.get? b = some o ∧ H b = none
  bsz : base.objs.size ≤ s.heap.objs.size
  funs : s.heap.FunFrames base outer
  frf : ∀ b ∈ frs outer, H b = none
  hok : HOk P w H s.heap
  bare : AllBare s.gens
noncomputable def CE (outer : List Env) (P : Program) (w : World) (H : Hp) (s : Shared) (Q : VK) (u : Value) (s' : Shared) : Prop :=
  ∃ v H', s'.os = s.os ∧ AllBare s'.gens ∧ Un (frs outer) [] H H' s.heap s'.heap ∧ HOk P w H' s'.heap ∧ RelV v u ∧ Q v H'
noncomputable def CR (CX : CXT) (outer : List Env) (P : Program) (w : World) (H : Hp) (s : Shared) (Q : VK) (E : XK) (r : Result) (s' : Shared) : Prop :=
  match r with
  | .ok (.ret u) => CE outer P w H s Q u s'
  | .ok _ => False
  | .error e => CX outer H s E e s'
structure FnOk (P : Program) (w : World) (K : PySem.W.Frag) (mg : Str → Option Value) (base : Heap) (CX : CXT) (k : Nat) (f : Addr) (fd : FuncData) (ps : List Str) (sp : Sp) : Prop where
  len : ∀ vs H Q E, sp vs H Q E → vs.length = ps.length
  run : ∀ (A : Around) (outer : List Env) (s : Shared) (H : Hp) (args : Args) (us : List Value) (vs : List V) (Q : VK) (E : XK), Room k A → Env0 P w K mg base A outer s H → BindsTo s fd args (ps.zip us) → Vals vs us → sp vs H Q E →
    codeAny (model P w) A (.call (.ref f) args) (CR CX outer P w H s Q E) s
theorem FnOk.mono {P : Program} {w : World} {K : PySem.W.Frag} {mg : Str → Option Value} {base : Heap} {CX : CXT} {j k : Nat} {f : Addr} {fd : FuncData} {ps : List Str} {sp : Sp} (F : FnOk P w K mg base CX j f fd ps sp) (h : j ≤ k) :
    FnOk P w K mg base CX k f fd ps sp := ⟨F.len, fun A outer s H args us vs Q E hr => F.run A outer s H args us vs Q E (hr.mono h)⟩
theorem Env0.make {P : Program} {w : World} {K : PySem.W.Frag} {mg : Str → Option Value} {base : Heap} {A : Around} {outer : List Env} {s : Shared} {H : Hp} (e : Env0 P w K mg base A outer s H) (C : Addr) (us : List Value) (kw : List (Str × Value)) :
    Env0 P w K mg base (A.under (.builtin "type.__call__" ⟨.ref C :: us, kw⟩)) outer s H := ⟨by first | exact e.frames | (simpa [Around.under, Code.envs, Code.isFrame, pushEnvs] using e.frames), e.mod, e.bs, e.bsz, e.funs, e.frf, e.hok, e.bare⟩
section
variable {X : Cx} {pins : List (Addr × Obj)} {σ : St} {H : Hp} {s s' : Shared}
theorem Inv.env0 (I : Inv X pins σ H s) : Env0 X.prog X.w X.K X.mg X.base X.A X.stack s H :=
  ⟨I.ok.frames, I.ok.mod, I.bs, Nat.le_trans I.ok.bsz I.sz, I.stack, I.stkFree, I.hok, I.bare⟩
theorem Inv.after {Q : VK} {u : Value} (I : Inv X pins σ H s) (h : CE X.stack X.prog X.w H s Q u s') : EP X pins σ Q u s' := by
  obtain ⟨v, H', os, bare, un, hok, r, q⟩ := h
  obtain ⟨hh, g, d, t, os'⟩ := s'
  obtain rfl : os' = s.os := os
  exact ⟨v, H', I.call (h' := hh) (g' := g) (d' := d) (t' := t) (ch := []) un hok bare (fun b z => absurd z (by simp)), r, q⟩
end
noncomputable def tCall (sp : Sp) (dvs : List V) (E : XK) (t : TA) : TE := fun σ H Q => t σ H fun vs H1 => sp (vs ++ dvs) H1 Q E
noncomputable def tMeth (C : Addr) (m : Str) (sp : Sp) (dvs : List V) (E : XK) (ta : TE) (t : TA) : TE := fun σ H Q => ta σ H fun x H1 => ∃ a dx fs, x = .ref a ∧ H1 a = some (.ins C dx fs) ∧ fs.lookup m = none ∧
  t σ H1 fun vs H2 => sp (x :: (vs ++ dvs)) H2 Q E
noncomputable def tMake (C : Addr) (sp : Sp) (dvs : List V) (E : XK) (t : TA) : TE := fun σ H Q => t σ H fun vs H1 => ∀ x dx, H1 x = none → H1 dx = none → dx ≠ x →
  sp (.ref x :: (vs ++ dvs)) (upd (upd H1 dx (.own x)) x (.ins C dx [])) (fun v H2 => v = .non ∧ Q (.ref x) H2) E
noncomputable def aBf (K : PySem.W.Frag) (fd : FuncData) (ps : List Str) (ds : List Value) : Prop :=
  ∀ (s : Shared) (us : List Value), K.In s.heap → (us ++ ds).length = ps.length → BindsTo s fd ⟨us, []⟩ (ps.zip (us ++ ds))
theorem aBf.all {K : PySem.W.Frag} {fd : FuncData} {ps : List Str} (h : ∀ us : List Value, us.length = ps.length → bindArgs fd ⟨us, []⟩ = pure (ps.zip us)) : aBf K fd ps [] := fun s us _ hl => by
  rw [List.append_nil] at hl ⊢
  exact .of_eq (h us hl)
noncomputable def Passes (CX : CXT) (X : Cx) (E : XK) : Prop := ∀ (pins : List (Addr × Obj)) (σ : St) (H : Hp) (s : Shared) (e : Value) (s' : Shared), Inv X pins σ H s → CX X.stack H s E e s' → X.xe e s'
section
variable {X : Cx} {CX : CXT} {k : Nat} {f C : Addr} {fd : FuncData} {ps : List Str} {sp : Sp} {dvs : List V} {ds : List Value} {E : XK} {x m : Str} {p pos apos : Pos} {e o : Expr} {es : List Expr} {ta : TE} {t : TA}
theorem run_fn {pins : List (Addr × Obj)} {σ : St} {H : Hp} {s : Shared} {Q : VK} {us : List Value} {vs : List V} (F : FnOk X.prog X.w X.K X.mg X.base CX k f fd ps sp) (hr : Room k X.A) (hb : aBf X.K fd ps ds) (hd : Vals dvs ds) (hx : Passes CX X E)
    (I : Inv X pins σ H s) (r : Vals vs us) (h : sp (vs ++ dvs) H Q E) : wpAny (model X.prog X.w) X.A (call (.ref f) us) (EP X pins σ Q) X.xe s := by
  have r2 : Vals (vs ++ dvs) (us ++ ds) := r.append hd
  have hl : (us ++ ds).length = ps.length := by rw [← r2.length]; exact F.len _ _ _ _ h
  refine wpAny_call (codeAny_mono (F.run X.A X.stack s H ⟨us, []⟩ (us ++ ds) (vs ++ dvs) Q E hr I.env0 (hb s us I.kIn hl) r2 h) fun r s' hq => ?_)
  cases r with
  | error e => exact hx pins σ H s e s' I hq
  | ok fl =>
    cases fl with
    | ret u => exact I.after hq
    | next => exact False.elim hq
    | brk => exact False.elim hq
    | cont => exact False.elim hq
theorem pe_call (F : FnOk X.prog X.w X.K X.mg X.base CX k f fd ps sp) (hr : Room k X.A) (hg : Gl X x) (hm : X.mg x = some (.ref f)) (hk : PySem.W.keepIn X.K (.ref f) = true) (hb : aBf X.K fd ps ds) (hd : Vals dvs ds) (hx : Passes CX X E)
    (ha : PA X (e :: es) t) (hdb : (x == ("__debug__" : Str)) = false := by decide) (he : starEach (e :: es) X.env = (false, eval e X.env) :: starEach es X.env := by rfl) (hpl : (backTo pos (starEach es X.env)).any (·.1) = false := by rfl) :
    PE X (.Call (.Name x p) (e :: es) [] pos) (tCall sp dvs E t) := by
  intro pins s σ H Q I h
  refine wpAny_Call_Name_kw (ld_glob I hg hm ?_ hdb)
  refine PySem.W.callWith_K (h₀ := X.base) I.ok.mod.kin hk (thn (ha pos pins s σ H _ I h) fun us s1 ⟨vs, H1, I1, r, q⟩ => ⟨I1.kIn, ?_⟩) he hpl
  exact run_fn F hr hb hd hx I1 r q
theorem pe_meth {pl : Sem Bool} (he : PE X o ta) (c : Cls X.K C) (hm : Meth X.K C m f) (F : FnOk X.prog X.w X.K X.mg X.base CX k f fd ps sp) (hr : Room k X.A) (hb : aBf X.K fd ps ds) (hd : Vals dvs ds) (hx : Passes CX X E) (ha : PA X (e :: es) t)
    (hst : starEach (e :: es) X.env = (false, eval e X.env) :: starEach es X.env := by rfl) (hpl : (backTo pos (starEach es X.env)).any (·.1) = false := by rfl)
    (ht : eval (.Call (.Attribute o m apos) (e :: es) [] pos) X.env = (do
      let ov ← eval o X.env
      standAt apos.atName
      let (f, first) ← holding [ov] (getMethod ov m pl)
      callWith pos f first (backTo pos (starEach (e :: es) X.env)) (backToKw pos (keywordEach [] X.env))) := by rfl) :
    PE X (.Call (.Attribute o m apos) (e :: es) [] pos) (tMeth C m sp dvs E ta t) := by
  intro pins s σ H Q I h
  refine PySem.W.methodCall_KW (pl := pl) (thn (he pins s σ H _ I h) fun u s1 ⟨x, H1, I1, rx, a, dx, fs, ex, ea, l, q⟩ => ?_) ht
  subst ex
  obtain rfl : u = Value.ref a := rx
  refine getmeth_ok I1 ea c hm l ?_
  refine PySem.W.callWith_K (first := [.ref a]) (h₀ := X.base) I.ok.mod.kin hm.kp (thn (ha pos pins s1 σ H1 _ I1 q) fun us s2 ⟨vs, H2, I2, r, q2⟩ => ⟨I2.kIn, ?_⟩) hst hpl
  exact run_fn (us := .ref a :: us) (vs := .ref a :: vs) F hr hb hd hx I2 (.cons rfl r) q2
theorem pe_meth0 {pl : Sem Bool} (he : PE X o ta) (c : Cls X.K C) (hm : Meth X.K C m f) (F : FnOk X.prog X.w X.K X.mg X.base CX k f fd ps sp) (hr : Room k X.A) (hb : aBf X.K fd ps ds) (hd : Vals dvs ds) (hx : Passes CX X E)
    (ht : eval (.Call (.Attribute o m apos) [] [] pos) X.env = (do
      let ov ← eval o X.env
      standAt apos.atName
      let (f, first) ← holding [ov] (getMethod ov m pl)
      callWith pos f first (backTo pos (starEach [] X.env)) (backToKw pos (keywordEach [] X.env))) := by rfl) :
    PE X (.Call (.Attribute o m apos) [] [] pos) (tMeth C m sp dvs E ta tNil) := by
  intro pins s σ H Q I h
  refine PySem.W.methodCall_KW (pl := pl) (thn (he pins s σ H _ I h) fun u s1 ⟨x, H1, I1, rx, a, dx, fs, ex, ea, l, q⟩ => ?_) ht
  subst ex
  obtain rfl : u = Value.ref a := rx
  refine getmeth_ok I1 ea c hm l ?_
  exact PySem.W.callWith_K0 (first := [.ref a]) I1.kIn hm.kp (run_fn (us := [.ref a]) (vs := [.ref a]) F hr hb hd hx I1 (.cons rfl .nil) q)
structure Mk (K : PySem.W.Frag) (C f : Addr) : Prop where
  makes : PySem.W.makesIn K C = true
  init : PySem.W.findIn K (.ref C) "__init__" = some (some (.ref f))
  fn : PySem.W.isFn K (.ref f) = true
  kp : PySem.W.keepIn K (.ref C) = true
theorem run_make {pins : List (Addr × Obj)} {σ : St} {H : Hp} {s : Shared} {Q : VK} {us : List Value} {vs : List V} (M : Mk X.K C f) (F : FnOk X.prog X.w X.K X.mg X.base CX k f fd ps sp) (hr : Room (k + 1) X.A) (hb : aBf X.K fd ps ds) (hd : Vals dvs ds)
    (hx : Passes CX X E) (I : Inv X pins σ H s) (r : Vals vs us)
    (h : ∀ x dx, H x = none → H dx = none → dx ≠ x → sp (.ref x :: (vs ++ dvs)) (upd (upd H dx (.own x)) x (.ins C dx [])) (fun v H2 => v = .non ∧ Q (.ref x) H2) E) :
    wpAny (model X.prog X.w) X.A (call (.ref C) us) (EP X pins σ Q) X.xe s := by
  have hq := h (s.heap.objs.size + 1) s.heap.objs.size (I.hok.fresh (Nat.le_succ _)) (I.hok.fresh (Nat.le_refl _)) (Nat.ne_of_lt (Nat.lt_succ_self _))
  have I2 := Inv.made (C := C) I
  have r2 : Vals (V.ref (s.heap.objs.size + 1) :: (vs ++ dvs)) (Value.ref (s.heap.objs.size + 1) :: (us ++ ds)) := .cons rfl (r.append hd)
  have hl : (Value.ref (s.heap.objs.size + 1) :: us ++ ds).length = ps.length := by
    have e := r2.length
    rw [F.len _ _ _ _ hq] at e
    exact e.symm
  refine wpAny_call (make_map (f := f) I.kIn M.makes M.init (beq_iff_eq.mp M.fn) (codeAny_mono (F.run _ X.stack _ _ ⟨Value.ref (s.heap.objs.size + 1) :: us, []⟩ (Value.ref (s.heap.objs.size + 1) :: (us ++ ds)) _ _ E (hr.make C us [])
    (I2.env0.make C us []) (hb _ (Value.ref (s.heap.objs.size + 1) :: us) I2.kIn hl) r2 hq) fun r s' hq' => ?_))
  cases r with
  | error e => exact hx pins σ _ _ e s' I2 hq'
  | ok fl =>
    cases fl with
    | ret u =>
      obtain ⟨v, H', I3, rv, ev, q3⟩ := I2.after hq'
      subst ev
      exact ⟨rv, ⟨V.ref (s.heap.objs.size + 1), H', I3, rfl, q3⟩⟩
    | next => exact False.elim hq'
    | brk => exact False.elim hq'
    | cont => exact False.elim hq'
theorem pe_make0 (M : Mk X.K C f) (F : FnOk X.prog X.w X.K X.mg X.base CX k f fd ps sp) (hr : Room (k + 1) X.A) (hg : Gl X x) (hm : X.mg x = some (.ref C)) (hb : aBf X.K fd ps ds) (hd : Vals dvs ds) (hx : Passes CX X E)
    (hdb : (x == ("__debug__" : Str)) = false := by decide) : PE X (.Call (.Name x p) [] [] pos) (tMake C sp dvs E tNil) := by
  intro pins s σ H Q I h
  refine wpAny_Call_Name_kw (ld_glob I hg hm ?_ hdb)
  exact PySem.W.callWith_K0 I.kIn M.kp (run_make (us := []) M F hr hb hd hx I .nil h)
end
section
variable {X : Cx} {CX : CXT} {k : Nat} {f C : Addr} {fd : FuncData} {ps ks : List Str} {sp : Sp} {E : XK} {x m : Str} {p pos apos kpos : Pos} {e o : Expr} {es : List Expr} {kws : List Keyword} {te ta : TE} {t tk : TA} {nm : Option Str}
variable {g : List Value → List Value → List Value} {gV : List V → List V → List V}
end
structure FnScope (N P : List Str) (sc : Scope) : Prop where
  kind : sc.kind = .function
  co : sc.isCoroutine = false
  gen : sc.isGenerator = false
  nd : N.Nodup
  pre : N.take P.length = P
  par : ∀ x ∈ P, sc.names.lookup x = some .local ∨ sc.names.lookup x = some .cell
  nofree : ∀ y ∈ sc.names, y.2 ≠ .free
theorem bindL_out {kindOf : Str → Option NameKind} {x : Str} : ∀ {binds : List (Str × Value)} {m : Str → Option Value}, (∀ v, (x, v) ∉ binds) → bindL kindOf binds m x = m x
  | [], _, _ => rfl
  | (n, v) :: r, m, h => by
    unfold bindL
    rw [bindL_out fun w hw => h w (List.mem_cons_of_mem _ hw)]
    split
    · have : x ≠ n := by rintro rfl; exact h v List.mem_cons_self
      simp [this]
    · rfl
theorem bindC_out {kindOf : Str → Option NameKind} {x : Str} : ∀ {binds : List (Str × Value)} {m : Str → Option Value}, (∀ v, (x, v) ∉ binds) → bindC kindOf binds m x = m x
  | [], _, _ => rfl
  | (n, v) :: r, m, h => by
    unfold bindC
    rw [bindC_out fun w hw => h w (List.mem_cons_of_mem _ hw)]
    split
    · rfl
    · have : x ≠ n := by rintro rfl; exact h v List.mem_cons_self
      simp [this]
theorem bindL_get {kindOf : Str → Option NameKind} {x : Str} {v : Value} : ∀ {P : List Str} {vs : List Value} {i : Nat} {m : Str → Option Value}, P.Nodup → P[i]? = some x → vs[i]? = some v → kindOf x = some .local →
    bindL kindOf (P.zip vs) m x = some v
  | [], _, _, _, _, h, _, _ => by simp at h
  | _ :: _, [], _, _, _, _, h, _ => by simp at h
  | p :: P, w :: vs, 0, m, nd, h1, h2, hk => by
    simp at h1 h2; subst h1; subst h2
    show bindL kindOf ((p, w) :: P.zip vs) m p = _
    unfold bindL
    rw [bindL_out fun v hv => (List.nodup_cons.mp nd).1 (List.of_mem_zip hv).1, if_pos hk]
    simp
  | p :: P, w :: vs, i + 1, m, nd, h1, h2, hk => by
    show bindL kindOf ((p, w) :: P.zip vs) m x = _
    unfold bindL
    exact bindL_get (i := i) (List.nodup_cons.mp nd).2 (by simpa using h1) (by simpa using h2) hk
theorem bindC_get {kindOf : Str → Option NameKind} {x : Str} {v : Value} : ∀ {P : List Str} {vs : List Value} {i : Nat} {m : Str → Option Value}, P.Nodup → P[i]? = some x → vs[i]? = some v → kindOf x ≠ some .local →
    bindC kindOf (P.zip vs) m x = some v
  | [], _, _, _, _, h, _, _ => by simp at h
  | _ :: _, [], _, _, _, _, h, _ => by simp at h
  | p :: P, w :: vs, 0, m, nd, h1, h2, hk => by
    simp at h1 h2; subst h1; subst h2
    show bindC kindOf ((p, w) :: P.zip vs) m p = _
    unfold bindC
    rw [bindC_out fun v hv => (List.nodup_cons.mp nd).1 (List.of_mem_zip hv).1, if_neg hk]
    simp
  | p :: P, w :: vs, i + 1, m, nd, h1, h2, hk => by
    show bindC kindOf ((p, w) :: P.zip vs) m x = _
    unfold bindC
    exact bindC_get (i := i) (List.nodup_cons.mp nd).2 (by simpa using h1) (by simpa using h2) hk
noncomputable def start (N : List Str) (vs : List V) : St := vs.map some ++ List.replicate (N.length - vs.length) none
noncomputable def cxOf (CX : CXT) (P : Program) (w : World) (K : PySem.W.Frag) (mg : Str → Option Value) (base : Heap) (N : List Str) (qual : Str) (scope : Scope) (f : Addr) (cd : Value) (A : Around) (outer : List Env) (s : Shared) (H : Hp) (E : XK) : Cx where
  prog := P
  w := w
  K := K
  mg := mg
  base := base
  A := A.deeper (envOfC qual scope s.heap.objs.size f cd)
  N := N
  s₀ := s
  H₀ := H
  env := envOfC qual scope s.heap.objs.size f cd
  outer := outer
  stack := envOfC qual scope s.heap.objs.size f cd :: outer
  ex := []
  calm := true
  fn := fun _ => true
  pn := []
  xe := fun e s' => wpAny (model P w) (A.deeper (envOfC qual scope s.heap.objs.size f cd)) (leaving (envOfC qual scope s.heap.objs.size f cd) e) (fun _ s'' => CX outer H s E e s'') (fun e' s'' => CX outer H s E e' s'') s'
theorem cell_has {sc : Scope} {n : Nat} {x : Str} (h : sc.names.lookup x = some .cell) : ∃ c, (cellsFrom n sc.names []).lookup x = some c := by
  have q := PySem.W.cellsFrom_some sc.names n [] (.inl h)
  exact Option.isSome_iff_exists.mp q
theorem inv_start {CX : CXT} {P : Program} {w : World} {K : PySem.W.Frag} {mg : Str → Option Value} {base : Heap} {N ps : List Str} {qual : Str} {scope : Scope} {f : Addr} {cd : Value} {A : Around} {outer : List Env} {s s1 : Shared} {H : Hp} {E : XK} {us : List Value} {vs : List V}
    (S : FnScope N ps scope) (hd : A.handled = none) (e0 : Env0 P w K mg base A outer s H) (hl : vs.length = ps.length) (r : Vals vs us)
    (x : InCallC s s.heap.objs.size (bindL (envOfC qual scope s.heap.objs.size f cd).kindOf (ps.zip us) fun _ => none) (cellsFrom (s.heap.objs.size + 1) scope.names []) (bindC (envOfC qual scope s.heap.objs.size f cd).kindOf (ps.zip us) fun _ => none) s1) :
    Inv (cxOf CX P w K mg base N qual scope f cd A outer s H E) [] (start N vs) H s1 := by
  have hpl : ps.length ≤ N.length := by have := congrArg List.length S.pre; rw [List.length_take] at this; omega
  obtain ⟨h1, tk, rfl, hk⟩ := x.done
  have noA : ∀ b : Addr, b ∉ (cxOf CX P w K mg base N qual scope f cd A outer s H E).ex := fun b z => absurd (show b ∈ ([] : List Addr) from z) (by simp)
  refine ⟨⟨e0.mod, S.kind, rfl, rfl, Nat.le_refl _, fun y z c h1 h2 => ?_, fun y hy => ?_, fun y c _ h => ?_, fun _ => hd, Around.frames_deeper e0.frames, .inr ⟨rfl, rfl⟩, fun b z => absurd z (noA b), e0.bs, e0.bsz, fun b _ _ => noA b, fun b z => absurd z (noA b), e0.funs, e0.frf⟩,
    rfl, e0.bare, Un.kept hk, ⟨_, x.toInCall.ns, fun i y v h1 h2 h3 => ?_⟩, fun y c h => ⟨_, x.cell y c h⟩, e0.hok.fresh (Nat.le_refl _), fun y c h => ?_, fun p hp => absurd (show p ∈ ([] : List (Addr × Obj)) from hp) (by simp), e0.hok.kept hk, ?_⟩
  · exact name_of_addr x.apart (PySem.mem_of_lookup h1) (PySem.mem_of_lookup h2)
  · have hy : scope.names.lookup y = some .cell ∨ scope.names.lookup y = some .free := hy
    rcases hy with hy | hy
    · exact cell_has hy
    · exact absurd rfl (S.nofree _ (PySem.mem_of_lookup hy))
  · exact Nat.le_of_lt (x.above y c (PySem.mem_of_lookup h))
  · have hi : i < vs.length := by
      unfold start at h2
      by_cases hi : i < vs.length
      · exact hi
      · rw [List.getElem?_append_right (by simpa using hi)] at h2
        rw [List.getElem?_replicate] at h2
        split at h2 <;> cases h2
    have ha : vs[i]? = some v := by
      unfold start at h2
      rw [List.getElem?_append_left (by simpa using hi), List.getElem?_map] at h2
      cases e : vs[i]? with
      | none => rw [e] at h2; cases h2
      | some a => rw [e] at h2; cases h2; rfl
    obtain ⟨u, hu, rv⟩ := r.get ha
    have hp : ps[i]? = some y := by
      rw [← S.pre, List.getElem?_take_of_lt (by omega)]; exact h1
    have ndP : ps.Nodup := by rw [← S.pre]; exact S.nd.sublist (List.take_sublist _ _)
    refine ⟨u, rv, ?_⟩
    rcases S.par y (List.mem_of_getElem? hp) with k | k
    · exact .inl ⟨k, bindL_get ndP hp hu k⟩
    · obtain ⟨c, e⟩ := cell_has (n := s.heap.objs.size + 1) k
      refine .inr ⟨.inl k, c, e, ?_⟩
      have q := x.cell y c e
      rw [bindC_get ndP hp hu (by show scope.names.lookup y ≠ _; rw [k]; decide)] at q
      exact q
  · exact e0.hok.fresh (Nat.le_of_lt (x.above y c (PySem.mem_of_lookup h)))
  · unfold start
    show _ = N.length
    rw [List.length_append, List.length_map, List.length_replicate]
    omega
theorem fn_of {CX : CXT} {P : Program} {w : World} {K : PySem.W.Frag} {mg : Str → Option Value} {base : Heap} {k : Nat} {f : Addr} {name qual : Str} {params : Arguments} {body : List Stmt} {scope : Scope} {dV kV doc pm cdv ct oc : Value} {an od : Option Addr}
    {osl : Array (Option Value)} {N ps : List Str} {sp : Sp} (lk : K.lookup f = some ⟨oc, od, .func (PySem.W.fnOf name qual params body scope dV kV doc pm an cdv ct), osl⟩) (hcd : PySem.W.codeIn K cdv qual = true) (S : FnScope N ps scope)
    (len : ∀ vs H Q E, sp vs H Q E → vs.length = ps.length)
    (hbody : ∀ (A : Around) (outer : List Env) (s : Shared) (H : Hp) (vs : List V) (Q : VK) (E : XK), Room k (A.deeper (envOfC qual scope s.heap.objs.size f cdv)) → sp vs H Q E →
      ∃ t, PSs (cxOf CX P w K mg base N qual scope f cdv A outer s H E) body t ∧ t { nx := fun _ H' => Q .non H', rt := Q } (start N vs) H) :
    FnOk P w K mg base CX (k + 1) f (PySem.W.fnOf name qual params body scope dV kV doc pm an cdv ct) ps sp := by
  refine ⟨len, fun A outer s H args us vs Q E hr e0 hb r hsp => ?_⟩
  have hl := len _ _ _ _ hsp
  have KX : K.In s.heap := e0.mod.kin.keeps fun b o e => (e0.bs b o e).1
  have lim : s.heap.NoLimit := e0.mod.nolimit.keeps fun b o e => (e0.bs b o e).1
  have hkind : ∀ y ∈ ps.zip us, scope.names.lookup y.1 = some .local ∨ (scope.names.lookup y.1 = some .cell ∧ ((cellsFrom (s.heap.objs.size + 1) scope.names []).lookup y.1).isSome = true) := fun ⟨n, v⟩ hy => by
    rcases S.par n (List.of_mem_zip hy).1 with q | q
    · exact .inl q
    · exact .inr ⟨q, PySem.W.cellsFrom_some _ _ _ (.inl q)⟩
  refine codeAny_call_function hr.depth (KX _ _ lk) rfl S.co S.gen rfl (PySem.W.codeRec_of KX hcd) (hb _ _ _ _ ?_)
  refine wpAny_newFunctionEnv_cells S.kind hkind fun env he s1 x => ?_
  subst he
  refine ⟨lim.keeps x.toInCall.keep, codeAny_func ?_⟩
  obtain ⟨t, ht, hq⟩ := hbody A outer s H vs Q E (hr.deeper _) hsp
  have I : Inv (cxOf CX P w K mg base N qual scope f cdv A outer s H E) [] (start N vs) H s1 := inv_start S hr.hd e0 hl r x
  refine wpAny_mono (ht [] s1 (start N vs) H _ I hq) (fun fl s' hs => ?_) fun e s' hs => hs
  have fin : ∀ {σ' : St} {H' : Hp} {v : V} {u : Value}, Inv (cxOf CX P w K mg base N qual scope f cdv A outer s H E) [] σ' H' s' → RelV v u → Q v H' → CE outer P w H s Q u s' :=
    fun {σ' H' v u} J rv q => ⟨v, H', J.os, J.bare, J.base, J.hok, rv, q⟩
  cases fl with
  | ret u =>
    obtain ⟨v, σ', H', J, rv, q⟩ := hs
    exact fin J rv q
  | next =>
    obtain ⟨σ', H', J, q⟩ := hs
    exact fin (v := V.non) (u := Value.none) J rfl q
  | brk =>
    obtain ⟨_, _, _, q⟩ := hs
    exact False.elim q
  | cont =>
    obtain ⟨_, _, _, q⟩ := hs
    exact False.elim q
end L2
namespace L2
open PySem PySem.Spec PyProof.Rows
section
variable {X : Cx} {x : Str} {p pos : Pos} {e : Expr} {es : List Expr} {t : TA} {id T : String} {r : List V → Hp → VK → Prop}
noncomputable def tCB (r : List V → Hp → VK → Prop) (t : TA) : TE := fun σ H Q => t σ H fun vs H1 => r vs H1 Q
theorem pe_callB (hc : CallR X (.builtin id) r) (hg : Gl X x) (hm : X.mg x = none) (hv : bootBuiltins x = some (.builtin id)) (ha : PA X (e :: es) t) (hn : x ≠ "__name__" := by decide) (hdb : (x == ("__debug__" : Str)) = false := by decide)
    (he : starEach (e :: es) X.env = (false, eval e X.env) :: starEach es X.env := by rfl) (hpl : (backTo pos (starEach es X.env)).any (·.1) = false := by rfl) : PE X (.Call (.Name x p) (e :: es) [] pos) (tCB r t) := by
  intro pins s σ H Q I h
  refine wpAny_Call_Name_kw (ld_blt I hg hm hv ?_ hn hdb)
  exact PyProof.Rows.callWith_builtin1 (thn (ha pos pins s σ H _ I h) fun us s1 ⟨vs, H1, I1, r1, q1⟩ => hc pins s1 σ H1 vs us Q I1 r1 q1) he hpl
theorem pe_callTy (hc : CallR X (.type T) r) (hg : Gl X x) (hm : X.mg x = none) (hv : bootBuiltins x = some (.type T)) (ha : PA X (e :: es) t) (hn : x ≠ "__name__" := by decide) (hdb : (x == ("__debug__" : Str)) = false := by decide)
    (he : starEach (e :: es) X.env = (false, eval e X.env) :: starEach es X.env := by rfl) (hpl : (backTo pos (starEach es X.env)).any (·.1) = false := by rfl) : PE X (.Call (.Name x p) (e :: es) [] pos) (tCB r t) := by
  intro pins s σ H Q I h
  refine wpAny_Call_Name_kw (ld_blt I hg hm hv ?_ hn hdb)
  exact PyProof.Rows.callWith_type1 (thn (ha pos pins s σ H _ I h) fun us s1 ⟨vs, H1, I1, r1, q1⟩ => hc pins s1 σ H1 vs us Q I1 r1 q1) he hpl
end
end L2
namespace HT
open PySem PyProof.Rows
section
open PySem.SeqAt
open PySem.AutoSeq1 (wpAny_loadPart')
open PySem.MeetsSeq PySem.MeetsSeq2 PySem.MeetsSeq3
end
section
variable {prog : Program} {w : World} {A : Around} {E : Value → Shared → Prop} {s : Shared}
theorem cat_tup {t b : Addr} {vs ws : List Value} {Q : Value → Shared → Prop} (ht : IsTup s.heap t vs.toArray) (hb : IsTup s.heap b ws.toArray) (hv : vs ≠ [])
    (h1 : ws = [] → Q (.ref t) s) (h2 : ws ≠ [] → Q (.ref s.heap.objs.size) { s with heap := s.heap.push { cls := .type "tuple", data := .seq (vs ++ ws).toArray } })
    (hsz : vs.length + ws.length ≤ sizeLine) : wpAny (model prog w) A (binaryOp .Add (.ref t) (.ref b)) Q E s := by
  obtain ⟨⟨cls, dd, data, sl⟩, ho, hc, n, hd⟩ := id ht
  obtain ⟨⟨cls2, dd2, data2, sl2⟩, ho2, hc2, n2, hd2⟩ := id hb
  simp only at hc hd hc2 hd2
  subst hc hd hc2 hd2
  have e : vs.toArray ++ ws.toArray = (vs ++ ws).toArray := by simp
  by_cases hw : ws = []
  · exact concat_meets ⟨_, ho, rfl⟩ ⟨_, ho2, rfl⟩ noFill_tuple_add seq_tuple_add PySem.F.slot_tuple_add PySem.F.entry_tuple_add (PySem.F.args_tuple_add_2 _ _)
      (tuple_addW1 t b vs.toArray ws.toArray n n2 dd dd2 sl sl2 (by simpa using hv) (by simp [hw])) ⟨ho, ho2, h1 hw⟩
  · refine concat_meets ⟨_, ho, rfl⟩ ⟨_, ho2, rfl⟩ noFill_tuple_add seq_tuple_add PySem.F.slot_tuple_add PySem.F.entry_tuple_add (PySem.F.args_tuple_add_2 _ _)
      (tuple_addW2 t b vs.toArray ws.toArray n n2 dd dd2 sl sl2 (by simpa using hv) (by simpa using hw) (by rw [List.size_toArray, List.size_toArray]; exact hsz)) ⟨ho, ho2, ?_⟩
    rw [e]
    exact h2 hw
noncomputable def sIx (n d : Nat) : Option Int → Nat
  | none => d
  | some v => if v < 0 then (v + (n : Int)).toNat else min v.toNat n
theorem sIx_le (n d : Nat) (hd : d ≤ n) (o : Option Int) : sIx n d o ≤ n := by
  cases o with
  | none => exact hd
  | some v =>
    show (if v < 0 then (v + (n : Int)).toNat else min v.toNat n) ≤ n
    by_cases hv : v < 0
    · rw [if_pos hv]; omega
    · rw [if_neg hv]; exact Nat.min_le_right _ _
theorem clip_eq (v : Int) (n d : Nat) : (if v < 0 then max (v + (n : Int)) 0 else min v (n : Int)) = ((sIx n d (some v) : Nat) : Int) := by
  show (if v < 0 then max (v + (n : Int)) 0 else min v (n : Int)) = (((if v < 0 then (v + (n : Int)).toNat else min v.toNat n) : Nat) : Int)
  by_cases hv : v < 0
  · simp only [if_pos hv]; omega
  · simp only [if_neg hv]; omega
theorem adjust_gen (lo hi : Option Int) (n : Nat) : Builtin.Slice.sliceAdjust lo hi 1 (n : Int) = (((sIx n 0 lo : Nat) : Int), ((sIx n n hi : Nat) : Int)) := by
  have h1 : ¬ ((1 : Int) < 0) := by omega
  unfold Builtin.Slice.sliceAdjust
  simp only [h1, if_false]
  refine Prod.ext ?_ ?_
  · cases lo with
    | none => rfl
    | some v => exact clip_eq v n 0
  · cases hi with
    | none => rfl
    | some v => exact clip_eq v n n
theorem places_gen (i j : Nat) : Builtin.Slice.slicePlaces (i : Int) (j : Int) 1 = j - i := by
  unfold Builtin.Slice.slicePlaces
  have h1 : (1 : Int) > 0 := by omega
  simp only [h1, if_true, Int.ediv_one]
  split <;> omega
theorem slicePart_ {v : Value} {o : Option Int} {Q : Option Int → Shared → Prop} (p : IsPart v o) (h : Q o s) : wpAny (model prog w) A (Builtin.Slice.slicePartIndex v) Q E s := by
  cases p with
  | none => exact slicePart_none h
  | int i t => exact slicePart_int h
theorem aHb {sl : Addr} {vl vu : Value} {lo hi : Option Int} {n : Nat} {Q : Int × Int × Nat → Shared → Prop} (hs : s.heap.IsSliceOf sl vl vu .none) (pl : IsPart vl lo) (pu : IsPart vu hi)
    (h : Q (((sIx n 0 lo : Nat) : Int), 1, sIx n n hi - sIx n 0 lo) s) : wpAny (model prog w) A (Builtin.Slice.sliceApplied (.ref sl) (pure (n : Int))) Q E s := by
  obtain ⟨os, hos, hcs, hds⟩ := id hs
  unfold Builtin.Slice.sliceApplied Builtin.Slice.sliceFields
  refine wpAny_bind (wpAny_bind (wpAny_field hos hds (x := vl) rfl (wpAny_bind (wpAny_field hos hds (x := vu) rfl (wpAny_bind (wpAny_field hos hds (x := .none) rfl (wpAny_pure ?_)))))))
  refine wpAny_bind (slicePart_none ?_)
  show wpAny _ _ (if ((1 : Int) == 0) = true then _ else _) _ _ s
  rw [if_neg (by decide)]
  refine wpAny_bind (slicePart_ pl (wpAny_bind (slicePart_ pu (wpAny_bind (wpAny_pure ?_)))))
  show wpAny _ _ (match Builtin.Slice.sliceAdjust lo hi 1 (n : Int) with | (lo, hi) => pure (lo, (1 : Int), Builtin.Slice.slicePlaces lo hi 1)) _ _ s
  rw [adjust_gen lo hi n]
  show wpAny _ _ (pure (((sIx n 0 lo : Nat) : Int), (1 : Int), Builtin.Slice.slicePlaces ((sIx n 0 lo : Nat) : Int) ((sIx n n hi : Nat) : Int) 1)) _ _ s
  rw [places_gen]
  exact wpAny_pure h
theorem pick_gen (xs : Array Value) (i k : Nat) : ((List.range k).filterMap fun (m : Nat) => xs[((i : Int) + (m : Int) * 1).toNat]?).toArray = ((xs.toList.drop i).take k).toArray := by
  have e : (fun (m : Nat) => xs[((i : Int) + (m : Int) * 1).toNat]?) = fun m => xs[i + m]? := by
    funext m
    have : ((i : Int) + (m : Int) * 1).toNat = i + m := by omega
    rw [this]
  rw [e]
  have := pick_run xs i k
  rw [List.filterMap_map] at this
  have e2 : ((fun x => xs[x]?) ∘ fun x => i + x) = fun m => xs[i + m]? := rfl
  rw [e2] at this
  rw [this]
theorem getItem_tuple_cut {t sl : Addr} {items : Array Value} {vl vu : Value} {lo hi : Option Int} {Q : Value → Shared → Prop} (ht : IsTup s.heap t items) (hs : s.heap.IsSliceOf sl vl vu .none) (pl : IsPart vl lo) (pu : IsPart vu hi)
    (hw : ¬ (sIx items.size 0 lo = 0 ∧ sIx items.size items.size hi = items.size))
    (h : Q (.ref s.heap.objs.size) { s with heap := s.heap.push { cls := .type "tuple", data := .seq ((items.toList.drop (sIx items.size 0 lo)).take (sIx items.size items.size hi - sIx items.size 0 lo)).toArray } })
    (hsz : items.size ≤ sizeLine) : wpAny (model prog w) A (getItem (.ref t) (.ref sl)) Q E s := by
  have htake : sizeOk (.seq ((items.toList.drop (sIx items.size 0 lo)).take (sIx items.size items.size hi - sIx items.size 0 lo)).toArray) := by
    show ((items.toList.drop (sIx items.size 0 lo)).take (sIx items.size items.size hi - sIx items.size 0 lo)).toArray.size ≤ sizeLine
    rw [List.size_toArray, List.length_take, List.length_drop, Array.length_toList]
    omega
  have hj : sIx items.size items.size hi ≤ items.size := sIx_le _ _ (Nat.le_refl _) hi
  obtain ⟨os, hos, hcs, hds⟩ := id hs
  have hTs : s.TypeIs (.ref sl) "slice" := ⟨os, hos, hcs⟩
  unfold getItem
  try with_reducible refine wpAny_holding ?_
  first | refine wpAny_bind (wpAny_pure ?_) | skip
  refine wpAny_bind (wpAny_sequenceKey ht.typeIs (by decide) ?_)
  refine wpAny_bind (wpAny_callSpecial?_slot (name := Str.ofString "__getitem__") ht.typeIs PyProof.Rows.slot_tuple_getitem
    (wpAny_call_entry PyProof.Rows.slot_tuple_getitem ht.typeIs entry_tuple_getitem ?_ (args_tuple_getitem _ _)))
  show wpAny _ _ (Builtin.Tuple.tupleItemsOf (.ref t) >>= _) _ _ s
  refine wpAny_bind (tupleItemsOf_ ht ?_)
  refine wpAny_bind (wpAny_typeOf hTs ?_)
  rw [if_pos (by decide)]
  refine wpAny_bind (aHb hs pl pu ?_)
  have hno : ¬ ((((sIx items.size 0 lo : Nat) : Int) == 0 && (1 : Int) == 1 && (sIx items.size items.size hi - sIx items.size 0 lo) == items.size) = true) := by
    intro q
    rw [Bool.and_eq_true, Bool.and_eq_true] at q
    have q1 : ((sIx items.size 0 lo : Nat) : Int) = 0 := eq_of_beq q.1.1
    have q2 : sIx items.size items.size hi - sIx items.size 0 lo = items.size := eq_of_beq q.2
    exact hw ⟨by omega, by omega⟩
  show wpAny _ _ (if (((sIx items.size 0 lo : Nat) : Int) == 0 && (1 : Int) == 1 && (sIx items.size items.size hi - sIx items.size 0 lo) == items.size) = true then _ else _) _ _ s
  rw [if_neg hno, pick_gen]
  first
    | exact wpAny_bind (m := Builtin.Tuple.tupleExact _) (wpAny_newObj_type (wpAny_pure ⟨_, rfl, wpAny_pure h⟩) htake)
    | exact wpAny_bind (m := Builtin.Tuple.tupleExact _) (wpAny_newObj_type (wpAny_bind (wpAny_pure (wpAny_pure ⟨_, rfl, wpAny_pure h⟩))) htake)
    | exact wpAny_bind (wpAny_bind (m := Builtin.Tuple.tupleExact _) (wpAny_newObj_type (wpAny_pure (wpAny_pure ⟨_, rfl, wpAny_pure h⟩)) htake))
    | exact wpAny_bind (wpAny_bind (m := Builtin.Tuple.tupleExact _) (wpAny_newObj_type (wpAny_pure ⟨_, rfl, wpAny_pure h⟩) htake))
end
end HT
namespace L2
open PySem PySem.Spec PyProof.Rows
noncomputable abbrev TO := St → Hp → (Option Int → Hp → Prop) → Prop
noncomputable def PO (X : Cx) (e : Option Expr) (t : TO) : Prop :=
  ∀ (pins : List (Addr × Obj)) (s : Shared) (σ : St) (H : Hp) (Q : Option Int → Hp → Prop), Inv X pins σ H s → t σ H Q →
    wpAny (model X.prog X.w) X.A (evalPart e X.env) (fun u s' => ∃ o H', Inv X pins σ H' s' ∧ IsPart u o ∧ Q o H') X.xe s
noncomputable def tNoPart : TO := fun _ H Q => Q none H
noncomputable def tPart (t : TE) : TO := fun σ H Q => t σ H fun x H1 => ∃ i, x = .int i ∧ Q (some i) H1
theorem intsAre_of {ns : List Int} : ∀ {us : List Value}, Vals (ns.map V.int) us → IntsAre us ns := by
  induction ns with
  | nil => intro us r; rw [List.map_nil] at r; cases r; exact .nil
  | cons n ns ih =>
    intro us r
    rw [List.map_cons] at r
    cases r with
    | cons r1 r2 =>
      obtain ⟨t, e⟩ := r1
      subst e
      exact .cons n t (ih r2)
section
variable {X : Cx} {e : Expr} {te : TE} {lo hi : Option Expr} {tl th : TO} {pos p2 : Pos}
theorem po_none : PO X none tNoPart := by
  intro pins s σ H Q I h
  rw [evalPart_none]
  exact wpAny_pure ⟨none, H, I, .none, h⟩
theorem po_some (h : PE X e te) : PO X (some e) (tPart te) := by
  intro pins s σ H Q I hw
  rw [evalPart_some]
  refine thn (h pins s σ H _ I hw) fun u s1 ⟨x, H1, I1, r1, q1⟩ => ?_
  obtain ⟨i, rfl, q⟩ := q1
  obtain ⟨t, rfl⟩ := r1
  exact ⟨some i, H1, I1, .int i t, q⟩
noncomputable def SlR (X : Cx) (r : V → Option Int → Option Int → Hp → VK → Prop) : Prop :=
  ∀ (pins : List (Addr × Obj)) (s : Shared) (σ : St) (H : Hp) (x : V) (v vl vu : Value) (lo hi : Option Int) (sl : Addr) (Q : VK), Inv X pins σ H s → RelV x v → s.heap.IsSliceOf sl vl vu .none → IsPart vl lo → IsPart vu hi → r x lo hi H Q →
    ∃ T id, typeLookup (.type T) "__getitem__" = pure (some (.builtin id)) ∧ s.TypeIs v T ∧ wpAny (model X.prog X.w) X.A (getItem v (.ref sl)) (EP X pins σ Q) X.xe s
noncomputable def tSl (r : V → Option Int → Option Int → Hp → VK → Prop) (te : TE) (tl th : TO) : TE := fun σ H Q => te σ H fun x H1 => tl σ H1 fun l H2 => th σ H2 fun u H3 => r x l u H3 Q
theorem pe_slice {r : V → Option Int → Option Int → Hp → VK → Prop} (hr : SlR X r) (he : PE X e te) (hl : PO X lo tl) (hu : PO X hi th) : PE X (.Subscript e (.Slice lo hi none p2) pos) (tSl r te tl th) := by
  intro pins s σ H Q I h
  refine Subscript_ (thn (he pins s σ H _ I h) fun v s1 ⟨x, H1, I1, r1, q1⟩ => ?_)
  refine wpAny_Slice (thn (hl pins s1 σ H1 _ I1 q1) fun vl s2 ⟨l, H2, I2, pl, q2⟩ => thn (hu pins s2 σ H2 _ I2 q2) fun vu s3 ⟨u, H3, I3, pu, q3⟩ => ?_)
  rw [evalPart_none]
  refine wpAny_pure ?_
  have I4 : Inv X pins σ H3 { s3 with heap := s3.heap.push { cls := .type "slice", data := .fields #[vl, vu, .none] } } := I3.kept (t' := s3.toks) fun b ob q => Heap.get?_push_of_some _ q
  obtain ⟨T, id, hT, ht, hg⟩ := hr pins { s3 with heap := s3.heap.push { cls := .type "slice", data := .fields #[vl, vu, .none] } } σ H3 x v vl vu l u s3.heap.objs.size Q I4 r1 (Heap.IsSliceOf.new ..) pl pu q3
  show wpAny (model X.prog X.w) X.A (subscriptTail e (.Slice lo hi none p2) v (.ref s3.heap.objs.size)) (EP X pins σ Q) X.xe { s3 with heap := s3.heap.push { cls := .type "slice", data := .fields #[vl, vu, .none] } }
  exact tail_any (ops := [.ref s3.heap.objs.size, v]) ht hT hg (by with_unfolding_all rfl)
noncomputable def cutV (xs : List V) (lo hi : Option Int) : List V := (xs.drop (HT.sIx xs.length 0 lo)).take (HT.sIx xs.length xs.length hi - HT.sIx xs.length 0 lo)
theorem cutV_length (xs : List V) (lo hi : Option Int) : (cutV xs lo hi).length ≤ xs.length := by
  unfold cutV
  rw [List.length_take, List.length_drop]
  omega
noncomputable def rSlT (K : PySem.W.Frag) : V → Option Int → Option Int → Hp → VK → Prop := fun x lo hi H Q => ∃ a xs, x = .ref a ∧ SqT K H a xs ∧
  ¬ (HT.sIx xs.length 0 lo = 0 ∧ HT.sIx xs.length xs.length hi = xs.length) ∧ ∀ p, H p = none → Q (.ref p) (upd H p (.tup (cutV xs lo hi)))
theorem sl_tup : SlR X (rSlT X.K) := by
  intro pins s σ H x v vl vu lo hi sl Q I rx hs pl pu h
  obtain ⟨a, xs, rfl, hx, hw, q⟩ := h
  cases rx
  obtain ⟨its, r, ht, hz⟩ := I.tuple hx
  have hlen : its.toArray.size = xs.length := by rw [List.size_toArray]; exact r.length.symm
  refine ⟨"tuple", _, PyProof.Rows.slot_tuple_getitem.lookup, ht.typeIs, ?_⟩
  refine HT.getItem_tuple_cut ht hs pl pu (by rw [hlen]; exact hw) ?_ (by rw [hlen]; exact hz)
  rw [hlen]
  refine ⟨.ref s.heap.objs.size, _, I.laid (t' := s.toks) (o := .tup (cutV xs lo hi)) (fun b ob q => Heap.get?_push_of_some _ q) (Nat.le_refl _) ?_, rfl, q _ (I.hok.fresh (Nat.le_refl _))⟩
  exact ⟨Nat.le_trans (cutV_length xs lo hi) hz, _, (r.drop (HT.sIx xs.length 0 lo)).take (HT.sIx xs.length xs.length hi - HT.sIx xs.length 0 lo), aHk.new _ _⟩
noncomputable def rCatT (K : PySem.W.Frag) : R2 := fun x y H Q => ∃ a b xs ys, x = .ref a ∧ y = .ref b ∧ SqT K H a xs ∧ SqT K H b ys ∧ xs ≠ [] ∧ xs.length + ys.length ≤ sizeLine ∧
  (ys = [] → Q (.ref a) H) ∧ (ys ≠ [] → ∀ p, H p = none → Q (.ref p) (upd H p (.tup (xs ++ ys))))
theorem Vals.nil_iff {xs : List V} {us : List Value} (r : Vals xs us) : us = [] ↔ xs = [] := by
  cases r with
  | nil => simp
  | cons _ _ => simp
theorem op_catT : OpR X (binaryOp .Add) (rCatT X.K) := by
  intro pins s σ H x y v u Q I rx ry h
  obtain ⟨a, b, xs, ys, rfl, rfl, ha, hb, hx, hz, q1, q2⟩ := h
  cases rx
  cases ry
  obtain ⟨its, r1, p1, _⟩ := I.tuple ha
  obtain ⟨its2, r2, p2, _⟩ := I.tuple hb
  refine HT.cat_tup p1 p2 (fun z => hx (r1.nil_iff.mp z)) (fun z => ⟨.ref a, H, I, rfl, q1 (r2.nil_iff.mp z)⟩) (fun z => ?_) (by rw [← r1.length, ← r2.length]; exact hz)
  refine ⟨.ref s.heap.objs.size, _, I.laid (t' := s.toks) (o := .tup (xs ++ ys)) (fun b ob q => Heap.get?_push_of_some _ q) (Nat.le_refl _) ?_, rfl, q2 (fun w => z (r2.nil_iff.mpr w)) _ (I.hok.fresh (Nat.le_refl _))⟩
  exact ⟨by rw [List.length_append]; exact hz, _, r1.append r2, aHk.new _ _⟩
end
end L2
namespace L2
open PySem PySem.Spec PyProof.Rows
noncomputable def ixN (n : Nat) (i : Int) : Option Nat := if 0 ≤ i then (if i < n then some i.toNat else none) else if -(n : Int) ≤ i then some (i + n).toNat else none
noncomputable def atI {α : Type} (xs : List α) (i : Int) : Option α := (ixN xs.length i).bind fun j => xs[j]?
theorem ixN_seq {n : Nat} {i : Int} {j : Nat} (h : ixN n i = some j) : seqIndex? i n = some j ∧ j < n ∧ -(n : Int) ≤ i ∧ i < n := by
  unfold ixN at h
  by_cases h0 : 0 ≤ i
  · rw [if_pos h0] at h
    by_cases h1 : i < n
    · rw [if_pos h1] at h
      have e : i.toNat = j := Option.some.inj h
      exact ⟨by rw [seqIndex_of h0 h1, e], by omega, by omega, h1⟩
    · rw [if_neg h1] at h; cases h
  · rw [if_neg h0] at h
    by_cases h1 : -(n : Int) ≤ i
    · rw [if_pos h1] at h
      have e : (i + n).toNat = j := Option.some.inj h
      exact ⟨by rw [seqIndex_neg (by omega) h1, e], by omega, h1, by omega⟩
    · rw [if_neg h1] at h; cases h
theorem atI_get {α : Type} {xs : List α} {i : Int} {v : α} (h : atI xs i = some v) : ∃ j, seqIndex? i xs.length = some j ∧ xs[j]? = some v ∧ j < xs.length ∧ -(xs.length : Int) ≤ i ∧ i < xs.length := by
  unfold atI at h
  cases e : ixN xs.length i with
  | none => rw [e] at h; cases h
  | some j =>
    rw [e] at h
    obtain ⟨h1, h2, h3, h4⟩ := ixN_seq e
    exact ⟨j, h1, h, h2, h3, h4⟩
noncomputable def PlainIx (b : Expr) : Prop := ∀ o i, subscripted b false o i = operate [o, i] (getItem o i)
noncomputable def IxR (X : Cx) (r : R2) : Prop :=
  ∀ (value slice : Expr) (pins : List (Addr × Obj)) (s : Shared) (σ : St) (H : Hp) (x y : V) (v u : Value) (Q : VK), Inv X pins σ H s → RelV x v → RelV y u → r x y H Q →
    subscripted slice false v u = operate [v, u] (getItem v u) → wpAny (model X.prog X.w) X.A (subscriptTail value slice v u) (EP X pins σ Q) X.xe s
noncomputable def MtR (X : Cx) (id : String) (r : V → List V → Hp → VK → Prop) : Prop :=
  ∀ (pins : List (Addr × Obj)) (s : Shared) (σ : St) (H : Hp) (x : V) (xs : List V) (v : Value) (us : List Value) (Q : VK), Inv X pins σ H s → RelV x v → Vals xs us → r x xs H Q →
    wpAny (model X.prog X.w) X.A (call (.builtin id) (v :: us)) (EP X pins σ Q) X.xe s
section
variable {X : Cx} {a b : Expr} {ta tb : TE} {pos : Pos}
theorem IxR.or {r r' : R2} (h : IxR X r) (h' : IxR X r') : IxR X (fun x y H Q => r x y H Q ∨ r' x y H Q) := by
  intro value slice pins s σ H x y v u Q I rx ry q hs
  rcases q with q | q
  · exact h value slice pins s σ H x y v u Q I rx ry q hs
  · exact h' value slice pins s σ H x y v u Q I rx ry q hs
theorem pe_ix {r : R2} (hr : IxR X r) (ha : PE X a ta) (hb : PE X b tb) (hs : PlainIx b) : PE X (.Subscript a b pos) (tOp r ta tb) := by
  intro pins s σ H Q I h
  exact Subscript_ (binT ha hb I h fun v u s2 x y H2 I2 rx ry q => hr a b pins s2 σ H2 x y v u Q I2 rx ry q (hs _ _))
noncomputable def rIxL (K : PySem.W.Frag) : R2 := fun x y H Q => ∃ p xs i v, x = .ref p ∧ y = .int i ∧ SqL K H p xs ∧ atI xs i = some v ∧ Q v H
noncomputable def rIxT (K : PySem.W.Frag) : R2 := fun x y H Q => ∃ p xs i v, x = .ref p ∧ y = .int i ∧ SqT K H p xs ∧ atI xs i = some v ∧ Q v H
noncomputable def rIxS : R2 := fun x y H Q => ∃ z i c, x = .str z ∧ y = .int i ∧ z.length ≤ sizeLine ∧ atI z.cps.toList i = some c ∧ Q (.str ⟨#[c]⟩) H
theorem ix_list : IxR X (rIxL X.K) := by
  intro value slice pins s σ H x y v u Q I rx ry h hs
  obtain ⟨p, xs, i, z, rfl, rfl, hq, he, q⟩ := h
  cases rx
  obtain ⟨t, rfl⟩ := ry
  obtain ⟨its, r, pl, hz⟩ := I.list hq
  obtain ⟨j, h1, h2, h3, h4, h5⟩ := atI_get he
  obtain ⟨w, ew, rw'⟩ := r.get h2
  have hl := r.length
  have hn := line63
  have fin : EP X pins σ Q w s := ⟨z, H, I, rw', q⟩
  by_cases h0 : 0 ≤ i
  · have hj : i.toNat = j := by
      rw [seqIndex_of h0 h5] at h1
      exact Option.some.inj h1
    exact item_listR pl.isList h0 (by omega) (by rw [hj]; simpa using ew) fin hs
  · have hj : (i + (its.toArray.size : Int)).toNat = j := by
      rw [seqIndex_neg (by omega) h4] at h1
      rw [List.size_toArray, ← hl]
      exact Option.some.inj h1
    exact subscriptTail_builtinR (x := w) pl.isList.typeIs slot_list_getitem.lookup
      (wpAny_getItem_list_neg (Q := fun r s' => r = w ∧ EP X pins σ Q r s') pl.isList (by omega) (by rw [List.size_toArray] <;> omega) (by omega) (by rw [hj]; simpa using ew) ⟨rfl, fin⟩) hs
theorem ix_tup : IxR X (rIxT X.K) := by
  intro value slice pins s σ H x y v u Q I rx ry h hs
  obtain ⟨p, xs, i, z, rfl, rfl, hq, he, q⟩ := h
  cases rx
  obtain ⟨t, rfl⟩ := ry
  obtain ⟨its, r, pl, hz⟩ := I.tuple hq
  obtain ⟨j, h1, h2, h3, h4, h5⟩ := atI_get he
  obtain ⟨w, ew, rw'⟩ := r.get h2
  have hl := r.length
  have hn := line63
  have fin : EP X pins σ Q w s := ⟨z, H, I, rw', q⟩
  exact subscriptTail_builtinR (x := w) pl.typeIs slot_tuple_getitem.lookup
    (getItem_tuple (j := j) (Q := fun r s' => r = w ∧ EP X pins σ Q r s') pl (by omega) (by omega) (by rw [List.size_toArray, ← hl]; exact h1) (by simpa using ew) ⟨rfl, fin⟩) hs
theorem ix_str : IxR X rIxS := by
  intro value slice pins s σ H x y v u Q I rx ry h hs
  obtain ⟨z, i, c, rfl, rfl, hz, he, q⟩ := h
  obtain ⟨t, rfl⟩ := rx
  obtain ⟨t', rfl⟩ := ry
  obtain ⟨j, h1, h2, h3, h4, h5⟩ := atI_get he
  have hl : z.cps.toList.length = z.length := by simp [Str.length]
  rw [hl] at h1 h4 h5
  have hn := line63
  exact tail_any (typeIs_str s z t) slot_str_getitem.lookup (getItem_str (c := c) (by
    have e1 : decide (i < -(2 ^ 63 : Int)) = false := decide_eq_false (by omega)
    have e2 : decide (i ≥ 2 ^ 63) = false := decide_eq_false (by omega)
    rw [e1, e2, Bool.or_false]) (by rw [h1]; simpa using h2) ⟨.str ⟨#[c]⟩, H, I.tok _, ⟨_, rfl⟩, q⟩) hs
noncomputable def rIx (K : PySem.W.Frag) : R2 := fun x y H Q => rIxL K x y H Q ∨ rIxT K x y H Q ∨ rIxS x y H Q
theorem ix_seq : IxR X (rIx X.K) := ix_list.or (ix_tup.or ix_str)
theorem slice_bounds (lo hi : Option Int) (n : Nat) : (sliceBounds lo hi none n).1 = ((HT.sIx n 0 lo : Nat) : Int) ∧ (sliceBounds lo hi none n).2.1 = ((HT.sIx n n hi : Nat) : Int) ∧ (sliceBounds lo hi none n).2.2 = 1 := by
  refine ⟨?_, ?_, rfl⟩
  · cases lo with
    | none => simp [sliceBounds, HT.sIx]
    | some i =>
      simp only [sliceBounds, HT.sIx, Option.getD_none, show (1 : Int) > 0 by decide, if_true]
      by_cases h : i < 0
      · simp only [h, if_true] <;> omega
      · simp only [h, if_false] <;> omega
  · cases hi with
    | none => simp [sliceBounds, HT.sIx]
    | some i =>
      simp only [sliceBounds, HT.sIx, Option.getD_none, show (1 : Int) > 0 by decide, if_true]
      by_cases h : i < 0
      · simp only [h, if_true] <;> omega
      · simp only [h, if_false] <;> omega
theorem slicePick_cut (its : List Value) (lo hi : Option Int) : slicePick its.toArray lo hi none = ((its.drop (HT.sIx its.length 0 lo)).take (HT.sIx its.length its.length hi - HT.sIx its.length 0 lo)).toArray := by
  obtain ⟨h1, h2, h3⟩ := slice_bounds lo hi its.toArray.size
  unfold slicePick
  rw [h1, h2, h3]
  simp only [sliceRange_one, pick_run, List.size_toArray] <;> rfl
noncomputable def rSlL (K : PySem.W.Frag) : V → Option Int → Option Int → Hp → VK → Prop := fun x lo hi H Q => ∃ a xs, x = .ref a ∧ SqL K H a xs ∧ ∀ p, H p = none → Q (.ref p) (upd H p (.lst (cutV xs lo hi)))
theorem sl_list : SlR X (rSlL X.K) := by
  intro pins s σ H x v vl vu lo hi sl Q I rx hs pl pu h
  obtain ⟨a, xs, rfl, hx, q⟩ := h
  cases rx
  obtain ⟨its, r, ht, hz⟩ := I.list hx
  have hlen := r.length
  refine ⟨"list", _, slot_list_getitem.lookup, ht.isList.typeIs, ?_⟩
  refine wpAny_getItem_list_slice ht.isList hs pl pu .none (by simp) ?_ (by rw [List.size_toArray] <;> omega)
  rw [slicePick_cut, ← hlen]
  refine ⟨.ref s.heap.objs.size, _, I.laid (t' := s.toks) (o := .lst (cutV xs lo hi)) (fun b ob q => Heap.get?_push_of_some _ q) (Nat.le_refl _) ?_, rfl, q _ (I.hok.fresh (Nat.le_refl _))⟩
  exact ⟨Nat.le_trans (cutV_length xs lo hi) hz, _, 0, (r.drop (HT.sIx xs.length 0 lo)).take (HT.sIx xs.length xs.length hi - HT.sIx xs.length 0 lo), Heap.get?_push_size _ rfl⟩
noncomputable def flatV : V → Bool
  | .non => true
  | .bl _ => true
  | .int _ => true
  | .str _ => true
  | _ => false
noncomputable def eqV : V → V → Bool
  | .non, .non => true
  | .bl a, .bl b => a == b
  | .bl a, .int b => (if a then 1 else 0) == b
  | .int a, .bl b => a == (if b then 1 else 0)
  | .int a, .int b => a == b
  | .str a, .str b => a == b
  | _, _ => false
theorem eqAt_V {A : Around} {s : Shared} {y x : V} {u v : Value} (ry : RelV y u) (rx : RelV x v) (fy : flatV y = true) (fx : flatV x = true) : SeqAt.EqAt A s u v (eqV y x) := by
  cases y with
  | non =>
    cases ry
    cases x with
    | non => cases rx; exact SeqAt.EqAt.same _
    | bl b => cases rx; exact SeqAt.EqAt.none_bool b
    | int b => obtain ⟨t, rfl⟩ := rx; exact SeqAt.EqAt.none_int b t
    | str b => obtain ⟨t, rfl⟩ := rx; exact SeqAt.EqAt.none_str b t
    | _ => exact absurd (show false = true from fx) Bool.false_ne_true
  | bl a =>
    cases ry
    cases x with
    | non => cases rx; exact SeqAt.EqAt.bool_none a
    | bl b => cases rx; exact SeqAt.EqAt.bool_bool a b
    | int b => obtain ⟨t, rfl⟩ := rx; exact SeqAt.EqAt.bool_int a b t
    | str b => obtain ⟨t, rfl⟩ := rx; exact SeqAt.EqAt.bool_str a b t
    | _ => exact absurd (show false = true from fx) Bool.false_ne_true
  | int a =>
    obtain ⟨t', rfl⟩ := ry
    cases x with
    | non => cases rx; exact SeqAt.EqAt.int_none a t'
    | bl b => cases rx; exact SeqAt.EqAt.int_bool a t' b
    | int b => obtain ⟨t, rfl⟩ := rx; exact SeqAt.EqAt.int_int a t' b t
    | str b => obtain ⟨t, rfl⟩ := rx; exact SeqAt.EqAt.int_str a t' b t
    | _ => exact absurd (show false = true from fx) Bool.false_ne_true
  | str a =>
    obtain ⟨t', rfl⟩ := ry
    cases x with
    | non => cases rx; exact SeqAt.EqAt.str_none a t'
    | bl b => cases rx; exact SeqAt.EqAt.str_bool a t' b
    | int b => obtain ⟨t, rfl⟩ := rx; exact SeqAt.EqAt.str_int a t' b t
    | str b => obtain ⟨t, rfl⟩ := rx; exact SeqAt.EqAt.str_str a t' b t
    | _ => exact absurd (show false = true from fx) Bool.false_ne_true
  | _ => exact absurd (show false = true from fy) Bool.false_ne_true
noncomputable def eqU (x : V) (u : Value) : Bool := match u with
  | .none => eqV .non x
  | .bool b => eqV (.bl b) x
  | .int i _ => eqV (.int i) x
  | .str z _ => eqV (.str z) x
  | _ => false
theorem eqU_of {x y : V} {u : Value} (r : RelV y u) (f : flatV y = true) : eqU x u = eqV y x := by
  cases y with
  | non => cases r; rfl
  | bl b => cases r; rfl
  | int i => obtain ⟨t, rfl⟩ := r; rfl
  | str z => obtain ⟨t, rfl⟩ := r; rfl
  | _ => exact absurd (show false = true from f) Bool.false_ne_true
theorem any_eqU {x : V} : ∀ {xs : List V} {us : List Value}, Vals xs us → xs.all flatV = true → us.any (eqU x) = xs.any fun y => eqV y x
  | _, _, .nil, _ => rfl
  | y :: xs, u :: us, .cons r t, f => by
    rw [List.all_cons, Bool.and_eq_true] at f
    rw [List.any_cons, List.any_cons, eqU_of r f.1, any_eqU t f.2]
theorem mem_eqAt {A : Around} {s : Shared} {x : V} {v : Value} (rx : RelV x v) (fx : flatV x = true) : ∀ {xs : List V} {us : List Value}, Vals xs us → xs.all flatV = true → ∀ u ∈ us, SeqAt.EqAt A s u v (eqU x u)
  | _, _, .nil, _ => fun u hu => by cases hu
  | y :: xs, u :: us, .cons r t, f => fun u' hu => by
    rw [List.all_cons, Bool.and_eq_true] at f
    rcases List.mem_cons.mp hu with rfl | hu
    · rw [eqU_of r f.1]; exact eqAt_V r rx f.1 fx
    · exact mem_eqAt rx fx t f.2 u' hu
noncomputable def inV (x : V) (xs : List V) : Bool := xs.any fun y => eqV y x
noncomputable def rIn (K : PySem.W.Frag) (neg : Bool) : R2 := fun x y H Q => ∃ p xs, y = .ref p ∧ (SqL K H p xs ∨ SqT K H p xs) ∧ flatV x = true ∧ xs.all flatV = true ∧ Q (.bl (if neg then !inV x xs else inV x xs)) H
theorem op_in_seq : OpR X (compareOp .In) (rIn X.K false) := by
  intro pins s σ H x y v u Q I rx ry h
  obtain ⟨p, xs, rfl, hq, fx, fs, q⟩ := h
  cases ry
  rcases hq with hq | hq
  · obtain ⟨its, r, pl, hz⟩ := I.list hq
    refine SeqAt.in_listAt (eqU x) pl.isList (fun w hw => mem_eqAt rx fx r fs w (by simpa using hw)) ⟨.bl _, H, I, rfl, ?_⟩
    rw [show its.toArray.any (eqU x) = its.any (eqU x) by simp, any_eqU r fs]
    exact q
  · obtain ⟨its, r, pl, hz⟩ := I.tuple hq
    refine SeqAt.in_tupleAt (eqU x) pl (fun w hw => mem_eqAt rx fx r fs w (by simpa using hw)) ⟨.bl _, H, I, rfl, ?_⟩
    rw [show its.toArray.any (eqU x) = its.any (eqU x) by simp, any_eqU r fs]
    exact q
theorem op_notIn_seq : OpR X (compareOp .NotIn) (rIn X.K true) := by
  intro pins s σ H x y v u Q I rx ry h
  obtain ⟨p, xs, rfl, hq, fx, fs, q⟩ := h
  cases ry
  rcases hq with hq | hq
  · obtain ⟨its, r, pl, hz⟩ := I.list hq
    refine SeqAt.notIn_listAt (eqU x) pl.isList (fun w hw => mem_eqAt rx fx r fs w (by simpa using hw)) ⟨.bl _, H, I, rfl, ?_⟩
    rw [show its.toArray.any (eqU x) = its.any (eqU x) by simp, any_eqU r fs]
    exact q
  · obtain ⟨its, r, pl, hz⟩ := I.tuple hq
    refine SeqAt.notIn_tupleAt (eqU x) pl (fun w hw => mem_eqAt rx fx r fs w (by simpa using hw)) ⟨.bl _, H, I, rfl, ?_⟩
    rw [show its.toArray.any (eqU x) = its.any (eqU x) by simp, any_eqU r fs]
    exact q
theorem aGn : CallR X (.type "tuple") (fun xs H Q => ∃ p ys, xs = [.ref p] ∧ ((SqL X.K H p ys ∧ ∀ l, H l = none → Q (.ref l) (upd H l (.tup ys))) ∨ (SqT X.K H p ys ∧ Q (.ref p) H))) := by
  intro pins s σ H xs us Q I r h
  obtain ⟨p, ys, rfl, h⟩ := h
  obtain ⟨u, rfl, rx⟩ := vals1 r
  cases rx
  rcases h with ⟨hq, q⟩ | ⟨hq, q⟩
  · obtain ⟨its, r', pl, hz⟩ := I.list hq
    have hlen := r'.length
    refine call_tuple_list pl.isList (fun h' kp => ?_) (by simp only [List.size_toArray] <;> omega)
    have I1 : Inv X pins σ H { s with heap := h' } := I.kept (t' := s.toks) kp
    have I2 : Inv X pins σ (upd H h'.objs.size (.tup ys)) { s with heap := h'.push { cls := .type "tuple", data := .seq its.toArray } } :=
      I1.laid (t' := s.toks) (fun b o e => Heap.get?_push_of_some _ e) (Nat.le_refl _) (show aDu X.prog X.w _ _ _ (.tup ys) from ⟨hz, its, r', aHk.new _ _⟩)
    exact ⟨.ref h'.objs.size, _, I2, rfl, q _ (I1.hok.fresh (Nat.le_refl _))⟩
  · obtain ⟨its, r', pl, hz⟩ := I.tuple hq
    exact call_tuple_same pl ⟨.ref p, H, I, rfl, q⟩
noncomputable def tyV (K : PySem.W.Frag) (T : String) (x : V) (H : Hp) : Prop := match x with
  | .str _ => T = "str"
  | .int _ => T = "int"
  | .ref p => (T = "list" ∧ ∃ xs, SqL K H p xs) ∨ (T = "tuple" ∧ ∃ o, K.lookup p = some o ∧ o.cls = .type "tuple" ∧ o.dict = none) ∨
      (T = "dict" ∧ ((∃ kvs, H p = some (.dK kvs)) ∨ ∃ kvs, H p = some (.dT kvs))) ∨ (T = "set" ∧ ∃ S n, H p = some (.set S n))
  | _ => False
theorem tyV_is {pins : List (Addr × Obj)} {σ : St} {H : Hp} {s : Shared} {T : String} {x : V} {v : Value} (I : Inv X pins σ H s) (r : RelV x v) (ty : tyV X.K T x H) :
    s.TypeIs v T ∧ ∀ a, v = .ref a → ∃ ob, s.heap.get? a = some ob ∧ ob.dict = none := by
  cases x with
  | str z =>
    obtain ⟨t, rfl⟩ := r
    cases (show T = "str" from ty)
    exact ⟨typeIs_str s z t, fun _ e => nomatch e⟩
  | int i =>
    obtain ⟨t, rfl⟩ := r
    cases (show T = "int" from ty)
    exact ⟨typeIs_int s i t, fun _ e => nomatch e⟩
  | ref p =>
    cases r
    rcases ty with ⟨rfl, xs, hq⟩ | ⟨rfl, o, hk, hc, hd⟩ | ⟨rfl, hk⟩ | ⟨rfl, S, n, hk⟩
    · obtain ⟨its, _, pl, _⟩ := I.list hq
      refine ⟨pl.isList.typeIs, fun a e => ?_⟩
      cases e
      obtain ⟨o, n, e, c, hd, _⟩ := pl
      exact ⟨o, e, hd⟩
    · refine ⟨⟨o, I.kIn p o hk, hc⟩, fun a e => ?_⟩
      cases e
      exact ⟨o, I.kIn _ o hk, hd⟩
    · have z : ∃ o, s.heap.get? p = some o ∧ o.ExactDict := by
        rcases hk with ⟨kvs, hk⟩ | ⟨kvs, hk⟩
        · obtain ⟨_, _, _, _, o, _, _, e, ex, _⟩ := I.hok p _ hk
          exact ⟨o, e, ex⟩
        · obtain ⟨_, _, _, _, o, _, _, e, ex, _⟩ := I.hok p _ hk
          exact ⟨o, e, ex⟩
      obtain ⟨o, e, ex⟩ := z
      refine ⟨⟨o, e, ex.1⟩, fun a e2 => ?_⟩
      cases e2
      exact ⟨o, e, ex.2.1⟩
    · obtain ⟨o, _, _, _, e, ex, _⟩ := I.hok p _ hk
      refine ⟨⟨o, e, ex.1⟩, fun a e2 => ?_⟩
      cases e2
      exact ⟨o, e, ex.2.1⟩
  | _ => exact False.elim ty
noncomputable def tBM0 (K : PySem.W.Frag) (T : String) (r : V → List V → Hp → VK → Prop) (to : TE) : TE := fun σ H Q => to σ H fun x H1 => tyV K T x H1 ∧ r x [] H1 Q
noncomputable def tBM (K : PySem.W.Frag) (T : String) (r : V → List V → Hp → VK → Prop) (to : TE) (t : TA) : TE := fun σ H Q => to σ H fun x H1 => tyV K T x H1 ∧ t σ H1 fun xs H2 => r x xs H2 Q
variable {o e : Expr} {es : List Expr} {to : TE} {t : TA} {name : Str} {apos cpos : Pos} {T id : String} {r : V → List V → Hp → VK → Prop}
theorem pe_bm0 (pa : PlainAttrs T) (slot : Slot T name id) (hty : typeOf (.builtin id) = pure (.type "method_descriptor")) (hm : MtR X id r) (ho : PE X o to)
    (hbase : attributeBase o name X.env (eval o X.env) = eval o X.env := by rfl) (hline : (apos.endLine == cpos.line) = true := by rfl) : PE X (.Call (.Attribute o name apos) [] [] cpos) (tBM0 X.K T r to) := by
  intro pins s σ H Q I h
  refine wpAny_Call_method0_late hbase hline (thn (ho pins s σ H _ I h) fun v s1 ⟨x, H1, I1, r1, ty, q1⟩ => ?_)
  obtain ⟨h1, h2⟩ := tyV_is I1 r1 ty
  exact ⟨T, id, pa, slot, hty, h1, h2, Calls.callWith_builtin rfl (PySem.evalArgs_none (hm pins s1 σ H1 x [] v [] Q I1 r1 .nil q1))⟩
theorem pe_bm (pa : PlainAttrs T) (slot : Slot T name id) (hty : typeOf (.builtin id) = pure (.type "method_descriptor")) (hm : MtR X id r) (ho : PE X o to) (ha : PA X (e :: es) t)
    (hbase : attributeBase o name X.env (eval o X.env) = eval o X.env := by rfl)
    (hfew : ((backTo cpos (starEach (e :: es) X.env)).all (fun x => !x.1) && (backToKw cpos (keywordEach [] X.env)).all (fun x => x.1.isSome)
      && decide ((e :: es).length + ([] : List Keyword).length + (if ([] : List Keyword).isEmpty then 0 else 1) < 30)) = true := by rfl)
    (hline : (apos.endLine == cpos.line) = true := by rfl) (hs : starEach (e :: es) X.env = (false, eval e X.env) :: starEach es X.env := by rfl) (hplain : (backTo cpos (starEach es X.env)).any (·.1) = false := by rfl) :
    PE X (.Call (.Attribute o name apos) (e :: es) [] cpos) (tBM X.K T r to t) := by
  intro pins s σ H Q I h
  refine wpAny_Call_method_late hbase hfew hline rfl (thn (ho pins s σ H _ I h) fun v s1 ⟨x, H1, I1, r1, ty, q1⟩ => ?_)
  obtain ⟨h1, h2⟩ := tyV_is I1 r1 ty
  refine ⟨T, id, pa, slot, hty, h1, h2, ?_⟩
  have hA := ha cpos pins s1 σ H1 _ I1 q1
  rw [hs] at hA ⊢
  refine Calls.callWith_builtin (by show (false || (backTo cpos (starEach es X.env)).any (·.1)) = false; rw [hplain] <;> rfl) (Calls.evalArgs_plain ?_)
  exact thn hA fun us s2 ⟨vs, H2, I2, r2, q2⟩ => hm pins s2 σ H2 x vs v us Q I2 r1 r2 q2
end
end L2
namespace L2
open PySem PySem.Spec PyProof.Rows
noncomputable def MtM (X : Cx) (id : String) (r : V → List V → Hp → VK → Prop) : Prop :=
  ∀ (pins : List (Addr × Obj)) (s : Shared) (σ : St) (H : Hp) (x : V) (xs : List V) (v : Value) (us : List Value) (Q : VK), Inv X pins σ H s → RelV x v → Vals xs us → r x xs H Q →
    wpAny (model X.prog X.w) X.A (call (.builtin id) (v :: us)) (EP X pins σ Q) X.xe s
theorem Vals.one : ∀ {x : V} {us : List Value}, Vals [x] us → ∃ u, us = [u] ∧ RelV x u
  | _, _, .cons r .nil => ⟨_, rfl, r⟩
theorem Vals.rep {xs : List V} {us : List Value} (h : Vals xs us) : ∀ k : Nat, Vals (List.replicate k xs).flatten (List.replicate k us).flatten
  | 0 => .nil
  | k + 1 => by
    rw [List.replicate_succ, List.replicate_succ, List.flatten_cons, List.flatten_cons]
    exact Vals.append h (Vals.rep h k)
theorem foldl_rep (its : List Value) : ∀ (k : Nat) (acc : List Value),
    List.foldl (fun x1 x2 => x1 ++ x2) acc.toArray (List.replicate k its.toArray) = (acc ++ (List.replicate k its).flatten).toArray
  | 0, acc => by simp
  | k + 1, acc => by
    have e : acc.toArray ++ its.toArray = (acc ++ its).toArray := by simp
    have e2 : (acc ++ its) ++ (List.replicate k its).flatten = acc ++ (List.replicate (k + 1) its).flatten := by
      rw [List.replicate_succ, List.flatten_cons, List.append_assoc]
    rw [← e2, ← foldl_rep its k (acc ++ its), ← e, List.replicate_succ, List.foldl_cons]
section
variable {X : Cx} {pins : List (Addr × Obj)} {σ : St} {H : Hp} {s : Shared} {l b : Addr} {xs ys zs : List V}
theorem Inv.lset {its its' : List Value} {n : Nat} {f : Array Value → Array Value} {t' : Nat} (I : Inv X pins σ H s) (hH : H l = some (.lst xs))
    (e : s.heap.get? l = some { cls := .type "list", data := .seq its.toArray n }) (hf : f its.toArray = its'.toArray) (hv : Vals ys its') (hz : ys.length ≤ sizeLine) :
    Inv X pins σ (upd H l (.lst ys)) { s with heap := s.heap.update l (Obj.mapSeq f), toks := t' } := by
  have q := PySem.IsL.update e f
  rw [hf] at q
  refine I.write (x := l) (e := l) (by rw [hH]; exact trivial) (.inl rfl) (fun b' u hb hu => (Heap.get?_update_other s.heap (Obj.mapSeq f) (Ne.symm hb)).trans hu) ⟨_, q⟩ ?_
  exact ⟨hz, its', _, hv, q⟩
theorem Inv.lnew {its : List Value} {t' : Nat} (I : Inv X pins σ H s) (hv : Vals ys its) (hz : ys.length ≤ sizeLine) :
    Inv X pins σ (upd H s.heap.objs.size (.lst ys)) { s with heap := s.heap.push { cls := .type "list", data := .seq its.toArray }, toks := t' } :=
  I.laid (fun _ _ q => Heap.get?_push_of_some _ q) (Nat.le_refl _) ⟨hz, its, 0, hv, Heap.get?_push_size _ rfl⟩
theorem Inv.fresh (I : Inv X pins σ H s) : H s.heap.objs.size = none := I.hok.fresh (Nat.le_refl _)
theorem Inv.lstM (I : Inv X pins σ H s) (hH : H l = some (.lst xs)) : xs.length ≤ sizeLine ∧ ∃ (its : List Value) (n : Nat), Vals xs its ∧ xs.length = its.length ∧ s.heap.get? l = some { cls := .type "list", data := .seq its.toArray n } := by
  obtain ⟨z, its, n, r, e⟩ := I.hok l _ hH
  exact ⟨z, its, n, r, r.length, e⟩
theorem notLongL {n : Nat} (h : n ≤ sizeLine) : Builtin.List.listTooLong n = false := by
  unfold Builtin.List.listTooLong
  exact decide_eq_false (by omega)
end
section
variable {X : Cx}
noncomputable def rAppend : V → List V → Hp → VK → Prop := fun x vs H Q => ∃ l xs y, x = .ref l ∧ vs = [y] ∧ H l = some (.lst xs) ∧ xs.length < sizeLine ∧ Q .non (upd H l (.lst (xs ++ [y])))
theorem mt_append : MtM X "list.append" rAppend := by
  intro pins s σ H x vs v us Q I rx rv h
  obtain ⟨l, xs, y, rfl, rfl, hH, hz, q⟩ := h
  cases rx
  obtain ⟨u, rfl, ru⟩ := rv.one
  obtain ⟨z, its, n, r, hl, e⟩ := I.lstM hH
  refine call_meets F.slot_list_append ⟨_, e, rfl⟩ F.entry_list_append (F.args_list_append_2 _ _) (PySem.list_append l its.toArray n u (by rw [List.size_toArray]; omega)) ⟨e, ?_⟩
  refine ⟨.non, _, I.lset (its' := its ++ [u]) hH e (by simp) (r.append (.cons ru .nil)) ?_, rfl, q⟩
  rw [List.length_append, List.length_singleton]
  omega
noncomputable def rRep : R2 := fun x y H Q => ∃ l k xs, x = .ref l ∧ y = .int k ∧ H l = some (.lst xs) ∧ -(2 ^ 63) ≤ k ∧ k < 2 ^ 63 ∧ xs.length * k.toNat ≤ sizeLine ∧
  ∀ p, H p = none → Q (.ref p) (upd H p (.lst (List.replicate k.toNat xs).flatten))
theorem len_rep {α : Type} (xs : List α) (k : Nat) : (List.replicate k xs).flatten.length = k * xs.length := by
  induction k with
  | zero => simp
  | succ k ih => rw [List.replicate_succ, List.flatten_cons, List.length_append, ih, Nat.succ_mul, Nat.add_comm]
theorem op_rep : OpR X (binaryOp .Mult) rRep := by
  intro pins s σ H x y v u Q I rx ry h
  obtain ⟨l, k, xs, rfl, rfl, hH, h1, h2, hz, q⟩ := h
  cases rx
  obtain ⟨t, rfl⟩ := ry
  obtain ⟨z, its, n, r, hl, e⟩ := I.lstM hH
  have hlen : its.toArray.size * k.toNat ≤ sizeLine := by rw [List.size_toArray, ← hl]; exact hz
  have hcap : ¬ its.toArray.size * k.toNat > (2 ^ 63 - 1) / 8 := by
    have : (sizeLine : Nat) ≤ (2 ^ 63 - 1) / 8 := by decide
    omega
  have hfit : ¬ (!Builtin.List.listFitsIndex k) = true := by
    rw [fitsIndex_both h1 h2]
    exact Bool.false_ne_true
  have hlong : ¬ Builtin.List.listTooLong (its.toArray.size * k.toNat) = true := by
    rw [notLongL hlen]
    exact Bool.false_ne_true
  have hnew : List.foldl (fun x1 x2 => x1 ++ x2) #[] (List.replicate (if its.toArray.isEmpty = true then 0 else k.toNat) its.toArray) = (List.replicate k.toNat its).flatten.toArray := by
    have f0 : ∀ m : Nat, List.foldl (fun x1 x2 => x1 ++ x2) #[] (List.replicate m its.toArray) = (List.replicate m its).flatten.toArray := fun m => by
      have := foldl_rep its m []
      rw [List.nil_append] at this
      exact this
    rw [f0]
    cases its with
    | nil => simp
    | cons a r' => rw [if_neg (by simp)]
  refine wpAny_binaryOp_repeat_ref (T := "list") (U := "int") (by decide) ⟨_, e, rfl⟩ (fun s' => typeIs_int s' k t) noFill_list_mul F.fills_int_mul F.slot_int_rmul repeat_list F.slot_int_index.lookup
    (call_meets F.slot_int_rmul (typeIs_int s k t) F.entry_int_rmul (F.args_int_rmul_2 _ _) (int___rmul___int_list k t l its.toArray n)
      ⟨e, rfl, ⟨_, e, rfl⟩, call_meets F.slot_list_mul ⟨_, e, rfl⟩ F.entry_list_mul (F.args_list_mul_2 _ _) (AutoListH.list___mul___list_int_3 l its.toArray n k t hfit hcap hlong) ⟨e, ?_⟩⟩)
  rw [hnew]
  exact ⟨.ref _, _, I.lnew (t' := s.toks) (r.rep k.toNat) (by rw [len_rep, Nat.mul_comm]; exact hz), rfl, q _ I.fresh⟩
end
section
variable {prog : Program} {w : World} {A : Around} {E : Value → Shared → Prop} {s : Shared}
end
section
variable {X : Cx}
end
end L2
namespace L2
open PySem PySem.Spec PyProof.Rows
section
variable {κ : Type} [DecidableEq κ]
noncomputable def valV (kvs : List (κ × V)) (k : κ) : Option V := (kvs.find? fun kv => decide (kv.1 = k)).map (·.2)
noncomputable def putK (kvs : List (κ × V)) (k : κ) (v : V) : List (κ × V) :=
  if (kvs.any fun kv => decide (kv.1 = k)) = true then kvs.map (fun kv => if kv.1 = k then (kv.1, v) else kv) else kvs ++ [(k, v)]
theorem valV_pos {p : κ × V} {r : List (κ × V)} {k : κ} (e : p.1 = k) : valV (p :: r) k = some p.2 := by simp [valV, List.find?_cons, e]
theorem valV_neg {p : κ × V} {r : List (κ × V)} {k : κ} (e : ¬ p.1 = k) : valV (p :: r) k = valV r k := by simp [valV, List.find?_cons, e]
theorem valV_any (k : κ) : ∀ kvs : List (κ × V), (kvs.any fun kv => decide (kv.1 = k)) = (valV kvs k).isSome
  | [] => rfl
  | p :: r => by
    rw [List.any_cons]
    by_cases e : p.1 = k
    · simp only [valV_pos e, decide_eq_true e, Bool.true_or, Option.isSome_some]
    · rw [valV_neg e, decide_eq_false e, Bool.false_or]; exact valV_any k r
theorem length_putK (kvs : List (κ × V)) (k : κ) (v : V) : (putK kvs k v).length ≤ kvs.length + 1 := by
  unfold putK
  split
  · rw [List.length_map]; omega
  · rw [List.length_append, List.length_cons, List.length_nil]; omega
theorem RelO.isSome_eq {o : Option V} {u : Option Value} (r : RelO o u) : o.isSome = u.isSome := by
  cases o with
  | none => cases u with
    | none => rfl
    | some _ => exact (show False from r).elim
  | some _ => cases u with
    | none => exact (show False from r).elim
    | some _ => rfl
theorem RelO.getD {o : Option V} {u : Option Value} {d : V} {d' : Value} (r : RelO o u) (rd : RelV d d') : RelV (o.getD d) (u.getD d') := by
  cases o with
  | none => cases u with
    | none => exact rd
    | some _ => exact (show False from r).elim
  | some _ => cases u with
    | none => exact (show False from r).elim
    | some _ => exact r
theorem KV.val {kvs : List (κ × V)} {vs : List (κ × Value)} (r : KV kvs vs) (k : κ) : RelO (valV kvs k) (valueAt vs k) := by
  unfold KV at r
  induction r with
  | nil => exact True.intro
  | @cons p q ps qs h t ih =>
    obtain ⟨h1, h2⟩ := h
    by_cases e : p.1 = k
    · have e' : q.1 = k := h1.symm.trans e
      have b : valueAt (q :: qs) k = some q.2 := by simp [valueAt, List.find?_cons, e']
      rw [valV_pos e, b]; exact h2
    · have e' : ¬ q.1 = k := fun z => e (h1.trans z)
      have b : valueAt (q :: qs) k = valueAt qs k := by simp [valueAt, List.find?_cons, e']
      rw [valV_neg e, b]; exact ih
theorem KV.any {kvs : List (κ × V)} {vs : List (κ × Value)} (r : KV kvs vs) (k : κ) : (kvs.any fun kv => decide (kv.1 = k)) = vs.any fun kv => decide (kv.1 = k) := by
  unfold KV at r
  induction r with
  | nil => rfl
  | cons h t ih => rw [List.any_cons, List.any_cons, ih, h.1]
theorem KV.repl {kvs : List (κ × V)} {vs : List (κ × Value)} (r : KV kvs vs) (k : κ) {y : V} {u : Value} (ry : RelV y u) :
    KV (kvs.map fun kv => if kv.1 = k then (kv.1, y) else kv) (vs.map fun kv => if kv.1 = k then (kv.1, u) else kv) := by
  unfold KV at r ⊢
  induction r with
  | nil => exact .nil
  | @cons p q ps qs h t ih =>
    rw [List.map_cons, List.map_cons]
    refine .cons ?_ ih
    obtain ⟨h1, h2⟩ := h
    by_cases e : p.1 = k
    · rw [if_pos e, if_pos (h1.symm.trans e)]; exact ⟨h1, ry⟩
    · rw [if_neg e, if_neg (fun z => e (h1.trans z))]; exact ⟨h1, h2⟩
theorem KV.put {kvs : List (κ × V)} {vs : List (κ × Value)} (r : KV kvs vs) (k : κ) {y : V} {u : Value} (ry : RelV y u) : KV (putK kvs k y) (stored vs k u) := by
  unfold putK stored
  rw [r.any k]
  by_cases e : (vs.any fun kv => decide (kv.1 = k)) = true
  · rw [if_pos e, if_pos e]; exact r.repl k ry
  · rw [if_neg e, if_neg e]; exact Paired.snoc r ⟨rfl, ry⟩
theorem KV.length {kvs : List (κ × V)} {vs : List (κ × Value)} (r : KV kvs vs) : kvs.length = vs.length := Paired.length r
end
theorem kV_is {P : Program} {w : World} {k : Key} {u : Value} (r : RelV (kV k) u) : (aCy P w).is k u = true := by
  cases k with
  | inl i => obtain ⟨t, e⟩ := (show ∃ t, u = Value.int i t from r); subst e; exact mixKind_int P w i t
  | inr x => obtain ⟨t, e⟩ := (show ∃ t, u = Value.str x t from r); subst e; exact mixKind_str P w x t
theorem items_are {P : Program} {w : World} : ∀ {ks : List Key} {us : List Value}, Vals (ks.map kV) us → ItemsAre (aCy P w) ks us
  | [], _, r => by rw [List.map_nil] at r; cases r; exact .nil
  | k :: ks, _, r => by
    rw [List.map_cons] at r
    cases r with
    | cons h t => exact .cons (kV_is h) (items_are t)
noncomputable abbrev KT (H : Hp) : List (List Key × V) → List (List Key × Addr × Value) → Prop := Paired fun p q => p.1 = q.1 ∧ H q.2.1 = some (.tup (p.1.map kV)) ∧ RelV p.2 q.2.2
theorem KT.val {H : Hp} {kvs : List (List Key × V)} {xs : List (List Key × Addr × Value)} (r : KT H kvs xs) (k : List Key) : RelO (valV kvs k) ((atKey xs k).map (·.2)) := by
  induction r with
  | nil => exact True.intro
  | @cons p q ps qs h t ih =>
    obtain ⟨h1, _, h2⟩ := h
    by_cases e : p.1 = k
    · have e' : q.1 = k := h1.symm.trans e
      have b : atKey (q :: qs) k = some q.2 := by simp [atKey, List.find?_cons, e']
      rw [valV_pos e, b]; exact h2
    · have e' : ¬ q.1 = k := fun z => e (h1.trans z)
      have b : atKey (q :: qs) k = atKey qs k := by simp [atKey, List.find?_cons, e']
      rw [valV_neg e, b]; exact ih
theorem KT.repl {H : Hp} {kvs : List (List Key × V)} {xs : List (List Key × Addr × Value)} (r : KT H kvs xs) (k : List Key) {y : V} {u : Value} (ry : RelV y u) :
    KT H (kvs.map fun kv => if kv.1 = k then (kv.1, y) else kv) (xs.map (putAt k u)) := by
  induction r with
  | nil => exact .nil
  | @cons p q ps qs h t ih =>
    rw [List.map_cons, List.map_cons]
    refine .cons ?_ ih
    obtain ⟨h1, h2, h3⟩ := h
    unfold putAt
    by_cases e : p.1 = k
    · rw [if_pos e, if_pos (h1.symm.trans e)]; exact ⟨h1, h2, ry⟩
    · rw [if_neg e, if_neg (fun z => e (h1.trans z))]; exact ⟨h1, h2, h3⟩
theorem KT.put {H : Hp} {kvs : List (List Key × V)} {xs : List (List Key × Addr × Value)} (r : KT H kvs xs) (k : List Key) {b : Addr} {y : V} {u : Value} (hb : H b = some (.tup (k.map kV))) (ry : RelV y u) :
    KT H (putK kvs k y) (storedH xs k b u) := by
  have e : (kvs.any fun kv => decide (kv.1 = k)) = (atKey xs k).isSome := by
    rw [valV_any, (r.val k).isSome_eq, Option.isSome_map]
  unfold putK storedH
  rw [e]
  by_cases q : (atKey xs k).isSome = true
  · rw [if_pos q, if_pos q]; exact r.repl k ry
  · rw [if_neg q, if_neg q]; exact Paired.snoc r ⟨rfl, hb, ry⟩
theorem KT.keeps {H H' : Hp} {kvs : List (List Key × V)} {xs : List (List Key × Addr × Value)} (r : KT H kvs xs) (ht : ∀ b ys, H b = some (.tup ys) → H' b = some (.tup ys)) : KT H' kvs xs :=
  Paired.mapP r fun _ _ z => ⟨z.1, ht _ _ z.2.1, z.2.2⟩
section
variable {P : Program} {w : World} {H : Hp} {h : Heap} {a : Addr}
theorem rd_of {u : HO} (ok : HOk P w H h) (e : Rd H a u) : aDu P w H h a u := e.ok ok
theorem dk_rd {kvs : List (Key × V)} (ok : HOk P w H h) (e : Rd H a (.dK kvs)) : kvs.length ≤ sizeLine ∧ (a == sysModules) = false ∧ ∃ vs, KV kvs vs ∧ h.DictOf (aCy P w) a vs :=
  show aDu P w H h a (.dK kvs) from rd_of ok e
theorem dk_of {kvs : List (Key × V)} (ok : HOk P w H h) (e : H a = some (.dK kvs)) : kvs.length ≤ sizeLine ∧ (a == sysModules) = false ∧ ∃ vs, KV kvs vs ∧ h.DictOf (aCy P w) a vs := dk_rd ok (.inl e)
theorem key_of {ks : List Key} (ok : HOk P w H h) (e : H a = some (.tup (ks.map kV))) : (tupleKind (aCy P w)).is h ks a := by
  obtain ⟨_, its, r, o, h1, h2, n, h3⟩ := (show aDu P w H h a (.tup (ks.map kV)) from ok a _ e)
  exact ⟨o, its.toArray, n, h1, h2.1, h3, by simpa using items_are r⟩
theorem dt_rd {kvs : List (List Key × V)} (ok : HOk P w H h) (e : Rd H a (.dT kvs)) : kvs.length ≤ sizeLine ∧ (a == sysModules) = false ∧
    ∃ xs, KT H kvs xs ∧ h.DictOfH (tupleKind (aCy P w)) a xs := by
  obtain ⟨z, y, xs, r, o, es, ep, h1, h2, h3, h4, h5⟩ := (show aDu P w H h a (.dT kvs) from rd_of ok e)
  refine ⟨z, y, xs, r, o, es, ep, h1, h2, h3, h4, fun x hx => ?_, h5⟩
  have all : ∀ {l : List (List Key × V)} {m : List (List Key × Addr × Value)}, KT H l m → ∀ x ∈ m, (tupleKind (aCy P w)).is h x.1 x.2.1 := by
    intro l m q
    induction q with
    | nil => intro x hx; exact nomatch hx
    | @cons p q ps qs hq t ih =>
      intro x hx
      rcases List.mem_cons.mp hx with e | hx
      · subst e
        exact key_of ok (by rw [← hq.1]; exact hq.2.1)
      · exact ih x hx
  exact all r x hx
theorem dt_of {kvs : List (List Key × V)} (ok : HOk P w H h) (e : H a = some (.dT kvs)) : kvs.length ≤ sizeLine ∧ (a == sysModules) = false ∧
    ∃ xs, KT H kvs xs ∧ h.DictOfH (tupleKind (aCy P w)) a xs := dt_rd ok (.inl e)
end
noncomputable def DGet (H : Hp) (a : Addr) (y : V) (r : Option V) : Prop :=
  (∃ kvs k, Rd H a (.dK kvs) ∧ y = kV k ∧ r = valV kvs k) ∨ ∃ kvs k b, Rd H a (.dT kvs) ∧ y = .ref b ∧ H b = some (.tup (k.map kV)) ∧ r = valV kvs k
noncomputable def DPut (H : Hp) (a : Addr) (y v : V) (H' : Hp) : Prop :=
  (∃ kvs k, H a = some (.dK kvs) ∧ y = kV k ∧ kvs.length < sizeLine ∧ H' = upd H a (.dK (putK kvs k v))) ∨
  ∃ kvs k b, H a = some (.dT kvs) ∧ y = .ref b ∧ H b = some (.tup (k.map kV)) ∧ kvs.length < sizeLine ∧ H' = upd H a (.dT (putK kvs k v))
theorem DGet.t {H : Hp} {a b : Addr} {kvs : List (List Key × V)} {k : List Key} (e : H a = some (.dT kvs)) (eb : H b = some (.tup (k.map kV))) : DGet H a (.ref b) (valV kvs k) := .inr ⟨kvs, k, b, .inl e, rfl, eb, rfl⟩
theorem DPut.t {H : Hp} {a b : Addr} {kvs : List (List Key × V)} {k : List Key} {v : V} (e : H a = some (.dT kvs)) (eb : H b = some (.tup (k.map kV))) (hl : kvs.length < sizeLine) :
    DPut H a (.ref b) v (upd H a (.dT (putK kvs k v))) := .inr ⟨kvs, k, b, e, rfl, eb, hl, rfl⟩
section
variable {X : Cx} {pins : List (Addr × Obj)} {σ : St} {H : Hp} {s : Shared} {a : Addr} {y v : V} {u r : Value} {o : Option V} {A : Around} {E : Value → Shared → Prop}
theorem Inv.big (I : Inv X pins σ H s) : sysModules < s.heap.objs.size := by
  have h : mainGlobals < s.heap.objs.size := (I.mod.glob.keeps I.bk).lt
  exact Nat.lt_trans (by decide) h
theorem d_write {h' : Heap} {t' : Nat} {ob : HO} (I : Inv X pins σ H s) (mu : Mut (H a)) (hs : Heap.SameBut a s.heap h') (he : ∃ q, h'.get? a = some q) (new : aDu X.prog X.w (upd H a ob) h' a ob) :
    Inv X pins σ (upd H a ob) { s with heap := h', toks := t' } :=
  I.write (x := a) (e := a) mu (.inl rfl) (fun b q hb z => (hs.2 b hb).trans z) he new
theorem dk_new {P : Program} {w : World} {H' : Hp} {h' : Heap} {kvs : List (Key × V)} {vs : List (Key × Value)} (z : kvs.length ≤ sizeLine) (hd : (a == sysModules) = false) (rel : KV kvs vs) (dd : h'.DictOf (aCy P w) a vs) :
    aDu P w H' h' a (.dK kvs) := ⟨z, hd, vs, rel, dd⟩
theorem d_setItem {H' : Hp} {Q : Unit → Shared → Prop} (hu : A.units + 1 < cLine) (I : Inv X pins σ H s) (g : DPut H a y v H') (ry : RelV y u) (rv : RelV v r) (h : ∀ s', Inv X pins σ H' s' → Q () s') :
    wpAny (model X.prog X.w) A (setItem (.ref a) u r) Q E s := by
  rcases g with ⟨kvs, k, e, ey, l, eH⟩ | ⟨kvs, k, b, e, ey, eb, l, eH⟩
  · subst ey eH
    obtain ⟨z, hd, vs, rel, dd⟩ := dk_of I.hok e
    have hz : vs.length ≤ sizeLine := by rw [← rel.length]; exact z
    have hl : (putK kvs k v).length ≤ sizeLine := by have := length_putK kvs k v; omega
    refine wpAny_setItem_pairs (hsz := hz) (kV_is ry) dd fun h' dd' hs => h _ ?_
    have he : ∃ q, h'.get? a = some q := let ⟨q, _, _, hq, _⟩ := dd'; ⟨q, hq⟩
    exact d_write I (by rw [e]; exact True.intro) hs he (dk_new hl hd (rel.put k rv) dd')
  · subst ey eH
    cases (show u = Value.ref b from ry)
    obtain ⟨z, hd, xs, rel, dd⟩ := dt_of I.hok e
    have hz : xs.length ≤ sizeLine := by rw [← Paired.length rel]; exact z
    have hl : (putK kvs k v).length ≤ sizeLine := by have := length_putK kvs k v; omega
    refine wpAny_setItem_heap (hsz := hz) (tupleKind_room_in1 hu) (key_of I.hok eb) dd fun h' dd' hs => h _ ?_
    obtain ⟨q, es, ep, hq, h2, h3, h4, _, h5⟩ := dd'
    refine d_write I (by rw [e]; exact True.intro) hs ⟨q, hq⟩ ⟨hl, hd, _, (rel.put k eb rv).keeps fun c ys ec => ?_, q, es, ep, hq, h2, h3, h4, h5⟩
    rw [aAn (ne_of ec e (fun z => nomatch z))]
    exact ec
end
section
variable {X : Cx} {pins : List (Addr × Obj)} {σ : St} {H : Hp} {s : Shared} {a : Addr} {kvs : List (Key × V)} {k : Key} {u : Value} {A : Around} {E : Value → Shared → Prop}
end
noncomputable def sDPut (td ty tv : TE) : TS := fun D σ H => tv σ H fun v H1 => td σ H1 fun x H2 => ty σ H2 fun y H3 => ∃ a H4, x = .ref a ∧ DPut H3 a y v H4 ∧ D.nx σ H4
section
variable {X : Cx} {o i e value : Expr} {pos pos' tpos : Pos} {td ty tv : TE}
theorem ps_dput (hu : X.A.units + 1 < cLine) (ho : PE X o td) (hi : PE X i ty) (hv : PE X value tv) (hs : swapsWith value (some (.Subscript o i pos')) pos.line X.env = pure false) :
    PS X (.Assign [.Subscript o i pos'] value pos) (sDPut td ty tv) := by
  intro pins s σ H D I h
  refine wpAny_Assign_Subscript (thn (hv pins s σ H _ I h) fun r s1 ⟨v, H1, I1, rv, q1⟩ => thn (ho pins s1 σ H1 _ I1 q1) fun u s2 ⟨x, H2, I2, rx, q2⟩ => thn (hi pins s2 σ H2 _ I2 q2) fun iv s3 ⟨y, H3, I3, ry, a, H4, ex, g, q3⟩ => ?_) hs
  subst ex
  obtain rfl : u = Value.ref a := rx
  exact d_setItem hu I3 g ry rv fun s4 I4 => ⟨σ, H4, I4, q3⟩
end
theorem dt_empty {P : Program} {w : World} {H : Hp} (h : Heap) (hb : sysModules < h.objs.size) : aDu P w H (h.push { cls := .type "dict", data := .dict #[] }) h.objs.size (.dT []) :=
  ⟨Nat.zero_le _, beq_eq_false_iff_ne.mpr (Ne.symm (Nat.ne_of_lt hb)), [], .nil, _, #[], 0, Heap.get?_push_size _ rfl, ⟨rfl, rfl, rfl⟩, rfl, rfl, List.nodup_nil⟩
noncomputable def tDNewT : TE := fun _ H Q => ∀ p, H p = none → Q (.ref p) (upd H p (.dT []))
section
variable {X : Cx} {pos : Pos}
theorem pe_dnewT : PE X (.Dict [] [] pos) tDNewT := fun pins s σ H Q I h =>
  wpAny_Dict_empty ⟨.ref s.heap.objs.size, _, I.laid (a := s.heap.objs.size) (o := .dT []) (t' := s.toks) (fun _ _ q => Heap.get?_push_of_some _ q) (Nat.le_refl _) (dt_empty s.heap I.big), rfl, h _ (I.hok.fresh (Nat.le_refl _))⟩
end
structure M1 (X : Cx) (o : Expr) (m : Str) (apos : Pos) (e : Expr) (cpos : Pos) : Prop where
  base : attributeBase o m X.env (eval o X.env) = eval o X.env
  few : ((backTo cpos (starEach [e] X.env)).all (fun x => !x.1) && (backToKw cpos (keywordEach [] X.env)).all (fun x => x.1.isSome)
    && decide (([e] : List Expr).length + ([] : List Keyword).length + (if ([] : List Keyword).isEmpty then 0 else 1) < 30)) = true
  line : (apos.endLine == cpos.line) = true
  trees : backTo cpos (starEach [e] X.env) = [(false, eval e X.env)]
noncomputable def IsD (H : Hp) (a : Addr) : Prop := (∃ kvs, Rd H a (.dK kvs)) ∨ ∃ kvs, Rd H a (.dT kvs)
theorem isD_at {X : Cx} {pins : List (Addr × Obj)} {σ : St} {H : Hp} {s : Shared} {a : Addr} (I : Inv X pins σ H s) (d : IsD H a) :
    s.TypeIs (.ref a) "dict" ∧ (∀ b, Value.ref a = .ref b → ∃ ob, s.heap.get? b = some ob ∧ ob.dict = none) ∧ (a == sysModules) = false := by
  rcases d with ⟨kvs, e⟩ | ⟨kvs, e⟩
  · obtain ⟨_, hd, vs, _, dd⟩ := dk_rd I.hok e
    refine ⟨dd.typeIs, fun b q => ?_, hd⟩
    cases q
    obtain ⟨ob, _, _, h1, h2, _⟩ := dd
    exact ⟨ob, h1, h2.2.1⟩
  · obtain ⟨_, hd, xs, _, dd⟩ := dt_rd I.hok e
    refine ⟨dd.typeIs, fun b q => ?_, hd⟩
    cases q
    obtain ⟨ob, _, _, h1, h2, _⟩ := dd
    exact ⟨ob, h1, h2.2.1⟩
section
variable {X : Cx} {pins : List (Addr × Obj)} {σ : St} {H : Hp} {s : Shared} {a : Addr} {y d : V} {u r : Value} {o : Option V} {A : Around} {E : Value → Shared → Prop}
theorem d_get1 {Q : Value → Shared → Prop} (hu : A.units + 1 < cLine) (I : Inv X pins σ H s) (g : DGet H a y o) (ry : RelV y u) (h : ∀ w' s', Inv X pins σ H s' → RelV (o.getD .non) w' → Q w' s') :
    wpAny (model X.prog X.w) A (call (.builtin "dict.get") [.ref a, u]) Q E s := by
  rcases g with ⟨kvs, k, e, ey, l⟩ | ⟨kvs, k, b, e, ey, eb, l⟩
  · subst ey
    obtain ⟨z, hd, vs, rel, dd⟩ := dk_rd I.hok e
    refine call_meetsIn PySem.F.slot_dict_get dd.typeIs PySem.F.entry_dict_get (PySem.F.args_dict_get_2 _ _) (meets_dict_get (aCy X.prog X.w) a (kV_is ry) hd) ⟨_, dd.mapOf, h _ _ (I.tok _) ?_⟩
    rw [l]
    exact (rel.val k).getD rfl
  · subst ey
    cases (show u = Value.ref b from ry)
    obtain ⟨z, hd, xs, rel, dd⟩ := dt_rd I.hok e
    refine call_meetsIn PySem.F.slot_dict_get dd.typeIs PySem.F.entry_dict_get (PySem.F.args_dict_get_2 _ _) (meetsH_dict_get (tupleKind (aCy X.prog X.w)) a b hd) ⟨tupleKind_room_in1 hu, k, xs, key_of I.hok eb, dd, h _ _ (I.tok _) ?_⟩
    rw [l]
    exact (rel.val k).getD rfl
end
noncomputable def tDGet1 (td ty : TE) : TE := fun σ H Q => td σ H fun x H1 => ∃ a, x = .ref a ∧ IsD H1 a ∧ ty σ H1 fun y H2 => ∃ o, DGet H2 a y o ∧ Q (o.getD .non) H2
section
variable {X : Cx} {o e f : Expr} {apos cpos : Pos} {td ty tx : TE}
theorem pe_dget1 (hu : X.A.units + 1 < cLine) (ho : PE X o td) (he : PE X e ty) (m : M1 X o "get" apos e cpos) : PE X (.Call (.Attribute o "get" apos) [e] [] cpos) (tDGet1 td ty) := by
  intro pins s σ H Q I h
  refine wpAny_Call_method m.base m.few m.line PySem.F.plainAttrs_dict PySem.F.slot_dict_get PySem.F.type_dict_get (thn (ho pins s σ H _ I h) fun u s1 ⟨x, H1, I1, rx, a, ex, d, q1⟩ => ?_)
  subst ex
  obtain rfl : u = Value.ref a := rx
  obtain ⟨t1, t2, _⟩ := isD_at I1 d
  refine ⟨t1, t2, ?_⟩
  rw [m.trees]
  refine Calls.callWith_builtin rfl (Calls.evalArgs_plain (Calls.spliced_cons (thn (he pins s1 σ H1 _ I1 q1) fun iv s2 ⟨y, H2, I2, ry, ov, g, q2⟩ => Calls.spliced_nil ?_)))
  exact d_get1 hu I2 g ry fun w' s3 I3 rw' => ⟨_, H2, I3, rw', q2⟩
end
section
variable {X : Cx} {pins : List (Addr × Obj)} {σ : St} {H : Hp} {s : Shared} {a : Addr} {kvs : List (Key × V)} {A : Around} {E : Value → Shared → Prop}
end
section
variable {X : Cx} {pins : List (Addr × Obj)} {σ : St} {H : Hp} {s : Shared} {a : Addr} {y : V} {u : Value} {A : Around} {E : Value → Shared → Prop}
end
end L2
namespace Att
open PySem PySem.W PySem.Calls PyProof.Rows
theorem ints_of_wellAll {P : Params} {h : Heap} : ∀ (ns : List Int) (vs : List Value), WellAll P h vs (ns.map WData.int) → IntsAre vs ns := by
  intro ns
  induction ns with
  | nil =>
    intro vs w
    rw [List.map_nil] at w
    cases w
    exact .nil
  | cons n ns ih =>
    intro vs w
    rw [List.map_cons] at w
    cases w with
    | cons a b =>
      cases a
      exact .cons _ _ (ih _ b)
theorem script_of {l : OpenLaw} {n : Nat} (hn : l.most = some n) {P : Params} {h : Heap} {args : List WData} {vals : List Value}
    (hpre : l.row.toRowW.claim.pre args = true) (hwl : WellAll P h vals args) :
    ∃ a vs ns, vals = [Value.ref a] ∧ args = [WData.list (ns.map WData.int)] ∧ h.get? a = some { cls := .type "list", data := .seq vs.toArray } ∧ IntsAre vs ns ∧ ns.length ≤ n := by
  have hsh : WShape.hasAll [] args [.list .int] = true := (pre_splitW hpre).1
  have hc : l.pre.holds [] { args := args } = true := (pre_splitW hpre).2
  obtain ⟨d, r, rfl, h1, h2⟩ := hasAllW_cons hsh
  obtain rfl := hasAllW_nil h2
  obtain ⟨xs, rfl, h3⟩ := hasW_list h1
  obtain ⟨ns, rfl⟩ := items_int h3
  have hlen : ns.length ≤ n := by
    unfold OpenLaw.pre at hc
    have h4 : (WTm.not (.lt (.lit (.int (n : Int))) (.len (.arg 0)))).holds [] { args := [.list (ns.map .int)] } = true := by
      have h4 := (holds_andW hc).1
      rw [hn] at h4
      exact h4
    have h5 := condW_of h4 (w_not (w_lt w_lit (w_len_list (w_arg rfl))))
    rw [List.length_map] at h5
    refine Nat.le_of_not_lt fun q => ?_
    have q' : (n : Int) < ((ns.length : Nat) : Int) := by omega
    first
      | (rw [decide_eq_true q'] at h5; exact absurd h5 (by decide))
      | (simp at h5; omega)
  cases hwl with
  | cons w1 w2 =>
    cases w2
    cases w1 with
    | list ho hall => exact ⟨_, _, ns, rfl, rfl, ho, ints_of_wellAll ns _ hall, hlen⟩
theorem post_true (l : OpenLaw) (args : List WData) : l.row.toRowW.claim.post args (.bool true) args = true :=
  postW_of (r := l.row.toRowW) (X := (true == true))
    (show WShape.has [] (.bool true) .bool = true by first | rfl | decide | simp [WShape.has, WShape.arms, WShape.armsAll])
    (show (WTm.eq .res (.lit (.bool true))).value [] { args := args, res := some (.bool true), after := args } = some (.bool (true == true)) from w_eq_bool (w_res rfl) w_lit) rfl
theorem attach_call {l : OpenLaw} {n : Nat} {q : Program} {loose : List Str} {XP : (Str → Option Value) → Heap → Prop} {YP : World → Heap → Prop} {d : DefRec}
    (hn : l.most = some n) (hdf : d.params.defaults = [])
    (call : ∀ (w : World) (s₀ s₁ : Shared) (mg mb : Str → Option Value) (fa : Addr) (o : Obj) (pm cd doc : Value) (a : Addr) (vs : List Value) (ns : List Int),
      Ground q loose [] XP w s₀ mg mb s₁.heap → YP w s₁.heap →
      s₁.heap.get? fa = some o → o.data = .func (docDef d.name d.params d.body d.scope pm cd doc) → s₁.heap.CodeRec cd d.name → mg d.name = some (.ref fa) →
      s₁.heap.get? a = some { cls := .type "list", data := .seq vs.toArray } → IntsAre vs ns → ns.length ≤ n → s₁.gens = #[] →
      codeAny (model l.prog w) callerA (.call (.ref fa) ⟨[.ref a], []⟩) (fun r s' => r = .ok (.ret (.bool true)) ∧ OldK s₁.heap s'.heap ∧ s'.os = s₁.os ∧ AllBare s'.gens) s₁) :
    WalkO q loose XP YP l.row.toRowW d [] (fun f vs => PySem.call f vs) := by
  intro w s₀ s₁ mg mb G Y fa o pm cd doc dV kV ho hd hcd hD hmg hg args vals as hpre hlay hrd hwl hlo
  obtain rfl : dV = .none := Dflts.none hD hdf
  obtain rfl : kV = .none := Dflts.noKw hD
  obtain ⟨a, vs, ns, rfl, rfl, hobj, hints, hlen⟩ := script_of hn hpre hwl
  refine enter_call (codeAny_mono (call w s₀ s₁ mg mb fa o pm cd doc a vs ns G Y ho (fd_plain hd) hcd hmg hobj hints hlen hg) fun r s' hq => ?_)
  obtain ⟨rfl, h2, h3, h4⟩ := hq
  exact ⟨.inl ⟨.bool true, .bool true, [], rfl, fun _ => rfl, .bool true, post_true l _, fun _ => ⟨List.Pairwise.nil, fun _ hm => (nomatch hm)⟩⟩, h2, h3, h4⟩
section
variable {prog : Program} {w : World} {A : Around} {E : Value → Shared → Prop} {s : Shared} {K : Frag}
end
end Att
namespace L2
open PySem PySem.Spec PyProof.Rows
theorem vals_ints : ∀ {vs : List Value} {ns : List Int}, IntsAre vs ns → Vals (ns.map V.int) vs
  | _, _, .nil => .nil
  | _, _, .cons n t h => .cons ⟨t, rfl⟩ (vals_ints h)
noncomputable def Only (H : Hp) : Prop := ∀ b, H b = none ∨ ∃ o xs, H b = some (.frz o (.lst xs))
theorem law_call {P : Program} {w : World} {K : PySem.W.Frag} {mg mb : Str → Option Value} {CX : CXT} {k : Nat} {fa a : Addr} {fd : FuncData} {x : Str} {sp : Sp} {s₁ : Shared} {vs : List Value} {ns : List Int}
    (KX : K.In s₁.heap) (hns : s₁.heap.Ns mainGlobals mg) (hb : s₁.heap.Ns builtinsNs mb) (hbb : ∀ x : Str, x ≠ "__name__" → mb x = bootBuiltins x) (hlim : s₁.heap.NoLimit) (hg : s₁.gens = #[])
    (ha : s₁.heap.get? a = some { cls := .type "list", data := .seq vs.toArray }) (hi : IntsAre vs ns) (hl : ns.length ≤ sizeLine) (hr : Room k callerA)
    (F : ∀ base : Heap, K.In base → base.Ns mainGlobals mg → FnOk P w K mg base CX k fa fd [x] sp) (hbind : ∀ (s : Shared) (u : Value), BindsTo s fd ⟨[u], []⟩ [(x, u)])
    (hsp : ∀ H : Hp, Only H → SqL K H a (ns.map V.int) → sp [.ref a] H (fun v _ => v = .bl true) fun _ _ _ => False)
    (hCX : ∀ H e s', CX [] H s₁ (fun _ _ _ => False) e s' → False) :
    codeAny (model P w) callerA (.call (.ref fa) ⟨[.ref a], []⟩) (fun r s' => r = .ok (.ret (.bool true)) ∧ OldK s₁.heap s'.heap ∧ s'.os = s₁.os ∧ AllBare s'.gens) s₁ := by
  have rv := vals_ints hi
  have lenV := hi.length
  -- from an abstract heap in which nothing but the script may be tracked
  have core : ∀ H : Hp, Only H → SqL K H a (ns.map V.int) → HOk P w H s₁.heap → (∀ b, H b ≠ none → b = a) → (H a ≠ none → K.lookup a = none) →
      codeAny (model P w) callerA (.call (.ref fa) ⟨[.ref a], []⟩) (fun r s' => r = .ok (.ret (.bool true)) ∧ OldK s₁.heap s'.heap ∧ s'.os = s₁.os ∧ AllBare s'.gens) s₁ := by
    intro H hO hS hok hA hK
    have base_of : ∀ {b : Addr} {o : Obj}, s₁.heap.get? b = some o → H b = none → (hidT s₁.heap H).get? b = some o := fun e n => hidT_get e n
    have noA : ∀ {b : Addr} {o : Obj} {es : Array DictEntry} {ep : Nat}, s₁.heap.get? b = some o → o.data = .dict es ep → H b = none := fun {b o es ep} e d => by
      cases q : H b with
      | none => rfl
      | some u =>
        have e' : b = a := hA b (by rw [q]; simp)
        subst e'
        rw [ha] at e; cases e
        have d' : Data.seq vs.toArray _ = Data.dict es ep := d
        cases d'
    have nsK : ∀ {b : Addr} {m : Str → Option Value}, s₁.heap.Ns b m → (hidT s₁.heap H).Ns b m := fun {b m} ⟨o, es, ep, e, d, r⟩ => ⟨o, es, ep, base_of e (noA e d), d, r⟩
    have hKb : K.In (hidT s₁.heap H) := fun b o e => base_of (KX b o e) (by
      cases q : H b with
      | none => rfl
      | some u =>
        have e' : b = a := hA b (by rw [q]; simp)
        subst e'
        rw [hK (by rw [q]; simp)] at e; cases e)
    have hM : Mod K mg (hidT s₁.heap H) := ⟨hKb, nsK hns, ⟨mb, nsK hb, hbb⟩, let ⟨mc, h1, h2⟩ := hlim; ⟨mc, nsK h1, h2⟩⟩
    have e0 : Env0 P w K mg (hidT s₁.heap H) callerA [] s₁ H := ⟨rfl, hM, fun b o e => of_hidT e, Nat.le_of_eq (hidT_size _ _), trivial, fun b hb => absurd (show b ∈ ([] : List Addr) from hb) (by simp), hok, .of_eq hg⟩
    refine codeAny_mono ((F _ hKb (nsK hns)).run callerA [] s₁ H ⟨[.ref a], []⟩ [.ref a] [.ref a] _ _ hr e0 (hbind s₁ (.ref a)) (.cons rfl .nil) (hsp H hO hS)) fun r s' h => ?_
    cases r with
    | error e => exact (hCX H e s' h).elim
    | ok fl =>
      cases fl with
      | next => exact False.elim h
      | brk => exact False.elim h
      | cont => exact False.elim h
      | ret u =>
        obtain ⟨v, H', os, bare, un, hok', r', q⟩ := h
        have q' : v = .bl true := q
        subst q'
        obtain rfl : u = Value.bool true := r'
        refine ⟨rfl, OldK.of_keep fun b o e => ?_, os, bare⟩
        cases q : H b with
        | none => exact un.keep b o e q (by intro z; exact absurd (show b ∈ ([] : List Addr) from z) (by simp)) (by simp)
        | some u =>
          rcases hO b with z | ⟨ob, xs, z⟩
          · rw [q] at z; cases z
          · have z2 := un.frzs b ob _ z
            obtain ⟨e1, _⟩ := hok b _ z
            obtain ⟨e2, _⟩ := hok' b _ z2
            rw [e] at e1; cases e1
            exact e2
  cases hk : K.lookup a with
  | some o =>
    -- the script is one of the module's own objects
    have e := KX a o hk
    rw [ha] at e
    cases e
    refine core (fun _ => none) (fun _ => .inl rfl) (.inr ⟨_, vs.toArray, _, hk, rfl, rfl, rfl, by rw [List.size_toArray, lenV]; exact hl, by simpa using rv⟩) (fun b u z => by have z' : (none : Option HO) = some u := z; cases z') (fun b z => absurd rfl z) fun z => absurd rfl z
  | none =>
    refine core (fun b => if b = a then some (.frz { cls := .type "list", data := .seq vs.toArray } (.lst (ns.map V.int))) else none) (fun b => ?_) (.inl (.inr ⟨{ cls := .type "list", data := .seq vs.toArray }, if_pos rfl⟩)) (fun b u z => ?_) (fun b z => ?_) fun _ => hk
    · by_cases hb : b = a
      · exact .inr ⟨_, _, if_pos hb⟩
      · exact .inl (if_neg hb)
    · by_cases hb : b = a
      · have z' := (if_pos hb).symm.trans z
        cases z'
        subst hb
        exact ⟨ha, by rw [List.length_map]; exact hl, vs, _, rv, ha⟩
      · have z' := (if_neg hb).symm.trans z
        cases z'
    · by_cases hb : b = a
      · exact hb
      · exact absurd (if_neg hb) z
end L2
namespace L2
open PySem PySem.Spec PyProof.Rows
theorem walk_of {l : PySem.W.OpenLaw} {n k : Nat} {q : Program} {loose : List Str} {XP : (Str → Option Value) → Heap → Prop} {YP : World → Heap → Prop} {d : DefRec} {K : Params → PySem.W.Frag} {CX : World → CXT} {sp : World → Sp} {x : Str}
    (hn : l.most = some n) (hn2 : n ≤ sizeLine) (hdf : d.params.defaults = []) (hr : Room k callerA)
    (hY : ∀ (w : World) (h : Heap), YP w h → (K w.params).In h)
    (F : ∀ (w : World) (mg : Str → Option Value) (fa : Addr) (h : Heap), (K w.params).In h → h.Ns mainGlobals mg → mg d.name = some (.ref fa) →
      ∃ fd : FuncData, (∀ (s : Shared) (u : Value), BindsTo s fd ⟨[u], []⟩ [(x, u)]) ∧
        ∀ base : Heap, (K w.params).In base → base.Ns mainGlobals mg → FnOk l.prog w (K w.params) mg base (CX w) k fa fd [x] (sp w))
    (hsp : ∀ (w : World) (H : Hp) (a : Addr) (ns : List Int), ns.length ≤ n → Only H → SqL (K w.params) H a (ns.map V.int) → sp w [.ref a] H (fun v _ => v = .bl true) fun _ _ _ => False)
    (hCX : ∀ (w : World) (H : Hp) (s : Shared) (e : Value) (s' : Shared), CX w [] H s (fun _ _ _ => False) e s' → False) :
    PySem.W.WalkO q loose XP YP l.row.toRowW d [] (fun f vs => PySem.call f vs) := by
  refine Att.attach_call hn hdf fun w s₀ s₁ mg mb fa o pm cd doc a vs ns G Y ho hd hcd hmg hobj hints hlen hg => ?_
  have KX := hY w _ Y
  obtain ⟨fd, hb, hF⟩ := F w mg fa _ KX G.T.g hmg
  exact law_call KX G.T.g G.T.b G.T.builtins G.T.nolimit hg hobj hints (Nat.le_trans hlen hn2) hr hF hb (fun H hO hS => hsp w H a ns hlen hO hS) fun H e s' => hCX w H s₁ e s'
theorem walk_ofK {l : PySem.W.OpenLaw} {n k : Nat} {q : Program} {loose : List Str} {XP : (Str → Option Value) → Heap → Prop} {YP : World → Heap → Prop} {d : DefRec} {K : Params → PySem.W.Frag} {CX : CXT} {sp : PySem.W.Frag → Sp} {x : Str}
    (hn : l.most = some n) (hn2 : n ≤ sizeLine) (hdf : d.params.defaults = []) (hr : Room k callerA)
    (hY : ∀ (w : World) (h : Heap), YP w h → (K w.params).In h)
    (F : ∀ (w : World) (mg : Str → Option Value) (fa : Addr) (h : Heap), (K w.params).In h → h.Ns mainGlobals mg → mg d.name = some (.ref fa) →
      ∃ fd : FuncData, (∀ (s : Shared) (u : Value), BindsTo s fd ⟨[u], []⟩ [(x, u)]) ∧
        ∀ base : Heap, (K w.params).In base → base.Ns mainGlobals mg → FnOk l.prog w (K w.params) mg base CX k fa fd [x] (sp (K w.params)))
    (hsp : ∀ (K : PySem.W.Frag) (H : Hp) (a : Addr) (ns : List Int), ns.length ≤ n → Only H → SqL K H a (ns.map V.int) → sp K [.ref a] H (fun v _ => v = .bl true) fun _ _ _ => False)
    (hCX : ∀ (H : Hp) (s : Shared) (e : Value) (s' : Shared), CX [] H s (fun _ _ _ => False) e s' → False) :
    PySem.W.WalkO q loose XP YP l.row.toRowW d [] (fun f vs => PySem.call f vs) :=
  walk_of (K := K) (CX := fun _ => CX) (sp := fun w => sp (K w.params)) hn hn2 hdf hr hY F (fun w H a ns h1 h2 h3 => hsp (K w.params) H a ns h1 h2 h3) fun _ H s e s' => hCX H s e s'
end L2
namespace L2
open PySem PySem.Spec PyProof.Rows
noncomputable def inClass (s : Stmt) (j : Nat) : Stmt := match s with
  | .ClassDef _ _ _ body _ _ _ _ _ _ _ => body.getD j (.Pass ⟨0, 0, 0, 0⟩)
  | _ => .Pass ⟨0, 0, 0, 0⟩
noncomputable def aAu (s : Stmt) : Arguments := match s with
  | .FunctionDef _ a _ _ _ _ _ _ _ _ => a
  | _ => { posonlyargs := [], args := [], vararg := none, kwonlyargs := [], kw_defaults := [], kwarg := none, defaults := [] }
noncomputable def aAk (s : Stmt) : List Stmt := match s with
  | .FunctionDef _ _ b _ _ _ _ _ _ _ => b
  | _ => []
noncomputable def aAa (s : Stmt) : Scope := match s with
  | .FunctionDef _ _ _ _ _ _ sc _ _ _ => sc
  | _ => { kind := .function, names := [], isGenerator := false, isCoroutine := false }
noncomputable abbrev CX0 : CXT := fun _ _ _ _ _ _ => False
noncomputable abbrev E0 : XK := fun _ _ _ => False
theorem pass0 {X : Cx} : Passes CX0 X E0 := fun _ _ _ _ _ _ _ h => h.elim
structure Fun (K : PySem.W.Frag) (x qual : Str) (st : Stmt) (f : Addr) (fd : FuncData) : Prop where
  ex : ∃ (oc : Value) (od : Option Addr) (kV doc pm : Value) (an : Option Addr) (cdv ct : Value) (osl : Array (Option Value)),
    fd = PySem.W.fnOf x qual (aAu st) (aAk st) (aAa st) .none kV doc pm an cdv ct ∧ K.lookup f = some ⟨oc, od, .func fd, osl⟩ ∧ PySem.W.codeIn K cdv qual = true
  kp : PySem.W.keepIn K (.ref f) = true
section
variable {P : Program} {w : World} {K : PySem.W.Frag} {mg : Str → Option Value} {base : Heap}
theorem Fun.ok {x qual : Str} {st : Stmt} {f : Addr} {fd : FuncData} {N ps : List Str} {k : Nat} {sp : Sp} (F : Fun K x qual st f fd) (S : FnScope N ps (aAa st)) (len : ∀ vs H Q E, sp vs H Q E → vs.length = ps.length)
    (hbody : ∀ (cdv : Value) (A : Around) (outer : List Env) (s : Shared) (H : Hp) (vs : List V) (Q : VK) (E : XK), Room k (A.deeper (envOfC qual (aAa st) s.heap.objs.size f cdv)) → sp vs H Q E →
      ∃ t, PSs (cxOf CX0 P w K mg base N qual (aAa st) f cdv A outer s H E).nox (aAk st) t ∧ t { nx := fun _ H' => Q .non H', rt := Q } (start N vs) H) : FnOk P w K mg base CX0 (k + 1) f fd ps sp := by
  obtain ⟨oc, od, kV, doc, pm, an, cdv, ct, osl, rfl, lk, hcd⟩ := F.ex
  refine fn_of lk hcd S len fun A outer s H vs Q E hr hsp => ?_
  obtain ⟨t, h, q⟩ := hbody cdv A outer s H vs Q E hr hsp
  exact ⟨t, h.nox, q⟩
theorem Fun.binds {x qual : Str} {st : Stmt} {f : Addr} {fd : FuncData} {ps : List Str} (F : Fun K x qual st f fd)
    (h : ∀ (kV doc pm : Value) (an : Option Addr) (cdv ct : Value) (us : List Value), us.length = ps.length → bindArgs (PySem.W.fnOf x qual (aAu st) (aAk st) (aAa st) .none kV doc pm an cdv ct) ⟨us, []⟩ = pure (ps.zip us)) : aBf K fd ps [] := by
  obtain ⟨oc, od, kV, doc, pm, an, cdv, ct, osl, rfl, lk, hcd⟩ := F.ex
  exact .all (h kV doc pm an cdv ct)
theorem aBo {x qual : Str} {st : Stmt} {f : Addr} {oc : Value} {od an : Option Addr} {osl : Array (Option Value)} {kV doc pm cdv ct : Value} (l : K.lookup f = some ⟨oc, od, .func (PySem.W.fnOf x qual (aAu st) (aAk st) (aAa st) .none kV doc pm an cdv ct), osl⟩)
    (c : PySem.W.codeIn K cdv qual = true) (k : PySem.W.keepIn K (.ref f) = true) : Fun K x qual st f (PySem.W.fnOf x qual (aAu st) (aAk st) (aAa st) .none kV doc pm an cdv ct) := ⟨⟨oc, od, kV, doc, pm, an, cdv, ct, osl, rfl, l, c⟩, k⟩
end
theorem hu_of {A : Around} {k : Nat} (hr : Room k A) : A.units + 1 < cLine := Nat.lt_of_le_of_lt (Nat.add_le_add_left (by decide : 1 ≤ 64) _) hr.units
section
variable {X : Cx}
end
noncomputable def Same (H H' : Hp) : Prop := ∀ b o, H b = some o → H' b = some o
theorem Same.refl (H : Hp) : Same H H := fun _ _ h => h
theorem Same.trans {H H1 H2 : Hp} (a : Same H H1) (b : Same H1 H2) : Same H H2 := fun c o h => b c o (a c o h)
theorem Same.free {H H' : Hp} (e : Same H H') {l : Addr} (h : H' l = Option.none) : H l = Option.none := by
  cases q : H l with
  | none => rfl
  | some o =>
    rw [e l o q] at h
    cases h
theorem Same.seq {K : PySem.W.Frag} {H H' : Hp} {a : Addr} {xs : List V} (e : Same H H') (h : SqL K H a xs) : SqL K H' a xs := by
  rcases h with (h | ⟨o, h⟩) | h
  · exact .inl (.inl (e _ _ h))
  · exact .inl (.inr ⟨o, e _ _ h⟩)
  · exact .inr h
end L2
namespace DL
open PySem L2
inductive D where
  | non | bl (b : Bool) | int (i : Int) | str (x : Str) | tup (ds : List D) | lst (ds : List D) | dic (kvs : List (Key × D)) | sht (p l d : Addr) (ls : List D) (nar : List (List Key × Int))
noncomputable def isMut : D → Bool
  | .lst _ => true
  | .dic _ => true
  | _ => false
mutual
inductive Rep (K : PySem.W.Frag) (H : Hp) : V → D → Prop
  | non : Rep K H .non .non
  | bl (b : Bool) : Rep K H (.bl b) (.bl b)
  | int (i : Int) : Rep K H (.int i) (.int i)
  | str (x : Str) : Rep K H (.str x) (.str x)
  | tup {a : Addr} {xs : List V} {ds : List D} (h : SqT K H a xs) (r : Reps K H xs ds) : Rep K H (.ref a) (.tup ds)
  | lst {a : Addr} {xs : List V} {ds : List D} (h : SqL K H a xs) (r : Reps K H xs ds) : Rep K H (.ref a) (.lst ds)
  | dic {a : Addr} {xs : List (Key × V)} {ds : List (Key × D)} (h : H a = some (.dK xs)) (r : KReps K H xs ds) : Rep K H (.ref a) (.dic ds)
  | sht {p l d C dx : Addr} {xs : List V} {ls : List D} {nar : List (List Key × Int)} (hC : PySem.W.nsIn K mainGlobals "Sheet" = some (some (.ref C))) (h : H p = some (.ins C dx [("lines", .ref l), ("narrowest", .ref d)])) (hl : H l = some (.lst xs)) (hd : H d = some (.dT (nar.map fun kn => (kn.1, V.int kn.2)))) (r : Reps K H xs ls) : Rep K H (.ref p) (.sht p l d ls nar)
inductive Reps (K : PySem.W.Frag) (H : Hp) : List V → List D → Prop
  | nil : Reps K H [] []
  | cons {x : V} {d : D} {xs : List V} {ds : List D} (r : Rep K H x d) (rs : Reps K H xs ds) : Reps K H (x :: xs) (d :: ds)
inductive KReps (K : PySem.W.Frag) (H : Hp) : List (Key × V) → List (Key × D) → Prop
  | nil : KReps K H [] []
  | cons {k : Key} {x : V} {d : D} {xs : List (Key × V)} {ds : List (Key × D)} (r : Rep K H x d) (rs : KReps K H xs ds) : KReps K H ((k, x) :: xs) ((k, d) :: ds)
end
theorem sameT {K : PySem.W.Frag} {H H' : Hp} {a : Addr} {xs : List V} (e : Same H H') (h : SqT K H a xs) : SqT K H' a xs := by
  rcases h with (h | ⟨o, h⟩) | h
  · exact .inl (.inl (e _ _ h))
  · exact .inl (.inr ⟨o, e _ _ h⟩)
  · exact .inr h
mutual
theorem Rep.mono {K : PySem.W.Frag} {H H' : Hp} (e : Same H H') : ∀ {v : V} {d : D}, Rep K H v d → Rep K H' v d
  | _, _, .non => .non
  | _, _, .bl b => .bl b
  | _, _, .int i => .int i
  | _, _, .str x => .str x
  | _, _, .tup h r => .tup (sameT e h) (Reps.mono e r)
  | _, _, .lst h r => .lst (e.seq h) (Reps.mono e r)
  | _, _, .dic h r => .dic (e _ _ h) (KReps.mono e r)
  | _, _, .sht hC h hl hd r => .sht hC (e _ _ h) (e _ _ hl) (e _ _ hd) (Reps.mono e r)
theorem Reps.mono {K : PySem.W.Frag} {H H' : Hp} (e : Same H H') : ∀ {vs : List V} {ds : List D}, Reps K H vs ds → Reps K H' vs ds
  | _, _, .nil => .nil
  | _, _, .cons r rs => .cons (Rep.mono e r) (Reps.mono e rs)
theorem KReps.mono {K : PySem.W.Frag} {H H' : Hp} (e : Same H H') : ∀ {vs : List (Key × V)} {ds : List (Key × D)}, KReps K H vs ds → KReps K H' vs ds
  | _, _, .nil => .nil
  | _, _, .cons r rs => .cons (Rep.mono e r) (KReps.mono e rs)
end
theorem Reps.length {K : PySem.W.Frag} {H : Hp} : ∀ {vs : List V} {ds : List D}, Reps K H vs ds → vs.length = ds.length
  | _, _, .nil => rfl
  | _, _, .cons _ rs => congrArg (· + 1) rs.length
theorem Reps.get {K : PySem.W.Frag} {H : Hp} : ∀ {vs : List V} {ds : List D} {i : Nat} {d : D}, Reps K H vs ds → ds[i]? = some d → ∃ v, vs[i]? = some v ∧ Rep K H v d
  | _, _, _, _, .nil, e => by simp at e
  | _, _, 0, _, .cons r _, e => by simp at e; subst e; exact ⟨_, rfl, r⟩
  | _, _, i + 1, d, .cons _ rs, e => by
    obtain ⟨v, h1, h2⟩ := Reps.get (i := i) (d := d) rs (by simpa using e)
    exact ⟨v, by simpa using h1, h2⟩
theorem Reps.getV {K : PySem.W.Frag} {H : Hp} : ∀ {vs : List V} {ds : List D} {i : Nat} {v : V}, Reps K H vs ds → vs[i]? = some v → ∃ d, ds[i]? = some d ∧ Rep K H v d
  | _, _, _, _, .nil, e => by simp at e
  | _, _, 0, _, .cons r _, e => by simp at e; subst e; exact ⟨_, rfl, r⟩
  | _, _, i + 1, v, .cons _ rs, e => by
    obtain ⟨d, h1, h2⟩ := Reps.getV (i := i) (v := v) rs (by simpa using e)
    exact ⟨d, by simpa using h1, h2⟩
theorem Reps.app {K : PySem.W.Frag} {H : Hp} : ∀ {vs ws : List V} {ds es : List D}, Reps K H vs ds → Reps K H ws es → Reps K H (vs ++ ws) (ds ++ es)
  | _, _, _, _, .nil, s => s
  | _, _, _, _, .cons r rs, s => .cons r (Reps.app rs s)
theorem Reps.drop {K : PySem.W.Frag} {H : Hp} : ∀ {vs : List V} {ds : List D} (n : Nat), Reps K H vs ds → Reps K H (vs.drop n) (ds.drop n)
  | _, _, 0, r => r
  | _, _, _ + 1, .nil => .nil
  | _, _, n + 1, .cons _ t => Reps.drop n t
theorem Reps.take {K : PySem.W.Frag} {H : Hp} : ∀ {vs : List V} {ds : List D} (n : Nat), Reps K H vs ds → Reps K H (vs.take n) (ds.take n)
  | _, _, 0, _ => .nil
  | _, _, _ + 1, .nil => .nil
  | _, _, n + 1, .cons r t => .cons r (Reps.take n t)
theorem reps_ints {K : PySem.W.Frag} {H : Hp} : ∀ ns : List Int, Reps K H (ns.map V.int) (ns.map D.int)
  | [] => .nil
  | n :: r => .cons (.int n) (reps_ints r)
noncomputable def aBt : D → Option V
  | .non => some .non
  | .bl b => some (.bl b)
  | .int i => some (.int i)
  | .str x => some (.str x)
  | _ => none
theorem Rep.flat {K : PySem.W.Frag} {H : Hp} {v : V} {d : D} {u : V} (r : Rep K H v d) (h : aBt d = some u) : v = u := by
  cases r <;> simp [aBt] at h <;> exact h
theorem Rep.ofFlat {K : PySem.W.Frag} {H : Hp} {d : D} {u : V} (h : aBt d = some u) : Rep K H u d := by
  cases d <;> simp [aBt] at h <;> subst h <;> constructor
noncomputable def cut (H : Hp) (A : List Addr) : Hp := fun b => if b ∈ A then none else H b
theorem cut_in {H : Hp} {A : List Addr} {b : Addr} (h : b ∈ A) : cut H A b = none := if_pos h
theorem aHm {H : Hp} {A : List Addr} {b : Addr} (h : b ∉ A) : cut H A b = H b := if_neg h
theorem aAq {H : Hp} {A : List Addr} {b : Addr} {o : HO} : cut H A b = some o ↔ b ∉ A ∧ H b = some o := by
  unfold cut
  by_cases h : b ∈ A
  · rw [if_pos h]; simp [h]
  · rw [if_neg h]; simp [h]
theorem aCz (H : Hp) : cut H [] = H := by funext b; unfold cut; simp
theorem aEh {H H' : Hp} (A : List Addr) (e : Same H H') : Same (cut H A) (cut H' A) := fun b o h => by
  obtain ⟨h1, h2⟩ := aAq.mp h
  exact aAq.mpr ⟨h1, e b o h2⟩
theorem aCo {H : Hp} {A B : List Addr} (h : ∀ b ∈ B, b ∈ A) : Same (cut H A) (cut H B) := fun b o e => by
  obtain ⟨h1, h2⟩ := aAq.mp e
  exact aAq.mpr ⟨fun z => h1 (h b z), h2⟩
theorem aAl (H : Hp) (A : List Addr) : Same (cut H A) H := fun b o e => (aAq.mp e).2
theorem aBu {H : Hp} {p : Addr} (h : H p = none) (o : HO) : Same H (upd H p o) := fun b u q => by rw [aAn (aBq q h)]; exact q
noncomputable def MutO : HO → Prop
  | .lst _ => True
  | .dK _ => True
  | _ => False
noncomputable def AL (H : Hp) (A : List Addr) : Prop := ∀ a ∈ A, ∃ o, H a = some o ∧ MutO o
theorem AL.mono {H H' : Hp} {A : List Addr} (h : AL H A) (e : Same H H') : AL H' A := fun a ha => let ⟨o, q, m⟩ := h a ha; ⟨o, e a o q, m⟩
theorem AL.not {H : Hp} {A : List Addr} (h : AL H A) {p : Addr} (hp : H p = none) : p ∉ A := fun z => by
  obtain ⟨o, q, _⟩ := h p z
  rw [hp] at q; cases q
inductive Own (K : PySem.W.Frag) (H : Hp) (A : List Addr) (a : Addr) : D → Prop
  | lst {xs : List V} {ds : List D} (h : H a = some (.lst xs)) (r : Reps K (cut H A) xs ds) : Own K H A a (.lst ds)
  | dic {xs : List (Key × V)} {ds : List (Key × D)} (h : H a = some (.dK xs)) (r : KReps K (cut H A) xs ds) : Own K H A a (.dic ds)
theorem Own.isMut {K : PySem.W.Frag} {H : Hp} {A : List Addr} {a : Addr} {d : D} (o : Own K H A a d) : isMut d = true := by cases o <;> rfl
theorem Own.there {K : PySem.W.Frag} {H : Hp} {A : List Addr} {a : Addr} {d : D} (o : Own K H A a d) : ∃ o, H a = some o ∧ MutO o := by
  cases o with
  | lst h _ => exact ⟨_, h, trivial⟩
  | dic h _ => exact ⟨_, h, trivial⟩
theorem Own.move {K : PySem.W.Frag} {H H' : Hp} {A A' : List Addr} {a : Addr} {d : D} (o : Own K H A a d) (ha : H' a = H a) (e : Same (cut H A) (cut H' A')) : Own K H' A' a d := by
  cases o with
  | lst h r => exact .lst (ha.trans h) (r.mono e)
  | dic h r => exact .dic (ha.trans h) (r.mono e)
theorem Own.mono {K : PySem.W.Frag} {H H' : Hp} {A : List Addr} {a : Addr} {d : D} (o : Own K H A a d) (e : Same H H') : Own K H' A a d := by
  obtain ⟨u, hu, _⟩ := o.there
  exact o.move ((e a u hu).trans hu.symm) (aEh A e)
theorem Own.rep {K : PySem.W.Frag} {H : Hp} {A B : List Addr} {a : Addr} {d : D} (o : Own K H A a d) (ha : a ∉ B) (hB : ∀ b ∈ B, b ∈ A) : Rep K (cut H B) (.ref a) d := by
  cases o with
  | lst h r => exact .lst (.inl (.inl (aAq.mpr ⟨ha, h⟩))) (r.mono (aCo hB))
  | dic h r => exact .dic (aAq.mpr ⟨ha, h⟩) (r.mono (aCo hB))
noncomputable def RB (K : PySem.W.Frag) (H : Hp) (A : List Addr) (v : V) (d : D) : Prop := Rep K (cut H A) v d ∨ ∃ a, v = .ref a ∧ a ∈ A ∧ Own K H A a d
noncomputable def RF (K : PySem.W.Frag) (H H' : Hp) (A : List Addr) (v : V) (d : D) : Prop := (∃ a, v = .ref a ∧ H a = none ∧ Own K H' (a :: A) a d) ∨ (isMut d = false ∧ Rep K (cut H' A) v d)
theorem RB.mono {K : PySem.W.Frag} {H H' : Hp} {A : List Addr} {v : V} {d : D} (r : RB K H A v d) (e : Same H H') : RB K H' A v d := by
  rcases r with r | ⟨a, rfl, ha, o⟩
  · exact .inl (r.mono (aEh A e))
  · exact .inr ⟨a, rfl, ha, o.mono e⟩
theorem RF.rep {K : PySem.W.Frag} {H H' : Hp} {A : List Addr} {v : V} {d : D} (r : RF K H H' A v d) (h : AL H A) : Rep K (cut H' A) v d := by
  rcases r with ⟨a, rfl, ha, o⟩ | ⟨_, r⟩
  · exact o.rep (h.not ha) fun b hb => List.mem_cons_of_mem _ hb
  · exact r
theorem RB.flat {K : PySem.W.Frag} {H : Hp} {A : List Addr} {v : V} {d : D} {u : V} (r : RB K H A v d) (h : aBt d = some u) : v = u := by
  rcases r with r | ⟨a, rfl, ha, o⟩
  · exact r.flat h
  · cases o <;> simp [aBt] at h
theorem RB.lst {K : PySem.W.Frag} {H : Hp} {A : List Addr} {v : V} {ds : List D} (r : RB K H A v (.lst ds)) : ∃ a xs, v = .ref a ∧ SqL K H a xs ∧ Reps K (cut H A) xs ds := by
  rcases r with r | ⟨a, rfl, ha, o⟩
  · cases r with
    | lst h r => exact ⟨_, _, rfl, (aAl H A).seq h, r⟩
  · cases o with
    | lst h r => exact ⟨a, _, rfl, .inl (.inl h), r⟩
theorem RB.tup {K : PySem.W.Frag} {H : Hp} {A : List Addr} {v : V} {ds : List D} (r : RB K H A v (.tup ds)) : ∃ a xs, v = .ref a ∧ SqT K H a xs ∧ Reps K (cut H A) xs ds := by
  rcases r with r | ⟨a, rfl, ha, o⟩
  · cases r with
    | tup h r => exact ⟨_, _, rfl, sameT (aAl H A) h, r⟩
  · cases o
theorem RB.dic {K : PySem.W.Frag} {H : Hp} {A : List Addr} {v : V} {ds : List (Key × D)} (r : RB K H A v (.dic ds)) : ∃ a xs, v = .ref a ∧ H a = some (.dK xs) ∧ KReps K (cut H A) xs ds := by
  rcases r with r | ⟨a, rfl, ha, o⟩
  · cases r with
    | dic h r => exact ⟨_, _, rfl, aAl H A _ _ h, r⟩
  · cases o with
    | dic h r => exact ⟨a, _, rfl, h, r⟩
theorem same_cut_upd {H : Hp} {A : List Addr} {p : Addr} (hp : H p = none) (o : HO) : Same (cut H A) (cut (upd H p o) (p :: A)) := fun b u e => by
  obtain ⟨h1, h2⟩ := aAq.mp e
  have hb : b ≠ p := aBq h2 hp
  exact aAq.mpr ⟨fun z => (List.mem_cons.mp z).elim hb h1, by rw [aAn hb]; exact h2⟩
theorem RF.newL {K : PySem.W.Frag} {H : Hp} {A : List Addr} {p : Addr} {xs : List V} {ds : List D} (hp : H p = none) (r : Reps K (cut H A) xs ds) : RF K H (upd H p (.lst xs)) A (.ref p) (.lst ds) :=
  .inl ⟨p, rfl, hp, .lst aAt (r.mono (same_cut_upd hp _))⟩
theorem RF.newT {K : PySem.W.Frag} {H : Hp} {A : List Addr} {p : Addr} {xs : List V} {ds : List D} (hp : H p = none) (hA : p ∉ A) (r : Reps K (cut H A) xs ds) : RF K H (upd H p (.tup xs)) A (.ref p) (.tup ds) :=
  .inr ⟨rfl, .tup (.inl (.inl (aAq.mpr ⟨hA, aAt⟩))) (r.mono (aEh A (aBu hp _)))⟩
theorem RF.flat {K : PySem.W.Frag} {H H' : Hp} {A : List Addr} {d : D} {u : V} (h : aBt d = some u) : RF K H H' A u d :=
  .inr ⟨by cases d <;> simp [aBt] at h <;> rfl, .ofFlat h⟩
theorem RF.back {K : PySem.W.Frag} {H H1 H2 : Hp} {A : List Addr} {v : V} {d : D} (r : RF K H1 H2 A v d) (e : Same H H1) : RF K H H2 A v d := by
  rcases r with ⟨a, rfl, ha, o⟩ | r
  · exact .inl ⟨a, rfl, e.free ha, o⟩
  · exact .inr r
noncomputable abbrev DEnv := List (Option (Bool × D))
structure SR (K : PySem.W.Frag) (H : Hp) (σ : St) (ε : DEnv) (A : List Addr) : Prop where
  len : ε.length = σ.length
  sh : ∀ (i : Nat) d, ε[i]? = some (some (false, d)) → ∃ v, σ[i]? = some (some v) ∧ Rep K (cut H A) v d
  ow : ∀ (i : Nat) d, ε[i]? = some (some (true, d)) → ∃ a, σ[i]? = some (some (.ref a)) ∧ a ∈ A ∧ Own K H A a d
  inj : ∀ (i j : Nat) d e a, ε[i]? = some (some (true, d)) → ε[j]? = some (some (true, e)) → σ[i]? = some (some (.ref a)) → σ[j]? = some (some (.ref a)) → i = j
  al : AL H A
theorem SR.mono {K : PySem.W.Frag} {H H' : Hp} {σ : St} {ε : DEnv} {A : List Addr} (s : SR K H σ ε A) (e : Same H H') : SR K H' σ ε A :=
  ⟨s.len, fun i d h => let ⟨v, h1, h2⟩ := s.sh i d h; ⟨v, h1, h2.mono (aEh A e)⟩, fun i d h => let ⟨a, h1, h2, h3⟩ := s.ow i d h; ⟨a, h1, h2, h3.mono e⟩, s.inj, s.al.mono e⟩
section
variable {K : PySem.W.Frag}
noncomputable def DenB (K : PySem.W.Frag) (t : TE) (f : DEnv → Option D) : Prop := ∀ σ H ε A d (Q : VK), SR K H σ ε A → f ε = some d → (∀ v H', Same H H' → RB K H' A v d → Q v H') → t σ H Q
noncomputable def DenS (K : PySem.W.Frag) (t : TE) (f : DEnv → Option D) : Prop := ∀ σ H ε A d (Q : VK), SR K H σ ε A → f ε = some d → (∀ v H', Same H H' → Rep K (cut H' A) v d → Q v H') → t σ H Q
noncomputable def DenF (K : PySem.W.Frag) (t : TE) (f : DEnv → Option D) : Prop := ∀ σ H ε A d (Q : VK), SR K H σ ε A → f ε = some d → (∀ v H', Same H H' → RF K H H' A v d → Q v H') → t σ H Q
theorem DenF.s {t : TE} {f : DEnv → Option D} (h : DenF K t f) : DenS K t f := fun σ H ε A d Q s e q => h σ H ε A d Q s e fun v H' e' r => q v H' e' (r.rep s.al)
theorem DenS.b {t : TE} {f : DEnv → Option D} (h : DenS K t f) : DenB K t f := fun σ H ε A d Q s e q => h σ H ε A d Q s e fun v H' e' r => q v H' e' (.inl r)
theorem DenF.b {t : TE} {f : DEnv → Option D} (h : DenF K t f) : DenB K t f := h.s.b
noncomputable def DenC (K : PySem.W.Frag) (t : TT) (f : DEnv → Option Bool) : Prop := ∀ σ H ε A b (Q : Bool → Hp → Prop), SR K H σ ε A → f ε = some b → (∀ H', Same H H' → Q b H') → t σ H Q
noncomputable def DenA (K : PySem.W.Frag) (t : TA) (f : DEnv → Option (List D)) : Prop := ∀ σ H ε A ds (Q : List V → Hp → Prop), SR K H σ ε A → f ε = some ds → (∀ vs H', Same H H' → Reps K (cut H' A) vs ds → Q vs H') → t σ H Q
inductive RBs (K : PySem.W.Frag) (H : Hp) (A : List Addr) : List V → List D → Prop
  | nil : RBs K H A [] []
  | cons {x : V} {d : D} {xs : List V} {ds : List D} (r : RB K H A x d) (rs : RBs K H A xs ds) : RBs K H A (x :: xs) (d :: ds)
noncomputable def DenAB (K : PySem.W.Frag) (t : TA) (f : DEnv → Option (List D)) : Prop := ∀ σ H ε A ds (Q : List V → Hp → Prop), SR K H σ ε A → f ε = some ds → (∀ vs H', Same H H' → RBs K H' A vs ds → Q vs H') → t σ H Q
noncomputable def vB (i : Nat) (ε : DEnv) : Option D := match ε[i]? with | some (some (_, d)) => some d | _ => none
noncomputable def vS (i : Nat) (ε : DEnv) : Option D := match ε[i]? with | some (some (false, d)) => some d | _ => none
theorem den_vB (i : Nat) : DenB K (tVar i) (vB i) := by
  intro σ H ε A d Q s e q
  unfold vB at e
  split at e
  · rename_i fl d' h
    cases e
    cases fl with
    | false => obtain ⟨v, h1, h2⟩ := s.sh i d h; exact ⟨v, h1, q v H (Same.refl H) (.inl h2)⟩
    | true => obtain ⟨a, h1, h2, h3⟩ := s.ow i d h; exact ⟨_, h1, q _ H (Same.refl H) (.inr ⟨a, rfl, h2, h3⟩)⟩
  · cases e
theorem den_vS (i : Nat) : DenS K (tVar i) (vS i) := by
  intro σ H ε A d Q s e q
  unfold vS at e
  split at e
  · rename_i d' h
    cases e
    obtain ⟨v, h1, h2⟩ := s.sh i d h
    exact ⟨v, h1, q v H (Same.refl H) h2⟩
  · cases e
theorem den_C {v : V} {d : D} (h : aBt d = some v) : DenF K (tC v) (fun _ => some d) := by
  intro σ H ε A d' Q s e q
  cases e
  exact q v H (Same.refl H) (.flat h)
noncomputable def aDv (K : PySem.W.Frag) (r : R2) (g : D → D → Option D) : Prop := ∀ H A x y dx dy d (Q : VK), AL H A → RB K H A x dx → RB K H A y dy → g dx dy = some d → (∀ v H', Same H H' → RF K H H' A v d → Q v H') → r x y H Q
noncomputable def OpDenS (K : PySem.W.Frag) (r : R2) (g : D → D → Option D) : Prop := ∀ H A x y dx dy d (Q : VK), AL H A → RB K H A x dx → RB K H A y dy → g dx dy = some d → (∀ v H', Same H H' → Rep K (cut H' A) v d → Q v H') → r x y H Q
noncomputable def op2 (fa fb : DEnv → Option D) (g : D → D → Option D) (ε : DEnv) : Option D := (fa ε).bind fun x => (fb ε).bind fun y => g x y
theorem op2_some {fa fb : DEnv → Option D} {g : D → D → Option D} {ε : DEnv} {d : D} (h : op2 fa fb g ε = some d) : ∃ x y, fa ε = some x ∧ fb ε = some y ∧ g x y = some d := by
  unfold op2 at h
  cases ha : fa ε with
  | none => rw [ha] at h; cases h
  | some x =>
    rw [ha] at h
    cases hb : fb ε with
    | none => rw [hb] at h; cases h
    | some y => rw [hb] at h; exact ⟨x, y, rfl, rfl, h⟩
theorem den_op {r : R2} {g : D → D → Option D} {ta tb : TE} {fa fb : DEnv → Option D} (ho : aDv K r g) (ha : DenB K ta fa) (hb : DenB K tb fb) : DenF K (tOp r ta tb) (op2 fa fb g) := by
  intro σ H ε A d Q s e q
  obtain ⟨x, y, ex, ey, e⟩ := op2_some e
  refine ha σ H ε A x _ s ex fun v H1 e1 r1 => hb σ H1 ε A y _ (s.mono e1) ey fun u H2 e2 r2 => ?_
  exact ho H2 A v u x y d Q (s.al.mono (e1.trans e2)) (r1.mono e2) r2 e fun w H3 e3 r3 => q w H3 (e1.trans (e2.trans e3)) (r3.back (e1.trans e2))
theorem den_opS {r : R2} {g : D → D → Option D} {ta tb : TE} {fa fb : DEnv → Option D} (ho : OpDenS K r g) (ha : DenB K ta fa) (hb : DenB K tb fb) : DenS K (tOp r ta tb) (op2 fa fb g) := by
  intro σ H ε A d Q s e q
  obtain ⟨x, y, ex, ey, e⟩ := op2_some e
  refine ha σ H ε A x _ s ex fun v H1 e1 r1 => hb σ H1 ε A y _ (s.mono e1) ey fun u H2 e2 r2 => ?_
  exact ho H2 A v u x y d Q (s.al.mono (e1.trans e2)) (r1.mono e2) r2 e fun w H3 e3 r3 => q w H3 (e1.trans (e2.trans e3)) r3
theorem aDv.or {r r' : R2} {g g' : D → D → Option D} (h : aDv K r g) (h' : aDv K r' g') : aDv K (fun x y H Q => r x y H Q ∨ r' x y H Q) (fun x y => (g x y).or (g' x y)) := by
  intro H A x y dx dy d Q al rx ry e q
  have e : (g dx dy).or (g' dx dy) = some d := e
  cases hg : g dx dy with
  | some z => rw [hg] at e; cases e; exact .inl (h H A x y dx dy d Q al rx ry hg q)
  | none => rw [hg] at e; exact .inr (h' H A x y dx dy d Q al rx ry e q)
theorem OpDenS.or {r r' : R2} {g g' : D → D → Option D} (h : OpDenS K r g) (h' : OpDenS K r' g') : OpDenS K (fun x y H Q => r x y H Q ∨ r' x y H Q) (fun x y => (g x y).or (g' x y)) := by
  intro H A x y dx dy d Q al rx ry e q
  have e : (g dx dy).or (g' dx dy) = some d := e
  cases hg : g dx dy with
  | some z => rw [hg] at e; cases e; exact .inl (h H A x y dx dy d Q al rx ry hg q)
  | none => rw [hg] at e; exact .inr (h' H A x y dx dy d Q al rx ry e q)
noncomputable def gI (C : Int → Int → Prop) [∀ i j, Decidable (C i j)] (g : Int → Int → D) : D → D → Option D
  | .int i, .int j => if C i j then some (g i j) else none
  | _, _ => none
noncomputable def gI0 (g : Int → Int → D) : D → D → Option D
  | .int i, .int j => some (g i j)
  | _, _ => none
theorem opd_I {C : Int → Int → Prop} [∀ i j, Decidable (C i j)] {g : Int → Int → V} {gd : Int → Int → D} (hf : ∀ i j, aBt (gd i j) = some (g i j)) : aDv K (rI C g) (gI C gd) := by
  intro H A x y dx dy d Q al rx ry e q
  unfold gI at e
  split at e
  · rename_i i j
    split at e
    · rename_i c
      cases e
      exact ⟨i, j, rx.flat rfl, ry.flat rfl, c, q _ H (Same.refl H) (.flat (hf i j))⟩
    · cases e
  · cases e
theorem opd_I0 {g : Int → Int → V} {gd : Int → Int → D} (hf : ∀ i j, aBt (gd i j) = some (g i j)) : aDv K (rI0 g) (gI0 gd) := by
  intro H A x y dx dy d Q al rx ry e q
  unfold gI0 at e
  split at e
  · rename_i i j
    cases e
    exact ⟨i, j, rx.flat rfl, ry.flat rfl, q _ H (Same.refl H) (.flat (hf i j))⟩
  · cases e
noncomputable def gCat : D → D → Option D
  | .lst xs, .lst ys => if xs.length + ys.length ≤ sizeLine then some (.lst (xs ++ ys)) else none
  | _, _ => none
noncomputable def gStrCat : D → D → Option D
  | .str x, .str y => if x.length + y.length ≤ sizeLine then some (.str (x ++ y)) else none
  | _, _ => none
theorem opd_strcat : aDv K (fun x y H Q => ∃ i j, x = .str i ∧ y = .str j ∧ i.length + j.length ≤ sizeLine ∧ Q (.str (i ++ j)) H) gStrCat := by
  intro H A x y dx dy d Q al rx ry e q
  unfold gStrCat at e
  split at e
  · rename_i i j
    split at e
    · rename_i c
      cases e
      exact ⟨i, j, rx.flat rfl, ry.flat rfl, c, q _ H (Same.refl H) (.flat rfl)⟩
    · cases e
  · cases e
noncomputable def gIxL : D → D → Option D
  | .lst xs, .int i => atI xs i
  | _, _ => none
noncomputable def gIxT : D → D → Option D
  | .tup xs, .int i => atI xs i
  | _, _ => none
theorem atI_rep {H : Hp} {xs : List V} {ds : List D} {i : Int} {d : D} (r : Reps K H xs ds) (e : atI ds i = some d) : ∃ v, atI xs i = some v ∧ Rep K H v d := by
  unfold atI at e ⊢
  rw [r.length]
  cases h : ixN ds.length i with
  | none => rw [h] at e; cases e
  | some j =>
    rw [h] at e
    exact r.get (show ds[j]? = some d from e)
theorem opd_ixL : OpDenS K (rIxL K) gIxL := by
  intro H A x y dx dy d Q al rx ry e q
  unfold gIxL at e
  split at e
  · rename_i ds i
    obtain ⟨a, xs, rfl, h, r⟩ := rx.lst
    obtain ⟨v, e1, r1⟩ := atI_rep r e
    exact ⟨a, xs, i, v, rfl, ry.flat rfl, h, e1, q v H (Same.refl H) r1⟩
  · cases e
theorem opd_ixT : OpDenS K (rIxT K) gIxT := by
  intro H A x y dx dy d Q al rx ry e q
  unfold gIxT at e
  split at e
  · rename_i ds i
    obtain ⟨a, xs, rfl, h, r⟩ := rx.tup
    obtain ⟨v, e1, r1⟩ := atI_rep r e
    exact ⟨a, xs, i, v, rfl, ry.flat rfl, h, e1, q v H (Same.refl H) r1⟩
  · cases e
noncomputable def gIxS : D → D → Option D
  | .str z, .int i => if z.length ≤ sizeLine then (atI z.cps.toList i).map fun c => .str ⟨#[c]⟩ else none
  | _, _ => none
theorem opd_ixS : OpDenS K rIxS gIxS := by
  intro H A x y dx dy d Q al rx ry e q
  unfold gIxS at e
  split at e
  · rename_i z i
    split at e
    · rename_i c
      cases h : atI z.cps.toList i with
      | none => rw [h] at e; cases e
      | some u =>
        rw [h] at e
        cases e
        exact ⟨z, i, u, rx.flat rfl, ry.flat rfl, c, h, q _ H (Same.refl H) (.ofFlat rfl)⟩
    · cases e
  · cases e
theorem opd_ix : OpDenS K (rIx K) (fun x y => (gIxL x y).or ((gIxT x y).or (gIxS x y))) := opd_ixL.or (opd_ixT.or opd_ixS)
end
end DL
namespace DL
open PySem L2
section
variable {K : PySem.W.Frag}
noncomputable def eqFD : D → D → Bool
  | .non, .non => true
  | .bl a, .bl b => a == b
  | .bl a, .int b => (if a then 1 else 0) == b
  | .int a, .bl b => a == (if b then 1 else 0)
  | .int a, .int b => a == b
  | .str a, .str b => a == b
  | _, _ => false
theorem eqFD_of {x y : D} {u v : V} (hx : aBt x = some u) (hy : aBt y = some v) : eqV u v = eqFD x y := by
  cases x <;> simp [aBt] at hx <;> subst hx <;> cases y <;> simp [aBt] at hy <;> subst hy <;> rfl
noncomputable def aAr (d : D) : Bool := (aBt d).isSome
theorem aEx {d : D} (h : aAr d = true) : ∃ u, aBt d = some u := Option.isSome_iff_exists.mp h
theorem flatV_of {d : D} {u : V} (h : aBt d = some u) : flatV u = true := by cases d <;> simp [aBt] at h <;> subst h <;> rfl
theorem inV_of {H : Hp} {x : D} {u : V} (hx : aBt x = some u) : ∀ {vs : List V} {ds : List D}, Reps K H vs ds → ds.all aAr = true → vs.all flatV = true ∧ inV u vs = ds.any fun y => eqFD y x
  | _, _, .nil, _ => ⟨rfl, rfl⟩
  | _, _, .cons (x := v) (d := d) r rs, h => by
    rw [List.all_cons, Bool.and_eq_true] at h
    obtain ⟨w, hw⟩ := aEx h.1
    have e := r.flat hw
    subst e
    obtain ⟨h1, h2⟩ := inV_of hx rs h.2
    refine ⟨by rw [List.all_cons, flatV_of hw, h1]; rfl, ?_⟩
    unfold inV at h2 ⊢
    rw [List.any_cons, List.any_cons, h2, eqFD_of hw hx]
noncomputable def aHn : D → Option (List D)
  | .lst ds => some ds
  | .tup ds => some ds
  | _ => none
noncomputable def gIn (neg : Bool) (x y : D) : Option D := match aHn y with
  | some ds => if aAr x && ds.all aAr then some (.bl (if neg then !(ds.any fun z => eqFD z x) else ds.any fun z => eqFD z x)) else none
  | none => none
theorem RB.items {H : Hp} {A : List Addr} {v : V} {d : D} {ds : List D} (r : RB K H A v d) (h : aHn d = some ds) : ∃ a xs, v = .ref a ∧ (SqL K H a xs ∨ SqT K H a xs) ∧ Reps K (cut H A) xs ds := by
  cases d <;> simp [aHn] at h
  · subst h
    obtain ⟨a, xs, e, h, r⟩ := r.tup
    exact ⟨a, xs, e, .inr h, r⟩
  · subst h
    obtain ⟨a, xs, e, h, r⟩ := r.lst
    exact ⟨a, xs, e, .inl h, r⟩
theorem opd_in {neg : Bool} : aDv K (rIn K neg) (gIn neg) := by
  intro H A x y dx dy d Q al rx ry e q
  unfold gIn at e
  split at e
  · rename_i ds hi
    split at e
    · rename_i c
      cases e
      rw [Bool.and_eq_true] at c
      obtain ⟨u, hu⟩ := aEx c.1
      have ex := rx.flat hu
      subst ex
      obtain ⟨a, xs, rfl, hs, r⟩ := ry.items hi
      obtain ⟨h1, h2⟩ := inV_of hu r c.2
      refine ⟨a, xs, rfl, hs, flatV_of hu, h1, ?_⟩
      rw [h2]
      exact q _ H (Same.refl H) (.flat rfl)
    · cases e
  · cases e
noncomputable def gEq (neg : Bool) : D → D → Option D
  | .int i, .int j => some (.bl (xor neg (decide (i = j))))
  | .bl i, .bl j => some (.bl (xor neg (decide (i = j))))
  | .str i, .str j => some (.bl (xor neg (decide (i = j))))
  | .non, .non => some (.bl (xor neg true))
  | _, _ => none
theorem opd_eq : aDv K rEq (gEq false) := by
  intro H A x y dx dy d Q al rx ry e q
  unfold gEq at e
  split at e <;> cases e
  · rename_i i j
    obtain rfl := rx.flat rfl; obtain rfl := ry.flat rfl
    refine ⟨rfl, ?_⟩
    have e : decide (V.int i = V.int j) = xor false (decide (i = j)) := by simp
    rw [e]
    exact q _ H (Same.refl H) (.flat rfl)
  · rename_i i j
    obtain rfl := rx.flat rfl; obtain rfl := ry.flat rfl
    refine ⟨rfl, ?_⟩
    have e : decide (V.bl i = V.bl j) = xor false (decide (i = j)) := by simp
    rw [e]
    exact q _ H (Same.refl H) (.flat rfl)
  · rename_i i j
    obtain rfl := rx.flat rfl; obtain rfl := ry.flat rfl
    refine ⟨rfl, ?_⟩
    have e : decide (V.str i = V.str j) = xor false (decide (i = j)) := by simp
    rw [e]
    exact q _ H (Same.refl H) (.flat rfl)
  · obtain rfl := rx.flat rfl; obtain rfl := ry.flat rfl
    exact ⟨rfl, q _ H (Same.refl H) (.flat rfl)⟩
theorem opd_ne : aDv K rNe (gEq true) := by
  intro H A x y dx dy d Q al rx ry e q
  unfold gEq at e
  split at e <;> cases e
  · rename_i i j
    obtain rfl := rx.flat rfl; obtain rfl := ry.flat rfl
    refine ⟨rfl, ?_⟩
    have e : (!decide (V.int i = V.int j)) = xor true (decide (i = j)) := by simp
    rw [e]
    exact q _ H (Same.refl H) (.flat rfl)
  · rename_i i j
    obtain rfl := rx.flat rfl; obtain rfl := ry.flat rfl
    refine ⟨rfl, ?_⟩
    have e : (!decide (V.bl i = V.bl j)) = xor true (decide (i = j)) := by simp
    rw [e]
    exact q _ H (Same.refl H) (.flat rfl)
  · rename_i i j
    obtain rfl := rx.flat rfl; obtain rfl := ry.flat rfl
    refine ⟨rfl, ?_⟩
    have e : (!decide (V.str i = V.str j)) = xor true (decide (i = j)) := by simp
    rw [e]
    exact q _ H (Same.refl H) (.flat rfl)
  · obtain rfl := rx.flat rfl; obtain rfl := ry.flat rfl
    exact ⟨rfl, q _ H (Same.refl H) (.flat rfl)⟩
noncomputable def isNon : D → Bool
  | .non => true
  | _ => false
theorem RB.non_iff {H : Hp} {A : List Addr} {v : V} {d : D} (r : RB K H A v d) : decide (v = .non) = isNon d := by
  rcases r with r | ⟨a, rfl, _, o⟩
  · cases r <;> simp [isNon]
  · cases o <;> simp [isNon]
noncomputable def gIsN (neg : Bool) (x y : D) : Option D := match y with
  | .non => some (.bl (xor neg (isNon x)))
  | _ => none
theorem opd_isN : aDv K (fun x y H Q => y = .non ∧ Q (.bl (decide (x = .non))) H) (gIsN false) := by
  intro H A x y dx dy d Q al rx ry e q
  unfold gIsN at e
  split at e <;> cases e
  obtain rfl := ry.flat rfl
  refine ⟨rfl, ?_⟩
  rw [rx.non_iff]
  have := q (.bl (xor false (isNon dx))) H (Same.refl H) (.flat rfl)
  simpa using this
theorem opd_notN : aDv K (fun x y H Q => y = .non ∧ Q (.bl (!decide (x = .non))) H) (gIsN true) := by
  intro H A x y dx dy d Q al rx ry e q
  unfold gIsN at e
  split at e <;> cases e
  obtain rfl := ry.flat rfl
  refine ⟨rfl, ?_⟩
  rw [rx.non_iff]
  have := q (.bl (xor true (isNon dx))) H (Same.refl H) (.flat rfl)
  simpa using this
theorem opd_cat : aDv K (fun x y H Q => ∃ l b xs zs, x = .ref l ∧ y = .ref b ∧ SqL K H l xs ∧ SqL K H b zs ∧ xs.length + zs.length ≤ sizeLine ∧ ∀ p, H p = none → Q (.ref p) (upd H p (.lst (xs ++ zs)))) gCat := by
  intro H A x y dx dy d Q al rx ry e q
  unfold gCat at e
  split at e
  · rename_i ds es
    split at e
    · rename_i c
      cases e
      obtain ⟨a, xs, rfl, h1, r1⟩ := rx.lst
      obtain ⟨b, ys, rfl, h2, r2⟩ := ry.lst
      refine ⟨a, b, xs, ys, rfl, rfl, h1, h2, by rw [r1.length, r2.length]; exact c, fun p hp => ?_⟩
      exact q _ _ (aBu hp _) (.newL hp (r1.app r2))
    · cases e
  · cases e
noncomputable def gCatT : D → D → Option D
  | .tup xs, .tup ys => if xs.length + ys.length ≤ sizeLine then some (.tup (xs ++ ys)) else none
  | _, _ => none
noncomputable def UnDen (K : PySem.W.Frag) (r : V → Hp → VK → Prop) (g : D → Option D) : Prop := ∀ H A x dx d (Q : VK), AL H A → RB K H A x dx → g dx = some d → (∀ v H', Same H H' → RF K H H' A v d → Q v H') → r x H Q
noncomputable def op1 (fa : DEnv → Option D) (g : D → Option D) (ε : DEnv) : Option D := (fa ε).bind g
theorem op1_some {fa : DEnv → Option D} {g : D → Option D} {ε : DEnv} {d : D} (h : op1 fa g ε = some d) : ∃ x, fa ε = some x ∧ g x = some d := Option.bind_eq_some_iff.mp h
theorem den_un {r : V → Hp → VK → Prop} {g : D → Option D} {ta : TE} {fa : DEnv → Option D} (ho : UnDen K r g) (ha : DenB K ta fa) : DenF K (tUn r ta) (op1 fa g) := by
  intro σ H ε A d Q s e q
  obtain ⟨x, ex, e⟩ := op1_some e
  refine ha σ H ε A x _ s ex fun v H1 e1 r1 => ?_
  exact ho H1 A v x d Q (s.al.mono e1) r1 e fun w H3 e3 r3 => q w H3 (e1.trans e3) (r3.back e1)
noncomputable def gU (g : Int → D) : D → Option D
  | .int i => some (g i)
  | _ => none
theorem und_U {g : Int → V} {gd : Int → D} (hf : ∀ i, aBt (gd i) = some (g i)) : UnDen K (rU g) (gU gd) := by
  intro H A x dx d Q al rx e q
  unfold gU at e
  split at e <;> cases e
  exact ⟨_, rx.flat rfl, q _ H (Same.refl H) (.flat (hf _))⟩
noncomputable def toB : D → Option Bool
  | .bl b => some b
  | _ => none
theorem den_test {t : TE} {f : DEnv → Option D} (h : DenB K t f) : DenC K (tTest t) (fun ε => (f ε).bind toB) := by
  intro σ H ε A b Q s e q
  obtain ⟨d, e1, e2⟩ := Option.bind_eq_some_iff.mp e
  refine h σ H ε A d _ s e1 fun v H1 s1 r => ?_
  unfold toB at e2
  split at e2 <;> cases e2
  exact ⟨_, r.flat rfl, q H1 s1⟩
noncomputable def truD : D → Option Bool
  | .non => some false
  | .bl b => some b
  | .int i => some (i != 0)
  | .str y => if y.length ≤ sizeLine then some ((y.length : Int) != 0) else none
  | .lst ds => some (!ds.isEmpty)
  | .tup ds => some (!ds.isEmpty)
  | .dic ds => some (!ds.isEmpty)
  | .sht .. => none
theorem Reps.empty {H : Hp} {vs : List V} {ds : List D} (r : Reps K H vs ds) : vs.isEmpty = ds.isEmpty := by cases r <;> rfl
theorem KReps.empty {H : Hp} {vs : List (Key × V)} {ds : List (Key × D)} (r : KReps K H vs ds) : vs.isEmpty = ds.isEmpty := by cases r <;> rfl
theorem RB.tru {H : Hp} {A : List Addr} {v : V} {d : D} {b : Bool} (r : RB K H A v d) (e : truD d = some b) : TruV K v H b := by
  cases d with
  | sht p l d ls nar => cases e
  | non => obtain rfl := r.flat rfl; exact (Option.some.inj e).symm
  | bl c => obtain rfl := r.flat rfl; exact (Option.some.inj e).symm
  | int c => obtain rfl := r.flat rfl; exact (Option.some.inj e).symm
  | str c =>
    obtain rfl := r.flat rfl
    unfold truD at e
    dsimp only at e
    split at e
    · rename_i z
      exact ⟨z, (Option.some.inj e).symm⟩
    · cases e
  | tup ds =>
    obtain ⟨a, xs, rfl, h, r⟩ := r.tup
    exact .inr (.inl ⟨xs, h, by rw [r.empty]; exact (Option.some.inj e).symm⟩)
  | lst ds =>
    obtain ⟨a, xs, rfl, h, r⟩ := r.lst
    exact .inl ⟨xs, h, by rw [r.empty]; exact (Option.some.inj e).symm⟩
  | dic ds =>
    obtain ⟨a, xs, rfl, h, r⟩ := r.dic
    exact .inr (.inr ⟨xs, h, by rw [r.empty]; exact (Option.some.inj e).symm⟩)
theorem den_truth {t : TE} {f : DEnv → Option D} (h : DenB K t f) : DenC K (fun σ H Q => t σ H fun x H' => ∃ k, TruV K x H' k ∧ Q k H') (fun ε => (f ε).bind truD) := by
  intro σ H ε A b Q s e q
  obtain ⟨d, e1, e2⟩ := Option.bind_eq_some_iff.mp e
  exact h σ H ε A d _ s e1 fun v H1 s1 r => ⟨b, r.tru e2, q H1 s1⟩
noncomputable def cAnd (f g : DEnv → Option Bool) (ε : DEnv) : Option Bool := (f ε).bind fun b => if b then g ε else some false
noncomputable def cOr (f g : DEnv → Option Bool) (ε : DEnv) : Option Bool := (f ε).bind fun b => if b then some true else g ε
noncomputable def cNot (f : DEnv → Option Bool) (ε : DEnv) : Option Bool := (f ε).map not
theorem den_and {t u : TT} {f g : DEnv → Option Bool} (h : DenC K t f) (h' : DenC K u g) : DenC K (tAnd t u) (cAnd f g) := by
  intro σ H ε A b Q s e q
  obtain ⟨c, e1, e2⟩ := Option.bind_eq_some_iff.mp e
  refine h σ H ε A c _ s e1 fun H1 s1 => ?_
  cases c with
  | true => exact h' σ H1 ε A b Q (s.mono s1) e2 fun H2 s2 => q H2 (s1.trans s2)
  | false => cases e2; exact q H1 s1
theorem den_or {t u : TT} {f g : DEnv → Option Bool} (h : DenC K t f) (h' : DenC K u g) : DenC K (tOr t u) (cOr f g) := by
  intro σ H ε A b Q s e q
  obtain ⟨c, e1, e2⟩ := Option.bind_eq_some_iff.mp e
  refine h σ H ε A c _ s e1 fun H1 s1 => ?_
  cases c with
  | true => cases e2; exact q H1 s1
  | false => exact h' σ H1 ε A b Q (s.mono s1) e2 fun H2 s2 => q H2 (s1.trans s2)
theorem den_not {t : TT} {f : DEnv → Option Bool} (h : DenC K t f) : DenC K (tNot t) (cNot f) := by
  intro σ H ε A b Q s e q
  unfold cNot at e
  obtain ⟨c, e1, e2⟩ := Option.map_eq_some_iff.mp e
  subst e2
  exact h σ H ε A c _ s e1 fun H1 s1 => q H1 s1
noncomputable def vAnd (f g : DEnv → Option D) (ε : DEnv) : Option D := ((f ε).bind toB).bind fun b => if b then g ε else some (.bl false)
noncomputable def vNot (f : DEnv → Option D) (ε : DEnv) : Option D := ((f ε).bind toB).map fun b => .bl (!b)
theorem toB_some {d : D} {b : Bool} (h : toB d = some b) : d = .bl b := by unfold toB at h; split at h <;> cases h; rfl
theorem den_vAnd {t u : TE} {f g : DEnv → Option D} (h : DenB K t f) (h' : DenS K u g) : DenS K (tAndV t u) (vAnd f g) := by
  intro σ H ε A d Q s e q
  obtain ⟨b, e1, e2⟩ := Option.bind_eq_some_iff.mp e
  obtain ⟨x, e3, e4⟩ := Option.bind_eq_some_iff.mp e1
  obtain rfl := toB_some e4
  refine h σ H ε A _ _ s e3 fun v H1 s1 r => ⟨b, r.flat rfl, ?_⟩
  cases b with
  | true => exact h' σ H1 ε A d Q (s.mono s1) e2 fun w H2 s2 => q w H2 (s1.trans s2)
  | false => cases e2; exact q _ H1 s1 (.ofFlat rfl)
theorem den_vNot {t : TE} {f : DEnv → Option D} (h : DenB K t f) : DenF K (tNotV t) (vNot f) := by
  intro σ H ε A d Q s e q
  unfold vNot at e
  obtain ⟨b, e1, e2⟩ := Option.map_eq_some_iff.mp e
  subst e2
  obtain ⟨x, e3, e4⟩ := Option.bind_eq_some_iff.mp e1
  obtain rfl := toB_some e4
  exact h σ H ε A _ _ s e3 fun v H1 s1 r => ⟨b, r.flat rfl, q _ H1 s1 (.flat rfl)⟩
noncomputable def vIf (c : DEnv → Option Bool) (f g : DEnv → Option D) (ε : DEnv) : Option D := (c ε).bind fun b => if b then f ε else g ε
theorem den_if {t : TT} {ta tb : TE} {c : DEnv → Option Bool} {f g : DEnv → Option D} (h : DenC K t c) (h1 : DenS K ta f) (h2 : DenS K tb g) : DenS K (tIf t ta tb) (vIf c f g) := by
  intro σ H ε A d Q s e q
  obtain ⟨b, e1, e2⟩ := Option.bind_eq_some_iff.mp e
  refine h σ H ε A b _ s e1 fun H1 s1 => ?_
  cases b with
  | true => exact h1 σ H1 ε A d Q (s.mono s1) e2 fun w H2 s2 => q w H2 (s1.trans s2)
  | false => exact h2 σ H1 ε A d Q (s.mono s1) e2 fun w H2 s2 => q w H2 (s1.trans s2)
noncomputable def vChain (f1 f2 f3 : DEnv → Option D) (g g' : D → D → Option D) (ε : DEnv) : Option D :=
  (f1 ε).bind fun x => (f2 ε).bind fun y => ((g x y).bind toB).bind fun b => if b then (f3 ε).bind fun z => g' y z else some (.bl false)
theorem den_chain {r r' : R2} {ta tb tc : TE} {f1 f2 f3 : DEnv → Option D} {g g' : D → D → Option D} (o : aDv K r g) (o' : aDv K r' g') (h1 : DenB K ta f1) (h2 : DenB K tb f2) (h3 : DenB K tc f3) : DenF K (tChain r r' ta tb tc) (vChain f1 f2 f3 g g') := by
  intro σ H ε A d Q s e q
  obtain ⟨x, ex, e⟩ := Option.bind_eq_some_iff.mp e
  obtain ⟨y, ey, e⟩ := Option.bind_eq_some_iff.mp e
  obtain ⟨b, eb, e⟩ := Option.bind_eq_some_iff.mp e
  obtain ⟨w, ew, eb⟩ := Option.bind_eq_some_iff.mp eb
  obtain rfl := toB_some eb
  refine h1 σ H ε A x _ s ex fun v H1 s1 r1 => h2 σ H1 ε A y _ (s.mono s1) ey fun u H2 s2 r2 => ?_
  refine o H2 A v u x y _ _ (s.al.mono (s1.trans s2)) (r1.mono s2) r2 ew fun k H3 s3 r3 => ?_
  have s13 := s1.trans (s2.trans s3)
  refine ⟨b, (RB.flat (.inl (r3.rep (s.al.mono (s1.trans s2)))) rfl), ?_⟩
  cases b with
  | true =>
    obtain ⟨z, ez, e⟩ := Option.bind_eq_some_iff.mp e
    refine h3 σ H3 ε A z _ (s.mono s13) ez fun k' H4 s4 r4 => ?_
    exact o' H4 A u k' y z d Q (s.al.mono (s13.trans s4)) (r2.mono (s3.trans s4)) r4 e fun w' H5 s5 r5 => q w' H5 (s13.trans (s4.trans s5)) (r5.back (s13.trans s4))
  | false => cases e; exact q _ H3 s13 (.flat rfl)
noncomputable def aNil (_ : DEnv) : Option (List D) := some []
noncomputable def aAb (f : DEnv → Option D) (g : DEnv → Option (List D)) (ε : DEnv) : Option (List D) := (f ε).bind fun d => (g ε).map fun ds => d :: ds
theorem den_aNil : DenA K tNil aNil := fun σ H ε A ds Q s e q => by cases e; exact q [] H (Same.refl H) .nil
theorem den_aCons {t : TE} {u : TA} {f : DEnv → Option D} {g : DEnv → Option (List D)} (h : DenS K t f) (h' : DenA K u g) : DenA K (tCons t u) (aAb f g) := by
  intro σ H ε A ds Q s e q
  obtain ⟨d, e1, e⟩ := Option.bind_eq_some_iff.mp e
  obtain ⟨es, e2, rfl⟩ := Option.map_eq_some_iff.mp e
  refine h σ H ε A d _ s e1 fun v H1 s1 r1 => h' σ H1 ε A es _ (s.mono s1) e2 fun vs H2 s2 r2 => ?_
  exact q _ H2 (s1.trans s2) (.cons (r1.mono (aEh A s2)) r2)
theorem den_bNil : DenAB K tNil aNil := fun σ H ε A ds Q s e q => by cases e; exact q [] H (Same.refl H) .nil
theorem den_bCons {t : TE} {u : TA} {f : DEnv → Option D} {g : DEnv → Option (List D)} (h : DenB K t f) (h' : DenAB K u g) : DenAB K (tCons t u) (aAb f g) := by
  intro σ H ε A ds Q s e q
  obtain ⟨d, e1, e⟩ := Option.bind_eq_some_iff.mp e
  obtain ⟨es, e2, rfl⟩ := Option.map_eq_some_iff.mp e
  refine h σ H ε A d _ s e1 fun v H1 s1 r1 => h' σ H1 ε A es _ (s.mono s1) e2 fun vs H2 s2 r2 => ?_
  exact q _ H2 (s1.trans s2) (.cons (r1.mono s2) r2)
noncomputable def mkL (g : DEnv → Option (List D)) (ε : DEnv) : Option D := (g ε).bind fun ds => if ds.length ≤ sizeLine then some (.lst ds) else none
noncomputable def mkT (g : DEnv → Option (List D)) (ε : DEnv) : Option D := (g ε).bind fun ds => if ds.length ≤ sizeLine then some (.tup ds) else none
theorem den_lst {t : TA} {g : DEnv → Option (List D)} (h : DenA K t g) : DenF K (tLst t) (mkL g) := by
  intro σ H ε A d Q s e q
  obtain ⟨ds, e1, e⟩ := Option.bind_eq_some_iff.mp e
  split at e
  · rename_i c
    cases e
    refine h σ H ε A ds _ s e1 fun vs H1 s1 r => ⟨by rw [r.length]; exact c, fun p hp => ?_⟩
    exact q _ _ (s1.trans (aBu hp _)) ((RF.newL hp r).back s1)
  · cases e
theorem den_tup {t : TA} {g : DEnv → Option (List D)} (h : DenA K t g) : DenF K (tTup t) (mkT g) := by
  intro σ H ε A d Q s e q
  obtain ⟨ds, e1, e⟩ := Option.bind_eq_some_iff.mp e
  split at e
  · rename_i c
    cases e
    refine h σ H ε A ds _ s e1 fun vs H1 s1 r => ⟨by rw [r.length]; exact c, fun p hp => ?_⟩
    exact q _ _ (s1.trans (aBu hp _)) ((RF.newT hp ((s.al.mono s1).not hp) r).back s1)
  · cases e
noncomputable def aFu (K : PySem.W.Frag) (r : List V → Hp → VK → Prop) (g : List D → Option D) : Prop := ∀ H A xs ds d (Q : VK), AL H A → RBs K H A xs ds → g ds = some d → (∀ v H', Same H H' → RF K H H' A v d → Q v H') → r xs H Q
noncomputable def cb (fa : DEnv → Option (List D)) (g : List D → Option D) (ε : DEnv) : Option D := (fa ε).bind g
theorem den_cb {r : List V → Hp → VK → Prop} {g : List D → Option D} {t : TA} {fa : DEnv → Option (List D)} (hc : aFu K r g) (ha : DenAB K t fa) : DenF K (tCB r t) (cb fa g) := by
  intro σ H ε A d Q s e q
  obtain ⟨ds, e1, e⟩ := Option.bind_eq_some_iff.mp e
  refine ha σ H ε A ds _ s e1 fun vs H1 s1 rs => ?_
  exact hc H1 A vs ds d Q (s.al.mono s1) rs e fun w H3 e3 r3 => q w H3 (s1.trans e3) (r3.back s1)
noncomputable def lenD : List D → Option D
  | [.lst ds] => some (.int ds.length)
  | [.tup ds] => some (.int ds.length)
  | [.str x] => if x.length ≤ sizeLine then some (.int x.length) else none
  | _ => none
theorem RBs.one {H : Hp} {A : List Addr} {xs : List V} {d : D} (r : RBs K H A xs [d]) : ∃ x, xs = [x] ∧ RB K H A x d := by
  cases r with
  | cons r rs => cases rs; exact ⟨_, rfl, r⟩
theorem RBs.two {H : Hp} {A : List Addr} {xs : List V} {d e : D} (r : RBs K H A xs [d, e]) : ∃ x y, xs = [x, y] ∧ RB K H A x d ∧ RB K H A y e := by
  cases r with
  | cons r rs =>
    obtain ⟨y, rfl, r'⟩ := rs.one
    exact ⟨_, y, rfl, r, r'⟩
theorem aDi : aFu K (fun xs H Q => ∃ x n, xs = [x] ∧ LenV K x H n ∧ Q (.int n) H) lenD := by
  intro H A xs ds d Q al rs e q
  unfold lenD at e
  split at e
  · rename_i ds
    cases e
    obtain ⟨x, rfl, r⟩ := rs.one
    obtain ⟨a, ys, rfl, h, r⟩ := r.lst
    exact ⟨_, ys.length, rfl, .inl ⟨ys, h, rfl⟩, by rw [r.length]; exact q _ H (Same.refl H) (.flat rfl)⟩
  · rename_i ds
    cases e
    obtain ⟨x, rfl, r⟩ := rs.one
    obtain ⟨a, ys, rfl, h, r⟩ := r.tup
    exact ⟨_, ys.length, rfl, .inr ⟨ys, h, rfl⟩, by rw [r.length]; exact q _ H (Same.refl H) (.flat rfl)⟩
  · rename_i x
    split at e
    · rename_i c
      cases e
      obtain ⟨v, rfl, r⟩ := rs.one
      obtain rfl := r.flat rfl
      exact ⟨_, x.length, rfl, ⟨c, rfl⟩, q _ H (Same.refl H) (.flat rfl)⟩
    · cases e
  · cases e
noncomputable def tupleD : List D → Option D
  | [d] => (aHn d).map .tup
  | _ => none
theorem cd_tuple : aFu K (fun xs H Q => ∃ p ys, xs = [.ref p] ∧ ((SqL K H p ys ∧ ∀ l, H l = none → Q (.ref l) (upd H l (.tup ys))) ∨ (SqT K H p ys ∧ Q (.ref p) H))) tupleD := by
  intro H A xs ds d Q al rs e q
  unfold tupleD at e
  split at e
  · rename_i d0
    obtain ⟨es, e1, rfl⟩ := Option.map_eq_some_iff.mp e
    obtain ⟨x, rfl, r⟩ := rs.one
    cases d0 <;> simp [aHn] at e1
    · subst e1
      rcases r with r | ⟨a, rfl, ha, o⟩
      · cases r with
        | tup h r => exact ⟨_, _, rfl, .inr ⟨sameT (aAl H A) h, q _ H (Same.refl H) (.inr ⟨rfl, .tup h r⟩)⟩⟩
      · cases o
    · subst e1
      obtain ⟨a, ys, rfl, h, r⟩ := r.lst
      exact ⟨a, ys, rfl, .inl ⟨h, fun l hl => q _ _ (aBu hl _) (.newT hl (al.not hl) r)⟩⟩
  · cases e
end
end DL
namespace DL
open PySem L2
section
variable {K : PySem.W.Frag}
noncomputable def DenO (K : PySem.W.Frag) (t : TO) (f : DEnv → Option (Option Int)) : Prop := ∀ σ H ε A o (Q : Option Int → Hp → Prop), SR K H σ ε A → f ε = some o → (∀ H', Same H H' → Q o H') → t σ H Q
noncomputable def oNone (_ : DEnv) : Option (Option Int) := some none
noncomputable def toI : D → Option Int
  | .int i => some i
  | _ => none
noncomputable def oSome (f : DEnv → Option D) (ε : DEnv) : Option (Option Int) := ((f ε).bind toI).map some
theorem den_oNone : DenO K tNoPart oNone := fun σ H ε A o Q s e q => by cases e; exact q H (Same.refl H)
theorem den_oSome {t : TE} {f : DEnv → Option D} (h : DenB K t f) : DenO K (tPart t) (oSome f) := by
  intro σ H ε A o Q s e q
  unfold oSome at e
  obtain ⟨i, e1, rfl⟩ := Option.map_eq_some_iff.mp e
  obtain ⟨d, e2, e3⟩ := Option.bind_eq_some_iff.mp e1
  refine h σ H ε A d _ s e2 fun v H1 s1 r => ?_
  unfold toI at e3
  split at e3 <;> cases e3
  exact ⟨i, r.flat rfl, q H1 s1⟩
noncomputable def cutD {α : Type} (xs : List α) (lo hi : Option Int) : List α := (xs.drop (HT.sIx xs.length 0 lo)).take (HT.sIx xs.length xs.length hi - HT.sIx xs.length 0 lo)
theorem Reps.cut {H : Hp} {vs : List V} {ds : List D} (r : Reps K H vs ds) (lo hi : Option Int) : Reps K H (cutV vs lo hi) (cutD ds lo hi) := by
  unfold cutV cutD
  rw [r.length]
  exact (r.drop _).take _
noncomputable def slD (f : DEnv → Option D) (lo hi : DEnv → Option (Option Int)) (g : D → Option Int → Option Int → Option D) (ε : DEnv) : Option D := (f ε).bind fun x => (lo ε).bind fun l => (hi ε).bind fun h => g x l h
noncomputable def SlDen (K : PySem.W.Frag) (r : V → Option Int → Option Int → Hp → VK → Prop) (g : D → Option Int → Option Int → Option D) : Prop :=
  ∀ H A x dx lo hi d (Q : VK), AL H A → RB K H A x dx → g dx lo hi = some d → (∀ v H', Same H H' → RF K H H' A v d → Q v H') → r x lo hi H Q
theorem den_sl {r : V → Option Int → Option Int → Hp → VK → Prop} {g : D → Option Int → Option Int → Option D} {t : TE} {tl th : TO} {f : DEnv → Option D} {lo hi : DEnv → Option (Option Int)} (hr : SlDen K r g) (h : DenB K t f) (hl : DenO K tl lo) (hh : DenO K th hi) :
    DenF K (tSl r t tl th) (slD f lo hi g) := by
  intro σ H ε A d Q s e q
  obtain ⟨x, e1, e⟩ := Option.bind_eq_some_iff.mp e
  obtain ⟨l, e2, e⟩ := Option.bind_eq_some_iff.mp e
  obtain ⟨u, e3, e⟩ := Option.bind_eq_some_iff.mp e
  refine h σ H ε A x _ s e1 fun v H1 s1 r1 => hl σ H1 ε A l _ (s.mono s1) e2 fun H2 s2 => hh σ H2 ε A u _ (s.mono (s1.trans s2)) e3 fun H3 s3 => ?_
  have s13 := s1.trans (s2.trans s3)
  exact hr H3 A v x l u d Q (s.al.mono s13) (r1.mono (s2.trans s3)) e fun w H4 s4 r4 => q w H4 (s13.trans s4) (r4.back s13)
noncomputable def gSlL (x : D) (lo hi : Option Int) : Option D := match x with
  | .lst ds => some (.lst (cutD ds lo hi))
  | _ => none
theorem sld_L : SlDen K (rSlL K) gSlL := by
  intro H A x dx lo hi d Q al rx e q
  unfold gSlL at e
  split at e <;> cases e
  obtain ⟨a, xs, rfl, h, r⟩ := rx.lst
  exact ⟨a, xs, rfl, h, fun p hp => q _ _ (aBu hp _) (.newL hp (r.cut lo hi))⟩
noncomputable def aCk (A A' : List Addr) (H H' : Hp) : Prop := ∀ b o, b ∉ A → H b = some o → H' b = some o ∧ b ∉ A'
theorem aCk.refl (A : List Addr) (H : Hp) : aCk A A H H := fun _ _ h e => ⟨e, h⟩
theorem aCk.of {A : List Addr} {H H' : Hp} (e : Same H H') : aCk A A H H' := fun b o h q => ⟨e b o q, h⟩
theorem aCk.trans {A B C : List Addr} {H H1 H2 : Hp} (a : aCk A B H H1) (b : aCk B C H1 H2) : aCk A C H H2 := fun c o h e => let ⟨e1, h1⟩ := a c o h e; b c o h1 e1
theorem aCk.cut {A B : List Addr} {H H' : Hp} (a : aCk A B H H') : Same (cut H A) (cut H' B) := fun b o e => by
  obtain ⟨h1, h2⟩ := aAq.mp e
  obtain ⟨q1, q2⟩ := a b o h1 h2
  exact aAq.mpr ⟨q2, q1⟩
theorem aCk.nil {A : List Addr} {H H' : Hp} (a : aCk [] A H H') : Same H H' := fun b o e => (a b o (by simp) e).1
inductive Out where
  | nx (ε : DEnv) | rt (fr : Bool) (d : D) | bk (ε : DEnv) | ct (ε : DEnv)
noncomputable def RR (K : PySem.W.Frag) (A : List Addr) (H : Hp) (A' : List Addr) (H' : Hp) (fr : Bool) (v : V) (d : D) : Prop :=
  if fr = true then (∃ a, v = .ref a ∧ (a ∈ A ∨ H a = none) ∧ Own K H' (a :: A') a d) ∨ (isMut d = false ∧ Rep K (cut H' A') v d) else Rep K (cut H' A') v d
noncomputable def FinS (K : PySem.W.Frag) (A : List Addr) (H : Hp) (De : Ends) : Out → Prop
  | .nx ε => ∀ σ' H' A', SR K H' σ' ε A' → aCk A A' H H' → De.nx σ' H'
  | .bk ε => ∀ σ' H' A', SR K H' σ' ε A' → aCk A A' H H' → De.bk σ' H'
  | .ct ε => ∀ σ' H' A', SR K H' σ' ε A' → aCk A A' H H' → De.ct σ' H'
  | .rt fr d => ∀ v H' A', aCk A A' H H' → RR K A H A' H' fr v d → De.rt v H'
noncomputable abbrev DS := DEnv → Option Out
noncomputable def DenT (K : PySem.W.Frag) (t : TS) (F : DS) : Prop := ∀ σ H ε A out De, SR K H σ ε A → F ε = some out → FinS K A H De out → t De σ H
theorem RR.later {A B C : List Addr} {H H1 H2 : Hp} {fr : Bool} {v : V} {d : D} (r : RR K B H1 C H2 fr v d) (e : aCk A B H H1) : RR K A H C H2 fr v d := by
  unfold RR at r ⊢
  cases fr with
  | false => exact r
  | true =>
    rw [if_pos rfl] at r ⊢
    rcases r with ⟨a, rfl, h, o⟩ | r
    · refine .inl ⟨a, rfl, ?_, o⟩
      by_cases ha : a ∈ A
      · exact .inl ha
      · right
        cases q : H a with
        | none => rfl
        | some u =>
          obtain ⟨q1, q2⟩ := e a u ha q
          rcases h with h | h
          · exact absurd h q2
          · rw [h] at q1; cases q1
    · exact .inr r
theorem FinS.later {A B : List Addr} {H H1 : Hp} {De : Ends} {out : Out} (f : FinS K A H De out) (e : aCk A B H H1) : FinS K B H1 De out := by
  cases out with
  | nx ε => exact fun σ' H' A' s e' => f σ' H' A' s (e.trans e')
  | bk ε => exact fun σ' H' A' s e' => f σ' H' A' s (e.trans e')
  | ct ε => exact fun σ' H' A' s e' => f σ' H' A' s (e.trans e')
  | rt fr d => exact fun v H' A' e' r => f v H' A' (e.trans e') (r.later e)
noncomputable def pub1 (i : Nat) (ε : DEnv) : DEnv := match ε[i]? with
  | some (some (_, d)) => ε.set i (some (false, d))
  | _ => ε
theorem SR.pub1 {H : Hp} {σ : St} {ε : DEnv} {A : List Addr} (s : SR K H σ ε A) (i : Nat) : ∃ A', SR K H σ (pub1 i ε) A' ∧ aCk A A' H H := by
  unfold DL.pub1
  split
  · rename_i fl d h
    have hi : i < ε.length := by
      by_cases z : i < ε.length
      · exact z
      · rw [List.getElem?_eq_none (by omega)] at h; cases h
    cases fl with
    | false =>
      have e : ε.set i (some (false, d)) = ε := by
        apply List.ext_getElem?
        intro j
        by_cases hj : i = j
        · subst hj; rw [List.getElem?_set_self hi, h]
        · rw [List.getElem?_set_ne hj]
      rw [e]
      exact ⟨A, s, .refl A H⟩
    | true =>
      obtain ⟨a, ha, hA, o⟩ := s.ow i d h
      have hle : ∀ b ∈ A.filter (fun b => decide (b ≠ a)), b ∈ A := fun b hb => (List.mem_filter.mp hb).1
      have hna : a ∉ A.filter (fun b => decide (b ≠ a)) := fun z => by simpa using (List.mem_filter.mp z).2
      refine ⟨A.filter (fun b => decide (b ≠ a)), ⟨by rw [List.length_set]; exact s.len, fun j d' hj => ?_, fun j d' hj => ?_, fun j k d1 d2 b h1 h2 h3 h4 => ?_, fun b hb => s.al b (hle b hb)⟩, fun b o hb e => ⟨e, fun z => hb (hle b z)⟩⟩
      · by_cases hij : i = j
        · subst hij
          rw [List.getElem?_set_self hi] at hj
          cases hj
          exact ⟨_, ha, o.rep hna hle⟩
        · rw [List.getElem?_set_ne hij] at hj
          obtain ⟨v, h1, h2⟩ := s.sh j d' hj
          exact ⟨v, h1, h2.mono (aCo hle)⟩
      · by_cases hij : i = j
        · subst hij
          rw [List.getElem?_set_self hi] at hj
          cases hj
        · rw [List.getElem?_set_ne hij] at hj
          obtain ⟨b, h1, h2, h3⟩ := s.ow j d' hj
          have hba : b ≠ a := fun z => by subst z; exact hij (s.inj i j d d' b h hj ha h1)
          exact ⟨b, h1, List.mem_filter.mpr ⟨h2, by simpa using hba⟩, h3.move rfl (aCo hle)⟩
      · have n1 : i ≠ j := fun z => by subst z; rw [List.getElem?_set_self hi] at h1; cases h1
        have n2 : i ≠ k := fun z => by subst z; rw [List.getElem?_set_self hi] at h2; cases h2
        rw [List.getElem?_set_ne n1] at h1
        rw [List.getElem?_set_ne n2] at h2
        exact s.inj j k d1 d2 b h1 h2 h3 h4
  · exact ⟨A, s, .refl A H⟩
noncomputable def pubs : List Nat → DEnv → DEnv
  | [], ε => ε
  | i :: r, ε => pubs r (pub1 i ε)
theorem SR.pubs {H : Hp} {σ : St} : ∀ (is : List Nat) {ε : DEnv} {A : List Addr}, SR K H σ ε A → ∃ A', SR K H σ (pubs is ε) A' ∧ aCk A A' H H
  | [], ε, A, s => ⟨A, s, .refl A H⟩
  | i :: r, ε, A, s => by
    obtain ⟨A1, s1, e1⟩ := s.pub1 i
    obtain ⟨A2, s2, e2⟩ := SR.pubs r s1
    exact ⟨A2, s2, e1.trans e2⟩
noncomputable def sPub (is : List Nat) (F : DS) : DS := fun ε => F (pubs is ε)
theorem den_pub {t : TS} {F : DS} (is : List Nat) (h : DenT K t F) : DenT K t (sPub is F) := by
  intro σ H ε A out De s e f
  obtain ⟨A1, s1, e1⟩ := s.pubs is
  exact h σ H _ A1 out De s1 e (f.later e1)
noncomputable def sNil : DS := fun ε => some (.nx ε)
noncomputable def sSeq (F G : DS) : DS := fun ε => match F ε with
  | some (.nx ε') => G ε'
  | o => o
theorem den_nil : DenT K tNext sNil := fun σ H ε A out De s e f => by cases e; exact f σ H A s (.refl A H)
theorem den_seq {t u : TS} {F G : DS} (h : DenT K t F) (h' : DenT K u G) : DenT K (tSeq t u) (sSeq F G) := by
  intro σ H ε A out De s e f
  unfold sSeq at e
  cases hF : F ε with
  | none => rw [hF] at e; cases e
  | some o =>
    rw [hF] at e
    cases o with
    | nx ε' => exact h σ H ε A _ _ s hF fun σ' H' A' s' e' => h' σ' H' ε' A' out De s' e (f.later e')
    | bk ε' => cases e; exact h σ H ε A _ _ s hF f
    | ct ε' => cases e; exact h σ H ε A _ _ s hF f
    | rt fr d => cases e; exact h σ H ε A _ _ s hF f
noncomputable def sIf (c : DEnv → Option Bool) (F G : DS) : DS := fun ε => (c ε).bind fun b => if b then F ε else G ε
theorem den_ifS {t : TT} {ta tb : TS} {c : DEnv → Option Bool} {F G : DS} (h : DenC K t c) (h1 : DenT K ta F) (h2 : DenT K tb G) : DenT K (tIfS t ta tb) (sIf c F G) := by
  intro σ H ε A out De s e f
  obtain ⟨b, e1, e⟩ := Option.bind_eq_some_iff.mp e
  refine h σ H ε A b _ s e1 fun H1 s1 => ?_
  cases b with
  | true => exact h1 σ H1 ε A out De (s.mono s1) e (f.later (.of s1))
  | false => exact h2 σ H1 ε A out De (s.mono s1) e (f.later (.of s1))
noncomputable def sRetS (g : DEnv → Option D) : DS := fun ε => (g ε).map fun d => .rt false d
noncomputable def aCn (g : DEnv → Option D) : DS := fun ε => (g ε).map fun d => .rt true d
theorem den_retS {t : TE} {g : DEnv → Option D} (h : DenS K t g) : DenT K (tRet t) (sRetS g) := by
  intro σ H ε A out De s e f
  unfold sRetS at e
  obtain ⟨d, e1, rfl⟩ := Option.map_eq_some_iff.mp e
  exact h σ H ε A d _ s e1 fun v H1 s1 r => f v H1 A (.of s1) (by unfold RR; rw [if_neg Bool.false_ne_true]; exact r)
theorem den_retF {t : TE} {g : DEnv → Option D} (h : DenF K t g) : DenT K (tRet t) (aCn g) := by
  intro σ H ε A out De s e f
  unfold aCn at e
  obtain ⟨d, e1, rfl⟩ := Option.map_eq_some_iff.mp e
  refine h σ H ε A d _ s e1 fun v H1 s1 r => f v H1 A (.of s1) ?_
  unfold RR
  rw [if_pos rfl]
  rcases r with ⟨a, rfl, ha, o⟩ | r
  · exact .inl ⟨a, rfl, .inr ha, o⟩
  · exact .inr r
noncomputable def sRetV (i : Nat) : DS := fun ε => match ε[i]? with
  | some (some (fl, d)) => some (.rt fl d)
  | _ => none
theorem den_retV (i : Nat) : DenT K (tRet (tVar i)) (sRetV i) := by
  intro σ H ε A out De s e f
  unfold sRetV at e
  split at e
  · rename_i fl d h
    cases e
    cases fl with
    | false =>
      obtain ⟨v, h1, r⟩ := s.sh i d h
      exact ⟨v, h1, f v H A (.refl A H) (by unfold RR; rw [if_neg Bool.false_ne_true]; exact r)⟩
    | true =>
      obtain ⟨a, h1, hA, o⟩ := s.ow i d h
      refine ⟨_, h1, f _ H A (.refl A H) ?_⟩
      unfold RR
      rw [if_pos rfl]
      exact .inl ⟨a, rfl, .inl hA, o.move rfl (fun b u e => by
        obtain ⟨q1, q2⟩ := aAq.mp e
        exact aAq.mpr ⟨fun z => (List.mem_cons.mp z).elim (fun z => q1 (z ▸ hA)) q1, q2⟩)⟩
  · cases e
theorem SR.setS {H : Hp} {σ : St} {ε : DEnv} {A : List Addr} (s : SR K H σ ε A) (i : Nat) {v : V} {d : D} (r : Rep K (cut H A) v d) : SR K H (σ.set i (some v)) (ε.set i (some (false, d))) A := by
  refine ⟨by rw [List.length_set, List.length_set]; exact s.len, fun j d' hj => ?_, fun j d' hj => ?_, fun j k d1 d2 b h1 h2 h3 h4 => ?_, s.al⟩
  · by_cases hij : i = j
    · subst hij
      have hi : i < ε.length := by
        by_cases z : i < ε.length
        · exact z
        · rw [List.getElem?_eq_none (by rw [List.length_set]; omega)] at hj; cases hj
      rw [List.getElem?_set_self hi] at hj
      cases hj
      exact ⟨v, List.getElem?_set_self (by rw [← s.len]; exact hi), r⟩
    · rw [List.getElem?_set_ne hij] at hj ⊢
      exact s.sh j d' hj
  · by_cases hij : i = j
    · subst hij
      rw [List.getElem?_set_self' ] at hj
      cases q : ε[i]? with
      | none => rw [q] at hj; cases hj
      | some z => rw [q] at hj; cases hj
    · rw [List.getElem?_set_ne hij] at hj ⊢
      exact s.ow j d' hj
  · have n1 : i ≠ j := fun z => by
      subst z
      rw [List.getElem?_set_self'] at h1
      cases q : ε[i]? with
      | none => rw [q] at h1; cases h1
      | some z => rw [q] at h1; cases h1
    have n2 : i ≠ k := fun z => by
      subst z
      rw [List.getElem?_set_self'] at h2
      cases q : ε[i]? with
      | none => rw [q] at h2; cases h2
      | some z => rw [q] at h2; cases h2
    rw [List.getElem?_set_ne n1] at h1 h3
    rw [List.getElem?_set_ne n2] at h2 h4
    exact s.inj j k d1 d2 b h1 h2 h3 h4
theorem SR.priv {H : Hp} {σ : St} {ε : DEnv} {A : List Addr} (s : SR K H σ ε A) {H' : Hp} {p : Addr} (e : Same H H') (hp : H p = none) (ho : ∃ o, H' p = some o ∧ MutO o) : SR K H' σ ε (p :: A) := by
  have sc : Same (cut H A) (cut H' (p :: A)) := fun b u q => by
    obtain ⟨q1, q2⟩ := aAq.mp q
    exact aAq.mpr ⟨fun z => (List.mem_cons.mp z).elim (aBq q2 hp) q1, e b u q2⟩
  refine ⟨s.len, fun i d h => let ⟨v, h1, h2⟩ := s.sh i d h; ⟨v, h1, h2.mono sc⟩, fun i d h => ?_, s.inj, fun a ha => ?_⟩
  · obtain ⟨a, h1, h2, h3⟩ := s.ow i d h
    obtain ⟨o, q, _⟩ := h3.there
    exact ⟨a, h1, List.mem_cons_of_mem _ h2, h3.move ((e a o q).trans q.symm) sc⟩
  · rcases List.mem_cons.mp ha with rfl | ha
    · exact ho
    · exact (s.al.mono e) a ha
theorem SR.setO {H : Hp} {σ : St} {ε : DEnv} {A : List Addr} (s : SR K H σ ε A) (i : Nat) {a : Addr} {d : D} (ha : a ∈ A) (o : Own K H A a d) (hn : ∀ (j : Nat) e, j ≠ i → ε[j]? = some (some (true, e)) → σ[j]? ≠ some (some (.ref a))) :
    SR K H (σ.set i (some (.ref a))) (ε.set i (some (true, d))) A := by
  refine ⟨by rw [List.length_set, List.length_set]; exact s.len, fun j d' hj => ?_, fun j d' hj => ?_, fun j k d1 d2 b h1 h2 h3 h4 => ?_, s.al⟩
  · by_cases hij : i = j
    · subst hij
      rw [List.getElem?_set_self'] at hj
      cases q : ε[i]? with
      | none => rw [q] at hj; cases hj
      | some z => rw [q] at hj; cases hj
    · rw [List.getElem?_set_ne hij] at hj ⊢
      exact s.sh j d' hj
  · by_cases hij : i = j
    · subst hij
      have hi : i < ε.length := by
        by_cases z : i < ε.length
        · exact z
        · rw [List.getElem?_eq_none (by rw [List.length_set]; omega)] at hj; cases hj
      rw [List.getElem?_set_self hi] at hj
      cases hj
      exact ⟨a, List.getElem?_set_self (by rw [← s.len]; exact hi), ha, o⟩
    · rw [List.getElem?_set_ne hij] at hj ⊢
      exact s.ow j d' hj
  · by_cases n1 : i = j
    · by_cases n2 : i = k
      · rw [← n1, ← n2]
      · exfalso
        subst n1
        rw [List.getElem?_set_ne n2] at h2 h4
        rw [List.getElem?_set_self'] at h3
        cases q : σ[i]? with
        | none => rw [q] at h3; cases h3
        | some z =>
          rw [q] at h3
          have e : a = b := by simpa using h3
          subst e
          exact hn k d2 (Ne.symm n2) h2 h4
    · by_cases n2 : i = k
      · exfalso
        subst n2
        rw [List.getElem?_set_ne n1] at h1 h3
        rw [List.getElem?_set_self'] at h4
        cases q : σ[i]? with
        | none => rw [q] at h4; cases h4
        | some z =>
          rw [q] at h4
          have e : a = b := by simpa using h4
          subst e
          exact hn j d1 (Ne.symm n1) h1 h3
      · rw [List.getElem?_set_ne n1] at h1 h3
        rw [List.getElem?_set_ne n2] at h2 h4
        exact s.inj j k d1 d2 b h1 h2 h3 h4
noncomputable def sAsgS (i : Nat) (f : DEnv → Option D) : DS := fun ε => (f ε).map fun d => .nx (ε.set i (some (false, d)))
noncomputable def aBk (i : Nat) (f : DEnv → Option D) : DS := fun ε => (f ε).map fun d => .nx (ε.set i (some (isMut d, d)))
theorem den_asgS {i : Nat} {t : TE} {f : DEnv → Option D} (h : DenS K t f) : DenT K (tAsg t (gName i)) (sAsgS i f) := by
  intro σ H ε A out De s e fi
  unfold sAsgS at e
  obtain ⟨d, e1, rfl⟩ := Option.map_eq_some_iff.mp e
  exact h σ H ε A d _ s e1 fun v H1 s1 r => fi _ H1 A ((s.mono s1).setS i r) (.of s1)
theorem den_asgF {i : Nat} {t : TE} {f : DEnv → Option D} (h : DenF K t f) : DenT K (tAsg t (gName i)) (aBk i f) := by
  intro σ H ε A out De s e fi
  unfold aBk at e
  obtain ⟨d, e1, rfl⟩ := Option.map_eq_some_iff.mp e
  refine h σ H ε A d _ s e1 fun v H1 s1 r => ?_
  rcases r with ⟨a, rfl, ha, o⟩ | ⟨hm, r⟩
  · have hA := s.al.not ha
    rw [o.isMut] at fi
    refine fi _ H1 (a :: A) (((s.priv s1 ha o.there).setO i List.mem_cons_self o) fun j e hj h1 h2 => ?_) fun b u hb q => ⟨s1 b u q, fun z => (List.mem_cons.mp z).elim (aBq q ha) hb⟩
    obtain ⟨b, q1, q2, q3⟩ := s.ow j e h1
    rw [q1] at h2
    cases h2
    exact hA q2
  · rw [hm] at fi
    exact fi _ H1 A ((s.mono s1).setS i r) (.of s1)
end
end DL
namespace DL
open PySem L2
section
variable {K : PySem.W.Frag}
theorem cut_upd_in {H : Hp} {A : List Addr} {a : Addr} (h : a ∈ A) (o : HO) : cut (upd H a o) A = cut H A := by
  funext b
  unfold cut
  by_cases hb : b ∈ A
  · rw [if_pos hb, if_pos hb]
  · rw [if_neg hb, if_neg hb, aAn (fun z : b = a => hb (by rw [z]; exact h))]
theorem SR.change {H : Hp} {σ : St} {ε : DEnv} {A : List Addr} (s : SR K H σ ε A) {i : Nat} {a : Addr} {d d' : D} {o : HO} (hi : ε[i]? = some (some (true, d))) (ha : σ[i]? = some (some (.ref a))) (hA : a ∈ A) (hm : MutO o)
    (new : Own K (upd H a o) A a d') : SR K (upd H a o) σ (ε.set i (some (true, d'))) A ∧ aCk A A H (upd H a o) := by
  have ec := cut_upd_in (H := H) hA o
  have s' : SR K (upd H a o) σ (ε.set i (some (true, d'))) A := by
    have hlen : i < ε.length := by
      by_cases z : i < ε.length
      · exact z
      · rw [List.getElem?_eq_none (by omega)] at hi; cases hi
    have two : ∀ (j : Nat) e, (ε.set i (some (true, d')))[j]? = some (some (true, e)) → ∃ e', ε[j]? = some (some (true, e')) := fun j e hj => by
      by_cases hij : i = j
      · subst hij; exact ⟨d, hi⟩
      · rw [List.getElem?_set_ne hij] at hj; exact ⟨e, hj⟩
    refine ⟨by rw [List.length_set]; exact s.len, fun j e hj => ?_, fun j e hj => ?_, fun j k d1 d2 b h1 h2 h3 h4 => ?_, fun b hb => ?_⟩
    · by_cases hij : i = j
      · subst hij; rw [List.getElem?_set_self hlen] at hj; cases hj
      · rw [List.getElem?_set_ne hij] at hj
        obtain ⟨v, h1, h2⟩ := s.sh j e hj
        exact ⟨v, h1, by rw [ec]; exact h2⟩
    · by_cases hij : i = j
      · subst hij; rw [List.getElem?_set_self hlen] at hj; cases hj
        exact ⟨a, ha, hA, new⟩
      · rw [List.getElem?_set_ne hij] at hj
        obtain ⟨b, h1, h2, h3⟩ := s.ow j e hj
        have hba : b ≠ a := fun z => by subst z; exact hij (s.inj i j d e b hi hj ha h1)
        exact ⟨b, h1, h2, h3.move (aAn hba) (by rw [ec]; exact Same.refl _)⟩
    · obtain ⟨e1, q1⟩ := two j d1 h1
      obtain ⟨e2, q2⟩ := two k d2 h2
      exact s.inj j k e1 e2 b q1 q2 h3 h4
    · by_cases hba : b = a
      · subst hba; exact ⟨o, aAt, hm⟩
      · obtain ⟨u, q, m⟩ := s.al b hb
        exact ⟨u, by rw [aAn hba]; exact q, m⟩
  exact ⟨s', fun b u hb q => ⟨by rw [aAn (fun z : b = a => hb (by rw [z]; exact hA))]; exact q, hb⟩⟩
noncomputable def ownL (i : Nat) (ε : DEnv) : Option (List D) := match ε[i]? with
  | some (some (true, .lst ds)) => some ds
  | _ => none
theorem ownL_some {i : Nat} {ε : DEnv} {ds : List D} (h : ownL i ε = some ds) : ε[i]? = some (some (true, .lst ds)) := by
  unfold ownL at h; split at h <;> cases h; assumption
noncomputable def sApp (i : Nat) (f : DEnv → Option D) : DS := fun ε => (ownL i ε).bind fun ds => (f ε).bind fun d => if ds.length < sizeLine then some (.nx (ε.set i (some (true, .lst (ds ++ [d]))))) else none
theorem den_app {i : Nat} {t : TE} {f : DEnv → Option D} (h : DenS K t f) : DenT K (tDrop (tBM K "list" rAppend (tVar i) (tCons t tNil))) (sApp i f) := by
  intro σ H ε A out De s e fi
  obtain ⟨ds, e1, e⟩ := Option.bind_eq_some_iff.mp e
  obtain ⟨d, e2, e⟩ := Option.bind_eq_some_iff.mp e
  split at e
  · rename_i c
    cases e
    have hi := ownL_some e1
    obtain ⟨a, ha, hA, o⟩ := s.ow i _ hi
    cases o with
    | lst ho r =>
      rename_i xs
      refine ⟨_, ha, .inl ⟨rfl, xs, .inl (.inl ho)⟩, ?_⟩
      refine h σ H ε A d _ s e2 fun v H1 s1 rv => ?_
      have ho1 := s1 a _ ho
      refine ⟨a, xs, v, rfl, rfl, ho1, by rw [r.length]; exact c, ?_⟩
      have r1 := r.mono (aEh A s1)
      obtain ⟨s2, p2⟩ := (s.mono s1).change (o := .lst (xs ++ [v])) (d' := .lst (ds ++ [d])) hi ha hA trivial (.lst aAt (by rw [cut_upd_in hA]; exact r1.app (.cons rv .nil)))
      exact fi _ _ A s2 ((aCk.of s1).trans p2)
  · cases e
noncomputable def ItR (K : PySem.W.Frag) (A P : List Addr) (J : It) (H : Hp) (ds : List D) : Prop :=
  ∀ H' A', aCk A A' H H' → (∀ b o, b ∈ P → H b = some o → H' b = some o) → AL H' A' →
    (∀ i, i < ds.length → J.go i H') ∧ (∀ i x Hn, i < ds.length → J.yld i H' x Hn → Same H' Hn ∧ ∃ d, ds[i]? = some d ∧ Rep K (cut Hn A') x d) ∧ J.stop ds.length H'
noncomputable def DenI (K : PySem.W.Frag) (wi : TI) (f : DEnv → Option (List D)) : Prop := ∀ σ H ε A ds (R : It → Hp → Prop), SR K H σ ε A → f ε = some ds → (∀ J H' P, Same H H' → (∀ b ∈ P, b ∈ A) → ItR K A P J H' ds → R J H') → wi σ H R
noncomputable def DenIS (K : PySem.W.Frag) (wi : TI) (f : DEnv → Option (List D)) : Prop := ∀ σ H ε A ds (R : It → Hp → Prop), SR K H σ ε A → f ε = some ds → (∀ J H', Same H H' → ItR K A [] J H' ds → R J H') → wi σ H R
theorem DenIS.b {wi : TI} {f : DEnv → Option (List D)} (h : DenIS K wi f) : DenI K wi f := fun σ H ε A ds R s e q => h σ H ε A ds R s e fun J H' s' i => q J H' [] s' (by simp) i
theorem itr_list {H : Hp} {A P : List Addr} {a : Addr} {xs : List V} {ds : List D} (r : Reps K (cut H A) xs ds) (h : ∀ H' A', aCk A A' H H' → (∀ b o, b ∈ P → H b = some o → H' b = some o) → SqL K H' a xs) : ItR K A P (Itl K a) H ds := by
  intro H' A' e eP al
  have hs := h H' A' e eP
  have r' := r.mono e.cut
  refine ⟨fun i hi => ⟨xs, xs[i]'(by rw [r.length]; exact hi), hs, by rw [List.getElem?_eq_getElem]⟩, fun i x Hn hi y => ?_, ⟨xs, hs, Nat.le_of_eq r.length⟩⟩
  obtain ⟨rfl, y⟩ := y
  obtain ⟨d, h1, h2⟩ := r'.getV (y xs hs)
  exact ⟨Same.refl _, d, h1, h2⟩
theorem itr_tup {H : Hp} {A P : List Addr} {a : Addr} {xs : List V} {ds : List D} (r : Reps K (cut H A) xs ds) (h : ∀ H' A', aCk A A' H H' → (∀ b o, b ∈ P → H b = some o → H' b = some o) → SqT K H' a xs) : ItR K A P (Itt K a) H ds := by
  intro H' A' e eP al
  have hs := h H' A' e eP
  have r' := r.mono e.cut
  refine ⟨fun i hi => ⟨xs, xs[i]'(by rw [r.length]; exact hi), hs, by rw [List.getElem?_eq_getElem]⟩, fun i x Hn hi y => ?_, ⟨xs, hs, Nat.le_of_eq r.length⟩⟩
  obtain ⟨rfl, y⟩ := y
  obtain ⟨d, h1, h2⟩ := r'.getV (y xs hs)
  exact ⟨Same.refl _, d, h1, h2⟩
noncomputable def lstOf : D → Option (List D)
  | .lst ds => some ds
  | _ => none
noncomputable def tupOf : D → Option (List D)
  | .tup ds => some ds
  | _ => none
theorem lstOf_some {d : D} {ds : List D} (h : lstOf d = some ds) : d = .lst ds := by cases d <;> simp [lstOf] at h; subst h; rfl
theorem aIf {d : D} {ds : List D} (h : tupOf d = some ds) : d = .tup ds := by cases d <;> simp [tupOf] at h; subst h; rfl
theorem den_iList {t : TE} {f : DEnv → Option D} (h : DenS K t f) : DenIS K (iList K t) (fun ε => (f ε).bind lstOf) := by
  intro σ H ε A ds R s e q
  obtain ⟨d, e1, e2⟩ := Option.bind_eq_some_iff.mp e
  obtain rfl := lstOf_some e2
  refine h σ H ε A _ _ s e1 fun v H1 s1 r => ?_
  cases r with
  | lst hs r => exact ⟨_, rfl, ⟨_, (aAl H1 A).seq hs⟩, q _ H1 s1 (itr_list r fun H' A' e _ => (e.cut.trans (aAl H' A')).seq hs)⟩
theorem den_iListB {t : TE} {f : DEnv → Option D} (h : DenB K t f) : DenI K (iList K t) (fun ε => (f ε).bind lstOf) := by
  intro σ H ε A ds R s e q
  obtain ⟨d, e1, e2⟩ := Option.bind_eq_some_iff.mp e
  obtain rfl := lstOf_some e2
  refine h σ H ε A _ _ s e1 fun v H1 s1 r => ?_
  rcases r with r | ⟨a, rfl, hA, o⟩
  · cases r with
    | lst hs r => exact ⟨_, rfl, ⟨_, (aAl H1 A).seq hs⟩, q _ H1 [] s1 (by simp) (itr_list r fun H' A' e _ => (e.cut.trans (aAl H' A')).seq hs)⟩
  · cases o with
    | lst ho r => exact ⟨a, rfl, ⟨_, .inl (.inl ho)⟩, q _ H1 [a] s1 (by simp [hA]) (itr_list r fun H' A' e eP => .inl (.inl (eP a _ (by simp) ho)))⟩
theorem den_iTup {t : TE} {f : DEnv → Option D} (h : DenS K t f) : DenIS K (iTup K t) (fun ε => (f ε).bind tupOf) := by
  intro σ H ε A ds R s e q
  obtain ⟨d, e1, e2⟩ := Option.bind_eq_some_iff.mp e
  obtain rfl := aIf e2
  refine h σ H ε A _ _ s e1 fun v H1 s1 r => ?_
  cases r with
  | tup hs r => exact ⟨_, rfl, ⟨_, sameT (aAl H1 A) hs⟩, q _ H1 s1 (itr_tup r fun H' A' e _ => sameT (e.cut.trans (aAl H' A')) hs)⟩
noncomputable def rngD (lo : Int) (n : Nat) : List D := (List.range n).map fun i : Nat => D.int (lo + i)
theorem itr_rng {H : Hp} {A P : List Addr} (lo : Int) (n : Nat) : ItR K A P (Itr lo n) H (rngD lo n) := by
  intro H' A' e eP al
  have hl : (rngD lo n).length = n := by unfold rngD; rw [List.length_map, List.length_range]
  rw [hl]
  refine ⟨fun i hi => hi, fun i x Hn hi y => ?_, Nat.le_refl n⟩
  obtain ⟨rfl, rfl⟩ := y
  refine ⟨Same.refl _, .int (lo + i), ?_, .int _⟩
  unfold rngD
  rw [List.getElem?_map, List.getElem?_range hi]
  rfl
noncomputable def rng1 : List D → Option (List D)
  | [.int j] => if -(2 ^ 62) ≤ j ∧ j < 2 ^ 62 then some (rngD 0 j.toNat) else none
  | _ => none
theorem den_iRng1 {t : TA} {f : DEnv → Option (List D)} (h : DenAB K t f) : DenIS K (iRng1 t) (fun ε => (f ε).bind rng1) := by
  intro σ H ε A ds R s e q
  obtain ⟨as, e1, e2⟩ := Option.bind_eq_some_iff.mp e
  refine h σ H ε A as _ s e1 fun vs H1 s1 rs => ?_
  unfold rng1 at e2
  split at e2
  · rename_i j
    split at e2
    · rename_i c
      cases e2
      obtain ⟨x, rfl, r⟩ := rs.one
      obtain rfl := r.flat rfl
      exact ⟨j, rfl, c.1, c.2, q _ H1 s1 (itr_rng 0 j.toNat)⟩
    · cases e2
  · cases e2
noncomputable def aFv (σ : St) (ε : DEnv) (σ' : St) (ε' : DEnv) : Prop := ∀ (j : Nat) d, ε'[j]? = some (some (true, d)) → ε[j]? = some (some (true, d)) ∧ σ'[j]? = σ[j]?
theorem aFv.set (σ : St) (ε : DEnv) (i : Nat) (v : V) (d : D) : aFv σ ε (σ.set i (some v)) (ε.set i (some (false, d))) := fun j e h => by
  by_cases hij : i = j
  · subst hij
    rw [List.getElem?_set_self'] at h
    cases q : ε[i]? with
    | none => rw [q] at h; cases h
    | some z => rw [q] at h; cases h
  · rw [List.getElem?_set_ne hij] at h ⊢
    exact ⟨h, rfl⟩
theorem aFv.trans {σ σ1 σ2 : St} {ε ε1 ε2 : DEnv} (a : aFv σ ε σ1 ε1) (b : aFv σ1 ε1 σ2 ε2) : aFv σ ε σ2 ε2 := fun j d h => let ⟨h1, e1⟩ := b j d h; let ⟨h2, e2⟩ := a j d h1; ⟨h2, e1.trans e2⟩
noncomputable def DenG (K : PySem.W.Frag) (g : TG) (ft : D → DEnv → Option DEnv) : Prop := ∀ v σ H ε A d ε' (Q : St → Hp → Prop), SR K H σ ε A → Rep K (cut H A) v d → ft d ε = some ε' → (∀ σ' H', Same H H' → SR K H' σ' ε' A → aFv σ ε σ' ε' → Q σ' H') → g v σ H Q
noncomputable def tgN (i : Nat) (d : D) (ε : DEnv) : Option DEnv := some (ε.set i (some (false, d)))
theorem den_gName (i : Nat) : DenG K (gName i) (tgN i) := fun v σ H ε A d ε' Q s r e q => by cases e; exact q _ H (Same.refl H) (s.setS i r) (.set σ ε i v d)
noncomputable def tgs : List Nat → List D → DEnv → Option DEnv
  | [], [], ε => some ε
  | i :: is, d :: ds, ε => tgs is ds (ε.set i (some (false, d)))
  | _, _, _ => none
noncomputable def gNames : List Nat → TGs
  | [] => gNil
  | i :: is => gCons (gName i) (gNames is)
theorem den_gNames : ∀ (is : List Nat) {vs : List V} {ds : List D} {σ H ε A ε'} {Q : St → Hp → Prop}, SR K H σ ε A → Reps K (cut H A) vs ds → tgs is ds ε = some ε' → (∀ σ', SR K H σ' ε' A → aFv σ ε σ' ε' → Q σ' H) → gNames is vs σ H Q
  | [], _, [], σ, H, ε, A, ε', Q, s, r, e, q => by cases e; cases r; exact ⟨rfl, q σ s fun _ _ h => ⟨h, rfl⟩⟩
  | [], _, _ :: _, σ, H, ε, A, ε', Q, s, r, e, q => by cases e
  | i :: is, _, [], σ, H, ε, A, ε', Q, s, r, e, q => by cases e
  | i :: is, _, d :: ds, σ, H, ε, A, ε', Q, s, .cons r rs, e, q => ⟨_, _, rfl, den_gNames is (s.setS i r) rs e fun σ' s' k => q σ' s' ((aFv.set σ ε i _ d).trans k)⟩
noncomputable def tgT (is : List Nat) (d : D) (ε : DEnv) : Option DEnv := match d with
  | .tup ds => tgs is ds ε
  | _ => none
theorem tgs_len : ∀ (is : List Nat) {ds : List D} {ε ε' : DEnv}, tgs is ds ε = some ε' → ds.length = is.length
  | [], [], _, _, _ => rfl
  | [], _ :: _, _, _, e => by cases e
  | _ :: _, [], _, _, e => by cases e
  | i :: is, d :: ds, ε, ε', e => congrArg (· + 1) (tgs_len is (ds := ds) e)
theorem den_gTup (is : List Nat) : DenG K (gTup K is.length (gNames is)) (tgT is) := by
  intro v σ H ε A d ε' Q s r e q
  unfold tgT at e
  split at e
  · cases r with
    | tup hs r => exact ⟨_, _, rfl, sameT (aAl H A) hs, by rw [r.length]; exact tgs_len is e, den_gNames is s r e fun σ' s' k => q σ' H (Same.refl H) s' k⟩
  · cases e
noncomputable def loopD (ft : D → DEnv → Option DEnv) (F : DS) : List D → DEnv → Option Out
  | [], ε => some (.nx ε)
  | d :: r, ε => (ft d ε).bind fun ε1 => match F ε1 with
    | some (.nx ε2) => loopD ft F r ε2
    | some (.ct ε2) => loopD ft F r ε2
    | some (.bk ε2) => some (.nx ε2)
    | some (.rt fr d) => some (.rt fr d)
    | none => none
noncomputable def sFor (fi : DEnv → Option (List D)) (ft : D → DEnv → Option DEnv) (F : DS) : DS := fun ε => (fi ε).bind fun ds => loopD ft F ds ε
theorem den_for {wi : TI} {g : TG} {tb : TS} {fi : DEnv → Option (List D)} {ft : D → DEnv → Option DEnv} {F : DS} (hi : DenIS K wi fi) (hg : DenG K g ft) (hb : DenT K tb F) : DenT K (tFor wi g tb) (sFor fi ft F) := by
  intro σ H ε A out De s e fin
  obtain ⟨ds, e1, e⟩ := Option.bind_eq_some_iff.mp e
  refine hi σ H ε A ds _ s e1 fun J H1 s1 it => ?_
  refine ⟨fun i m σ' H' => m = ds.length - i ∧ i ≤ ds.length ∧ ∃ ε' A', SR K H' σ' ε' A' ∧ aCk A A' H1 H' ∧ loopD ft F (ds.drop i) ε' = some out, ⟨ds.length, by simp, Nat.zero_le _, ε, A, s.mono s1, .refl A H1, e⟩, ?_⟩
  rintro i m σ' H' ⟨rfl, hle, ε', A', sr, sp, el⟩
  obtain ⟨igo, iyld, istop⟩ := it H' A' sp (fun b o hb => absurd hb (by simp)) sr.al
  have spH := (aCk.of (A := A) s1).trans sp
  by_cases hlt : i < ds.length
  · refine .inr ⟨igo i hlt, fun σ2 H2 => ds.length - (i + 1) = ds.length - (i + 1) ∧ i + 1 ≤ ds.length ∧ ∃ ε2 A2, SR K H2 σ2 ε2 A2 ∧ aCk A A2 H1 H2 ∧ loopD ft F (ds.drop (i + 1)) ε2 = some out, fun σ2 H2 n => ⟨ds.length - (i + 1), by omega, n⟩, fun x Hn y => ?_⟩
    obtain ⟨sn, d, hd, rd⟩ := iyld i x Hn hlt y
    rw [List.drop_eq_getElem_cons hlt] at el
    have hdd : ds[i] = d := by rw [List.getElem?_eq_getElem hlt] at hd; exact Option.some.inj hd
    rw [hdd] at el
    obtain ⟨ε1, eg, el⟩ := Option.bind_eq_some_iff.mp el
    refine hg x σ' Hn ε' A' d ε1 _ (sr.mono sn) rd eg fun σ3 H3 s3 sr3 _ => ?_
    have sp3 : aCk A A' H1 H3 := sp.trans ((aCk.of sn).trans (aCk.of s3))
    have spH3 := (aCk.of (A := A) s1).trans sp3
    cases hF : F ε1 with
    | none => rw [hF] at el; cases el
    | some o =>
      rw [hF] at el
      refine hb σ3 H3 ε1 A' o _ sr3 hF ?_
      cases o with
      | nx ε2 => exact fun σ4 H4 A4 sr4 sp4 => ⟨rfl, hlt, ε2, A4, sr4, sp3.trans sp4, el⟩
      | ct ε2 => exact fun σ4 H4 A4 sr4 sp4 => ⟨rfl, hlt, ε2, A4, sr4, sp3.trans sp4, el⟩
      | bk ε2 => cases el; exact fun σ4 H4 A4 sr4 sp4 => fin σ4 H4 A4 sr4 (spH3.trans sp4)
      | rt fr d => cases el; exact fun v H4 A4 sp4 r => fin v H4 A4 (spH3.trans sp4) (r.later spH3)
  · have hl : i = ds.length := by omega
    subst hl
    rw [List.drop_length] at el
    cases el
    exact .inl ⟨istop, fin σ' H' A' sr spH⟩
noncomputable def loopW (c : DEnv → Option Bool) (F : DS) : Nat → DEnv → Option Out
  | 0, _ => none
  | n + 1, ε => (c ε).bind fun b => if b then (match F ε with
    | some (.nx ε2) => loopW c F n ε2
    | some (.ct ε2) => loopW c F n ε2
    | some (.bk ε2) => some (.nx ε2)
    | some (.rt fr d) => some (.rt fr d)
    | none => none) else some (.nx ε)
noncomputable def sWhile (n : Nat) (c : DEnv → Option Bool) (F : DS) : DS := fun ε => loopW c F n ε
theorem den_while {tc : TT} {tb : TS} {c : DEnv → Option Bool} {F : DS} (n : Nat) (hc : DenC K tc c) (hb : DenT K tb F) : DenT K (tWhile tc tb) (sWhile n c F) := by
  intro σ H ε A out De s e fin
  refine ⟨fun m σ' H' => ∃ ε' A', SR K H' σ' ε' A' ∧ aCk A A' H H' ∧ loopW c F m ε' = some out, ⟨n, ε, A, s, .refl A H, e⟩, ?_⟩
  rintro m σ' H' ⟨ε', A', sr, sp, el⟩
  cases m with
  | zero => cases el
  | succ m =>
    obtain ⟨b, eb, el⟩ := Option.bind_eq_some_iff.mp el
    refine hc σ' H' ε' A' b _ sr eb fun H1 s1 => ?_
    have sp1 := sp.trans (aCk.of s1)
    cases b with
    | false => cases el; exact fin σ' H1 A' (sr.mono s1) sp1
    | true =>
      refine ⟨fun σ2 H2 => ∃ ε2 A2, SR K H2 σ2 ε2 A2 ∧ aCk A A2 H H2 ∧ loopW c F m ε2 = some out, fun σ2 H2 q => ⟨m, Nat.lt_succ_self m, q⟩, ?_⟩
      rw [if_pos rfl] at el
      cases hF : F ε' with
      | none => rw [hF] at el; cases el
      | some o =>
        rw [hF] at el
        refine hb σ' H1 ε' A' o _ (sr.mono s1) hF ?_
        cases o with
        | nx ε2 => exact fun σ4 H4 A4 sr4 sp4 => ⟨ε2, A4, sr4, sp1.trans sp4, el⟩
        | ct ε2 => exact fun σ4 H4 A4 sr4 sp4 => ⟨ε2, A4, sr4, sp1.trans sp4, el⟩
        | bk ε2 => cases el; exact fun σ4 H4 A4 sr4 sp4 => fin σ4 H4 A4 sr4 (sp1.trans sp4)
        | rt fr d => cases el; exact fun v H4 A4 sp4 r => fin v H4 A4 (sp1.trans sp4) (r.later sp1)
end
end DL
namespace DL
open PySem L2
section
variable {K : PySem.W.Frag}
noncomputable def spD (K : PySem.W.Frag) (n : Nat) (g : List D → Option (Bool × D)) : Sp := fun vs H Q _ => ∃ ds fr d, vs.length = n ∧ Reps K H vs ds ∧ g ds = some (fr, d) ∧ ∀ v H', Same H H' → RR K [] H [] H' fr v d → Q v H'
noncomputable def aAs (m : Nat) (ds : List D) : DEnv := ds.map (fun d => some (false, d)) ++ List.replicate (m - ds.length) none
noncomputable def fnD (m : Nat) (F : DS) (ds : List D) : Option (Bool × D) := match F (aAs m ds) with
  | some (.rt fr d) => some (fr, d)
  | some (.nx _) => some (true, .non)
  | _ => none
theorem sr_start {H : Hp} {N : List Str} {vs : List V} {ds : List D} (r : Reps K H vs ds) : SR K H (L2.start N vs) (aAs N.length ds) [] := by
  have hl := r.length
  have get : ∀ (i : Nat) fl d, (aAs N.length ds)[i]? = some (some (fl, d)) → fl = false ∧ ds[i]? = some d := fun i fl d h => by
    unfold aAs at h
    by_cases hi : i < ds.length
    · rw [List.getElem?_append_left (by rw [List.length_map]; exact hi), List.getElem?_map] at h
      cases q : ds[i]? with
      | none => rw [q] at h; cases h
      | some z => rw [q] at h; cases h; exact ⟨rfl, rfl⟩
    · rw [List.getElem?_append_right (by rw [List.length_map]; omega), List.getElem?_replicate] at h
      split at h <;> cases h
  refine ⟨?_, fun i d h => ?_, fun i d h => ?_, fun i j d e a h => ?_, fun a ha => absurd ha (by simp)⟩
  · unfold aAs L2.start
    rw [List.length_append, List.length_append, List.length_map, List.length_map, List.length_replicate, List.length_replicate, hl]
  · obtain ⟨_, h⟩ := get i false d h
    obtain ⟨v, h1, h2⟩ := r.get h
    refine ⟨v, ?_, by rw [aCz]; exact h2⟩
    unfold L2.start
    have hi : i < vs.length := by
      by_cases z : i < vs.length
      · exact z
      · rw [List.getElem?_eq_none (by omega)] at h1; cases h1
    rw [List.getElem?_append_left (by rw [List.length_map]; exact hi), List.getElem?_map, h1]
    rfl
  · exact absurd (get i true d h).1 (by simp)
  · exact absurd (get i true d h).1 (by simp)
theorem body_ok {t : TS} {F : DS} {N : List Str} {n : Nat} {vs : List V} {H : Hp} {Q : VK} {E : XK} (h : DenT K t F) (hsp : spD K n (fnD N.length F) vs H Q E) : t { nx := fun _ H' => Q .non H', rt := Q } (L2.start N vs) H := by
  obtain ⟨ds, fr, d, hn, r, e, q⟩ := hsp
  unfold fnD at e
  split at e
  · rename_i fr' d' hF
    cases e
    exact h _ H _ [] _ _ (sr_start r) hF fun v H' A' sp rr => q v H' sp.nil (by
      unfold RR at rr ⊢
      cases fr with
      | false => rw [if_neg Bool.false_ne_true] at rr ⊢; exact rr.mono (aCo (by simp))
      | true =>
        rw [if_pos rfl] at rr ⊢
        rcases rr with ⟨a, rfl, ha, o⟩ | ⟨hm, rr⟩
        · exact .inl ⟨a, rfl, ha, o.move rfl (aCo (by simp))⟩
        · exact .inr ⟨hm, rr.mono (aCo (by simp))⟩)
  · rename_i ε hF
    cases e
    exact h _ H _ [] _ _ (sr_start r) hF fun σ' H' A' sr sp => q _ H' sp.nil (by unfold RR; rw [if_pos rfl]; exact .inr ⟨rfl, .non⟩)
  · cases e
noncomputable def glue (H2 H1 : Hp) (A : List Addr) : Hp := fun b => if b ∈ A then H1 b else H2 b
noncomputable def tCallF (sp : Sp) (dvs : List V) (E : XK) (t : TA) : TE := fun σ H Q => t σ H fun vs H1 => ∃ A, AL H1 A ∧ sp (vs ++ dvs) (cut H1 A) (fun v H2 => (∀ b ∈ A, H2 b = none) → Q v (glue H2 H1 A)) E
theorem same_glue {H1 H2 : Hp} {A : List Addr} (e : Same (cut H1 A) H2) : Same H1 (glue H2 H1 A) := fun b o h => by
  unfold glue
  by_cases hb : b ∈ A
  · rw [if_pos hb]; exact h
  · rw [if_neg hb]; exact e b o (aAq.mpr ⟨hb, h⟩)
theorem same_cut_glue {H1 H2 : Hp} {A : List Addr} (hn : ∀ b ∈ A, H2 b = none) : Same H2 (cut (glue H2 H1 A) A) := fun b o h => by
  have hb : b ∉ A := fun z => by rw [hn b z] at h; cases h
  refine aAq.mpr ⟨hb, ?_⟩
  unfold glue
  rw [if_neg hb]; exact h
theorem rr_glue {H1 H2 : Hp} {A : List Addr} {fr : Bool} {v : V} {d : D} (e : Same (cut H1 A) H2) (hn : ∀ b ∈ A, H2 b = none) (r : RR K [] (cut H1 A) [] H2 fr v d) : Rep K (cut (glue H2 H1 A) A) v d ∧ (fr = true → RF K H1 (glue H2 H1 A) A v d) := by
  unfold RR at r
  have sg := same_cut_glue (H1 := H1) hn
  cases fr with
  | false =>
    rw [if_neg Bool.false_ne_true, aCz] at r
    exact ⟨r.mono sg, fun z => by cases z⟩
  | true =>
    rw [if_pos rfl] at r
    have main : RF K H1 (glue H2 H1 A) A v d := by
      rcases r with ⟨a, rfl, ha, o⟩ | ⟨hm, r⟩
      · have hc : cut H1 A a = none := ha.resolve_left (by simp)
        obtain ⟨u, hu, _⟩ := o.there
        have haA : a ∉ A := fun z => by rw [hn a z] at hu; cases hu
        have h1 : H1 a = none := by rw [aHm haA] at hc; exact hc
        have hg : glue H2 H1 A a = H2 a := by unfold glue; rw [if_neg haA]
        exact .inl ⟨a, rfl, h1, o.move hg fun b u q => by
          obtain ⟨q1, q2⟩ := aAq.mp q
          obtain ⟨q3, q4⟩ := aAq.mp (sg b u q2)
          exact aAq.mpr ⟨fun z => (List.mem_cons.mp z).elim (fun z => q1 (by simp [z])) q3, q4⟩⟩
      · rw [aCz] at r
        exact .inr ⟨hm, r.mono sg⟩
    refine ⟨?_, fun _ => main⟩
    rcases main with ⟨a, rfl, ha, o⟩ | ⟨_, r⟩
    · obtain ⟨u, hu, _⟩ := o.there
      by_cases haA : a ∈ A
      · have hg : glue H2 H1 A a = H1 a := by unfold glue; rw [if_pos haA]
        rw [hg, ha] at hu; cases hu
      · exact o.rep haA fun b hb => List.mem_cons_of_mem _ hb
    · exact r
noncomputable def callS (g : List D → Option (Bool × D)) (dds : List D) (fa : DEnv → Option (List D)) (ε : DEnv) : Option D := (fa ε).bind fun ds => (g (ds ++ dds)).map (·.2)
inductive FlatL : List V → List D → Prop
  | nil : FlatL [] []
  | cons {v : V} {d : D} {vs : List V} {ds : List D} (h : aBt d = some v) (r : FlatL vs ds) : FlatL (v :: vs) (d :: ds)
theorem FlatL.reps {H : Hp} : ∀ {vs : List V} {ds : List D}, FlatL vs ds → Reps K H vs ds
  | _, _, .nil => .nil
  | _, _, .cons h r => .cons (.ofFlat h) (FlatL.reps r)
theorem den_callS {n : Nat} {g : List D → Option (Bool × D)} {dvs : List V} {dds : List D} {E : XK} {t : TA} {fa : DEnv → Option (List D)} (hd : FlatL dvs dds) (hg : ∀ ds r, g ds = some r → ds.length = n) (ha : DenA K t fa) :
    DenS K (tCallF (spD K n g) dvs E t) (callS g dds fa) := by
  intro σ H ε A d Q s e q
  obtain ⟨ds, e1, e⟩ := Option.bind_eq_some_iff.mp e
  obtain ⟨⟨fr, d'⟩, e2, rfl⟩ := Option.map_eq_some_iff.mp e
  refine ha σ H ε A ds _ s e1 fun vs H1 s1 r => ⟨A, s.al.mono s1, ds ++ dds, fr, d', ?_, r.app hd.reps, e2, fun v H2 e3 rr hn => ?_⟩
  · rw [(r.app hd.reps (K := K)).length]; exact hg _ _ e2
  · exact q v _ (s1.trans (same_glue e3)) (rr_glue e3 hn rr).1
noncomputable def capL {α : Type} (js : List (Option Nat)) (xs : List (Option α)) : List (Option α) := js.map fun j => j.bind fun i => (xs[i]?).join
noncomputable def tComp (js : List (Option Nat)) (wi : TI) (g : TG) (tt : TT) (te : TE) : TE := fun σ H Q => wi σ H fun J H1 => ∀ p, H1 p = none → ∃ W : Nat → Nat → St → Hp → Prop, (∃ m, W 0 m (capL js σ) (upd H1 p (.lst []))) ∧
  ∀ i m σ' H', W i m σ' H' → (J.stop i H' ∧ Q (.ref p) H') ∨ (J.go i H' ∧ ∀ x H2, J.yld i H' x H2 → g x σ' H2 fun σ3 H3 => tt σ3 H3 fun b H4 =>
    if b = true then te σ3 H4 fun v H5 => ∃ xs m', H5 p = some (.lst xs) ∧ xs.length < sizeLine ∧ m' < m ∧ W (i + 1) m' σ3 (upd H5 p (.lst (xs ++ [v]))) else ∃ m', m' < m ∧ W (i + 1) m' σ3 H4)
noncomputable def compL (ft : D → DEnv → Option DEnv) (c : DEnv → Option Bool) (f : DEnv → Option D) : List D → DEnv → Option (List D)
  | [], _ => some []
  | d :: r, ε => (ft d ε).bind fun ε1 => (c ε1).bind fun b => if b then (f ε1).bind fun y => (compL ft c f r ε1).map fun ys => y :: ys else compL ft c f r ε1
theorem aGo {α : Type} {js : List (Option Nat)} {xs : List (Option α)} {i : Nat} {x : α} (h : (capL js xs)[i]? = some (some x)) : ∃ k, js[i]? = some (some k) ∧ xs[k]? = some (some x) := by
  unfold capL at h
  rw [List.getElem?_map] at h
  cases q : js[i]? with
  | none => rw [q] at h; cases h
  | some o =>
    rw [q] at h
    cases o with
    | none => cases h
    | some k =>
      have h : (xs[k]?).join = some x := by simpa using h
      cases z : xs[k]? with
      | none => rw [z] at h; cases h
      | some y => rw [z] at h; exact ⟨k, rfl, by rw [z]; exact congrArg some h⟩
theorem capL_of {α : Type} {js : List (Option Nat)} {xs : List (Option α)} {i k : Nat} {x : α} (h : js[i]? = some (some k)) (hx : xs[k]? = some (some x)) : (capL js xs)[i]? = some (some x) := by
  unfold capL
  rw [List.getElem?_map, h]
  show some ((xs[k]?).join) = _
  rw [hx]; rfl
noncomputable def capOk (js : List (Option Nat)) : Prop := ∀ (i j k : Nat), js[i]? = some (some k) → js[j]? = some (some k) → i = j
theorem SR.cap {H : Hp} {σ : St} {ε : DEnv} {A : List Addr} {js : List (Option Nat)} (s : SR K H σ ε A) (hj : capOk js) : SR K H (capL js σ) (capL js ε) A := by
  refine ⟨by unfold capL; rw [List.length_map, List.length_map], fun i d h => ?_, fun i d h => ?_, fun i j d e a h1 h2 h3 h4 => ?_, s.al⟩
  · obtain ⟨k, hk, hx⟩ := aGo h
    obtain ⟨v, h1, h2⟩ := s.sh k d hx
    exact ⟨v, capL_of hk h1, h2⟩
  · obtain ⟨k, hk, hx⟩ := aGo h
    obtain ⟨a, h1, h2, h3⟩ := s.ow k d hx
    exact ⟨a, capL_of hk h1, h2, h3⟩
  · obtain ⟨k1, q1, x1⟩ := aGo h1
    obtain ⟨k2, q2, x2⟩ := aGo h2
    obtain ⟨k3, q3, x3⟩ := aGo h3
    obtain ⟨k4, q4, x4⟩ := aGo h4
    rw [q1] at q3; cases q3
    rw [q2] at q4; cases q4
    have := s.inj k1 k2 d e a x1 x2 x3 x4
    subst this
    exact hj i j k1 q1 q2
noncomputable def compD (js : List (Option Nat)) (fi : DEnv → Option (List D)) (ft : D → DEnv → Option DEnv) (c : DEnv → Option Bool) (f : DEnv → Option D) (ε : DEnv) : Option D :=
  (fi ε).bind fun ds => if ds.length ≤ sizeLine then (compL ft c f ds (capL js ε)).map .lst else none
theorem den_comp {js : List (Option Nat)} {wi : TI} {g : TG} {tt : TT} {te : TE} {fi : DEnv → Option (List D)} {ft : D → DEnv → Option DEnv} {c : DEnv → Option Bool} {f : DEnv → Option D} (hj : capOk js) (hi : DenI K wi fi) (hg : DenG K g ft) (hc : DenC K tt c) (hf : DenS K te f) :
    DenF K (tComp js wi g tt te) (compD js fi ft c f) := by
  intro σ H ε A d Q s e q
  obtain ⟨ds, e1, e⟩ := Option.bind_eq_some_iff.mp e
  split at e
  · rename_i hz
    obtain ⟨ys, e2, rfl⟩ := Option.map_eq_some_iff.mp e
    refine hi σ H ε A ds _ s e1 fun J H1 P s1 hP it p hp => ?_
    have hpA := (s.al.mono s1).not hp
    have s0 := ((s.mono s1).priv (aBu hp (.lst [])) hp ⟨_, aAt, trivial⟩).cap hj
    -- what stays: all but the new list
    refine ⟨fun i m σ' H' => m = ds.length - i ∧ i ≤ ds.length ∧ ∃ ε' xs acc rest, SR K H' σ' ε' (p :: A) ∧ (∀ (j : Nat) e, ε'[j]? = some (some (true, e)) → ∃ a, σ'[j]? = some (some (.ref a)) ∧ a ∈ A) ∧ (∀ b o, H1 b = some o → H' b = some o) ∧ H' p = some (.lst xs) ∧ Reps K (cut H' (p :: A)) xs acc ∧ acc.length ≤ i ∧ compL ft c f (ds.drop i) ε' = some rest ∧ acc ++ rest = ys,
      ⟨ds.length, by simp, Nat.zero_le _, _, [], [], ys, s0, (fun j e h => let ⟨a, h1, h2, _⟩ := ((s.mono s1).cap hj).ow j e h; ⟨a, h1, h2⟩), aBu hp _, aAt, .nil, Nat.le_refl _, e2, rfl⟩, ?_⟩
    rintro i m σ' H' ⟨rfl, hle, ε', xs, acc, rest, sr, so, sm, hpx, ra, hacc, el, ey⟩
    have sp : aCk A (p :: A) H1 H' := fun b o hb h => ⟨sm b o h, fun z => (List.mem_cons.mp z).elim (aBq h hp) hb⟩
    obtain ⟨igo, iyld, istop⟩ := it H' (p :: A) sp (fun b o _ h => sm b o h) sr.al
    by_cases hlt : i < ds.length
    · refine .inr ⟨igo i hlt, fun x H2 y => ?_⟩
      obtain ⟨sn, dd, hd, rd⟩ := iyld i x H2 hlt y
      rw [List.drop_eq_getElem_cons hlt] at el
      have hdd : ds[i] = dd := by rw [List.getElem?_eq_getElem hlt] at hd; exact Option.some.inj hd
      rw [hdd] at el
      obtain ⟨ε1, eg, el⟩ := Option.bind_eq_some_iff.mp el
      obtain ⟨b, eb, el⟩ := Option.bind_eq_some_iff.mp el
      refine hg x σ' H2 ε' (p :: A) dd ε1 _ (sr.mono sn) rd eg fun σ3 H3 s3 sr3 kp => ?_
      have so3 : ∀ (j : Nat) e, ε1[j]? = some (some (true, e)) → ∃ a, σ3[j]? = some (some (.ref a)) ∧ a ∈ A := fun j e h => by
        obtain ⟨h1, h2⟩ := kp j e h
        rw [h2]; exact so j e h1
      refine hc σ3 H3 ε1 (p :: A) b _ sr3 eb fun H4 s4 => ?_
      have s24 := sn.trans (s3.trans s4)
      cases b with
      | false => exact ⟨_, by omega, rfl, hlt, ε1, xs, acc, rest, sr3.mono s4, so3, fun b o h => s24 b o (sm b o h), s24 p _ hpx, ra.mono (aEh _ s24), by omega, el, ey⟩
      | true =>
        rw [if_pos rfl] at el
        obtain ⟨yv, ef, el⟩ := Option.bind_eq_some_iff.mp el
        obtain ⟨zs, el', rfl⟩ := Option.map_eq_some_iff.mp el
        rw [if_pos rfl]
        refine hf σ3 H4 ε1 (p :: A) yv _ (sr3.mono s4) ef fun v H5 s5 rv => ?_
        have s25 := s24.trans s5
        have hp5 := s25 p _ hpx
        have hcut := cut_upd_in (H := H5) (A := p :: A) (a := p) List.mem_cons_self (.lst (xs ++ [v]))
        refine ⟨xs, ds.length - (i + 1), hp5, ?_, by omega, rfl, hlt, ε1, xs ++ [v], acc ++ [yv], zs, ?_, so3, fun b o h => ?_, aAt, ?_, ?_, el', by rw [List.append_assoc]; exact ey⟩
        · rw [ra.length]; omega
        · -- the names hang on nothing that was written
          have sr5 := (sr3.mono s4).mono s5
          refine ⟨sr5.len, fun j d' h => ?_, fun j d' h => ?_, sr5.inj, fun b hb => ?_⟩
          · obtain ⟨w, h1, h2⟩ := sr5.sh j d' h
            exact ⟨w, h1, by rw [hcut]; exact h2⟩
          · obtain ⟨w, h1, h2, h3⟩ := sr5.ow j d' h
            obtain ⟨a', q1, q2⟩ := so3 j d' h
            rw [h1] at q1
            cases q1
            exact ⟨w, h1, h2, h3.move (aAn fun z : w = p => hpA (by rw [← z]; exact q2)) (by rw [hcut]; exact Same.refl _)⟩
          · by_cases hbp : b = p
            · subst hbp; exact ⟨_, aAt, trivial⟩
            · obtain ⟨u, h1, h2⟩ := sr5.al b hb
              exact ⟨u, by rw [aAn hbp]; exact h1, h2⟩
        · rw [aAn (aBq h hp)]; exact s25 b o (sm b o h)
        · rw [hcut]; exact (ra.mono (aEh _ s25)).app (.cons rv .nil)
        · rw [List.length_append, List.length_singleton]; omega
    · have hl : i = ds.length := by omega
      subst hl
      rw [List.drop_length] at el
      cases el
      rw [List.append_nil] at ey
      subst ey
      exact .inl ⟨istop, q _ H' (fun b o h => sm b o (s1 b o h)) (.inl ⟨p, rfl, s1.free hp, .lst hpx ra⟩)⟩
  · cases e
end
theorem lnU1 {α : Type} {P : List α → Prop} (us : List α) (hl : us.length = 1) (h : ∀ a, P [a]) : P us := by
  rcases us with _ | ⟨a, _ | ⟨_, _⟩⟩
  · simp at hl
  · exact h _
  · simp at hl
theorem lnU2 {α : Type} {P : List α → Prop} (us : List α) (hl : us.length = 2) (h : ∀ a b, P [a, b]) : P us := by
  rcases us with _ | ⟨a, _ | ⟨b, _ | ⟨_, _⟩⟩⟩
  · simp at hl
  · simp at hl
  · exact h _ _
  · simp at hl
theorem lnU3 {α : Type} {P : List α → Prop} (us : List α) (hl : us.length = 3) (h : ∀ a b c, P [a, b, c]) : P us := by
  rcases us with _ | ⟨a, _ | ⟨b, _ | ⟨c, _ | ⟨_, _⟩⟩⟩⟩
  · simp at hl
  · simp at hl
  · simp at hl
  · exact h _ _ _
  · simp at hl
theorem lnU4 {α : Type} {P : List α → Prop} (us : List α) (hl : us.length = 4) (h : ∀ a b c d, P [a, b, c, d]) : P us := by
  rcases us with _ | ⟨a, _ | ⟨b, _ | ⟨c, _ | ⟨d, _ | ⟨_, _⟩⟩⟩⟩⟩
  · simp at hl
  · simp at hl
  · simp at hl
  · simp at hl
  · exact h _ _ _ _
  · simp at hl
theorem lnU5 {α : Type} {P : List α → Prop} (us : List α) (hl : us.length = 5) (h : ∀ a b c d e, P [a, b, c, d, e]) : P us := by
  rcases us with _ | ⟨a, _ | ⟨b, _ | ⟨c, _ | ⟨d, _ | ⟨e, _ | ⟨_, _⟩⟩⟩⟩⟩⟩
  · simp at hl
  · simp at hl
  · simp at hl
  · simp at hl
  · simp at hl
  · exact h _ _ _ _ _
  · simp at hl
end DL
namespace DL
open PySem PySem.Spec L2
open PyProof.Rows hiding St
section
variable {X : Cx} {pins : List (Addr × Obj)} {σ : St} {H H1 : Hp} {s s1 : Shared} {A : List Addr}
theorem mut_obj (I : Inv X pins σ H s) {a : Addr} {o : HO} (h : H a = some o) (m : MutO o) : ∃ ob, s.heap.get? a = some ob ∧ ∀ v, ob.data ≠ .cell v := by
  cases o with
  | lst xs =>
    obtain ⟨_, its, n, _, e⟩ := (show aDu X.prog X.w H s.heap a (.lst xs) from I.hok a _ h)
    exact ⟨_, e, fun v z => by cases z⟩
  | dK kvs =>
    obtain ⟨_, _, vs, _, ob, es, ep, e, _, d, _⟩ := (show aDu X.prog X.w H s.heap a (.dK kvs) from I.hok a _ h)
    exact ⟨ob, e, fun v z => by rw [d] at z; cases z⟩
  | _ => exact m.elim
theorem aHo (al : AL H A) {b : Addr} {o : HO} (h : H b = some o) (m : ¬ MutO o) : b ∉ A := fun z => by
  obtain ⟨u, q, mu⟩ := al b z
  rw [h] at q; cases q; exact m mu
theorem aFj (al : AL H A) {b : Addr} (h : H b = none) : b ∉ A := al.not h
theorem inv_cut (I : Inv X pins σ H s) (al : AL H A) : Inv X (pins ++ pinsAt A s.heap) σ (cut H A) s := by
  refine ⟨I.ok, I.os, I.bare, ⟨I.base.keep, I.base.slot, fun b o e n hx => ?_, I.base.there, fun b xs e => ?_, fun b o u e => ?_, fun b ps e => ?_⟩, I.loc, I.cell, ?_, fun x c e => ?_, fun p hp => ?_, fun b o e => ?_, I.len⟩
  · rw [aHm (aFj al (I.base.free b o e n hx))]; exact I.base.free b o e n hx
  · have q := I.base.tups b xs e
    rw [aHm (aHo al q fun z => z)]; exact q
  · have q := I.base.frzs b o u e
    rw [aHm (aHo al q fun z => z)]; exact q
  · obtain ⟨m, q⟩ := I.base.tbls b ps e
    exact ⟨m, by rw [aHm (aHo al q fun z => z)]; exact q⟩
  · rw [aHm (aFj al I.free)]; exact I.free
  · rw [aHm (aFj al (I.freeC x c e))]; exact I.freeC x c e
  · rw [← List.append_assoc] at hp
    rcases List.mem_append.mp hp with z | z
    · obtain ⟨e, n, ne, nf, d⟩ := I.pin p z
      exact ⟨e, by rw [aHm (aFj al n)]; exact n, ne, nf, d⟩
    · obtain ⟨hb, e⟩ := of_pinsAt z
      obtain ⟨o, q, m⟩ := al p.1 hb
      obtain ⟨ob, e', d⟩ := mut_obj I q m
      rw [e] at e'; cases e'
      refine ⟨e, cut_in hb, fun z => ?_, fun z => ?_, d⟩
      · rw [z, I.free] at q; cases q
      · obtain ⟨_, u, hu, _⟩ := I.ok.funs.mem z
        have := I.base.free p.1 u hu (I.ok.frf p.1 z) fun z' => I.ok.exfs p.1 z' z
        rw [this] at q; cases q
  · obtain ⟨h1, h2⟩ := aAq.mp e
    exact (I.hok b o h2).stay (fun c u _ q => q) (fun c q => aAq.mpr ⟨aHo al q fun z => z, q⟩) fun c xs q => aAq.mpr ⟨aHo al q fun z => z, q⟩
theorem glue_in {H2 : Hp} {b : Addr} (h : b ∈ A) : glue H2 H A b = H b := if_pos h
theorem aEi {H2 : Hp} {b : Addr} (h : b ∉ A) : glue H2 H A b = H2 b := if_neg h
theorem inv_uncut (I : Inv X pins σ H s) (al : AL H A) (J : Inv X (pins ++ pinsAt A s.heap) σ H1 s1) : Inv X pins σ (glue H1 H A) s1 ∧ ∀ b ∈ A, H1 b = none := by
  have pinned : ∀ b ∈ A, ∃ ob, s.heap.get? b = some ob ∧ s1.heap.get? b = some ob ∧ H1 b = none := fun b hb => by
    obtain ⟨o, q, m⟩ := al b hb
    obtain ⟨ob, e, d⟩ := mut_obj I q m
    obtain ⟨e1, n1, _⟩ := J.pin (b, ob) (List.mem_append_right _ (List.mem_append_right _ (aFy hb e)))
    exact ⟨ob, e, e1, n1⟩
  have hn : ∀ b ∈ A, H1 b = none := fun b hb => let ⟨_, _, _, n⟩ := pinned b hb; n
  refine ⟨⟨J.ok, J.os, J.bare, ⟨J.base.keep, J.base.slot, fun b o e n hx => ?_, J.base.there, fun b xs e => ?_, fun b o u e => ?_, fun b ps e => ?_⟩, J.loc, J.cell, ?_, fun x c e => ?_, fun p hp => ?_, fun b o e => ?_, J.len⟩, hn⟩
  · rw [aEi (aFj al (I.base.free b o e n hx))]; exact J.base.free b o e n hx
  · rw [aEi (aHo al (I.base.tups b xs e) fun z => z)]; exact J.base.tups b xs e
  · rw [aEi (aHo al (I.base.frzs b o u e) fun z => z)]; exact J.base.frzs b o u e
  · obtain ⟨m, q⟩ := I.base.tbls b ps e
    rw [aEi (aHo al q fun z => z)]; exact J.base.tbls b ps e
  · rw [aEi (aFj al I.free)]; exact J.free
  · rw [aEi (aFj al (I.freeC x c e))]; exact J.freeC x c e
  · obtain ⟨_, n0, _⟩ := I.pin p hp
    have hp' : p ∈ X.pn ++ (pins ++ pinsAt A s.heap) := by rw [← List.append_assoc]; exact List.mem_append_left _ hp
    obtain ⟨e, n, ne, nf, d⟩ := J.pin p hp'
    exact ⟨e, by rw [aEi (aFj al n0)]; exact n, ne, nf, d⟩
  · by_cases hb : b ∈ A
    · rw [glue_in hb] at e
      obtain ⟨o', q, m⟩ := al b hb
      rw [e] at q; cases q
      obtain ⟨ob, e0, e1, _⟩ := pinned b hb
      cases o with
      | lst xs =>
        obtain ⟨z, its, n, r, e2⟩ := (show aDu X.prog X.w H s.heap b (.lst xs) from I.hok b _ e)
        rw [e0] at e2
        cases e2
        exact ⟨z, its, n, r, e1⟩
      | dK kvs =>
        obtain ⟨z, y, vs, r, ob', es, ep, e2, c⟩ := (show aDu X.prog X.w H s.heap b (.dK kvs) from I.hok b _ e)
        rw [e0] at e2
        cases e2
        exact ⟨z, y, vs, r, _, es, ep, e1, c⟩
      | _ => exact False.elim m
    · rw [aEi hb] at e
      refine (J.hok b o e).stay (fun c u _ q => q) (fun c q => ?_) fun c xs q => ?_
      · rw [aEi (fun z => by rw [hn c z] at q; cases q)]; exact q
      · rw [aEi (fun z => by rw [hn c z] at q; cases q)]; exact q
end
section
variable {X : Cx} {CX : CXT} {k : Nat} {f : Addr} {fd : FuncData} {ps : List Str} {sp : Sp} {dvs : List V} {ds : List Value} {E : XK} {x : Str} {p pos : Pos} {e : Expr} {es : List Expr} {t : TA}
theorem run_fnF {pins : List (Addr × Obj)} {σ : St} {H : Hp} {s : Shared} {A : List Addr} {Q : VK} {us : List Value} {vs : List V} (F : FnOk X.prog X.w X.K X.mg X.base CX k f fd ps sp) (hr : Room k X.A) (hb : aBf X.K fd ps ds) (hd : Vals dvs ds) (hx : Passes CX X E)
    (I : Inv X pins σ H s) (al : AL H A) (r : Vals vs us) (h : sp (vs ++ dvs) (cut H A) (fun v H2 => (∀ b ∈ A, H2 b = none) → Q v (glue H2 H A)) E) : wpAny (model X.prog X.w) X.A (call (.ref f) us) (EP X pins σ Q) X.xe s := by
  refine thn (run_fn F hr hb hd hx (inv_cut I al) r h) fun u s1 ⟨v, H1, J, rv, q⟩ => ?_
  obtain ⟨J', hn⟩ := inv_uncut I al J
  exact ⟨v, _, J', rv, q hn⟩
theorem pe_callF (F : FnOk X.prog X.w X.K X.mg X.base CX k f fd ps sp) (hr : Room k X.A) (hg : Gl X x) (hm : X.mg x = some (.ref f)) (hk : PySem.W.keepIn X.K (.ref f) = true) (hb : aBf X.K fd ps ds) (hd : Vals dvs ds) (hx : Passes CX X E)
    (ha : PA X (e :: es) t) (hdb : (x == ("__debug__" : Str)) = false := by decide) (he : starEach (e :: es) X.env = (false, eval e X.env) :: starEach es X.env := by rfl) (hpl : (backTo pos (starEach es X.env)).any (·.1) = false := by rfl) :
    PE X (.Call (.Name x p) (e :: es) [] pos) (tCallF sp dvs E t) := by
  intro pins s σ H Q I h
  refine wpAny_Call_Name_kw (ld_glob I hg hm ?_ hdb)
  refine PySem.W.callWith_K (h₀ := X.base) I.ok.mod.kin hk (thn (ha pos pins s σ H _ I h) fun us s1 ⟨vs, H1, I1, r, A, al, q⟩ => ⟨I1.kIn, ?_⟩) he hpl
  exact run_fnF F hr hb hd hx I1 al r q
end
end DL
namespace DL
open PySem PySem.Spec L2
open PyProof.Rows hiding St
noncomputable def clOf : List (Str × NameKind) → List (Str × Addr) → List (Str × Addr) → List (Str × Addr)
  | [], _, acc => acc
  | (n, k) :: r, cells, acc => if (k == .free) = true then clOf r cells ((n, (cells.lookup n).getD 0) :: acc) else clOf r cells acc
theorem forIn_cl {env : Env} {f : Str × NameKind → List (Str × Addr) → Sem (ForInStep (List (Str × Addr)))}
    (hf : ∀ n k cs, f (n, k) cs = if (k == NameKind.free) = true then (cellOf env n >>= fun a => pure (.yield ((n, a) :: cs))) else pure (.yield cs)) :
    ∀ (l : List (Str × NameKind)) (acc : List (Str × Addr)), (∀ y ∈ l, y.2 = .free → ∃ c, env.cells.lookup y.1 = some c) → forIn l acc f = pure (clOf l env.cells acc)
  | [], acc, _ => rfl
  | (n, k) :: r, acc, h => by
    rw [List.forIn_cons, hf]
    unfold clOf
    by_cases hk : (k == NameKind.free) = true
    · obtain ⟨c, hc⟩ := h (n, k) List.mem_cons_self (by simpa using hk)
      have e : cellOf env n = pure c := by unfold cellOf; rw [hc]
      rw [if_pos hk, if_pos hk, e, pure_bind, pure_bind, hc]
      exact forIn_cl hf r _ fun y hy => h y (List.mem_cons_of_mem _ hy)
    · rw [if_neg hk, if_neg hk, pure_bind]
      exact forIn_cl hf r _ fun y hy => h y (List.mem_cons_of_mem _ hy)
theorem closure_of {scope : Scope} {env : Env} (h : ∀ y ∈ scope.names, y.2 = .free → ∃ c, env.cells.lookup y.1 = some c) : closureFor scope env = pure (clOf scope.names env.cells []) := by
  simp only [closureFor]
  rw [forIn_cl (env := env) (fun n k cs => by
    by_cases hk : (k == NameKind.free) = true
    · simp only [hk, if_true]
    · simp only [hk, Bool.false_eq_true, if_false]) scope.names [] h]
  rfl
theorem clOf_spec {cells : List (Str × Addr)} : ∀ (l : List (Str × NameKind)) (acc : List (Str × Addr)), (∀ y ∈ l, y.2 = .free → ∃ c, cells.lookup y.1 = some c) → (∀ x c, acc.lookup x = some c → cells.lookup x = some c) →
    (∀ x c, (clOf l cells acc).lookup x = some c → cells.lookup x = some c) ∧ ∀ x, (acc.lookup x).isSome = true ∨ (∃ y ∈ l, y.1 = x ∧ y.2 = .free) → ((clOf l cells acc).lookup x).isSome = true
  | [], acc, _, ha => ⟨ha, fun x h => h.elim id fun ⟨y, hy, _⟩ => absurd hy (by simp)⟩
  | (n, k) :: r, acc, h, ha => by
    unfold clOf
    by_cases hk : (k == NameKind.free) = true
    · rw [if_pos hk]
      obtain ⟨c, hc⟩ := h (n, k) List.mem_cons_self (by simpa using hk)
      rw [hc]
      have ha' : ∀ x d, ((n, (some c).getD 0) :: acc).lookup x = some d → cells.lookup x = some d := fun x d hx => by
        rw [List.lookup_cons] at hx
        cases hb : x == n with
        | true =>
          rw [hb] at hx
          have e : x = n := by simpa using hb
          subst e
          cases hx
          exact hc
        | false => rw [hb] at hx; exact ha x d hx
      obtain ⟨h1, h2⟩ := clOf_spec r ((n, (some c).getD 0) :: acc) (fun y hy => h y (List.mem_cons_of_mem _ hy)) ha'
      refine ⟨h1, fun x hx => h2 x ?_⟩
      rw [List.lookup_cons]
      cases hb : x == n with
      | true => exact .inl rfl
      | false =>
        rcases hx with hx | ⟨y, hy, e, ek⟩
        · exact .inl hx
        · rcases List.mem_cons.mp hy with rfl | hy
          · subst e; simp at hb
          · exact .inr ⟨y, hy, e, ek⟩
    · rw [if_neg hk]
      obtain ⟨h1, h2⟩ := clOf_spec r acc (fun y hy => h y (List.mem_cons_of_mem _ hy)) ha
      refine ⟨h1, fun x hx => h2 x ?_⟩
      rcases hx with hx | ⟨y, hy, e, ek⟩
      · exact .inl hx
      · rcases List.mem_cons.mp hy with rfl | hy
        · exact absurd (by simpa using ek) hk
        · exact .inr ⟨y, hy, e, ek⟩
noncomputable def aCp (X : Cx) (scope : Scope) (cl : List (Str × Addr)) (N' : List Str) (pins : List (Addr × Obj)) (fp : List Addr) (s₀ : Shared) (H₀ : Hp) : Cx where
  prog := X.prog
  w := X.w
  K := X.K
  mg := X.mg
  base := X.base
  A := X.A
  N := N'
  s₀ := s₀
  H₀ := H₀
  env := compEnvC scope cl s₀.heap.objs.size X.env
  outer := X.stack
  stack := X.stack
  ex := fp
  fn := fun x => (cl.lookup x).isNone
  calm := X.calm
  pn := X.pn ++ pins
  xe := fun _ _ => False
structure CompOk (X : Cx) (scope : Scope) (cl : List (Str × Addr)) (N' : List Str) (js : List (Option Nat)) : Prop where
  kind : scope.kind = .function
  nocell : ∀ y ∈ scope.names, y.2 ≠ .cell
  locs : ∀ y ∈ scope.names, y.2 = .local → scope.names.lookup y.1 = some .local
  clos : closureFor scope X.env = pure cl
  cl1 : ∀ x c, cl.lookup x = some c → X.env.cells.lookup x = some c
  cl2 : ∀ x, scope.names.lookup x = some .free → ∃ c, cl.lookup x = some c
  jl : js.length = N'.length
  jn : ∀ (i k : Nat), js[i]? = some (some k) → N'[i]? = X.N[k]?
  jf : ∀ (i k : Nat) x, js[i]? = some (some k) → N'[i]? = some x → scope.names.lookup x = some .free ∧ (X.env.kindOf x = some .cell ∨ X.env.kindOf x = some .free)
theorem mem_of_lk {α : Type} {β : Type} [BEq α] [LawfulBEq α] {l : List (α × β)} {x : α} {y : β} (h : l.lookup x = some y) : (x, y) ∈ l := by
  induction l with
  | nil => cases h
  | cons p r ih =>
    obtain ⟨a, b⟩ := p
    rw [List.lookup_cons] at h
    cases hb : x == a with
    | true =>
      rw [hb] at h
      cases h
      have e : x = a := by simpa using hb
      subst e
      exact List.mem_cons_self
    | false => rw [hb] at h; exact List.mem_cons_of_mem _ (ih h)
theorem lk_relabel {env : Env} : ∀ {names : List (Str × NameKind)} {x : Str} {k : NameKind}, (names.map fun (n, k) => if (k == NameKind.free && env.scope.kind == .function && env.kindOf n == some .cell) then (n, NameKind.cell) else (n, k)).lookup x = some k → k = .cell ∨ k = .free → (∀ y ∈ names, y.2 ≠ .cell) → names.lookup x = some .free
  | [], _, _, h, _, _ => by cases h
  | (n, k0) :: r, x, k, h, hk, hc => by
    have h : List.lookup x ((if (k0 == NameKind.free && env.scope.kind == .function && env.kindOf n == some .cell) = true then (n, NameKind.cell) else (n, k0)) :: _) = some k := h
    have ih := @lk_relabel env r x k
    have h0 := hc (n, k0) List.mem_cons_self
    by_cases hb : (k0 == NameKind.free && env.scope.kind == .function && env.kindOf n == some .cell) = true
    · rw [if_pos hb] at h
      have k0f : k0 = .free := by
        rw [Bool.and_eq_true, Bool.and_eq_true] at hb
        simpa using hb.1.1
      rw [List.lookup_cons] at h ⊢
      cases hx : x == n with
      | true => rw [k0f]
      | false => rw [hx] at h; exact ih h hk fun y hy => hc y (List.mem_cons_of_mem _ hy)
    · rw [if_neg hb] at h
      rw [List.lookup_cons] at h ⊢
      cases hx : x == n with
      | true =>
        rw [hx] at h
        cases h
        rcases hk with rfl | rfl
        · exact absurd rfl h0
        · rfl
      | false => rw [hx] at h; exact ih h hk fun y hy => hc y (List.mem_cons_of_mem _ hy)
section
variable {X : Cx} {pins : List (Addr × Obj)} {σ : St} {H : Hp} {s : Shared} {scope : Scope} {cl : List (Str × Addr)} {N' : List Str} {js : List (Option Nat)} {fp : List Addr}
theorem comp_start (O : CompOk X scope cl N' js) (I : Inv X pins σ H s) (f2 : ∀ b ∈ fp, FpOk X pins H b) (hfp : ∀ b ∈ fp, b < s.heap.objs.size) {h₁ : Heap} {t : Nat} {m : Str → Option Value} {ob : Obj} (hns : h₁.Ns s.heap.objs.size m) (hsb : Heap.SameBut s.heap.objs.size (s.heap.push ob) h₁) :
    Inv (aCp X scope cl N' pins fp s H) [] (capL js σ) H { s with heap := h₁, toks := t } := by
  have old : ∀ b o, s.heap.get? b = some o → h₁.get? b = some o := fun b o e => hsb.extBut b o (Nat.ne_of_lt (Heap.lt_size e)) (Heap.get?_push_of_some _ e)
  have hfree := I.hok.fresh (Nat.le_refl s.heap.objs.size)
  have kindEq : ∀ x, (aCp X scope cl N' pins fp s H).env.kindOf x = (relabel scope X.env).names.lookup x := fun x => rfl
  refine ⟨⟨I.ok.mod, O.kind, I.ok.glob, I.ok.blt, Nat.le_refl _, fun x y c h1 h2 => I.ok.inj x y c (O.cl1 x c h1) (O.cl1 y c h2), fun x hx => ?_, fun x c h1 h2 => ?_, I.ok.hd, I.ok.frames, .inl rfl, fun b hb => ⟨Nat.ne_of_lt (hfp b hb), fun x c h => (f2 b hb).2.2.2.2.1 x c (O.cl1 x c h)⟩, I.bs, Nat.le_trans I.ok.bsz I.sz, fun b o e hb => ?_, fun b hb hz => ?_, I.stack, I.stkFree⟩,
    rfl, I.bare, Un.kept old, ⟨m, hns, fun i x v h1 h2 h3 => ?_⟩, fun x c h => ?_, hfree, fun x c h => I.freeC x c (O.cl1 x c h), fun p hp => ?_, I.hok.kept old, ?_⟩
  · have hx : (relabel scope X.env).names.lookup x = some .cell ∨ (relabel scope X.env).names.lookup x = some .free := hx
    refine O.cl2 x ?_
    rcases hx with hx | hx
    · exact lk_relabel hx (.inl rfl) O.nocell
    · exact lk_relabel hx (.inr rfl) O.nocell
  · have h1 : (cl.lookup x).isNone = true := h1
    have h2 : cl.lookup x = some c := h2
    rw [h2] at h1; cases h1
  · have q := (f2 b hb).2.2.2.1
    rcases q with q | q
    · exact I.ok.noex b o e q
    · exact absurd (Nat.lt_of_lt_of_le (Heap.lt_size e) (Nat.le_trans I.ok.bsz q)) (Nat.lt_irrefl _)
  · rcases List.mem_cons.mp (I.stkSub b hz) with e | z
    · exact (f2 b hb).2.1 e
    · exact (f2 b hb).2.2.1 z
  · obtain ⟨k, hk, hx⟩ := aGo h2
    have hN := O.jn i k hk
    have h1 : N'[i]? = some x := h1
    obtain ⟨hfr, hkind⟩ := O.jf i k x hk h1
    obtain ⟨m0, hn0, hl⟩ := I.loc
    have hvis : Vis X.env.scope x := by
      rcases hkind with z | z
      · exact .inr (.inl z)
      · exact .inr (.inr z)
    obtain ⟨u, r, lk⟩ := hl k x v (by rw [← hN]; exact h1) hx hvis
    refine ⟨u, r, ?_⟩
    rcases lk with ⟨hk', _⟩ | ⟨_, c, hc, cell⟩
    · rcases hkind with z | z
      · rw [z] at hk'; cases hk'
      · rw [z] at hk'; cases hk'
    · obtain ⟨c', hc'⟩ := O.cl2 x hfr
      have e := O.cl1 x c' hc'
      rw [hc] at e
      cases e
      obtain ⟨o, ho, hd⟩ := cell
      refine .inr ⟨?_, c, hc', o, old c o ho, hd⟩
      rcases h3 with z | z | z
      · exfalso
        have z : (relabel scope X.env).names.lookup x = some .local := z
        -- a free name is not relabelled to a local one
        have key : ∀ (names : List (Str × NameKind)), names.lookup x = some .free → (names.map fun (n, k) => if (k == NameKind.free && X.env.scope.kind == .function && X.env.kindOf n == some .cell) then (n, NameKind.cell) else (n, k)).lookup x ≠ some .local := by
          intro names
          induction names with
          | nil => intro h; cases h
          | cons p r ih =>
            obtain ⟨n, k0⟩ := p
            intro h q
            have q : List.lookup x ((if (k0 == NameKind.free && X.env.scope.kind == .function && X.env.kindOf n == some .cell) = true then (n, NameKind.cell) else (n, k0)) :: _) = some .local := q
            rw [List.lookup_cons] at h
            cases hx : x == n with
            | true =>
              rw [hx] at h
              cases h
              split at q
              · rw [List.lookup_cons, hx] at q; cases q
              · rw [List.lookup_cons, hx] at q; cases q
            | false =>
              rw [hx] at h
              split at q
              · rw [List.lookup_cons, hx] at q; exact ih h q
              · rw [List.lookup_cons, hx] at q; exact ih h q
        exact key scope.names hfr z
      · exact .inl z
      · exact .inr z
  · obtain ⟨v, o, ho, hd⟩ := I.cell x c (O.cl1 x c h)
    exact ⟨v, o, old c o ho, hd⟩
  · have hp : p ∈ X.pn ++ pins := by
      have hp : p ∈ (X.pn ++ pins) ++ [] := hp
      simpa using hp
    obtain ⟨e, n, ne, nf, d⟩ := I.pin p hp
    refine ⟨old p.1 p.2 e, n, Nat.ne_of_lt (Heap.lt_size e), fun z => ?_, d⟩
    rcases List.mem_cons.mp (I.stkSub p.1 z) with q | q
    · exact ne q
    · exact nf q
  · unfold capL
    rw [List.length_map]
    exact O.jl
theorem comp_back (I : Inv X pins σ H s) (f2 : ∀ b ∈ fp, FpOk X pins H b) {pl : List (Addr × Obj)} {σ' : St} {H' : Hp} {s' : Shared} (J : Inv (aCp X scope cl N' pins fp s H) pl σ' H' s') : Inv X pins σ H' s' := by
  obtain ⟨hh, g, d, t, os'⟩ := s'
  obtain rfl : os' = s.os := J.os
  exact I.call (h' := hh) (g' := g) (d' := d) (t' := t) (ch := fp) J.base J.hok J.bare fun b hb => ⟨(f2 b hb).2.2.2.1, (f2 b hb).2.1, (f2 b hb).2.2.2.2.1, (f2 b hb).2.2.2.2.2⟩
theorem comp_gone (I : Inv X pins σ H s) {pl : List (Addr × Obj)} {σ1 : St} {H' : Hp} {s' : Shared} {h'' : Heap} (J : Inv X pl σ1 H' s') (hn : H' s.heap.objs.size = none) (hpl : ∀ p ∈ X.pn ++ pl, p.1 ≠ s.heap.objs.size) (hs : Heap.SameBut s.heap.objs.size s'.heap h'') : Inv X pl σ1 H' { s' with heap := h'' } :=
  J.turned (t' := s'.toks) (it := s.heap.objs.size) (fun b o hb e => hs.extBut b o hb e) hn (Nat.ne_of_gt I.lt) (.inr I.sz) (fun x c e z => by
    obtain ⟨v, q⟩ := I.cell x c e
    exact absurd q.lt (by rw [z]; exact Nat.lt_irrefl _)) hpl
end
end DL
namespace DL
open PySem PySem.Spec L2
open PyProof.Rows hiding St
noncomputable def PTs (X : Cx) (ifs : List Expr) (t : TT) : Prop := ∀ (pins : List (Addr × Obj)) (s : Shared) (σ : St) (H : Hp) (Q : Bool → Hp → Prop), Inv X pins σ H s → t σ H Q →
  wpAny (model X.prog X.w) X.A (forIn ifs true fun c r => if r = true then do let ok ← isTrue c X.env (eval c X.env); pure (ForInStep.yield ok) else pure (ForInStep.yield r)) (TP X pins σ Q) X.xe s
noncomputable def tTrue : TT := fun _ H Q => Q true H
theorem pts_nil {X : Cx} : PTs X [] tTrue := fun _ _ _ H _ I h => wpAny_pure ⟨H, I, h⟩
theorem pts_one {X : Cx} {c : Expr} {t : TT} (h : PT X c t) : PTs X [c] t := by
  intro pins s σ H Q I q
  rw [List.forIn_cons]
  refine wpAny_bind ?_
  rw [if_pos rfl]
  refine wpAny_bind (thn (h pins s σ H Q I q) fun b s1 q1 => wpAny_pure ?_)
  exact wpAny_pure q1
theorem den_true {K : PySem.W.Frag} : DenC K tTrue (fun _ => some true) := fun σ H ε A b Q s e q => by cases e; exact q H (Same.refl H)
theorem comp_loop {prog : Program} {w : World} {A : Around} {R : Result → Shared → Prop} {s : Shared} {elt target iter : Expr} {ifs : List Expr} {scope : Scope} {pos : Pos} {it acc : Value} {env : Env} (I : Nat → Shared → Prop)
    (turn : ∀ n s, I n s → wpAny (model prog w) A (pyNext it) (fun r s₁ => match r with
      | none => R (.ok .next) s₁
      | some v => wpAny (model prog w) A (letOwnedTupleGo target it v) (fun _ s₁' => wpAny (model prog w) A (assign target env v) (fun _ s₂ =>
          wpAny (model prog w) A (forIn ifs true fun c r => if r = true then do let ok ← isTrue c env (eval c env); pure (ForInStep.yield ok) else pure (ForInStep.yield r)) (fun ok s₃ =>
            if ok = true then wpAny (model prog w) A (eval elt env) (fun x s₄ =>
              wpAny (model prog w) A (call (.builtin "list.append") [acc, x]) (fun _ s₅ => ∃ m, m < n ∧ I m s₅) (fun _ _ => False) s₄) (fun _ _ => False) s₃
            else ∃ m, m < n ∧ I m s₃) (fun _ _ => False) s₂) (fun _ _ => False) s₁') (fun _ _ => False) s₁) (fun _ _ => False) s)
    (n : Nat) (h : I n s) :
    codeAny (model prog w) A (.compLoop (.ListComp elt [⟨target, iter, ifs, 0⟩] scope pos) 0 it acc env) R s := by
  refine codeAny_loop rfl I (fun n s hI => ?_) n h
  show wpAny _ A ((compTurn (.ListComp elt [⟨target, iter, ifs, 0⟩] scope pos) 0 it acc env).onRaise (fun x => do noteFrame x env; theTreesLotGoes x)) _ _ s
  refine wpAny_noted ?_
  rw [compTurn_list]
  refine wpAny_bind (wpAny_standAt (wpAny_bind (wpAny_mono (turn n s hI) (fun r s₁ h₁ => ?_) fun _ _ h' => h'.elim)))
  cases r with
  | none => exact wpAny_pure h₁
  | some v =>
    refine wpAny_bind (wpAny_mono h₁ (fun _ s₁' h₁' => ?_) fun _ _ h' => h'.elim)
    refine wpAny_bind (wpAny_mono h₁' (fun _ s₂ h₂ => wpAny_bind (wpAny_mono h₂ (fun ok s₃ h₃ => ?_) fun _ _ h' => h'.elim)) fun _ _ h' => h'.elim)
    cases ok with
    | false => exact wpAny_pure ⟨rfl, h₃⟩
    | true =>
      exact wpAny_bind (wpAny_bind (wpAny_mono h₃ (fun x s₄ h₄ => wpAny_bind (wpAny_mono h₄ (fun _ s₅ h₅ => wpAny_pure (wpAny_pure ⟨rfl, h₅⟩)) fun _ _ h' => h'.elim)) fun _ _ h' => h'.elim))
section
variable {X : Cx} {pins : List (Addr × Obj)} {σ : St} {scope : Scope} {cl : List (Str × Addr)} {N' : List Str} {js : List (Option Nat)} {elt iter tg : Expr} {ifs : List Expr} {pos : Pos} {wi : TI} {g : TG} {tt : TT} {te : TE}
theorem comp_core {J : It} {H2 : Hp} {s2 : Shared} {it : Addr} {fp : List Addr} {tn : Nat → Heap → Prop} {Q : VK} {RR : Value → Addr → Result → Shared → Prop} {E : Value → Shared → Prop} (hc : X.calm = true) (O : CompOk X scope cl N' js)
    (hb : ∀ fp s₀ H₀ pins, PG (aCp X scope cl N' pins fp s₀ H₀) tg g ∧ PTs (aCp X scope cl N' pins fp s₀ H₀) ifs tt ∧ PE (aCp X scope cl N' pins fp s₀ H₀) elt te)
    (I2 : Inv X pins σ H2 s2) (T : Turn X.prog X.w X.K tg J fp it tn) (st2 : tn 0 s2.heap) (f2 : ∀ b ∈ fp, FpOk X pins H2 b)
    (rd : ∀ p, H2 p = none → ∃ W : Nat → Nat → St → Hp → Prop, (∃ m, W 0 m (capL js σ) (upd H2 p (.lst []))) ∧
      ∀ i m σ' H', W i m σ' H' → (J.stop i H' ∧ Q (.ref p) H') ∨ (J.go i H' ∧ ∀ x H2, J.yld i H' x H2 → g x σ' H2 fun σ3 H3 => tt σ3 H3 fun b H4 =>
        if b = true then te σ3 H4 fun v H5 => ∃ xs m', H5 p = some (.lst xs) ∧ xs.length < sizeLine ∧ m' < m ∧ W (i + 1) m' σ3 (upd H5 p (.lst (xs ++ [v]))) else ∃ m', m' < m ∧ W (i + 1) m' σ3 H4))
    (hRR : ∀ (p : Addr) (s3 s' : Shared) (H3 H' : Hp) (m : Str → Option Value), Inv X pins σ H3 s3 → Inv X pins σ H' s' → H' s3.heap.objs.size = none → s'.heap.Ns s3.heap.objs.size m → (∀ q ∈ X.pn ++ pins, q.1 ≠ s3.heap.objs.size) → Q (.ref p) H' → RR (.ref p) s3.heap.objs.size (.ok .next) s') :
    wpAny (model X.prog X.w) X.A (newList []) (fun acc s₃ => wpAny (model X.prog X.w) X.A (newFunctionEnv scope X.env.globals cl [] X.env.qual none .none (some X.env)) (fun cenv s₄ =>
      codeAny (model X.prog X.w) X.A (.compStart (.ListComp elt [⟨tg, iter, ifs, 0⟩] scope pos) 0 (.ref it) acc { cenv with scope := relabel scope X.env }) (RR acc cenv.locals) s₄) E s₃) E s2 := by
  have hp := I2.hok.fresh (Nat.le_refl s2.heap.objs.size)
  have I3 : Inv X pins σ (upd H2 s2.heap.objs.size (.lst [])) { s2 with heap := s2.heap.push { cls := .type "list", data := .seq ([] : List Value).toArray } } := I2.lnew (its := []) (t' := s2.toks) .nil (Nat.zero_le _)
  have hlt : ∀ b ∈ fp, b < s2.heap.objs.size := fun b hb => by
    obtain ⟨o, e, _⟩ := T.obj 0 _ st2 b hb
    exact Heap.lt_size e
  have f3 : ∀ b ∈ fp, FpOk X pins (upd H2 s2.heap.objs.size (.lst [])) b := fun b hb => ⟨by rw [aAn (Nat.ne_of_lt (hlt b hb))]; exact (f2 b hb).1, (f2 b hb).2⟩
  obtain ⟨W, ⟨m0, w0⟩, turn⟩ := rd _ hp
  refine wpAny_newObj_type ?_
  generalize hs3 : ({ s2 with heap := s2.heap.push { cls := .type "list", data := .seq ([] : List Value).toArray } } : Shared) = s3 at I3 ⊢
  have hsz : s3.heap.objs.size = s2.heap.objs.size + 1 := by rw [← hs3]; exact Heap.size_push ..
  have hlt3 : ∀ b ∈ fp, b < s3.heap.objs.size := fun b hb => by rw [hsz]; exact Nat.lt_succ_of_lt (hlt b hb)
  have st3 : tn 0 s3.heap := T.keep _ _ _ st2 fun b hb o e => by rw [← hs3]; exact Heap.get?_push_of_some _ e
  refine wpAny_newFunctionEnv O.nocell (by intro y hy; simp at hy) (fun h₁ hns₁ hsb₁ => ?_) O.kind
  have I4 := comp_start (t := s3.toks + ([] : List (Str × Value)).length) O I3 f3 hlt3 hns₁ hsb₁
  have st4 : tn 0 h₁ := T.keep _ _ _ st3 fun b hb o e => hsb₁.extBut b o (Nat.ne_of_lt (Heap.lt_size e)) (Heap.get?_push_of_some _ e)
  obtain ⟨hbg, hbt, hbe⟩ := hb fp s3 (upd H2 s2.heap.objs.size (.lst [])) pins
  -- what stays true of the iterator's objects
  have stat : ∀ {H' : Hp}, (∀ b ∈ fp, H' b = none) → ∀ b ∈ fp, FpOk (aCp X scope cl N' pins fp s3 (upd H2 s2.heap.objs.size (.lst []))) [] H' b := fun hn b hb =>
    ⟨hn b hb, (I4.ok.exf b hb).1, I4.ok.exfs b hb, .inl hb, (I4.ok.exf b hb).2, fun q hq => (f2 b hb).2.2.2.2.2 q (by
      have hq : q ∈ (X.pn ++ pins) ++ [] := hq
      simpa using hq)⟩
  have hcpin : ∀ q ∈ X.pn ++ pins, q.1 ≠ s3.heap.objs.size := fun q hq => Nat.ne_of_lt (Heap.lt_size (I3.pin q hq).1)
  have loop : ∀ s₃ : Shared, s₃ = { s3 with heap := h₁, toks := s3.toks + ([] : List (Str × Value)).length } →
      codeAny (model X.prog X.w) X.A (.compLoop (.ListComp elt [⟨tg, iter, ifs, 0⟩] scope pos) 0 (.ref it) (.ref s2.heap.objs.size) (compEnvC scope cl s3.heap.objs.size X.env)) (RR (.ref s2.heap.objs.size) s3.heap.objs.size) s₃ := by
    rintro s₃ rfl
    refine comp_loop (fun n s' => ∃ i σ' H', Inv (aCp X scope cl N' pins fp s3 (upd H2 s2.heap.objs.size (.lst []))) [] σ' H' s' ∧ tn i s'.heap ∧ (∀ b ∈ fp, H' b = none) ∧ W i n σ' H') ?_ m0 ⟨0, _, _, I4, st4, fun b hb => (f3 b hb).1, w0⟩
    rintro n s5 ⟨i, σ5, H5, I5, st5, fr5, w5⟩
    rcases turn i n σ5 H5 w5 with ⟨stop, qn⟩ | ⟨go, step⟩
    · refine thn (T.done (aCp X scope cl N' pins fp s3 (upd H2 s2.heap.objs.size (.lst []))) rfl rfl rfl hc i [] s5 σ5 H5 (fun _ _ => False) I5 (stat fr5) st5 stop) fun r s6 ⟨hr, I6⟩ => ?_
      subst hr
      obtain ⟨m6, hn6, _⟩ := I6.loc
      exact hRR _ s3 s6 _ H5 m6 I3 (comp_back I3 f3 I6) I6.free hn6 hcpin qn
    · refine thn (T.item (aCp X scope cl N' pins fp s3 (upd H2 s2.heap.objs.size (.lst []))) rfl rfl rfl hc i [] s5 σ5 H5 (fun _ _ => False) I5 (stat fr5) st5 go) fun r s6 ⟨u, hr, h6⟩ => ?_
      subst hr
      refine thn h6 fun _ s7 ⟨x, H7, I7, r7, y7, st7, fr7⟩ => ?_
      have I7' := I7.pinned (stat fr7) (T.obj _ _ st7)
      have keep : ∀ {pl : List (Addr × Obj)} {σ8 : St} {H8 : Hp} {s8 : Shared}, Inv (aCp X scope cl N' pins fp s3 (upd H2 s2.heap.objs.size (.lst []))) ([] ++ pinsAt fp s7.heap) σ8 H8 s8 → tn (i + 1) s8.heap ∧ (∀ b ∈ fp, H8 b = none) := fun {pl σ8 H8 s8} I8 => by
        refine ⟨T.keep _ _ _ st7 fun b hb o e => (I8.pin (b, o) (List.mem_append_right _ (List.mem_append_right _ (aFy hb e)))).1, fun b hb => ?_⟩
        obtain ⟨o, e, d⟩ := T.obj _ _ st7 b hb
        exact (I8.pin (b, o) (List.mem_append_right _ (List.mem_append_right _ (aFy hb e)))).2.1
      refine thn (hbg _ s7 σ5 H7 x u _ I7' r7 (step x H7 y7)) fun _ s8 ⟨σ8, H8, I8, q8⟩ => ?_
      refine thn (hbt _ s8 σ8 H8 _ I8 q8) fun ok s9 ⟨H9, I9, q9⟩ => ?_
      cases ok with
      | false =>
        obtain ⟨m', hm, w9⟩ := q9
        obtain ⟨k1, k2⟩ := keep (pl := []) I9
        exact ⟨m', hm, i + 1, σ8, H9, I9.unpinned, k1, k2, w9⟩
      | true =>
        rw [if_pos rfl] at q9
        rw [if_pos rfl]
        refine thn (hbe _ s9 σ8 H9 _ I9 q9) fun v s10 ⟨y, H10, I10, r10, xs, m', hpx, hl, hm, w10⟩ => ?_
        refine thn (mt_append _ s10 σ8 H10 (.ref s2.heap.objs.size) [y] (.ref s2.heap.objs.size) [v] (fun z H' => z = .non ∧ H' = upd H10 s2.heap.objs.size (.lst (xs ++ [y]))) I10 rfl (.cons r10 .nil) ⟨_, xs, y, rfl, rfl, hpx, hl, rfl, rfl⟩) fun z s11 ⟨zv, H11, I11, _, _, eH⟩ => ?_
        subst eH
        obtain ⟨k1, k2⟩ := keep (pl := []) I11
        exact ⟨m', hm, i + 1, σ8, _, I11.unpinned, k1, k2, w10⟩
  exact codeAny_compStart_list (loop _ rfl) (T.self _ 0 _ _ _ st4 (loop _ rfl))
theorem pe_comp (hx : X.xe = fun _ _ => False) (hc : X.calm = true) (O : CompOk X scope cl N' js) (hi : PI X tg iter wi)
    (hb : ∀ fp s₀ H₀ pins, PG (aCp X scope cl N' pins fp s₀ H₀) tg g ∧ PTs (aCp X scope cl N' pins fp s₀ H₀) ifs tt ∧ PE (aCp X scope cl N' pins fp s₀ H₀) elt te)
    (hs : ∀ x, foldedSetIterable iter X.env x = pure x := by intro _; rfl) : PE X (.ListComp elt [⟨tg, iter, ifs, 0⟩] scope pos) (tComp js wi g tt te) := by
  intro pins s σ H Q I h
  rw [eval_ListComp]
  refine wpAny_comprehension_free (use := none) rfl hs O.clos O.kind O.locs ?_
  refine thn (hi pins s σ H _ I h) fun v s1 h1 => thn h1 fun itv s2 h2 => ?_
  obtain ⟨it, fp, tn, J, H2, rfl, I2, T, st2, f2, q2⟩ := h2
  refine comp_core (RR := fun acc C => compPost (model X.prog X.w) X.A X.xe none (EP X pins σ Q) acc C) hc O hb I2 T st2 f2 q2 ?_
  intro p s3 s' H3 H' m I3 J' hn hns hcp q
  exact ⟨m, hns, fun h'' hs'' => ⟨.ref p, H', comp_gone I3 J' hn hcp hs'', rfl, q⟩⟩
theorem ps_comp {i : Nat} {y : Str} {py spos : Pos} (hx : X.xe = fun _ _ => False) (hc : X.calm = true) (O : CompOk X scope cl N' js) (hi : PI X tg iter wi)
    (hb : ∀ fp s₀ H₀ pins, PG (aCp X scope cl N' pins fp s₀ H₀) tg g ∧ PTs (aCp X scope cl N' pins fp s₀ H₀) ifs tt ∧ PE (aCp X scope cl N' pins fp s₀ H₀) elt te)
    (hN : X.N.Nodup) (hiN : X.N[i]? = some y) (hy : X.env.scope.names.lookup y = some .local)
    (hsw : swapsWith (.ListComp elt [⟨tg, iter, ifs, 0⟩] scope pos) (some (.Name y py)) spos.line X.env = pure true)
    (hs : ∀ x, foldedSetIterable iter X.env x = pure x := by intro _; rfl) : PS X (.Assign [.Name y py] (.ListComp elt [⟨tg, iter, ifs, 0⟩] scope pos) spos) (tAsg (tComp js wi g tt te) (gName i)) := by
  intro pins s σ H D I h
  rw [exec_Assign_Name_used _ _ _ _ hsw]
  refine wpAny_bind (wpAny_standAt (wpAny_bind ?_))
  show wpAny _ _ (do let _ ← comprehension (.ListComp elt [⟨tg, iter, ifs, 0⟩] scope pos) scope X.env _ (newList []) false (eval iter X.env) (some (assign (.Name y py) X.env))) _ _ s
  refine wpAny_bind (wpAny_mono (wpAny_comprehension_free (use := some (assign (.Name y py) X.env)) (Q := fun _ s' => SP X pins D .next s') rfl hs O.clos O.kind O.locs ?_) (fun _ s' hq => wpAny_pure (wpAny_pure hq)) fun _ _ e => e)
  refine thn (hi pins s σ H _ I h) fun v s1 h1 => thn h1 fun itv s2 h2 => ?_
  obtain ⟨it, fp, tn, J, H2, rfl, I2, T, st2, f2, q2⟩ := h2
  refine comp_core (RR := fun acc C => compPost (model X.prog X.w) X.A X.xe (some (assign (.Name y py) X.env)) (fun _ s' => SP X pins D .next s') acc C) (Q := fun x H1 => gName i x σ H1 D.nx) hc O hb I2 T st2 f2 q2 ?_
  intro p s3 s' H3 H' m I3 J' hn hns hcp q
  show wpAny _ _ (assign (.Name y py) X.env (.ref p)) _ _ s'
  -- the block's own dict is pinned while the name is stored
  obtain ⟨ob, es, ep, ho, hd, hr⟩ := id hns
  have J2 : Inv X (pins ++ [(s3.heap.objs.size, ob)]) σ H' s' := J'.pins_of fun q hq => by
    rcases List.mem_append.mp hq with z | z
    · exact J'.pin q (List.mem_append_right _ z)
    · have e : q = (s3.heap.objs.size, ob) := by simpa using z
      subst e
      exact ⟨ho, hn, Nat.ne_of_gt I3.lt, I3.nofs (Nat.le_refl _), fun v z => by rw [hd] at z; cases z⟩
  refine wpAny_assign_Name (aGm J2 hN hiN (.inl hy) (show RelV (.ref p) (.ref p) from rfl) (fun s4 I4 => ?_) (.inr hy))
  have hC : s4.heap.get? s3.heap.objs.size = some ob := (I4.pin (s3.heap.objs.size, ob) (List.mem_append_right _ (List.mem_append_right _ (by simp)))).1
  refine ⟨m, ⟨ob, es, ep, hC, hd, hr⟩, fun h'' hs'' => ⟨_, H', comp_gone I3 (I4.unpinned) hn hcp hs'', q⟩⟩
end
end DL
namespace DL
open PySem PySem.Spec L2
open PyProof.Rows hiding St
theorem RB.full {K : PySem.W.Frag} {H : Hp} {A : List Addr} {v : V} {d : D} (r : RB K H A v d) : Rep K H v d := by
  rcases r with r | ⟨a, rfl, _, o⟩
  · exact r.mono (aAl H A)
  · cases o with
    | lst h r => exact .lst (.inl (.inl h)) (r.mono (aAl H A))
    | dic h r => exact .dic h (r.mono (aAl H A))
section
variable {X : Cx}
theorem add_listP {prog : Program} {w : World} {A : Around} {E : Value → Shared → Prop} {s : Shared} {l b : Addr} {its its2 : Array Value} {Q : Value → Shared → Prop} (hl : PlainL s.heap l its) (hb : PlainL s.heap b its2)
    (h : Q (.ref s.heap.objs.size) { s with heap := s.heap.push { cls := .type "list", data := .seq (its ++ its2) } }) (hsz : its.size + its2.size ≤ sizeLine) : wpAny (model prog w) A (binaryOp .Add (.ref l) (.ref b)) Q E s := by
  obtain ⟨⟨c1, d1, dt1, sl1⟩, n1, e1, hc1, hd1, hs1⟩ := hl
  obtain ⟨⟨c2, d2, dt2, sl2⟩, n2, e2, hc2, hd2, hs2⟩ := hb
  simp only at hc1 hd1 hs1 hc2 hd2 hs2
  subst hc1 hd1 hs1 hc2 hd2 hs2
  refine concat_meets ⟨_, e1, rfl⟩ ⟨_, e2, rfl⟩ noFill_list_add seq_list_add F.slot_list_add F.entry_list_add (F.args_list_add_2 _ _) (list_addW l b its its2 n1 n2 none none sl1 sl2 hsz) ⟨e1, e2, h⟩
noncomputable def rCatK (K : PySem.W.Frag) : R2 := fun x y H Q => ∃ l b xs zs, x = .ref l ∧ y = .ref b ∧ SqL K H l xs ∧ SqL K H b zs ∧ xs.length + zs.length ≤ sizeLine ∧ ∀ p, H p = none → Q (.ref p) (upd H p (.lst (xs ++ zs)))
theorem op_catK : OpR X (binaryOp .Add) (rCatK X.K) := by
  intro pins s σ H x y v u Q I rx ry h
  obtain ⟨l, b, xs, zs, rfl, rfl, hH, hB, hz, q⟩ := h
  cases rx
  cases ry
  obtain ⟨its, r, pl, z⟩ := I.list hH
  obtain ⟨its2, r2, pl2, z2⟩ := I.list hB
  have l1 := r.length
  have l2 := r2.length
  refine add_listP pl pl2 ?_ (by rw [List.size_toArray, List.size_toArray]; omega)
  have ea : its.toArray ++ its2.toArray = (its ++ its2).toArray := by simp
  rw [ea]
  exact ⟨.ref _, _, I.lnew (t' := s.toks) (r.append r2) (by rw [List.length_append]; omega), rfl, q _ I.fresh⟩
noncomputable def rCatTK (K : PySem.W.Frag) : R2 := fun x y H Q => ∃ a b xs ys, x = .ref a ∧ y = .ref b ∧ SqT K H a xs ∧ SqT K H b ys ∧ xs.length + ys.length ≤ sizeLine ∧
  (xs = [] → Q (.ref b) H) ∧ (xs ≠ [] → ys = [] → Q (.ref a) H) ∧ (xs ≠ [] → ys ≠ [] → ∀ p, H p = none → Q (.ref p) (upd H p (.tup (xs ++ ys))))
theorem cat_tup0 {prog : Program} {w : World} {A : Around} {E : Value → Shared → Prop} {s : Shared} {t b : Addr} {ws : List Value} {Q : Value → Shared → Prop} (ht : IsTup s.heap t ([] : List Value).toArray) (hb : IsTup s.heap b ws.toArray)
    (h1 : Q (.ref b) s) : wpAny (model prog w) A (binaryOp .Add (.ref t) (.ref b)) Q E s := by
  obtain ⟨⟨cls, dd, data, sl⟩, ho, hc, n, hd⟩ := id ht
  obtain ⟨⟨cls2, dd2, data2, sl2⟩, ho2, hc2, n2, hd2⟩ := id hb
  simp only at hc hd hc2 hd2
  subst hc hd hc2 hd2
  exact concat_meets ⟨_, ho, rfl⟩ ⟨_, ho2, rfl⟩ noFill_tuple_add seq_tuple_add PySem.F.slot_tuple_add PySem.F.entry_tuple_add (PySem.F.args_tuple_add_2 _ _)
      (tuple_addW0 t b ([] : List Value).toArray ws.toArray n n2 dd dd2 sl sl2 rfl) ⟨ho, ho2, h1⟩
theorem op_catTK : OpR X (binaryOp .Add) (rCatTK X.K) := by
  intro pins s σ H x y v u Q I rx ry h
  obtain ⟨a, b, xs, ys, rfl, rfl, ha, hb, hz, q0, q1, q2⟩ := h
  by_cases hx : xs = []
  · subst hx
    cases rx
    cases ry
    obtain ⟨its, r1, p1, _⟩ := I.tuple ha
    obtain ⟨its2, r2, p2, _⟩ := I.tuple hb
    cases r1
    exact cat_tup0 p1 p2 ⟨.ref b, H, I, rfl, q0 rfl⟩
  · exact op_catT pins s σ H _ _ v u Q I rx ry ⟨a, b, xs, ys, rfl, rfl, ha, hb, hx, hz, q1 hx, q2 hx⟩
theorem opd_catT {K : PySem.W.Frag} : aDv K (rCatTK K) gCatT := by
  intro H A x y dx dy d Q al rx ry e q
  unfold gCatT at e
  split at e
  · rename_i ds es
    split at e
    · rename_i c
      cases e
      rcases rx with rx | ⟨_, _, _, o⟩
      · rcases ry with ry | ⟨_, _, _, o⟩
        · cases rx with
          | tup h1 r1 =>
            cases ry with
            | tup h2 r2 =>
              rename_i a xs b ys
              have t1 := Rep.tup h1 r1
              have t2 := Rep.tup h2 r2
              refine ⟨a, b, xs, ys, rfl, rfl, sameT (aAl H A) h1, sameT (aAl H A) h2, by rw [r1.length, r2.length]; exact c, fun z => ?_, fun z z2 => ?_, fun _ _ p hp => ?_⟩
              · subst z
                cases r1
                exact q _ H (Same.refl H) (.inr ⟨rfl, t2⟩)
              · subst z2
                cases r2
                rw [List.append_nil] at q
                exact q _ H (Same.refl H) (.inr ⟨rfl, t1⟩)
              · exact q _ _ (aBu hp _) (.newT hp (al.not hp) (r1.app r2))
        · cases o
      · cases o
    · cases e
  · cases e
noncomputable def eqL (f : D → D → Option Bool) : List D → List D → Option Bool
  | [], [] => some true
  | x :: xs, y :: ys => (f x y).bind fun a => (eqL f xs ys).map fun b => a && b
  | _, _ => some false
noncomputable def eqN : Nat → D → D → Option Bool
  | 0, _, _ => none
  | n + 1, .lst xs, .lst ys => eqL (eqN n) xs ys
  | n + 1, .tup xs, .tup ys => eqL (eqN n) xs ys
  | _ + 1, x, y => if aAr x && aAr y then some (eqFD x y) else none
theorem eqL_len {f : D → D → Option Bool} : ∀ {xs ys : List D} {b : Bool}, eqL f xs ys = some b → xs.length ≠ ys.length → b = false
  | [], [], b, _, h => absurd rfl h
  | [], _ :: _, b, e, _ => (Option.some.inj e).symm
  | _ :: _, [], b, e, _ => (Option.some.inj e).symm
  | x :: xs, y :: ys, b, e, h => by
    obtain ⟨a, e1, e2⟩ := Option.bind_eq_some_iff.mp e
    obtain ⟨c, e3, rfl⟩ := Option.map_eq_some_iff.mp e2
    rw [eqL_len e3 (fun z => h (by rw [List.length_cons, List.length_cons, z]))]
    exact Bool.and_false a
theorem eqL_get {f : D → D → Option Bool} : ∀ {xs ys : List D} {b : Bool}, eqL f xs ys = some b → xs.length = ys.length →
    ∃ e : Nat → Bool, (∀ (j : Nat) x y, xs[j]? = some x → ys[j]? = some y → f x y = some (e j)) ∧ (List.range xs.length).all e = b
  | [], [], b, e, _ => ⟨fun _ => true, fun j x y h => by simp at h, by simpa using Option.some.inj e⟩
  | [], _ :: _, b, e, h => by simp at h
  | _ :: _, [], b, e, h => by simp at h
  | x :: xs, y :: ys, b, e, h => by
    obtain ⟨a, e1, e2⟩ := Option.bind_eq_some_iff.mp e
    obtain ⟨c, e3, rfl⟩ := Option.map_eq_some_iff.mp e2
    obtain ⟨g, h1, h2⟩ := eqL_get e3 (by simpa using h)
    refine ⟨fun j => match j with | 0 => a | j + 1 => g j, fun j x' y' hx hy => ?_, ?_⟩
    · cases j with
      | zero => simp at hx hy; subst hx; subst hy; exact e1
      | succ j => exact h1 j x' y' (by simpa using hx) (by simpa using hy)
    · rw [List.length_cons, List.range_succ_eq_map, List.all_cons, List.all_map]
      have : ((fun j => match j with | 0 => a | j + 1 => g j) ∘ Nat.succ) = g := by funext j; rfl
      rw [this, h2]
theorem eqL_get2 {f : D → D → Option Bool} : ∀ {xs ys : List D} {b : Bool}, eqL f xs ys = some b →
    ∃ e : Nat → Bool, (∀ (j : Nat) x y, xs[j]? = some x → ys[j]? = some y → f x y = some (e j)) ∧ ((List.range (min xs.length ys.length)).all e && xs.length == ys.length) = b
  | [], [], b, e => ⟨fun _ => true, fun j x y h => by simp at h, by simpa using Option.some.inj e⟩
  | [], _ :: _, b, e => ⟨fun _ => true, fun j x y h => by simp at h, by simpa using Option.some.inj e⟩
  | _ :: _, [], b, e => ⟨fun _ => true, fun j x y _ h => by simp at h, by simpa using Option.some.inj e⟩
  | x :: xs, y :: ys, b, e => by
    obtain ⟨a, e1, e2⟩ := Option.bind_eq_some_iff.mp e
    obtain ⟨c, e3, rfl⟩ := Option.map_eq_some_iff.mp e2
    obtain ⟨g, h1, h2⟩ := eqL_get2 e3
    refine ⟨fun j => match j with | 0 => a | j + 1 => g j, fun j x' y' hx hy => ?_, ?_⟩
    · cases j with
      | zero => simp at hx hy; subst hx; subst hy; exact e1
      | succ j => exact h1 j x' y' (by simpa using hx) (by simpa using hy)
    · have em : min (x :: xs).length (y :: ys).length = min xs.length ys.length + 1 := by rw [List.length_cons, List.length_cons]; omega
      have el : ((x :: xs).length == (y :: ys).length) = (xs.length == ys.length) := by simp
      rw [em, el, List.range_succ_eq_map, List.all_cons, List.all_map]
      have : ((fun j => match j with | 0 => a | j + 1 => g j) ∘ Nat.succ) = g := by funext j; rfl
      rw [this, Bool.and_assoc, h2]
theorem eqL_refl {f : D → D → Option Bool} (hf : ∀ x b, f x x = some b → b = true) : ∀ {xs : List D} {b : Bool}, eqL f xs xs = some b → b = true
  | [], b, e => (Option.some.inj e).symm
  | x :: xs, b, e => by
    obtain ⟨a, e1, e2⟩ := Option.bind_eq_some_iff.mp e
    obtain ⟨c, e3, rfl⟩ := Option.map_eq_some_iff.mp e2
    rw [hf x a e1, eqL_refl hf e3]
    rfl
theorem eqN_refl : ∀ (n : Nat) (x : D) (b : Bool), eqN n x x = some b → b = true
  | 0, _, _, e => by cases e
  | n + 1, x, b, e => by
    cases x with
    | lst xs => exact eqL_refl (eqN_refl n) e
    | tup xs => exact eqL_refl (eqN_refl n) e
    | dic kvs => simp [eqN, aAr, aBt] at e
    | sht p l d ls nar => simp [eqN, aAr, aBt] at e
    | non => simp [eqN, aAr, aBt, eqFD] at e; exact e
    | bl c => simp [eqN, aAr, aBt, eqFD] at e; exact e
    | int c => simp [eqN, aAr, aBt, eqFD] at e; exact e
    | str c => simp [eqN, aAr, aBt, eqFD] at e; exact e
theorem nar_inj : ∀ {a b : List (List Key × Int)}, a.map (fun kn => (kn.1, V.int kn.2)) = b.map (fun kn => (kn.1, V.int kn.2)) → a = b
  | [], [], _ => rfl
  | [], _ :: _, e => by cases e
  | _ :: _, [], e => by cases e
  | (k, n) :: a, (k', n') :: b, e => by
    obtain ⟨e1, e2⟩ := List.cons.inj e
    cases e1
    rw [nar_inj e2]
theorem ins_cls {pins : List (Addr × Obj)} {σ : St} {H : Hp} {s : Shared} (I : Inv X pins σ H s) {a : Addr} (h : ∃ C dx fs, H a = some (.ins C dx fs)) : ∃ o C, s.heap.get? a = some o ∧ o.cls = .ref C := by
  obtain ⟨C, dx, fs, h⟩ := h
  obtain ⟨_, _, _, e, _⟩ := (show aDu X.prog X.w H s.heap a (.ins C dx fs) from I.hok _ _ h)
  exact ⟨_, C, e, rfl⟩
theorem ins_tup {pins : List (Addr × Obj)} {σ : St} {H : Hp} {s : Shared} (I : Inv X pins σ H s) {a : Addr} {xs : List V} (h : ∃ C dx fs, H a = some (.ins C dx fs)) (h' : SqT X.K H a xs) : False := by
  obtain ⟨o, C, e, c⟩ := ins_cls I h
  obtain ⟨_, _, ⟨o2, e2, c2, _⟩, _⟩ := I.tuple h'
  rw [e] at e2; cases e2
  rw [c] at c2
  cases c2
theorem ins_lst {pins : List (Addr × Obj)} {σ : St} {H : Hp} {s : Shared} (I : Inv X pins σ H s) {a : Addr} {xs : List V} (h : ∃ C dx fs, H a = some (.ins C dx fs)) (h' : SqL X.K H a xs) : False := by
  obtain ⟨o, C, e, c⟩ := ins_cls I h
  obtain ⟨_, _, p, _⟩ := I.list h'
  obtain ⟨o2, e2, c2, _⟩ := p.isList
  rw [e] at e2; cases e2
  rw [c] at c2
  cases c2
theorem dic_tup {pins : List (Addr × Obj)} {σ : St} {H : Hp} {s : Shared} (I : Inv X pins σ H s) {a : Addr} {kvs : List (Key × V)} {xs : List V} (h' : H a = some (.dK kvs)) (h : SqT X.K H a xs) : False := by
  obtain ⟨_, _, p, _⟩ := I.tuple h
  obtain ⟨_, _, vs, _, ob, es, ep, e, c, _⟩ := (show aDu X.prog X.w H s.heap _ (.dK _) from I.hok _ _ h')
  obtain ⟨o, e2, c2, _⟩ := p
  rw [e] at e2; cases e2
  have := c.1
  rw [c2] at this
  exact absurd this (by simp)
theorem dic_lst {pins : List (Addr × Obj)} {σ : St} {H : Hp} {s : Shared} (I : Inv X pins σ H s) {a : Addr} {kvs : List (Key × V)} {xs : List V} (h' : H a = some (.dK kvs)) (h : SqL X.K H a xs) : False := by
  obtain ⟨_, _, p, _⟩ := I.list h
  obtain ⟨_, _, vs, _, ob, es, ep, e, c, _⟩ := (show aDu X.prog X.w H s.heap _ (.dK _) from I.hok _ _ h')
  obtain ⟨o, n, e2, c2, _⟩ := p
  rw [e] at e2; cases e2
  have := c.1
  rw [c2] at this
  exact absurd this (by simp)
mutual
theorem Rep.inj {pins : List (Addr × Obj)} {σ : St} {H : Hp} {s : Shared} (I : Inv X pins σ H s) : ∀ {v : V} {d d' : D}, Rep X.K H v d → Rep X.K H v d' → d = d'
  | _, _, _, .non, r => by cases r; rfl
  | _, _, _, .bl b, r => by cases r; rfl
  | _, _, _, .int i, r => by cases r; rfl
  | _, _, _, .str x, r => by cases r; rfl
  | _, _, _, .sht _ h hl hd r, q => by
    cases q with
    | sht _ h' hl' hd' r' =>
      rw [h] at h'; cases h'
      rw [hl] at hl'; cases hl'
      have e := Option.some.inj (hd.symm.trans hd')
      have e := HO.dT.inj e
      rw [Reps.inj I r r', nar_inj e]
    | tup h' _ => exact (ins_tup I ⟨_, _, _, h⟩ h').elim
    | lst h' _ => exact (ins_lst I ⟨_, _, _, h⟩ h').elim
    | dic h' _ => rw [h] at h'; cases h'
  | _, _, _, .tup h r, q => by
    cases q with
    | sht _ h' hl' hd' r' => exact (ins_tup I ⟨_, _, _, h'⟩ h).elim
    | tup h' r' =>
      have e := I.tuple_inj h h'
      subst e
      rw [Reps.inj I r r']
    | lst h' _ =>
      obtain ⟨_, _, p, _⟩ := I.tuple h
      obtain ⟨_, _, p', _⟩ := I.list h'
      exact absurd rfl (SeqAt.ne_of_list_tuple (s := s) p'.isList (show s.heap.IsTuple _ _ from p))
    | dic h' _ => exact (dic_tup I h' h).elim
  | _, _, _, .lst h r, q => by
    cases q with
    | sht _ h' hl' hd' r' => exact (ins_lst I ⟨_, _, _, h'⟩ h).elim
    | lst h' r' =>
      have e := I.list_inj h h'
      subst e
      rw [Reps.inj I r r']
    | tup h' _ =>
      obtain ⟨_, _, p, _⟩ := I.tuple h'
      obtain ⟨_, _, p', _⟩ := I.list h
      exact absurd rfl (SeqAt.ne_of_list_tuple (s := s) p'.isList (show s.heap.IsTuple _ _ from p))
    | dic h' _ => exact (dic_lst I h' h).elim
  | _, _, _, .dic h r, q => by
    cases q with
    | sht _ h' hl' hd' r' => rw [h] at h'; cases h'
    | tup h' _ => exact (dic_tup I h h').elim
    | lst h' _ => exact (dic_lst I h h').elim
    | dic h' r' =>
      rw [h] at h'
      cases h'
      rw [KReps.inj I r r']
theorem Reps.inj {pins : List (Addr × Obj)} {σ : St} {H : Hp} {s : Shared} (I : Inv X pins σ H s) : ∀ {v : List V} {d d' : List D}, Reps X.K H v d → Reps X.K H v d' → d = d'
  | _, _, _, .nil, .nil => rfl
  | _, _, _, .cons r rs, .cons r' rs' => by rw [Rep.inj I r r', Reps.inj I rs rs']
theorem KReps.inj {pins : List (Addr × Obj)} {σ : St} {H : Hp} {s : Shared} (I : Inv X pins σ H s) : ∀ {v : List (Key × V)} {d d' : List (Key × D)}, KReps X.K H v d → KReps X.K H v d' → d = d'
  | _, _, _, .nil, .nil => rfl
  | _, _, _, .cons r rs, .cons r' rs' => by rw [Rep.inj I r r', KReps.inj I rs rs']
end
theorem in1_units (A : Around) : A.in1.units = A.units + 1 := rfl
theorem eqAt_N {pins : List (Addr × Obj)} {σ : St} {H : Hp} {s : Shared} (I : Inv X pins σ H s) : ∀ (n : Nat) {A : Around} {v v' : V} {u u' : Value} {d d' : D} {b : Bool}, A.units + n < cLine → Rep X.K H v d → Rep X.K H v' d' → RelV v u → RelV v' u' → eqN n d d' = some b →
    SeqAt.EqAt A s u u' b
  | 0, _, _, _, _, _, _, _, _, _, _, _, _, _, e => by cases e
  | n + 1, A, v, v', u, u', d, d', b, hu, r, r', ru, ru', e => by
    have flat : (aAr d && aAr d') = true → some (eqFD d d') = some b → SeqAt.EqAt A s u u' b := fun hf he => by
      rw [Bool.and_eq_true] at hf
      obtain ⟨w1, h1⟩ := aEx hf.1
      obtain ⟨w2, h2⟩ := aEx hf.2
      obtain rfl := r.flat h1
      obtain rfl := r'.flat h2
      have q := eqAt_V (A := A) (s := s) ru ru' (flatV_of h1) (flatV_of h2)
      rw [eqFD_of h1 h2, Option.some.inj he] at q
      exact q
    have other : eqN (n + 1) d d' = (if aAr d && aAr d' then some (eqFD d d') else none) → SeqAt.EqAt A s u u' b := fun z => by
      rw [z] at e
      split at e
      · rename_i hf; exact flat hf e
      · cases e
    cases r with
    | lst h rs =>
      cases r' with
      | lst h' rs' =>
        rename_i a xs ds a' xs' ds'
        cases ru
        cases ru'
        by_cases haa : a = a'
        · subst haa
          have ed := Rep.inj I (.lst h rs) (.lst h' rs')
          rw [ed] at e
          rw [eqN_refl _ _ _ e]
          exact .same _
        · refine .of_refs haa ?_
          obtain ⟨its, rv, p, _⟩ := I.list h
          obtain ⟨its', rv', p', _⟩ := I.list h'
          have l1 := rv.length
          have l2 := rv'.length
          have l3 := rs.length
          have l4 := rs'.length
          have e : eqL (eqN n) ds ds' = some b := e
          by_cases hl : ds.length = ds'.length
          · obtain ⟨g, hg1, hg2⟩ := eqL_get e hl
            have q := SeqAt.RcAt.lists (A := A) (e := g) p.isList p'.isList (by rw [List.size_toArray, List.size_toArray]; omega) (by omega) (fun j h1 h2 => by
              rw [List.size_toArray] at h1 h2
              have j1 : j < xs.length := by omega
              have j2 : j < xs'.length := by omega
              obtain ⟨w, hw, rw1⟩ := rv.get (List.getElem?_eq_getElem j1)
              obtain ⟨w', hw', rw2⟩ := rv'.get (List.getElem?_eq_getElem j2)
              obtain ⟨dd, hd, rd⟩ := rs.getV (List.getElem?_eq_getElem j1)
              obtain ⟨dd', hd', rd'⟩ := rs'.getV (List.getElem?_eq_getElem j2)
              have e1 : its.toArray[j] = w := by
                rw [List.getElem_toArray]; rw [List.getElem?_eq_getElem h1] at hw; exact Option.some.inj hw
              have e2 : its'.toArray[j] = w' := by
                rw [List.getElem_toArray]; rw [List.getElem?_eq_getElem h2] at hw'; exact Option.some.inj hw'
              rw [e1, e2]
              exact eqAt_N I n (A := A.in1) (by rw [in1_units]; omega) rd rd' rw1 rw2 (hg1 j dd dd' hd hd'))
            rw [List.size_toArray, ← l1, l3, hg2] at q
            exact q
          · rw [eqL_len e hl]
            exact SeqAt.RcAt.lists_lengths p.isList p'.isList (by rw [List.size_toArray, List.size_toArray]; simp; omega) (by omega)
      | _ => exact other rfl
    | tup h rs =>
      cases r' with
      | tup h' rs' =>
        rename_i a xs ds a' xs' ds'
        cases ru
        cases ru'
        by_cases haa : a = a'
        · subst haa
          have ed := Rep.inj I (.tup h rs) (.tup h' rs')
          rw [ed] at e
          rw [eqN_refl _ _ _ e]
          exact .same _
        · refine .of_refs haa ?_
          obtain ⟨its, rv, p, _⟩ := I.tuple h
          obtain ⟨its', rv', p', _⟩ := I.tuple h'
          have l1 := rv.length
          have l2 := rv'.length
          have l3 := rs.length
          have l4 := rs'.length
          have e : eqL (eqN n) ds ds' = some b := e
          obtain ⟨g, hg1, hg2⟩ := eqL_get2 e
          have q := SeqAt.RcAt.tuples (A := A) (e := g) (show s.heap.IsTuple a _ from p) (show s.heap.IsTuple a' _ from p') (by omega) (fun j h1 h2 => by
            rw [List.size_toArray] at h1 h2
            have j1 : j < xs.length := by omega
            have j2 : j < xs'.length := by omega
            obtain ⟨w, hw, rw1⟩ := rv.get (List.getElem?_eq_getElem j1)
            obtain ⟨w', hw', rw2⟩ := rv'.get (List.getElem?_eq_getElem j2)
            obtain ⟨dd, hd, rd⟩ := rs.getV (List.getElem?_eq_getElem j1)
            obtain ⟨dd', hd', rd'⟩ := rs'.getV (List.getElem?_eq_getElem j2)
            have e1 : its.toArray[j] = w := by
              rw [List.getElem_toArray]; rw [List.getElem?_eq_getElem h1] at hw; exact Option.some.inj hw
            have e2 : its'.toArray[j] = w' := by
              rw [List.getElem_toArray]; rw [List.getElem?_eq_getElem h2] at hw'; exact Option.some.inj hw'
            rw [e1, e2]
            exact eqAt_N I n (A := A.in1) (by rw [in1_units]; omega) rd rd' rw1 rw2 (hg1 j dd dd' hd hd'))
          rw [List.size_toArray, List.size_toArray, ← l1, ← l2, l3, l4, hg2] at q
          exact q
      | _ => exact other rfl
    | non => exact other (by cases d' <;> rfl)
    | bl c => exact other (by cases d' <;> rfl)
    | int c => exact other (by cases d' <;> rfl)
    | str c => exact other (by cases d' <;> rfl)
    | dic h rs => exact other (by cases d' <;> rfl)
    | sht _ h hl hd rs => exact other (by cases d' <;> rfl)
noncomputable def seqD : D → Bool
  | .lst _ => true
  | .tup _ => true
  | _ => false
noncomputable def rEqD (K : PySem.W.Frag) (n : Nat) (neg : Bool) : R2 := fun x y H Q => ∃ dx dy b, Rep K H x dx ∧ Rep K H y dy ∧ (seqD dx && seqD dy) = true ∧ eqN (n + 1) dx dy = some b ∧ Q (.bl (xor neg b)) H
theorem eqN_mixed {n : Nat} {x y : D} (hx : seqD x = true) (hy : seqD y = true) {b : Bool} (e : eqN (n + 1) x y = some b) : (∃ xs ys, x = .lst xs ∧ y = .lst ys) ∨ ∃ xs ys, x = .tup xs ∧ y = .tup ys := by
  cases x <;> simp [seqD] at hx <;> cases y <;> simp [seqD] at hy
  · exact .inr ⟨_, _, rfl, rfl⟩
  · simp [eqN, aAr, aBt] at e
  · simp [eqN, aAr, aBt] at e
  · exact .inl ⟨_, _, rfl, rfl⟩
theorem op_eqD {n : Nat} (hu : X.A.units + n + 1 < cLine) (neg : Bool) : OpR X (compareOp (if neg then .NotEq else .Eq)) (rEqD X.K n neg) := by
  intro pins s σ H x y v u Q I rx ry h
  obtain ⟨dx, dy, b, r1, r2, hs, e, q⟩ := h
  rw [Bool.and_eq_true] at hs
  have fin : EP X pins σ Q (.bool (xor neg b)) s := ⟨.bl _, H, I, rfl, q⟩
  rcases eqN_mixed hs.1 hs.2 e with ⟨ds, ds', rfl, rfl⟩ | ⟨ds, ds', rfl, rfl⟩
  · cases r1 with
    | lst h rs =>
      cases r2 with
      | lst h' rs' =>
        rename_i a xs a' xs'
        cases rx
        cases ry
        obtain ⟨its, rv, p, _⟩ := I.list h
        obtain ⟨its', rv', p', _⟩ := I.list h'
        have l1 := rv.length
        have l2 := rv'.length
        have l3 := rs.length
        have l4 := rs'.length
        have e : eqL (eqN n) ds ds' = some b := e
        by_cases hl : ds.length = ds'.length
        · obtain ⟨g, hg1, hg2⟩ := eqL_get e hl
          have he : ∀ j (h1 : j < its.toArray.size) (h2 : j < its'.toArray.size), SeqAt.EqAt X.A.in1 s its.toArray[j] its'.toArray[j] (g j) := fun j h1 h2 => by
            rw [List.size_toArray] at h1 h2
            have j1 : j < xs.length := by omega
            have j2 : j < xs'.length := by omega
            obtain ⟨w, hw, rw1⟩ := rv.get (List.getElem?_eq_getElem j1)
            obtain ⟨w', hw', rw2⟩ := rv'.get (List.getElem?_eq_getElem j2)
            obtain ⟨dd, hd, rd⟩ := rs.getV (List.getElem?_eq_getElem j1)
            obtain ⟨dd', hd', rd'⟩ := rs'.getV (List.getElem?_eq_getElem j2)
            have e1 : its.toArray[j] = w := by
              rw [List.getElem_toArray]; rw [List.getElem?_eq_getElem h1] at hw; exact Option.some.inj hw
            have e2 : its'.toArray[j] = w' := by
              rw [List.getElem_toArray]; rw [List.getElem?_eq_getElem h2] at hw'; exact Option.some.inj hw'
            rw [e1, e2]
            exact eqAt_N I n (A := X.A.in1) (by rw [in1_units]; omega) rd rd' rw1 rw2 (hg1 j dd dd' hd hd')
          have hr : (List.range its.toArray.size).all g = b := by rw [List.size_toArray, ← l1, l3]; exact hg2
          cases neg with
          | false => exact SeqAt.RcAt.lists (e := g) p.isList p'.isList (by rw [List.size_toArray, List.size_toArray]; omega) (by omega) he _ _ _ _ (by rw [hr]; simpa using fin)
          | true => exact SeqAt.RcNeAt.lists (e := g) p.isList p'.isList (by rw [List.size_toArray, List.size_toArray]; omega) (by omega) he _ _ _ _ (by rw [hr]; simpa using fin)
        · have hb := eqL_len e hl
          subst hb
          cases neg with
          | false => exact SeqAt.RcAt.lists_lengths p.isList p'.isList (by rw [List.size_toArray, List.size_toArray]; simp; omega) (by omega) _ _ _ _ (by simpa using fin)
          | true => exact SeqAt.RcNeAt.lists_lengths p.isList p'.isList (by rw [List.size_toArray, List.size_toArray]; simp; omega) (by omega) _ _ _ _ (by simpa using fin)
  · cases r1 with
    | tup h rs =>
      cases r2 with
      | tup h' rs' =>
        rename_i a xs a' xs'
        cases rx
        cases ry
        obtain ⟨its, rv, p, _⟩ := I.tuple h
        obtain ⟨its', rv', p', _⟩ := I.tuple h'
        have l1 := rv.length
        have l2 := rv'.length
        have l3 := rs.length
        have l4 := rs'.length
        have e : eqL (eqN n) ds ds' = some b := e
        obtain ⟨g, hg1, hg2⟩ := eqL_get2 e
        have he : ∀ j (h1 : j < its.toArray.size) (h2 : j < its'.toArray.size), SeqAt.EqAt X.A.in1 s its.toArray[j] its'.toArray[j] (g j) := fun j h1 h2 => by
          rw [List.size_toArray] at h1 h2
          have j1 : j < xs.length := by omega
          have j2 : j < xs'.length := by omega
          obtain ⟨w, hw, rw1⟩ := rv.get (List.getElem?_eq_getElem j1)
          obtain ⟨w', hw', rw2⟩ := rv'.get (List.getElem?_eq_getElem j2)
          obtain ⟨dd, hd, rd⟩ := rs.getV (List.getElem?_eq_getElem j1)
          obtain ⟨dd', hd', rd'⟩ := rs'.getV (List.getElem?_eq_getElem j2)
          have e1 : its.toArray[j] = w := by
            rw [List.getElem_toArray]; rw [List.getElem?_eq_getElem h1] at hw; exact Option.some.inj hw
          have e2 : its'.toArray[j] = w' := by
            rw [List.getElem_toArray]; rw [List.getElem?_eq_getElem h2] at hw'; exact Option.some.inj hw'
          rw [e1, e2]
          exact eqAt_N I n (A := X.A.in1) (by rw [in1_units]; omega) rd rd' rw1 rw2 (hg1 j dd dd' hd hd')
        have hr : ((List.range (min its.toArray.size its'.toArray.size)).all g && its.toArray.size == its'.toArray.size) = b := by rw [List.size_toArray, List.size_toArray, ← l1, ← l2, l3, l4]; exact hg2
        cases neg with
        | false => exact SeqAt.RcAt.tuples (e := g) (show s.heap.IsTuple a _ from p) (show s.heap.IsTuple a' _ from p') (by omega) he _ _ _ _ (by rw [hr]; simpa using fin)
        | true => exact SeqAt.RcNeAt.tuples (e := g) (show s.heap.IsTuple a _ from p) (show s.heap.IsTuple a' _ from p') (by omega) he _ _ _ _ (by rw [hr]; simpa using fin)
noncomputable def gEqD (n : Nat) (neg : Bool) (x y : D) : Option D := if (seqD x && seqD y) = true then (eqN (n + 1) x y).map fun b => .bl (xor neg b) else none
theorem opd_eqD {K : PySem.W.Frag} {n : Nat} {neg : Bool} : aDv K (rEqD K n neg) (gEqD n neg) := by
  intro H A x y dx dy d Q al rx ry e q
  unfold gEqD at e
  split at e
  · rename_i hs
    obtain ⟨b, e1, rfl⟩ := Option.map_eq_some_iff.mp e
    exact ⟨dx, dy, b, rx.full, ry.full, hs, e1, q _ H (Same.refl H) (.flat rfl)⟩
  · cases e
end
end DL
namespace DL
open PySem PySem.Spec L2
open PyProof.Rows hiding St
noncomputable def tyName : D → String
  | .non => "NoneType"
  | .bl _ => "bool"
  | .int _ => "int"
  | .str _ => "str"
  | .tup _ => "tuple"
  | .lst _ => "list"
  | .dic _ => "dict"
  | .sht .. => ""
noncomputable def isiT (tn T : String) : Option Bool :=
  if tn = "" then none else if tn = T then some true else if tn = "bool" ∧ T = "int" then some true else if T = "int" ∨ T = "bool" ∨ T = "str" ∨ T = "tuple" ∨ T = "list" ∨ T = "dict" then some false else none
theorem isiT_ok {K : PySem.W.Frag} {d : D} {T : String} {b : Bool} (h : isiT (tyName d) T = some b) : PySem.W.kitOne K (.type (tyName d)) (.type T) = some b := by
  unfold isiT at h
  split at h
  · cases h
  rename_i n0
  split at h
  · rename_i e
    cases h
    rw [← e]
    unfold PySem.W.kitOne
    rw [if_pos (by simp)]
  · split at h
    · rename_i e
      cases h
      rw [e.1, e.2]
      rfl
    · split at h
      · rename_i n1 n2 e
        cases h
        rcases e with rfl | rfl | rfl | rfl | rfl | rfl <;> cases d <;> first | rfl | exact absurd rfl n0 | exact absurd rfl n1 | exact absurd ⟨rfl, rfl⟩ n2
      · cases h
section
variable {X : Cx} {pins : List (Addr × Obj)} {σ : St} {H : Hp} {s : Shared}
theorem isi_ok {x : V} {u : Value} {d : D} {T : String} {b : Bool} {Q : Value → Shared → Prop} {E : Value → Shared → Prop} (I : Inv X pins σ H s) (r : Rep X.K H x d) (rx : RelV x u) (e : isiT (tyName d) T = some b) (h : ∀ tk, Q (.bool b) { s with toks := tk }) :
    wpAny (model X.prog X.w) X.A (call (.builtin "isinstance") [u, .type T]) Q E s := by
  have e' := isiT_ok (K := X.K) e
  cases r with
  | sht _ h hl hd rs => cases e
  | non => cases rx; exact PySem.W.kia_one PySem.W.kitx_none I.kIn True.intro e' (fun z => nomatch z) h
  | bl c => cases rx; exact PySem.W.kia_one PySem.W.kitx_bool I.kIn True.intro e' (fun z => nomatch z) h
  | int c => obtain ⟨t, rfl⟩ := rx; exact PySem.W.kia_one PySem.W.kitx_int I.kIn True.intro e' (fun z => nomatch z) h
  | str c => obtain ⟨t, rfl⟩ := rx; exact PySem.W.kia_one PySem.W.kitx_str I.kIn True.intro e' (fun z => nomatch z) h
  | lst hs rs =>
    cases rx
    obtain ⟨_, _, ⟨o, n, e1, e2, _⟩, _⟩ := I.list hs
    exact PySem.W.kia_one PySem.W.kitx_list I.kIn ⟨o, e1, e2⟩ e' (fun z => nomatch z) h
  | tup hs rs =>
    cases rx
    obtain ⟨_, _, ⟨o, e1, e2, _⟩, _⟩ := I.tuple hs
    exact PySem.W.kia_one PySem.W.kitx_tuple I.kIn ⟨o, e1, e2⟩ e' (fun z => nomatch z) h
  | dic hd rs =>
    cases rx
    obtain ⟨_, _, vs, _, ob, es, ep, e1, c, _⟩ := (show aDu X.prog X.w H s.heap _ (.dK _) from I.hok _ _ hd)
    exact PySem.W.kia_one PySem.W.kitx_dict I.kIn ⟨ob, e1, c.1⟩ e' (fun z => nomatch z) h
end
noncomputable def rIsI (K : PySem.W.Frag) : List V → Hp → VK → Prop := fun xs H Q => ∃ x d T b, xs = [x, .ty T] ∧ Rep K H x d ∧ isiT (tyName d) T = some b ∧ Q (.bl b) H
section
variable {X : Cx} {e st : Expr} {te tst : TE} {p p2 pos : Pos}
theorem call_isi : CallR X (.builtin "isinstance") (rIsI X.K) := by
  intro pins s σ H xs us Q I r h
  obtain ⟨x, d, T, b, rfl, rd, eb, q⟩ := h
  obtain ⟨u, w', rfl, r1, r2⟩ := vals2 r
  cases r2
  exact isi_ok I rd r1 eb fun tk => ⟨.bl b, H, I.tok tk, rfl, q⟩
theorem den_isi {K : PySem.W.Frag} {T : String} {f : DEnv → Option D} (h : DenB K te f) : DenF K (tCB (rIsI K) (tCons te (tCons (tC (.ty T)) tNil))) (op1 f fun d => (isiT (tyName d) T).map .bl) := by
  intro σ H ε A d Q s e q
  obtain ⟨x, ex, e⟩ := op1_some e
  obtain ⟨b, eb, rfl⟩ := Option.map_eq_some_iff.mp e
  exact h σ H ε A x _ s ex fun v H1 s1 r => ⟨v, x, T, b, rfl, r.full, eb, q _ H1 s1 (.flat rfl)⟩
theorem mt_bitlen : MtR X "int.bit_length" (fun x xs H Q => ∃ i, x = .int i ∧ xs = [] ∧ Q (.int (Builtin.Int.intBits i)) H) := by
  intro pins s σ H x xs v us Q I rx r h
  obtain ⟨i, rfl, rfl, q⟩ := h
  obtain ⟨t, rfl⟩ := rx
  cases r
  exact call_meets PySem.F.slot_int_bit_length (typeIs_int s i t) PySem.F.entry_int_bit_length (PySem.F.args_int_bit_length_1 _) (AutoIntG2.int_bit_length_int_0 i t) ⟨.int _, H, I.tok _, ⟨_, rfl⟩, q⟩
noncomputable def gBitLen : D → Option D
  | .int i => some (.int (Builtin.Int.intBits i))
  | _ => none
theorem den_bitlen {K : PySem.W.Frag} {f : DEnv → Option D} (h : DenB K te f) : DenF K (tBM0 K "int" (fun x xs H Q => ∃ i, x = .int i ∧ xs = [] ∧ Q (.int (Builtin.Int.intBits i)) H) te) (op1 f gBitLen) := by
  intro σ H ε A d Q s e q
  obtain ⟨x, ex, e⟩ := op1_some e
  refine h σ H ε A x _ s ex fun v H1 s1 r => ?_
  unfold gBitLen at e
  split at e <;> cases e
  obtain rfl := r.flat rfl
  exact ⟨rfl, _, rfl, rfl, q _ H1 s1 (.flat rfl)⟩
end
end DL
namespace DL
open PySem PySem.Spec L2
open PyProof.Rows hiding St
noncomputable instance (i j : Int) : Decidable (CDiv i j) := inferInstanceAs (Decidable (0 < j ∧ j < 1073741824))
noncomputable instance (i j : Int) : Decidable (CPow i j) := inferInstanceAs (Decidable (0 ≤ j ∧ j ≤ 1000000 ∧ i.natAbs < 2 ^ 64))
noncomputable instance (i j : Int) : Decidable (CMul i j) := inferInstanceAs (Decidable ((-(2 ^ 64) < i ∧ i < 2 ^ 64) ∨ (-(2 ^ 64) < j ∧ j < 2 ^ 64)))
noncomputable def QB (X : Cx) (e : Expr) (f : DEnv → Option D) : Prop := ∃ t, PE X e t ∧ DenB X.K t f
noncomputable def QS (X : Cx) (e : Expr) (f : DEnv → Option D) : Prop := ∃ t, PE X e t ∧ DenS X.K t f
noncomputable def QF (X : Cx) (e : Expr) (f : DEnv → Option D) : Prop := ∃ t, PE X e t ∧ DenF X.K t f
noncomputable def QC (X : Cx) (e : Expr) (f : DEnv → Option Bool) : Prop := ∃ t, PT X e t ∧ DenC X.K t f
noncomputable def QW (X : Cx) (e : Expr) (f : DEnv → Option Bool) : Prop := ∃ t, PW X e t ∧ DenC X.K t f
noncomputable def QA (X : Cx) (es : List Expr) (f : DEnv → Option (List D)) : Prop := ∃ t, PA X es t ∧ DenA X.K t f
noncomputable def QAB (X : Cx) (es : List Expr) (f : DEnv → Option (List D)) : Prop := ∃ t, PA X es t ∧ DenAB X.K t f
noncomputable def QO (X : Cx) (e : Option Expr) (f : DEnv → Option (Option Int)) : Prop := ∃ t, PO X e t ∧ DenO X.K t f
noncomputable def QI (X : Cx) (tg e : Expr) (f : DEnv → Option (List D)) : Prop := ∃ t, PI X tg e t ∧ DenI X.K t f
noncomputable def QIS (X : Cx) (tg e : Expr) (f : DEnv → Option (List D)) : Prop := ∃ t, PI X tg e t ∧ DenIS X.K t f
noncomputable def QG (X : Cx) (tg : Expr) (f : D → DEnv → Option DEnv) : Prop := ∃ t, PG X tg t ∧ DenG X.K t f
noncomputable def QT (X : Cx) (st : Stmt) (F : DS) : Prop := ∃ t, PS X st t ∧ DenT X.K t F
noncomputable def QTs (X : Cx) (st : List Stmt) (F : DS) : Prop := ∃ t, PSs X st t ∧ DenT X.K t F
theorem QF.s {X : Cx} {e : Expr} {f : DEnv → Option D} (q : QF X e f) : QS X e f := let ⟨t, h1, h2⟩ := q; ⟨t, h1, h2.s⟩
theorem QS.b {X : Cx} {e : Expr} {f : DEnv → Option D} (q : QS X e f) : QB X e f := let ⟨t, h1, h2⟩ := q; ⟨t, h1, h2.b⟩
theorem QF.b {X : Cx} {e : Expr} {f : DEnv → Option D} (q : QF X e f) : QB X e f := q.s.b
theorem QIS.b {X : Cx} {e tg : Expr} {fa : DEnv → Option (List D)} (q : QIS X tg e fa) : QI X tg e fa := let ⟨t, h1, h2⟩ := q; ⟨t, h1, h2.b⟩
theorem QW.c {X : Cx} {e : Expr} {fc : DEnv → Option Bool} (q : QW X e fc) : QC X e fc := let ⟨t, h1, h2⟩ := q; ⟨t, h1.pt, h2⟩
noncomputable def tS (K : PySem.W.Frag) (f : DEnv → Option D) : TE := fun σ H Q => ∃ ε A d, SR K H σ ε A ∧ f ε = some d ∧ ∀ v H', Same H H' → Rep K (cut H' A) v d → Q v H'
noncomputable def tCt (K : PySem.W.Frag) (f : DEnv → Option Bool) : TT := fun σ H Q => ∃ ε A b, SR K H σ ε A ∧ f ε = some b ∧ ∀ H', Same H H' → Q b H'
noncomputable def tGt (K : PySem.W.Frag) (f : D → DEnv → Option DEnv) : TG := fun v σ H Q => ∃ ε A d ε', SR K H σ ε A ∧ Rep K (cut H A) v d ∧ f d ε = some ε' ∧ ∀ σ' H', Same H H' → SR K H' σ' ε' A → aFv σ ε σ' ε' → Q σ' H'
noncomputable def QCs (X : Cx) (ifs : List Expr) (f : DEnv → Option Bool) : Prop := ∃ t, PTs X ifs t ∧ DenC X.K t f
theorem QS.pe {X : Cx} {e : Expr} {f : DEnv → Option D} (q : QS X e f) : PE X e (tS X.K f) := fun pins s σ H Q I ⟨ε, A, d, sr, ed, k⟩ => let ⟨t, h1, h2⟩ := q; h1 pins s σ H Q I (h2 σ H ε A d Q sr ed k)
theorem QCs.pe {X : Cx} {e : List Expr} {f : DEnv → Option Bool} (q : QCs X e f) : PTs X e (tCt X.K f) := fun pins s σ H Q I ⟨ε, A, d, sr, ed, k⟩ => let ⟨t, h1, h2⟩ := q; h1 pins s σ H Q I (h2 σ H ε A d Q sr ed k)
theorem QG.pe {X : Cx} {e : Expr} {f : D → DEnv → Option DEnv} (q : QG X e f) : PG X e (tGt X.K f) := fun pins s σ H v u Q I r ⟨ε, A, d, ε', sr, rd, ed, k⟩ => let ⟨t, h1, h2⟩ := q; h1 pins s σ H v u Q I r (h2 v σ H ε A d ε' Q sr rd ed k)
theorem den_tS {K : PySem.W.Frag} {f : DEnv → Option D} : DenS K (tS K f) f := fun σ H ε A d Q s e q => ⟨ε, A, d, s, e, q⟩
theorem den_tC {K : PySem.W.Frag} {f : DEnv → Option Bool} : DenC K (tCt K f) f := fun σ H ε A d Q s e q => ⟨ε, A, d, s, e, q⟩
theorem den_tG {K : PySem.W.Frag} {f : D → DEnv → Option DEnv} : DenG K (tGt K f) f := fun v σ H ε A d ε' Q s r e q => ⟨ε, A, d, ε', s, r, e, q⟩
theorem cs_nil {X : Cx} : QCs X [] (fun _ => some true) := ⟨_, pts_nil, den_true⟩
theorem cs_one {X : Cx} {e : Expr} {f : DEnv → Option Bool} (q : QC X e f) : QCs X [e] f := let ⟨t, h1, h2⟩ := q; ⟨_, pts_one h1, h2⟩
section
variable {X : Cx} {a b c e : Expr} {es rest : List Expr} {f g h : DEnv → Option D} {fc gc : DEnv → Option Bool} {fa : DEnv → Option (List D)} {pos p p2 apos : Pos}
theorem aAc {i : Int} {j} : QF X (.Constant (.int i) j pos) (fun _ => some (.int i)) := ⟨_, pe_int, den_C rfl⟩
theorem q_bl {i : Bool} {j} : QF X (.Constant (.bool i) j pos) (fun _ => some (.bl i)) := ⟨_, pe_bl, den_C rfl⟩
theorem q_non {j} : QF X (.Constant .none j pos) (fun _ => some .non) := ⟨_, pe_non, den_C rfl⟩
theorem q_str {x : Str} {j} : QF X (.Constant (.str x) j pos) (fun _ => some (.str x)) := ⟨_, pe_str, den_C rfl⟩
theorem q_nB (i : Nat) {x : Str} (hN : X.N[i]? = some x := by rfl) (hv : Vis X.env.scope x := by first | exact Or.inl rfl | exact Or.inr (Or.inl rfl) | exact Or.inr (Or.inr rfl)) (hd : (x == ("__debug__" : Str)) = false := by decide)
    (hcd : (x == ("__classdict__" : Str)) = false := by decide) : QB X (.Name x pos) (vB i) := ⟨_, aHl hN hv hd hcd, den_vB i⟩
theorem q_nS (i : Nat) {x : Str} (hN : X.N[i]? = some x := by rfl) (hv : Vis X.env.scope x := by first | exact Or.inl rfl | exact Or.inr (Or.inl rfl) | exact Or.inr (Or.inr rfl)) (hd : (x == ("__debug__" : Str)) = false := by decide)
    (hcd : (x == ("__classdict__" : Str)) = false := by decide) : QS X (.Name x pos) (vS i) := ⟨_, aHl hN hv hd hcd, den_vS i⟩
theorem q_op {op : Operator} {r : R2} {k : D → D → Option D} (o : OpR X (binaryOp op) r) (d : aDv X.K r k) (qa : QB X a f) (qb : QB X b g) : QF X (.BinOp a op b pos) (op2 f g k) :=
  let ⟨ta, ha, da⟩ := qa; let ⟨tb, hb, db⟩ := qb; ⟨_, pe_op o ha hb, den_op d da db⟩
noncomputable def gAdd (x y : D) : Option D := (gI0 (fun i j => .int (i + j)) x y).or ((gStrCat x y).or ((gCat x y).or (gCatT x y)))
theorem q_add (qa : QB X a f) (qb : QB X b g) : QF X (.BinOp a .Add b pos) (op2 f g gAdd) :=
  q_op (op_add.or (op_add_str.or (op_catK.or op_catTK))) ((opd_I0 fun _ _ => rfl).or (opd_strcat.or (opd_cat.or opd_catT))) qa qb
noncomputable def gSub : D → D → Option D := gI0 fun i j => .int (i - j)
theorem q_sub (qa : QB X a f) (qb : QB X b g) : QF X (.BinOp a .Sub b pos) (op2 f g gSub) := q_op op_sub (opd_I0 fun _ _ => rfl) qa qb
noncomputable def gMul : D → D → Option D := gI CMul fun i j => .int (i * j)
theorem q_mul (qa : QB X a f) (qb : QB X b g) : QF X (.BinOp a .Mult b pos) (op2 f g gMul) := q_op op_mul (opd_I fun _ _ => rfl) qa qb
noncomputable def gFDiv : D → D → Option D := gI CDiv fun i j => .int (i / j)
theorem q_fdiv (qa : QB X a f) (qb : QB X b g) : QF X (.BinOp a .FloorDiv b pos) (op2 f g gFDiv) := q_op op_fdiv (opd_I fun _ _ => rfl) qa qb
noncomputable def gMod : D → D → Option D := gI (fun _ j => 0 < j) fun i j => .int (i % j)
theorem aHp (qa : QB X a f) (qb : QB X b g) : QF X (.BinOp a .Mod b pos) (op2 f g gMod) := q_op op_mod (opd_I fun _ _ => rfl) qa qb
noncomputable def gShl : D → D → Option D := gI CPow fun i j => .int (i * 2 ^ j.toNat)
theorem q_shl (qa : QB X a f) (qb : QB X b g) : QF X (.BinOp a .LShift b pos) (op2 f g gShl) := q_op op_shl (opd_I fun _ _ => rfl) qa qb
noncomputable def gShr : D → D → Option D := gI (fun _ j => 0 ≤ j) fun i j => .int (i / 2 ^ j.toNat)
theorem aFz (qa : QB X a f) (qb : QB X b g) : QF X (.BinOp a .RShift b pos) (op2 f g gShr) := q_op op_shr (opd_I fun _ _ => rfl) qa qb
noncomputable def gAnd : D → D → Option D := gI0 fun i j => .int (Builtin.bitAnd i j)
theorem aCh (qa : QB X a f) (qb : QB X b g) : QF X (.BinOp a .BitAnd b pos) (op2 f g gAnd) := q_op op_and (opd_I0 fun _ _ => rfl) qa qb
noncomputable def gOr : D → D → Option D := gI0 fun i j => .int (Builtin.bitOr i j)
theorem q_bor (qa : QB X a f) (qb : QB X b g) : QF X (.BinOp a .BitOr b pos) (op2 f g gOr) := q_op op_or (opd_I0 fun _ _ => rfl) qa qb
noncomputable def gNeg : D → Option D := gU fun i => .int (-i)
theorem q_neg (qa : QB X a f) : QF X (.UnaryOp .USub a pos) (op1 f gNeg) := let ⟨ta, ha, da⟩ := qa; ⟨_, pe_un un_neg ha, den_un (und_U fun _ => rfl) da⟩
theorem q_cmp {op : CmpOp} {r : R2} {k : D → D → Option D} (o : OpR X (compareOp op) r) (d : aDv X.K r k) (qa : QB X a f) (qb : QB X b g) (hm : behindInMarks op b = false) : QF X (.Compare a [op] [b] pos) (op2 f g k) :=
  let ⟨ta, ha, da⟩ := qa; let ⟨tb, hb, db⟩ := qb; ⟨_, pe_cmpR o ha hb hm, den_op d da db⟩
theorem aBc {op : CmpOp} {r : R2} {k : D → D → Option D} (o : OpR X (compareOp op) r) (d : aDv X.K r k) (qa : QB X a f) (qb : QB X b g) (hm : behindInMarks op b = false) : QC X (.Compare a [op] [b] pos) (fun ε => (op2 f g k ε).bind toB) :=
  let ⟨ta, ha, da⟩ := qa; let ⟨tb, hb, db⟩ := qb; ⟨_, pt_cmpR o ha hb hm, den_test (den_op d da db).b⟩
noncomputable abbrev eqDepth : Nat := 5
noncomputable def gEqA (neg : Bool) (x y : D) : Option D := (gEq neg x y).or (gEqD eqDepth neg x y)
theorem aAy {k : Nat} (hr : Room k X.A) : OpR X (compareOp .Eq) (fun x y H Q => rEq x y H Q ∨ rEqD X.K eqDepth false x y H Q) :=
  op_eq.or (op_eqD (n := eqDepth) (by have := hr.un; show X.A.units + 5 + 1 < cLine; omega) false)
theorem aEy {k : Nat} (hr : Room k X.A) : OpR X (compareOp .NotEq) (fun x y H Q => rNe x y H Q ∨ rEqD X.K eqDepth true x y H Q) :=
  op_ne.or (op_eqD (n := eqDepth) (by have := hr.un; show X.A.units + 5 + 1 < cLine; omega) true)
theorem aAz {K : PySem.W.Frag} : aDv K (fun x y H Q => rEq x y H Q ∨ rEqD K eqDepth false x y H Q) (gEqA false) := opd_eq.or opd_eqD
theorem aEz {K : PySem.W.Frag} : aDv K (fun x y H Q => rNe x y H Q ∨ rEqD K eqDepth true x y H Q) (gEqA true) := opd_ne.or opd_eqD
noncomputable def gLt : D → D → Option D := gI0 fun i j => .bl (decide (i < j))
noncomputable def gLe : D → D → Option D := gI0 fun i j => .bl (decide (i ≤ j))
noncomputable def gGt : D → D → Option D := gI0 fun i j => .bl (decide (j < i))
noncomputable def gGe : D → D → Option D := gI0 fun i j => .bl (decide (j ≤ i))
theorem den_lt {K : PySem.W.Frag} : aDv K (rI0 fun i j => .bl (decide (i < j))) gLt := opd_I0 fun _ _ => rfl
theorem den_le {K : PySem.W.Frag} : aDv K (rI0 fun i j => .bl (decide (i ≤ j))) gLe := opd_I0 fun _ _ => rfl
theorem den_gt {K : PySem.W.Frag} : aDv K (rI0 fun i j => .bl (decide (j < i))) gGt := opd_I0 fun _ _ => rfl
theorem den_ge {K : PySem.W.Frag} : aDv K (rI0 fun i j => .bl (decide (j ≤ i))) gGe := opd_I0 fun _ _ => rfl
theorem q_chain {op op' : CmpOp} {r r' : R2} {k k' : D → D → Option D} (o : OpR X (compareOp op) r) (d : aDv X.K r k) (o' : OpR X (compareOp op') r') (d' : aDv X.K r' k') (qa : QB X a f) (qb : QB X b g) (qc : QB X c h)
    (hm : lastMarks [op, op'] [b, c] = false := by with_unfolding_all rfl) : QF X (.Compare a [op, op'] [b, c] pos) (vChain f g h k k') :=
  let ⟨ta, ha, da⟩ := qa; let ⟨tb, hb, db⟩ := qb; let ⟨tc, hc, dc⟩ := qc; ⟨_, pe_chain o o' ha hb hc hm, den_chain d d' da db dc⟩
theorem aBw (qa : QB X a f) (he : ∀ whole, isTrue a X.env whole = (do let v ← whole; standAt a.pos; holding [v] (truthy v)) := by intro _; rfl) : QC X a (fun ε => (f ε).bind truD) :=
  let ⟨ta, ha, da⟩ := qa; ⟨_, pt_truth ha he, den_truth da⟩
theorem c_not (qa : QC X a fc) : QC X (.UnaryOp .Not a pos) (cNot fc) := let ⟨ta, ha, da⟩ := qa; ⟨_, pt_not ha, den_not da⟩
theorem aHq (qa : QC X a fc) : QW X (.BoolOp .And [a] pos) fc := let ⟨ta, ha, da⟩ := qa; ⟨_, pw_and1 ha, da⟩
theorem w_or1 (qa : QC X a fc) : QW X (.BoolOp .Or [a] pos) fc := let ⟨ta, ha, da⟩ := qa; ⟨_, pw_or1 ha, da⟩
theorem aGp (qa : QC X a fc) (qb : QW X (.BoolOp .And (b :: rest) pos) gc) : QW X (.BoolOp .And (a :: b :: rest) pos) (cAnd fc gc) := let ⟨ta, ha, da⟩ := qa; let ⟨tb, hb, db⟩ := qb; ⟨_, pw_and ha hb, den_and da db⟩
theorem w_or (qa : QC X a fc) (qb : QW X (.BoolOp .Or (b :: rest) pos) gc) : QW X (.BoolOp .Or (a :: b :: rest) pos) (cOr fc gc) := let ⟨ta, ha, da⟩ := qa; let ⟨tb, hb, db⟩ := qb; ⟨_, pw_or ha hb, den_or da db⟩
theorem q_one {op} (qa : QS X a f) : QS X (.BoolOp op [a] pos) f := let ⟨ta, ha, da⟩ := qa; ⟨_, pe_one ha, da⟩
theorem q_and (qa : QB X a f) (qb : QS X (.BoolOp .And (b :: rest) pos) g) : QS X (.BoolOp .And (a :: b :: rest) pos) (vAnd f g) := let ⟨ta, ha, da⟩ := qa; let ⟨tb, hb, db⟩ := qb; ⟨_, pe_and ha hb, den_vAnd da db⟩
theorem q_not (qa : QB X a f) : QF X (.UnaryOp .Not a pos) (vNot f) := let ⟨ta, ha, da⟩ := qa; ⟨_, pe_not ha, den_vNot da⟩
theorem q_ife (qc : QC X c fc) (qa : QS X a f) (qb : QS X b g) : QS X (.IfExp c a b pos) (vIf fc f g) := let ⟨tc, hc, dc⟩ := qc; let ⟨ta, ha, da⟩ := qa; let ⟨tb, hb, db⟩ := qb; ⟨_, pe_ifExp hc ha hb, den_if dc da db⟩
theorem aBn : QA X [] aNil := ⟨_, pa_nil, den_aNil⟩
theorem aAe (q : QS X e f) (qr : QA X es fa) (hs : starEach (e :: es) X.env = (false, eval e X.env) :: starEach es X.env := by rfl) : QA X (e :: es) (aAb f fa) := let ⟨t, h1, d1⟩ := q; let ⟨u, h2, d2⟩ := qr; ⟨_, aEw h1 h2 hs, den_aCons d1 d2⟩
theorem aAm : QAB X [] aNil := ⟨_, pa_nil, den_bNil⟩
theorem aAd (q : QB X e f) (qr : QAB X es fa) (hs : starEach (e :: es) X.env = (false, eval e X.env) :: starEach es X.env := by rfl) : QAB X (e :: es) (aAb f fa) := let ⟨t, h1, d1⟩ := q; let ⟨u, h2, d2⟩ := qr; ⟨_, aEw h1 h2 hs, den_bCons d1 d2⟩
theorem q_lst (q : QA X es fa) : QF X (.List es pos) (mkL fa) := let ⟨t, h1, d1⟩ := q; ⟨_, pe_lst h1, den_lst d1⟩
theorem q_tup {x1} (q : QA X es fa) : QF X (.Tuple es x1 pos) (mkT fa) := let ⟨t, h1, d1⟩ := q; ⟨_, pe_tup h1, den_tup d1⟩
theorem q_bi {x : Str} {id : String} {r : List V → Hp → VK → Prop} {k : List D → Option D} (cr : CallR X (.builtin id) r) (d : aFu X.K r k) (hg : Gl X x) (hm : X.mg x = none) (hv : bootBuiltins x = some (.builtin id)) (q : QAB X (e :: es) fa)
    (hn : x ≠ "__name__" := by decide) (hdb : (x == ("__debug__" : Str)) = false := by decide)
    (he : starEach (e :: es) X.env = (false, eval e X.env) :: starEach es X.env := by rfl) (hpl : (backTo pos (starEach es X.env)).any (·.1) = false := by rfl) : QF X (.Call (.Name x p) (e :: es) [] pos) (cb fa k) :=
  let ⟨t, h1, d1⟩ := q; ⟨_, pe_callB cr hg hm hv h1 hn hdb he hpl, den_cb d d1⟩
theorem q_ty {x : Str} {T : String} {r : List V → Hp → VK → Prop} {k : List D → Option D} (cr : CallR X (.type T) r) (d : aFu X.K r k) (hg : Gl X x) (hm : X.mg x = none) (hv : bootBuiltins x = some (.type T)) (q : QAB X (e :: es) fa)
    (hn : x ≠ "__name__" := by decide) (hdb : (x == ("__debug__" : Str)) = false := by decide)
    (he : starEach (e :: es) X.env = (false, eval e X.env) :: starEach es X.env := by rfl) (hpl : (backTo pos (starEach es X.env)).any (·.1) = false := by rfl) : QF X (.Call (.Name x p) (e :: es) [] pos) (cb fa k) :=
  let ⟨t, h1, d1⟩ := q; ⟨_, pe_callTy cr hg hm hv h1 hn hdb he hpl, den_cb d d1⟩
theorem q_isi {x : Str} {T : String} (hg : Gl X "isinstance") (hm : X.mg "isinstance" = none) (hgT : Gl X x) (hmT : X.mg x = none) (hvT : bootBuiltins x = some (.type T)) (q : QB X e f) (hv : bootBuiltins "isinstance" = some (.builtin "isinstance") := by first | exact boot_isinstance | rfl)
    (hn : x ≠ "__name__" := by decide) (hdb : (x == ("__debug__" : Str)) = false := by decide)
    (he : starEach [e, .Name x p2] X.env = (false, eval e X.env) :: starEach [.Name x p2] X.env := by rfl) (he2 : starEach [.Name x p2] X.env = [(false, eval (.Name x p2) X.env)] := by rfl) (hpl : (backTo pos (starEach [.Name x p2] X.env)).any (·.1) = false := by rfl) :
    QF X (.Call (.Name "isinstance" p) [e, .Name x p2] [] pos) (op1 f fun d => (isiT (tyName d) T).map .bl) :=
  let ⟨t, h1, d1⟩ := q; ⟨_, pe_callB call_isi hg hm hv (aEw h1 (aEw (pe_bltn (v := .ty T) hgT hmT hvT rfl hn hdb) pa_nil he2) he) (by decide) (by decide) he hpl, den_isi d1⟩
theorem q_ix (qa : QB X a f) (qb : QB X b g) (hs : PlainIx b := by intro _ _; rfl) : QS X (.Subscript a b pos) (op2 f g fun x y => (gIxL x y).or ((gIxT x y).or (gIxS x y))) :=
  let ⟨ta, ha, da⟩ := qa; let ⟨tb, hb, db⟩ := qb; ⟨_, pe_ix ix_seq ha hb hs, den_opS opd_ix da db⟩
theorem o_none : QO X none oNone := ⟨_, po_none, den_oNone⟩
theorem o_some (q : QB X e f) : QO X (some e) (oSome f) := let ⟨t, h1, d1⟩ := q; ⟨_, po_some h1, den_oSome d1⟩
theorem q_slL {lo hi : Option Expr} {fl fh : DEnv → Option (Option Int)} (qa : QB X a f) (ql : QO X lo fl) (qh : QO X hi fh) : QF X (.Subscript a (.Slice lo hi none p2) pos) (slD f fl fh gSlL) :=
  let ⟨ta, ha, da⟩ := qa; let ⟨tl, hl, dl⟩ := ql; let ⟨th, hh, dh⟩ := qh; ⟨_, pe_slice sl_list ha hl hh, den_sl sld_L da dl dh⟩
theorem q_bitlen (qa : QB X a f) (hbase : attributeBase a "bit_length" X.env (eval a X.env) = eval a X.env := by rfl) (hline : (apos.endLine == pos.line) = true := by rfl) : QF X (.Call (.Attribute a "bit_length" apos) [] [] pos) (op1 f gBitLen) :=
  let ⟨ta, ha, da⟩ := qa; ⟨_, pe_bm0 PySem.F.plainAttrs_int PySem.F.slot_int_bit_length PySem.F.type_int_bit_length mt_bitlen ha hbase hline, den_bitlen da⟩
theorem aFa {tg : Expr} (hg : Gl X "range") (hm : X.mg "range" = none) (q : QAB X [a] fa) (hs : starEach [a] X.env = [(false, eval a X.env)] := by rfl) : QIS X tg (.Call (.Name "range" p) [a] [] pos) (fun ε => (fa ε).bind rng1) :=
  let ⟨t, h1, d1⟩ := q; ⟨_, pi_range1 hg hm h1 hs, den_iRng1 d1⟩
theorem aBx (i : Nat) {x : Str} (hN : X.N.Nodup) (hi : X.N[i]? = some x := by rfl) (hx : Loc X.env.scope x := by first | exact Or.inl rfl | exact Or.inr rfl)
    (hf : X.fn x = true ∨ X.env.scope.names.lookup x = some .local := by first | exact .inl rfl | exact .inr rfl) : QG X (.Name x pos) (tgN i) := ⟨_, pg_name hN hi hx hf, den_gName i⟩
theorem q_comp {tg elt iter : Expr} {ifs : List Expr} {scope : Scope} {cl : List (Str × Addr)} {N' : List Str} {js : List (Option Nat)} {fi : DEnv → Option (List D)} {ft : D → DEnv → Option DEnv} {fe : DEnv → Option D}
    (hx : X.xe = fun _ _ => False) (hc : X.calm = true) (O : CompOk X scope cl N' js) (hj : capOk js) (qi : QI X tg iter fi)
    (hb : ∀ fp s₀ H₀ pins, QG (aCp X scope cl N' pins fp s₀ H₀) tg ft ∧ QCs (aCp X scope cl N' pins fp s₀ H₀) ifs fc ∧ QS (aCp X scope cl N' pins fp s₀ H₀) elt fe)
    (hs : ∀ x, foldedSetIterable iter X.env x = pure x := by intro _; rfl) : QF X (.ListComp elt [⟨tg, iter, ifs, 0⟩] scope pos) (compD js fi ft fc fe) :=
  let ⟨ti, hi, di⟩ := qi; ⟨_, pe_comp hx hc O hi (fun fp s₀ H₀ pins => ⟨(hb fp s₀ H₀ pins).1.pe, (hb fp s₀ H₀ pins).2.1.pe, (hb fp s₀ H₀ pins).2.2.pe⟩) hs, den_comp hj di den_tG den_tC den_tS⟩
variable {st : Stmt} {sts body orelse : List Stmt} {F G : DS}
theorem aDa : QTs X [] sNil := ⟨_, pss_nil, den_nil⟩
theorem aAf (q : QT X st F) (qr : QTs X sts G) : QTs X (st :: sts) (sSeq F G) := let ⟨t, h1, d1⟩ := q; let ⟨u, h2, d2⟩ := qr; ⟨_, pss_cons h1 h2, den_seq d1 d2⟩
theorem aAv (q : QT X st F) : QTs X [st] F := let ⟨t, h1, d1⟩ := q; ⟨_, pss_one h1, d1⟩
theorem s_pub (is : List Nat) (q : QT X st F) : QT X st (sPub is F) := let ⟨t, h1, d1⟩ := q; ⟨_, h1, den_pub is d1⟩
theorem s_if (q : QC X c fc) (q1 : QTs X body F) (q2 : QTs X orelse G) : QT X (.If c body orelse pos) (sIf fc F G) := let ⟨t, h1, d1⟩ := q; let ⟨u, h2, d2⟩ := q1; let ⟨v, h3, d3⟩ := q2; ⟨_, ps_if h1 h2 h3, den_ifS d1 d2 d3⟩
theorem aBp (q : QF X e f) : QT X (.Return (some e) pos) (aCn f) := let ⟨t, h1, d1⟩ := q; ⟨_, ps_ret h1, den_retF d1⟩
theorem s_retS (q : QS X e f) : QT X (.Return (some e) pos) (sRetS f) := let ⟨t, h1, d1⟩ := q; ⟨_, ps_ret h1, den_retS d1⟩
theorem s_retV (i : Nat) {x : Str} (hN : X.N[i]? = some x := by rfl) (hv : Vis X.env.scope x := by first | exact Or.inl rfl | exact Or.inr (Or.inl rfl) | exact Or.inr (Or.inr rfl)) (hd : (x == ("__debug__" : Str)) = false := by decide)
    (hcd : (x == ("__classdict__" : Str)) = false := by decide) : QT X (.Return (some (.Name x p)) pos) (sRetV i) := ⟨_, ps_ret (aHl hN hv hd hcd), den_retV i⟩
theorem aBe (i : Nat) {x : Str} {pos' : Pos} (hN : X.N.Nodup) (q : QF X e f) (hi : X.N[i]? = some x := by rfl) (hx : Loc X.env.scope x := by first | exact Or.inl rfl | exact Or.inr rfl) (hs : swapsWith e (some (.Name x pos')) pos.line X.env = pure false := by rfl)
    (hf : X.fn x = true ∨ X.env.scope.names.lookup x = some .local := by first | exact .inl rfl | exact .inr rfl) : QT X (.Assign [.Name x pos'] e pos) (aBk i f) := let ⟨t, h1, d1⟩ := q; ⟨_, ps_set hN hi hx h1 hs hf, den_asgF d1⟩
theorem s_asgS (i : Nat) {x : Str} {pos' : Pos} (hN : X.N.Nodup) (q : QS X e f) (hi : X.N[i]? = some x := by rfl) (hx : Loc X.env.scope x := by first | exact Or.inl rfl | exact Or.inr rfl) (hs : swapsWith e (some (.Name x pos')) pos.line X.env = pure false := by rfl)
    (hf : X.fn x = true ∨ X.env.scope.names.lookup x = some .local := by first | exact .inl rfl | exact .inr rfl) : QT X (.Assign [.Name x pos'] e pos) (sAsgS i f) := let ⟨t, h1, d1⟩ := q; ⟨_, ps_set hN hi hx h1 hs hf, den_asgS d1⟩
theorem s_comp (i : Nat) {y : Str} {py spos : Pos} {tg elt iter : Expr} {ifs : List Expr} {scope : Scope} {cl : List (Str × Addr)} {N' : List Str} {js : List (Option Nat)} {fi : DEnv → Option (List D)} {ft : D → DEnv → Option DEnv} {fe : DEnv → Option D}
    (hx : X.xe = fun _ _ => False) (hc : X.calm = true) (O : CompOk X scope cl N' js) (hj : capOk js) (qi : QI X tg iter fi)
    (hb : ∀ fp s₀ H₀ pins, QG (aCp X scope cl N' pins fp s₀ H₀) tg ft ∧ QCs (aCp X scope cl N' pins fp s₀ H₀) ifs fc ∧ QS (aCp X scope cl N' pins fp s₀ H₀) elt fe)
    (hN : X.N.Nodup) (hiN : X.N[i]? = some y := by rfl) (hy : X.env.scope.names.lookup y = some .local := by rfl)
    (hsw : swapsWith (.ListComp elt [⟨tg, iter, ifs, 0⟩] scope pos) (some (.Name y py)) spos.line X.env = pure true := by rfl)
    (hs : ∀ x, foldedSetIterable iter X.env x = pure x := by intro _; rfl) : QT X (.Assign [.Name y py] (.ListComp elt [⟨tg, iter, ifs, 0⟩] scope pos) spos) (aBk i (compD js fi ft fc fe)) :=
  let ⟨ti, hi, di⟩ := qi; ⟨_, ps_comp hx hc O hi (fun fp s₀ H₀ pins => ⟨(hb fp s₀ H₀ pins).1.pe, (hb fp s₀ H₀ pins).2.1.pe, (hb fp s₀ H₀ pins).2.2.pe⟩) hN hiN hy hsw hs, den_asgF (den_comp hj di den_tG den_tC den_tS)⟩
theorem s_app (i : Nat) {x : Str} {pos' : Pos} (q : QS X e f) (hN : X.N[i]? = some x := by rfl) (hv : Vis X.env.scope x := by first | exact Or.inl rfl | exact Or.inr (Or.inl rfl) | exact Or.inr (Or.inr rfl)) (hd : (x == ("__debug__" : Str)) = false := by decide)
    (hcd : (x == ("__classdict__" : Str)) = false := by decide) (hbase : attributeBase (.Name x p) "append" X.env (eval (.Name x p) X.env) = eval (.Name x p) X.env := by rfl)
    (hfew : ((backTo pos' (starEach [e] X.env)).all (fun x => !x.1) && (backToKw pos' (keywordEach [] X.env)).all (fun x => x.1.isSome) && decide (([e] : List Expr).length + ([] : List Keyword).length + (if ([] : List Keyword).isEmpty then 0 else 1) < 30)) = true := by rfl)
    (hline : (apos.endLine == pos'.line) = true := by rfl) (hs : starEach [e] X.env = (false, eval e X.env) :: starEach [] X.env := by rfl) (hplain : (backTo pos' (starEach [] X.env)).any (·.1) = false := by rfl)
    (hsw : swapsWith (.Call (.Attribute (.Name x p) "append" apos) [e] [] pos') none pos.line X.env = pure false := by rfl) :
    QT X (.Expr (.Call (.Attribute (.Name x p) "append" apos) [e] [] pos') pos) (sApp i f) :=
  let ⟨t, h1, d1⟩ := q; ⟨_, ps_expr (pe_bm PySem.F.plainAttrs_list PySem.F.slot_list_append PySem.F.type_list_append mt_append (aHl hN hv hd hcd) (aEw h1 pa_nil hs) hbase hfew hline hs hplain) hsw, den_app d1⟩
theorem s_for {tg iter : Expr} {fi : DEnv → Option (List D)} {ft : D → DEnv → Option DEnv} (hx : X.xe = fun _ _ => False) (hc : X.calm = true) (qi : QIS X tg iter fi) (qg : QG X tg ft) (qb : QTs X body F)
    (hs : ∀ x, foldedSetIterable iter X.env x = pure x := by intro _; rfl) : QT X (.For tg iter body [] pos) (sFor fi ft F) :=
  let ⟨ti, hi, di⟩ := qi; let ⟨tg, hg, dg⟩ := qg; let ⟨tb, hb, db⟩ := qb; ⟨_, ps_for (by rw [hx]; exact PassesOwn.never) hc hi hg hb hs, den_for di dg db⟩
theorem s_while (n : Nat) (hx : X.xe = fun _ _ => False) (qc : QC X c fc) (qb : QTs X body F) : QT X (.While c body [] pos) (sWhile n fc F) :=
  let ⟨tc, hc, dc⟩ := qc; let ⟨tb, hb, db⟩ := qb; ⟨_, ps_while (by rw [hx]; exact PassesOwn.never) hc hb, den_while n dc db⟩
end
noncomputable def Cal (P : Program) (w : World) (K : PySem.W.Frag) (mg : Str → Option Value) (base : Heap) (x : Str) (k n : Nat) (g : List D → Option (Bool × D)) : Prop :=
  ∃ f fd ps, ps.length = n ∧ mg x = some (.ref f) ∧ PySem.W.keepIn K (.ref f) = true ∧ aBf K fd ps [] ∧ FnOk P w K mg base CX0 k f fd ps (spD K n g)
theorem Cal.mono {P : Program} {w : World} {K : PySem.W.Frag} {mg : Str → Option Value} {base : Heap} {x : Str} {j k n : Nat} {g : List D → Option (Bool × D)} (c : Cal P w K mg base x j n g) (h : j ≤ k) : Cal P w K mg base x k n g :=
  let ⟨f, fd, ps, a1, a2, a3, a4, a5⟩ := c; ⟨f, fd, ps, a1, a2, a3, a4, a5.mono h⟩
noncomputable def ar (n : Nat) (g : List D → Option (Bool × D)) (ds : List D) : Option (Bool × D) := if ds.length = n then g ds else none
theorem ar_len {n : Nat} {g : List D → Option (Bool × D)} {ds : List D} {r : Bool × D} (h : ar n g ds = some r) : ds.length = n := by
  unfold ar at h
  split at h
  · assumption
  · cases h
section
variable {X : Cx} {e : Expr} {es : List Expr} {fa : DEnv → Option (List D)} {pos p : Pos} {x : Str} {k n : Nat} {g : List D → Option (Bool × D)}
theorem aGq {P : Program} {w : World} {K : PySem.W.Frag} {mg : Str → Option Value} {base : Heap} (c : Cal P w K mg base x k n (ar n g)) (hr : Room k X.A) (hx : X.xe = fun _ _ => False) (hg : Gl X x) (q : QA X (e :: es) fa) (hdb : (x == ("__debug__" : Str)) = false := by decide)
    (he : starEach (e :: es) X.env = (false, eval e X.env) :: starEach es X.env := by rfl) (hpl : (backTo pos (starEach es X.env)).any (·.1) = false := by rfl) (e1 : X.prog = P := by rfl) (e2 : X.w = w := by rfl) (e3 : X.K = K := by rfl) (e4 : X.mg = mg := by rfl) (e5 : X.base = base := by rfl) : QS X (.Call (.Name x p) (e :: es) [] pos) (callS (ar n g) [] fa) := by
  subst e1 e2 e3 e4 e5
  obtain ⟨f, fd, ps, a1, a2, a3, a4, a5⟩ := c
  obtain ⟨t, h1, d1⟩ := q
  exact ⟨_, pe_callF a5 hr hg a2 a3 a4 .nil (fun _ _ _ _ _ _ _ z => z.elim) h1 hdb he hpl, den_callS (E := E0) .nil (fun _ _ z => ar_len z) d1⟩
end
theorem aDj {P : Program} {w : World} {K : PySem.W.Frag} {mg : Str → Option Value} {base : Heap} {x : Str} {st : Stmt} {f : Addr} {fd : FuncData} {N ps : List Str} {k n : Nat} {F : DS} (U : Fun K x x st f fd) (hm : mg x = some (.ref f)) (S : FnScope N ps (aAa st)) (hn : ps.length = n) (hb : aBf K fd ps [])
    (body : ∀ (cdv : Value) (A : Around) (outer : List Env) (s : Shared) (H : Hp) (E : XK), Room k (A.deeper (envOfC x (aAa st) s.heap.objs.size f cdv)) → QTs (cxOf CX0 P w K mg base N x (aAa st) f cdv A outer s H E).nox (aAk st) F) :
    Cal P w K mg base x (k + 1) n (ar n (fnD N.length F)) := by
  refine ⟨f, fd, ps, hn, hm, U.kp, hb, U.ok S (fun vs H Q E ⟨ds, fr, d, h1, _⟩ => by rw [hn]; exact h1) fun cdv A outer s H vs Q E hr hsp => ?_⟩
  obtain ⟨t, h1, h2⟩ := body cdv A outer s H E hr
  refine ⟨t, h1, body_ok (n := n) (E := E) h2 ?_⟩
  obtain ⟨ds, fr, d, q1, q2, q3, q4⟩ := hsp
  refine ⟨ds, fr, d, q1, q2, ?_, q4⟩
  unfold ar at q3
  split at q3
  · exact q3
  · cases q3
noncomputable def compChk (N : List Str) (sc scope : Scope) (N' : List Str) (js : List (Option Nat)) : Bool :=
  (scope.kind == .function) && scope.names.all (fun y => !(y.2 == .cell)) && scope.names.all (fun y => !(y.2 == .local) || (scope.names.lookup y.1 == some .local)) && (js.length == N'.length)
  && (List.range js.length).all (fun i => match js[i]? with | some (some k) => (N'[i]? == N[k]?) && (match N'[i]? with | some x => (scope.names.lookup x == some .free) && ((sc.names.lookup x == some .cell) || (sc.names.lookup x == some .free)) | none => false) | _ => true)
theorem aGr {X : Cx} {scope : Scope} {N' : List Str} {js : List (Option Nat)} (h : compChk X.N X.env.scope scope N' js = true) (hc : (scope.names.all fun y => !(y.2 == .free) || (X.env.cells.lookup y.1).isSome) = true) :
    CompOk X scope (clOf scope.names X.env.cells []) N' js := by
  unfold compChk at h
  simp only [Bool.and_eq_true] at h
  obtain ⟨⟨⟨⟨h1, h2⟩, h3⟩, h4⟩, h5⟩ := h
  have hcl : ∀ y ∈ scope.names, y.2 = .free → ∃ c, X.env.cells.lookup y.1 = some c := fun y hy hk => by
    have z := List.all_eq_true.mp hc y hy
    rw [hk] at z
    exact Option.isSome_iff_exists.mp (by simpa using z)
  obtain ⟨c1, c2⟩ := clOf_spec (cells := X.env.cells) scope.names [] hcl (fun x c z => by cases z)
  have each : ∀ (i k : Nat), js[i]? = some (some k) → N'[i]? = X.N[k]? ∧ ∀ x, N'[i]? = some x → scope.names.lookup x = some .free ∧ (X.env.scope.names.lookup x = some .cell ∨ X.env.scope.names.lookup x = some .free) := fun i k hk => by
    have hi : i < js.length := by
      by_cases z : i < js.length
      · exact z
      · rw [List.getElem?_eq_none (by omega)] at hk; cases hk
    have z := List.all_eq_true.mp h5 i (List.mem_range.mpr hi)
    rw [hk] at z
    simp only [Bool.and_eq_true] at z
    obtain ⟨z1, z2⟩ := z
    refine ⟨by simpa using z1, fun x hx => ?_⟩
    rw [hx] at z2
    simp only [Bool.and_eq_true, Bool.or_eq_true] at z2
    exact ⟨by simpa using z2.1, z2.2.elim (fun q => .inl (by simpa using q)) fun q => .inr (by simpa using q)⟩
  refine ⟨by simpa using h1, fun y hy z => ?_, fun y hy z => ?_, closure_of hcl, c1, fun x hx => ?_, by simpa using h4, fun i k hk => (each i k hk).1, fun i k x hk hx => (each i k hk).2 x hx⟩
  · have q := List.all_eq_true.mp h2 y hy
    rw [z] at q; simp at q
  · have q := List.all_eq_true.mp h3 y hy
    rw [z] at q; simpa using q
  · exact Option.isSome_iff_exists.mp (c2 x (.inr ⟨(x, .free), mem_of_lk hx, rfl, rfl⟩))
theorem cap_ok {js : List (Option Nat)} (h : ((List.range js.length).all fun i => (List.range js.length).all fun j => (js[i]? != js[j]?) || (i == j) || (js[i]? == some none)) = true) : capOk js := by
  intro i j k hi hj
  have li : i < js.length := by
    by_cases z : i < js.length
    · exact z
    · rw [List.getElem?_eq_none (by omega)] at hi; cases hi
  have lj : j < js.length := by
    by_cases z : j < js.length
    · exact z
    · rw [List.getElem?_eq_none (by omega)] at hj; cases hj
  have z := List.all_eq_true.mp (List.all_eq_true.mp h i (List.mem_range.mpr li)) j (List.mem_range.mpr lj)
  rw [hi, hj] at z
  simpa using z
end DL
namespace DL
open PySem PySem.Spec L2
open PyProof.Rows hiding St
noncomputable def cB (f : DEnv → Option D) (ε : DEnv) : Option Bool := (f ε).bind toB
noncomputable def cT (f : DEnv → Option D) (ε : DEnv) : Option Bool := (f ε).bind truD
noncomputable def cTrue (_ : DEnv) : Option Bool := some true
noncomputable def iR1 (f : DEnv → Option (List D)) (ε : DEnv) : Option (List D) := (f ε).bind rng1
noncomputable def gIxA (x y : D) : Option D := (gIxL x y).or ((gIxT x y).or (gIxS x y))
noncomputable def isiD (T : String) (d : D) : Option D := (isiT (tyName d) T).map .bl
section
variable {X : Cx} {a b e : Expr} {f g : DEnv → Option D} {pos p p2 : Pos}
theorem aAp (qa : QB X a f) (qb : QB X b g) (hs : PlainIx b := by intro _ _; rfl) : QS X (.Subscript a b pos) (op2 f g gIxA) := q_ix qa qb hs
theorem q_isiA {x : Str} {T : String} (hg : Gl X "isinstance") (hm : X.mg "isinstance" = none) (hgT : Gl X x) (hmT : X.mg x = none) (hvT : bootBuiltins x = some (.type T)) (q : QB X e f) 
    (hn : x ≠ "__name__" := by decide) (hdb : (x == ("__debug__" : Str)) = false := by decide)
    (he : starEach [e, .Name x p2] X.env = (false, eval e X.env) :: starEach [.Name x p2] X.env := by rfl) (he2 : starEach [.Name x p2] X.env = [(false, eval (.Name x p2) X.env)] := by rfl) (hpl : (backTo pos (starEach [.Name x p2] X.env)).any (·.1) = false := by rfl) :
    QF X (.Call (.Name "isinstance" p) [e, .Name x p2] [] pos) (op1 f (isiD T)) := q_isi hg hm hgT hmT hvT q boot_isinstance hn hdb he he2 hpl
theorem pgs_names {X : Cx} (hN : X.N.Nodup) : ∀ (is : List Nat) {es : List Expr}, (∃ xs : List (Str × Pos), es = xs.map (fun x => Expr.Name x.1 x.2) ∧ xs.map (fun x => some x.1) = is.map (fun i => X.N[i]?) ∧ ∀ x ∈ xs, Loc X.env.scope x.1 ∧ (X.fn x.1 = true ∨ X.env.scope.names.lookup x.1 = some .local)) → PGs X es (gNames is)
  | [], es, ⟨xs, e, h, _⟩ => by
    cases xs with
    | nil => subst e; exact pgs_nil
    | cons x r => simp at h
  | i :: is, es, ⟨xs, e, h, hl⟩ => by
    cases xs with
    | nil => simp at h
    | cons x r =>
      subst e
      simp only [List.map_cons, List.cons.injEq] at h
      exact pgs_cons (pg_name hN h.1.symm (hl x List.mem_cons_self).1 (hl x List.mem_cons_self).2) (pgs_names hN is ⟨r, rfl, h.2, fun y hy => hl y (List.mem_cons_of_mem _ hy)⟩)
end
theorem fnok_of {P : Program} {w : World} {K : PySem.W.Frag} {mg : Str → Option Value} {base : Heap} {x : Str} {st : Stmt} {f : Addr} {fd : FuncData} {N ps : List Str} {k n : Nat} {F : DS} (U : Fun K x x st f fd) (S : FnScope N ps (aAa st)) (hn : ps.length = n)
    (body : ∀ (cdv : Value) (A : Around) (outer : List Env) (s : Shared) (H : Hp) (E : XK), Room k (A.deeper (envOfC x (aAa st) s.heap.objs.size f cdv)) → QTs (cxOf CX0 P w K mg base N x (aAa st) f cdv A outer s H E).nox (aAk st) F)
    {g : List D → Option (Bool × D)} (hg : ∀ ds r, ar n g ds = some r → ar n (fnD N.length F) ds = some r) : FnOk P w K mg base CX0 (k + 1) f fd ps (spD K n (ar n g)) := by
  refine U.ok S (fun vs H Q E ⟨ds, fr, d, h1, _⟩ => by rw [hn]; exact h1) fun cdv A outer s H vs Q E hr hsp => ?_
  obtain ⟨t, h1, h2⟩ := body cdv A outer s H E hr
  refine ⟨t, h1, body_ok (n := n) (E := E) h2 ?_⟩
  obtain ⟨ds, fr, d, q1, q2, q3, q4⟩ := hsp
  refine ⟨ds, fr, d, q1, q2, ?_, q4⟩
  have q3 := hg _ _ q3
  unfold ar at q3
  split at q3
  · exact q3
  · cases q3
end DL
namespace DL
open PySem L2
noncomputable def enumD : D → Option (List D)
  | .lst ds => some (ds.mapIdx fun i d => D.tup [.int i, d])
  | .tup ds => some (ds.mapIdx fun i d => D.tup [.int i, d])
  | _ => none
noncomputable def iEn (f : DEnv → Option D) (ε : DEnv) : Option (List D) := (f ε).bind enumD
noncomputable def iS (f : DEnv → Option D) (ε : DEnv) : Option (List D) := (f ε).bind aHn
noncomputable def intsD : List D → Option (List Int)
  | [] => some []
  | .int i :: r => (intsD r).map (i :: ·)
  | _ :: _ => none
noncomputable def boolsD : List D → Option (List Bool)
  | [] => some []
  | .bl i :: r => (boolsD r).map (i :: ·)
  | _ :: _ => none
noncomputable def sumD : List D → Option D
  | [.lst ds] => (intsD ds).map fun xs => .int xs.sum
  | _ => none
noncomputable def allD : List D → Option D
  | [.lst ds] => (boolsD ds).map fun xs => .bl (xs.all id)
  | _ => none
noncomputable def minD : List D → Option D
  | [.int i, .int j] => some (.int (if j < i then j else i))
  | _ => none
noncomputable def intD : List D → Option D
  | [.int i] => some (.int i)
  | [.bl b] => some (.int (if b then 1 else 0))
  | _ => none
noncomputable def gInv : D → Option D := gU fun i => .int (-i - 1)
noncomputable def sUnp (is : List Nat) (f : DEnv → Option D) : DS := fun ε => (f ε).bind fun d => (tgT is d ε).map .nx
noncomputable def aDb (g : List D → Option (Bool × D)) (fa : DEnv → Option (List D)) (ε : DEnv) : Option D := (fa ε).bind fun ds => (g ds).bind fun r => if aAr r.2 = true then some r.2 else none
noncomputable def gTIx (x y : D) : Option D := match x, y with
  | .tup ds, .int k => (intsD ds).bind fun is => if k ∈ is then some (.int (is.idxOf k : Nat)) else none
  | _, _ => none
noncomputable def imm : Nat → D → Bool
  | 0, d => aAr d
  | n + 1, d => aAr d || match d with
    | .tup ds => ds.all (imm n)
    | _ => false
noncomputable def maxTD : List D → Option D
  | [.tup ds] => (intsD ds).bind fun is => match is with
    | [] => none
    | x :: r => some (.int (r.foldl (fun a b => if a < b then b else a) x))
  | _ => none
noncomputable def gRep (x y : D) : Option D := match x, y with
  | .lst ds, .int k => if -(2 ^ 63) ≤ k ∧ k < 2 ^ 63 ∧ ds.length * k.toNat ≤ sizeLine then some (.lst (List.replicate k.toNat ds).flatten) else none
  | _, _ => none
end DL
namespace DL
open PySem PySem.Spec L2
open PyProof.Rows hiding St
section
variable {K : PySem.W.Frag}
noncomputable def iSeq (K : PySem.W.Frag) (t : TE) : TI := fun σ H R => iList K t σ H R ∨ iTup K t σ H R
theorem den_iTupB {t : TE} {f : DEnv → Option D} (h : DenB K t f) : DenI K (iTup K t) (fun ε => (f ε).bind tupOf) := by
  intro σ H ε A ds R s e q
  obtain ⟨d, e1, e2⟩ := Option.bind_eq_some_iff.mp e
  obtain rfl := aIf e2
  refine h σ H ε A _ _ s e1 fun v H1 s1 r => ?_
  rcases r with r | ⟨a, rfl, hA, o⟩
  · cases r with
    | tup hs r => exact ⟨_, rfl, ⟨_, sameT (aAl H1 A) hs⟩, q _ H1 [] s1 (by simp) (itr_tup r fun H' A' e _ => sameT (e.cut.trans (aAl H' A')) hs)⟩
  · cases o
theorem itemsD_some {d : D} {ds : List D} (h : aHn d = some ds) : d = .lst ds ∨ d = .tup ds := by
  cases d <;> simp [aHn] at h
  · exact .inr (congrArg D.tup h)
  · exact .inl (congrArg D.lst h)
theorem den_iSeq {t : TE} {f : DEnv → Option D} (h : DenS K t f) : DenIS K (iSeq K t) (iS f) := by
  intro σ H ε A ds R s e q
  obtain ⟨d, e1, e2⟩ := Option.bind_eq_some_iff.mp e
  rcases itemsD_some e2 with rfl | rfl
  · exact .inl (den_iList h σ H ε A ds R s (by dsimp only; rw [e1]; rfl) q)
  · exact .inr (den_iTup h σ H ε A ds R s (by dsimp only; rw [e1]; rfl) q)
theorem den_iSeqB {t : TE} {f : DEnv → Option D} (h : DenB K t f) : DenI K (iSeq K t) (iS f) := by
  intro σ H ε A ds R s e q
  obtain ⟨d, e1, e2⟩ := Option.bind_eq_some_iff.mp e
  rcases itemsD_some e2 with rfl | rfl
  · exact .inl (den_iListB h σ H ε A ds R s (by dsimp only; rw [e1]; rfl) q)
  · exact .inr (den_iTupB h σ H ε A ds R s (by dsimp only; rw [e1]; rfl) q)
end
section
variable {X : Cx} {e tg : Expr} {f : DEnv → Option D}
theorem pi_seq {t : TE} (h : PE X e t) : PI X tg e (iSeq X.K t) := fun pins s σ H R I w => w.elim (fun w => pi_list h pins s σ H R I w) (fun w => pi_tup h pins s σ H R I w)
theorem i_seq (q : QS X e f) : QIS X tg e (iS f) := let ⟨t, h1, d1⟩ := q; ⟨_, pi_seq h1, den_iSeq d1⟩
theorem i_seqB (q : QB X e f) : QI X tg e (iS f) := let ⟨t, h1, d1⟩ := q; ⟨_, pi_seq h1, den_iSeqB d1⟩
end
theorem RBs.full {K : PySem.W.Frag} {H : Hp} {A : List Addr} : ∀ {vs : List V} {ds : List D}, RBs K H A vs ds → Reps K H vs ds
  | _, _, .nil => .nil
  | _, _, .cons r rs => .cons r.full rs.full
theorem rr_flat {K : PySem.W.Frag} {A A' : List Addr} {H H' : Hp} {fr : Bool} {v u : V} {d : D} (r : RR K A H A' H' fr v d) (h : aBt d = some u) : v = u := by
  unfold RR at r
  cases fr with
  | false => rw [if_neg Bool.false_ne_true] at r; exact r.flat h
  | true =>
    rw [if_pos rfl] at r
    rcases r with ⟨a, rfl, _, o⟩ | ⟨_, r⟩
    · cases o <;> simp [aBt] at h
    · exact r.flat h
theorem den_callB {K : PySem.W.Frag} {n : Nat} {g : List D → Option (Bool × D)} {E : XK} {t : TA} {fa : DEnv → Option (List D)} (hg : ∀ ds r, g ds = some r → ds.length = n) (ha : DenAB K t fa) :
    DenF K (tCall (spD K n g) [] E t) (aDb g fa) := by
  intro σ H ε A d Q s e q
  obtain ⟨ds, e1, e⟩ := Option.bind_eq_some_iff.mp e
  obtain ⟨⟨fr, d'⟩, e2, e⟩ := Option.bind_eq_some_iff.mp e
  split at e
  · rename_i c
    cases e
    obtain ⟨u, hu⟩ := aEx c
    refine ha σ H ε A ds _ s e1 fun vs H1 s1 r => ⟨ds, fr, d', ?_, ?_, e2, fun v H2 e3 rr => ?_⟩
    · rw [List.append_nil, r.full.length]; exact hg _ _ e2
    · rw [List.append_nil]; exact r.full
    · rw [rr_flat rr hu]
      exact q u H2 (s1.trans e3) (.flat hu)
  · cases e
section
variable {X : Cx} {e : Expr} {es : List Expr} {fa : DEnv → Option (List D)} {pos p : Pos} {x : Str} {k n : Nat} {g : List D → Option (Bool × D)}
theorem aBd {P : Program} {w : World} {K : PySem.W.Frag} {mg : Str → Option Value} {base : Heap} (c : Cal P w K mg base x k n (ar n g)) (hr : Room k X.A) (hx : X.xe = fun _ _ => False) (hg : Gl X x) (q : QAB X (e :: es) fa) (hdb : (x == ("__debug__" : Str)) = false := by decide)
    (he : starEach (e :: es) X.env = (false, eval e X.env) :: starEach es X.env := by rfl) (hpl : (backTo pos (starEach es X.env)).any (·.1) = false := by rfl) (e1 : X.prog = P := by rfl) (e2 : X.w = w := by rfl) (e3 : X.K = K := by rfl) (e4 : X.mg = mg := by rfl) (e5 : X.base = base := by rfl) : QF X (.Call (.Name x p) (e :: es) [] pos) (aDb (ar n g) fa) := by
  subst e1 e2 e3 e4 e5
  obtain ⟨f, fd, ps, a1, a2, a3, a4, a5⟩ := c
  obtain ⟨t, h1, d1⟩ := q
  exact ⟨_, pe_call a5 hr hg a2 a3 a4 .nil (fun _ _ _ _ _ _ _ z => z.elim) h1 hdb he hpl, den_callB (E := E0) (fun _ _ z => ar_len z) d1⟩
end
theorem law_true_of {g : List D → Option (Bool × D)} (h : ∀ ns : List Int, ns.length ≤ 63 → ∃ r, g [.lst (ns.map .int)] = some r ∧ r.2 = .bl true) (K : PySem.W.Frag) (H : Hp) (a : Addr) (ns : List Int) (hl : ns.length ≤ 63) (hS : SqL K H a (ns.map V.int)) :
    spD K 1 (ar 1 g) [.ref a] H (fun v _ => v = .bl true) fun _ _ _ => False := by
  obtain ⟨⟨fr, d⟩, e, hd⟩ := h ns hl
  have hd : d = .bl true := hd
  subst hd
  exact ⟨[.lst (ns.map .int)], fr, .bl true, rfl, .cons (.lst hS (reps_ints ns)) .nil, e, fun v H' _ r => rr_flat r rfl⟩
theorem fnok_at {P : Program} {w : World} {K : PySem.W.Frag} {mg : Str → Option Value} {base : Heap} {x : Str} {st : Stmt} {f : Addr} {fd : FuncData} {N ps : List Str} {k n : Nat} {F : DS} (U : Fun K x x st f fd) (S : FnScope N ps (aAa st)) (hn : ps.length = n)
    (body : ∀ (cdv : Value) (A : Around) (outer : List Env) (s : Shared) (H : Hp) (E : XK), Room k (A.deeper (envOfC x (aAa st) s.heap.objs.size f cdv)) → QTs (cxOf CX0 P w K mg base N x (aAa st) f cdv A outer s H E).nox (aAk st) F) :
    FnOk P w K mg base CX0 (k + 1) f fd ps (spD K n (ar n (fnD N.length F))) := fnok_of U S hn body fun _ _ h => h
end DL
namespace DL
open PySem
section
variable {prog : Program} {w : World} {A : Around} {E : Value → Shared → Prop} {s : Shared}
theorem next_tup_item {it l : Addr} {k : Nat} {its : Array Value} {y : Value} {Q : Value → Shared → Prop} (i0 : s.heap.IsTupleIter it l k) (t0 : s.heap.IsTuple l its) (e0 : its[k]? = some y)
    (q : ∀ h', h'.IsTupleIter it l (k + 1) → Heap.SameBut it s.heap h' → Q y { s with heap := h' }) : wpAny (model prog w) A (Builtin.SmallTypes.nextOf (.ref it)) Q E s := by
  obtain ⟨a, a1, a2, a3⟩ := id i0; obtain ⟨b, b1, _, m, b2⟩ := t0; unfold Builtin.SmallTypes.nextOf
  refine wpAny_bind (wpAny_callSpecial?_slot (name := Str.ofString "__next__") i0.typeIs F.slot_tuple_iterator_next (wpAny_call_entry F.slot_tuple_iterator_next i0.typeIs F.entry_tuple_iterator_next ?_ (F.args_tuple_iterator_next_1 _)))
  show wpAny _ _ (field (.ref it) 0 >>= _) _ _ _; refine wpAny_bind (wpAny_field a1 a3 (x := .ref l) rfl ?_)
  show wpAny _ _ (if (Value.ref l == Value.none) = true then _ else _) _ _ _; rw [if_neg (show ¬ ((Value.ref l == Value.none) = true) from Bool.false_ne_true)]
  show wpAny _ _ (field (.ref it) 1 >>= _) _ _ _; refine wpAny_bind (wpAny_field a1 a3 (x := .int k 0) rfl ?_)
  show wpAny _ _ (seqItems? (.ref l) >>= _) _ _ _; refine wpAny_bind (wpAny_seqItems b1 b2 ?_); simp only [Int.toNat_natCast, e0]
  refine wpAny_bind (wpAny_setField a1 a3 (by simp) (wpAny_pure ⟨y, rfl, wpAny_pure (q _ ?_ (Heap.SameBut.update ..))⟩))
  exact ⟨_, Heap.get?_update_self _ a1 (Obj.isFreed_of_fields (Obj.data_mapFields a3 _)), (Obj.cls_mapFields ..).trans a2, by rw [Obj.data_mapFields a3]; simp [rawInt]⟩
theorem next_tup_end {it l : Addr} {k : Nat} {its : Array Value} {Q : Value → Shared → Prop} (hh : A.handled = none) (i0 : s.heap.IsTupleIter it l k) (t0 : s.heap.IsTuple l its) (e0 : its[k]? = none)
    (q : ∀ h' e, Heap.ExtBut it s.heap h' → (∃ o, h'.get? e = some o ∧ o.cls = .type "StopIteration") → E (.ref e) { s with heap := h' }) : wpAny (model prog w) A (Builtin.SmallTypes.nextOf (.ref it)) Q E s := by
  obtain ⟨a, a1, a2, a3⟩ := id i0; obtain ⟨b, b1, _, m, b2⟩ := t0; unfold Builtin.SmallTypes.nextOf
  refine wpAny_bind (wpAny_callSpecial?_slot (name := Str.ofString "__next__") i0.typeIs F.slot_tuple_iterator_next (wpAny_call_entry F.slot_tuple_iterator_next i0.typeIs F.entry_tuple_iterator_next ?_ (F.args_tuple_iterator_next_1 _)))
  show wpAny _ _ (field (.ref it) 0 >>= _) _ _ _; refine wpAny_bind (wpAny_field a1 a3 (x := .ref l) rfl ?_)
  show wpAny _ _ (if (Value.ref l == Value.none) = true then _ else _) _ _ _; rw [if_neg (show ¬ ((Value.ref l == Value.none) = true) from Bool.false_ne_true)]
  show wpAny _ _ (field (.ref it) 1 >>= _) _ _ _; refine wpAny_bind (wpAny_field a1 a3 (x := .int k 0) rfl ?_)
  show wpAny _ _ (seqItems? (.ref l) >>= _) _ _ _; refine wpAny_bind (wpAny_seqItems b1 b2 ?_); simp only [Int.toNat_natCast, e0]
  refine wpAny_bind (wpAny_rule (wpAny_bind (wpAny_setField a1 a3 (by simp) ?_))); show wpAny _ _ (newExc (.type "StopIteration") [] >>= _) _ _ _; refine wpAny_bind ?_; simp only [newExc, newTuple]
  refine wpAny_bind (wpAny_newObj_type ?_ (by size_fits)); refine wpAny_bind (m := firstArgMember _ _) (wpAny_of_eq (a := Value.none) (by first | rfl | (simp only [firstArgMember]; rfl)) ?_); refine wpAny_newObj_type ?_ (by size_fits); simp only [raiseNew]
  refine wpAny_bind (wpAny_handled ?_); first | rw [show A.in1.handled = none from hh] | rw [hh]
  refine wpAny_bind (wpAny_pure (wpAny_throw ?_)); exact q _ _ (((Heap.SameBut.update ..).extBut.push _).push _) ⟨_, Heap.get?_push_size _ rfl, rfl⟩
theorem draws_tup (hh : A.handled = none) (it l : Addr) (hne : l ≠ it) (its : Array Value) : Draws prog w A it [it, l] its.size (fun i v => its[i]? = some v) (fun i h => h.IsTupleIter it l i ∧ h.IsTuple l its) where
  live := fun _ _ st => let ⟨o, ho, _⟩ := st.1; ⟨o, ho⟩
  frame := fun _ _ _ st hk => ⟨let ⟨o, e, r⟩ := st.1; ⟨o, hk it (by simp) o e, r⟩, let ⟨o, e, r⟩ := st.2; ⟨o, hk l (by simp) o e, r⟩⟩
  item := fun i s Q E hi st hQ => next_tup_item st.1 st.2 (y := its[i]) (by simp [hi]) fun h' hit' hs' => hQ _ h' s.toks (by simp [hi]) ⟨hit', st.2.extBut hs'.extBut hne⟩ hs'
  done := fun s Q E st hE => next_tup_end hh st.1 st.2 (by simp) hE
end
open AutoSeq1 (wpAny_loadPart')
theorem meets_enum_tup (l : Addr) (ob : Obj) (its : Array Value) (hc : ob.cls = .type "tuple") (hd : ∃ n, ob.data = .seq its n) : Meets (Builtin.«enumerate.__new__» ⟨[.type "enumerate", .ref l], []⟩) (fun _ R s => s.heap.get? l = some ob ∧
      R (.ok (.ret (.ref (s.heap.push { cls := .type "tuple_iterator", data := .fields #[.ref l, .int 0 0] }).objs.size)))
        { s with heap := (s.heap.push { cls := .type "tuple_iterator", data := .fields #[.ref l, .int 0 0] }).push { cls := .type "enumerate", data := .fields #[.none, .bool false, .ref s.heap.objs.size, rawInt 0, .none, .none] } }) :=
  .of_wp fun prog w A R s h => by
    obtain ⟨hp, g, d, tk, os⟩ := s; obtain ⟨hl, h⟩ := h; have sb := sub_enumerate
    have hT : Heap.IsTuple (Shared.heap ⟨hp, g, d, tk, os⟩) l its := ⟨_, hl, hc, hd⟩
    obtain ⟨c, dc, dt, sl⟩ := ob; obtain ⟨n, hd⟩ := hd; replace hc : c = .type "tuple" := hc; replace hd : dt = .seq its n := hd; subst hc hd
    wp_walk using wpAny_loadPart' hl
    refine wpAny_stack_any fun st => wpAny_pure ?_
    split
    · rename_i c _ _ _ _ _
      cases (c == Value.type "enumerate") <;> (wp_walk using wpAny_loadPart' hl, wpAny_pyIter_tuple hT) <;> exact ⟨_, rfl, h⟩
    · (wp_walk using wpAny_loadPart' hl, wpAny_pyIter_tuple hT); exact ⟨_, rfl, h⟩
theorem call_enum_tup {prog : Program} {w : World} {A : Around} {E : Value → Shared → Prop} {s : Shared} {l : Addr} {its : Array Value} {Q : Value → Shared → Prop} (hT : s.heap.IsTuple l its)
    (h : ∀ h', IsEnum h' (s.heap.objs.size + 1) s.heap.objs.size 0 .none → h'.IsTupleIter s.heap.objs.size l 0 → h'.objs.size = s.heap.objs.size + 2 → (∀ b o, s.heap.get? b = some o → h'.get? b = some o) → Q (.ref (s.heap.objs.size + 1)) { s with heap := h' }) :
    wpAny (model prog w) A (call (.type "enumerate") [.ref l]) Q E s := by
  obtain ⟨ob, e, hc, hd⟩ := hT
  refine callType_new F.called_enumerate (by decide) (F.typeCall_enumerate_1 _) (F.newCall_enumerate_1 _) (fun obj => F.args_object_init_2 obj _) F.entry_enumerate_new (meets_enum_tup l ob its hc hd) ⟨e, ?_⟩
  have hz : (s.heap.push { cls := .type "tuple_iterator", data := .fields #[.ref l, .int 0 0] }).objs.size = s.heap.objs.size + 1 := Heap.size_push ..
  show _ ∧ _
  rw [hz]
  have he : IsEnum ((s.heap.push { cls := .type "tuple_iterator", data := .fields #[.ref l, .int 0 0] }).push { cls := .type "enumerate", data := .fields #[.none, .bool false, .ref s.heap.objs.size, rawInt 0, .none, .none] }) (s.heap.objs.size + 1) s.heap.objs.size 0 .none := by
    have z := Heap.get?_push_size (s.heap.push { cls := .type "tuple_iterator", data := .fields #[.ref l, .int 0 0] }) (o := { cls := .type "enumerate", data := .fields #[.none, .bool false, .ref s.heap.objs.size, rawInt 0, .none, .none] }) rfl
    rw [hz] at z; exact z
  exact ⟨⟨_, he, rfl⟩, h _ he ⟨_, Heap.get?_push_of_some _ (Heap.get?_push_size _ rfl), rfl, rfl⟩ (by rw [Heap.size_push, hz]) fun b o y => Heap.get?_push_of_some _ (Heap.get?_push_of_some _ y)⟩
end DL
namespace DL
open PySem PySem.Spec L2
open PyProof.Rows hiding St
section
variable {X : Cx} {pins : List (Addr × Obj)} {σ : List (Option V)} {H : Hp} {s : Shared} {h' : Heap}
theorem inv_turns {t' : Nat} {fp : List Addr} (I : Inv X pins σ H s) (k : ∀ b o, b ∉ fp → s.heap.get? b = some o → h'.get? b = some o) (hf : ∀ b ∈ fp, FpOk X pins H b) : Inv X pins σ H { s with heap := h', toks := t' } := by
  have nit : ∀ b u, H b = some u → b ∉ fp := fun b u e z => by rw [(hf b z).1] at e; cases e
  refine I.step (g' := s.gens) (d' := s.drawn) (ch := fp) (fun b hb => ?_) (fun b o _ _ hc e _ => k b o hc e) (fun b o _ _ hc e _ => ⟨o.slots, k b o hc e⟩) (fun _ _ _ _ n => n)
    (fun b o hc e => ⟨o, k b o hc e⟩) (fun _ _ e => e) (fun _ _ _ e => e) (fun b ps e => ⟨#[], by rw [e]; simp⟩) (fun m hm => ?_) (fun b u e => ?_) I.bare
  · obtain ⟨_, f1, _, f3, f4, f5⟩ := hf b hb
    exact ⟨f3, f1, f4, f5⟩
  · obtain ⟨o, es, ep, ho, r⟩ := hm
    exact ⟨o, es, ep, k _ o (fun z => (hf _ z).2.1 rfl) ho, r⟩
  · refine (I.hok b u e).stay (fun c v hc q => k c v ?_ q) (fun _ q => q) fun _ _ q => q
    rcases hc with z | z
    · rw [z]; exact nit b u e
    · exact nit c _ z
end
noncomputable def Ite (Sq : Hp → List V → Prop) : It :=
  ⟨fun i H => ∃ xs x, Sq H xs ∧ xs[i]? = some x, fun i H y H' => ∃ p x, y = .ref p ∧ H p = none ∧ (∀ xs, Sq H xs → xs[i]? = some x) ∧ H' = upd H p (.tup [.int i, x]), fun i H => ∃ xs, Sq H xs ∧ xs.length = i⟩
section
variable {X : Cx} {pins : List (Addr × Obj)} {σ : List (Option V)} {H : Hp} {s : Shared}
theorem enum_step {es : List Expr} {k : Nat} {pos : Pos} {E : Value → Shared → Prop} {e it : Addr} {i : Nat} {x : V} {u : Value} {h' : Heap} {tk : Nat} {Iter : Heap → Prop} {Sq : Hp → List V → Prop} (I : Inv X pins σ H s) (hf : ∀ b ∈ [e, it], FpOk X pins H b)
    (he : IsEnumOut h' e it ((i : Int) + 1) u s.heap.objs.size) (hI : Iter h') (kI : ∀ h h', Iter h → Heap.SameBut e h h' → Iter h') (hT : h'.get? s.heap.objs.size = some { cls := .type "tuple", data := .seq #[.int i tk, u] })
    (hk : ∀ b o, b ≠ e → b ≠ it → s.heap.get? b = some o → h'.get? b = some o) (ru : RelV x u) (hx : ∀ xs, Sq H xs → xs[i]? = some x) (elt : e < s.heap.objs.size) (ilt : it < s.heap.objs.size) :
    wpAny (model X.prog X.w) X.A (letOwnedTupleGo (.Tuple es k pos) (.ref e) (.ref s.heap.objs.size)) (fun _ s2 => ∃ y H', Inv X pins σ H' s2 ∧ RelV y (.ref s.heap.objs.size) ∧ (Ite Sq).yld i H y H' ∧ ((∃ old, IsEnum s2.heap e it ((i + 1 : Nat) : Int) old) ∧ Iter s2.heap) ∧ ∀ b ∈ [e, it], H' b = none) E { s with heap := h', toks := tk + 1 } := by
  refine wpAny_letOwnedTupleGo_enum he fun h2 he2 hs2 => ?_
  have fresh := I.hok.fresh (Nat.le_refl s.heap.objs.size)
  have L : Inv X pins σ (upd H s.heap.objs.size (.tup [.int i, x])) { s with heap := s.heap.push { cls := .type "tuple", data := .seq #[.int i tk, u] }, toks := tk + 1 } :=
    I.laid (fun b o q => Heap.get?_push_of_some _ q) (Nat.le_refl _) ⟨by show 2 ≤ sizeLine; decide, [.int i tk, u], .cons ⟨tk, rfl⟩ (.cons ru .nil), ⟨_, Heap.get?_push_size _ rfl, ⟨rfl, rfl⟩, _, rfl⟩⟩
  have nb : ∀ b ∈ [e, it], b ≠ s.heap.objs.size := fun b hb => by
    rcases List.mem_cons.mp hb with rfl | hb
    · exact Nat.ne_of_lt elt
    · rw [List.mem_singleton.mp hb]; exact Nat.ne_of_lt ilt
  have hf' : ∀ b ∈ [e, it], FpOk X pins (upd H s.heap.objs.size (.tup [.int i, x])) b := fun b hb => ⟨by rw [aAn (nb b hb)]; exact (hf b hb).1, (hf b hb).2⟩
  have T : Inv X pins σ (upd H s.heap.objs.size (.tup [.int i, x])) { s with heap := h2, toks := tk + 1 } := inv_turns (s := { s with heap := s.heap.push { cls := .type "tuple", data := .seq #[.int i tk, u] }, toks := tk + 1 }) (t' := tk + 1) L (fun b o hb q => by
    have hbe : b ≠ e := fun z => hb (by simp [z])
    have hbi : b ≠ it := fun z => hb (by simp [z])
    have q : (s.heap.push { cls := .type "tuple", data := .seq #[.int i tk, u] }).get? b = some o := q
    by_cases hp : b = s.heap.objs.size
    · subst hp
      rw [Heap.get?_push_size _ rfl] at q
      cases q
      exact (hs2.2 _ hbe).trans hT
    · have q' : s.heap.get? b = some o := by
        rw [Heap.get?_push_ne _ _ _ hp] at q
        exact q
      exact (hs2.2 b hbe).trans (hk b o hbe hbi q')) hf'
  exact ⟨.ref s.heap.objs.size, upd H s.heap.objs.size (.tup [.int i, x]), T, rfl, ⟨_, x, rfl, fresh, hx, rfl⟩, ⟨⟨_, by simpa using he2⟩, kI _ _ hI hs2⟩, fun b hb => (hf' b hb).1⟩
end
theorem turn_enumL {P : Program} {w : World} {K : PySem.W.Frag} {es : List Expr} {k : Nat} {pos : Pos} (a it e : Addr) (hei : e ≠ it) : Turn P w K (.Tuple es k pos) (Ite fun H xs => SqL K H a xs) [e, it] e (fun i h => (∃ old, IsEnum h e it (i : Int) old) ∧ h.IsListIter it a i) where
  mem := by simp
  obj := fun i h st b hb => by
    rcases List.mem_cons.mp hb with rfl | hb
    · obtain ⟨⟨old, q⟩, _⟩ := st
      exact ⟨_, q, fun v z => by cases z⟩
    · obtain rfl := List.mem_singleton.mp hb
      obtain ⟨_, o, q, c, d⟩ := st
      exact ⟨o, q, fun v z => by rw [d] at z; cases z⟩
  keep := fun i h h' st kk => ⟨let ⟨old, q⟩ := st.1; ⟨old, kk e (by simp) _ q⟩, st.2.at fun o q => kk it (by simp) o q⟩
  item := by
    intro X hP hw hK hc i pins s σ H E I hf st hg
    subst hP hw hK
    obtain ⟨xs, x, hq, hx⟩ := hg
    obtain ⟨its, rv, p, hz⟩ := I.list hq
    obtain ⟨u, hu, ru⟩ := rv.get hx
    obtain ⟨⟨old, he⟩, hit⟩ := st
    have hhd : X.A.in1.handled = none := I.ok.hd hc
    obtain ⟨oi, qi, ci, di⟩ := id hit
    obtain ⟨ol, ql, cl, _⟩ := id p.isList
    have hai : a ≠ it := fun z => by rw [z] at ql; rw [ql] at qi; cases qi; exact absurd (Value.type.inj (cl.symm.trans ci)) (by decide)
    have hae : a ≠ e := fun z => by
      have he' : s.heap.get? e = some _ := he
      rw [← z, ql] at he'; rw [Option.some.inj he'] at cl; exact absurd (Value.type.inj cl) (by decide)
    have hl : i < its.toArray.size := by
      have := (List.getElem?_eq_some_iff.mp hu).1
      simpa using this
    refine wpAny_pyNext_enum_itemD (Draws.list hhd it a hai its.toArray) he ⟨hit, p.isList⟩ hl hei (by simp [hei, Ne.symm hae]) fun x' h' tk hP ho hs' hT hsz hk => ?_
    have hu' : its.toArray[i]? = some u := by simpa using hu
    have ex : x' = u := Option.some.inj (hP.symm.trans hu')
    subst ex
    exact ⟨_, rfl, enum_step (Iter := fun h => h.IsListIter it a (i + 1)) I hf ho hs'.1 (fun h h2 z sb => z.extBut sb.extBut (Ne.symm hei)) hT hk ru (fun ys hy => by rw [I.list_inj hy hq]; exact hx) (Heap.lt_size he) (Heap.lt_size qi)⟩
  done := by
    intro X hP hw hK hc i pins s σ H E I hf st hg
    subst hP hw hK
    obtain ⟨xs, hq, hx⟩ := hg
    obtain ⟨its, rv, p, hz⟩ := I.list hq
    obtain ⟨⟨old, he⟩, hit⟩ := st
    have hl := rv.length
    refine wpAny_pyNext_enum_end (show X.A.in1.handled = none from I.ok.hd hc) he hit p.isList (by simp; omega) fun h' eb => ⟨rfl, inv_turns (t' := s.toks) I (fun b o hb q => eb b o (fun z => hb (by simp [z])) q) hf⟩
  self := fun _ _ _ _ _ st h => let ⟨⟨_, he⟩, _⟩ := st; wpAny_pyIter_enum he h
theorem turn_enumT {P : Program} {w : World} {K : PySem.W.Frag} {es : List Expr} {k : Nat} {pos : Pos} (a it e : Addr) (hei : e ≠ it) : Turn P w K (.Tuple es k pos) (Ite fun H xs => SqT K H a xs) [e, it] e (fun i h => (∃ old, IsEnum h e it (i : Int) old) ∧ h.IsTupleIter it a i) where
  mem := by simp
  obj := fun i h st b hb => by
    rcases List.mem_cons.mp hb with rfl | hb
    · obtain ⟨⟨old, q⟩, _⟩ := st
      exact ⟨_, q, fun v z => by cases z⟩
    · obtain rfl := List.mem_singleton.mp hb
      obtain ⟨_, o, q, c, d⟩ := st
      exact ⟨o, q, fun v z => by rw [d] at z; cases z⟩
  keep := fun i h h' st kk => ⟨let ⟨old, q⟩ := st.1; ⟨old, kk e (by simp) _ q⟩, st.2.at fun o q => kk it (by simp) o q⟩
  item := by
    intro X hP hw hK hc i pins s σ H E I hf st hg
    subst hP hw hK
    obtain ⟨xs, x, hq, hx⟩ := hg
    obtain ⟨its, rv, p, hz⟩ := I.tuple hq
    have p : s.heap.IsTuple a its.toArray := p
    obtain ⟨u, hu, ru⟩ := rv.get hx
    obtain ⟨⟨old, he⟩, hit⟩ := st
    have hhd : X.A.in1.handled = none := I.ok.hd hc
    obtain ⟨oi, qi, ci, di⟩ := id hit
    obtain ⟨ol, ql, cl, _⟩ := id p
    have hai : a ≠ it := fun z => by rw [z] at ql; rw [ql] at qi; cases qi; exact absurd (Value.type.inj (cl.symm.trans ci)) (by decide)
    have hae : a ≠ e := fun z => by
      have he' : s.heap.get? e = some _ := he
      rw [← z, ql] at he'; rw [Option.some.inj he'] at cl; exact absurd (Value.type.inj cl) (by decide)
    have hl : i < its.toArray.size := by
      have := (List.getElem?_eq_some_iff.mp hu).1
      simpa using this
    refine wpAny_pyNext_enum_itemD (draws_tup hhd it a hai its.toArray) he ⟨hit, p⟩ hl hei (by simp [hei, Ne.symm hae]) fun x' h' tk hP ho hs' hT hsz hk => ?_
    have hu' : its.toArray[i]? = some u := by simpa using hu
    have ex : x' = u := Option.some.inj (hP.symm.trans hu')
    subst ex
    exact ⟨_, rfl, enum_step (Iter := fun h => h.IsTupleIter it a (i + 1)) I hf ho hs'.1 (fun h h2 z sb => z.extBut sb.extBut (Ne.symm hei)) hT hk ru (fun ys hy => by rw [I.tuple_inj hy hq]; exact hx) (Heap.lt_size he) (Heap.lt_size qi)⟩
  done := by
    intro X hP hw hK hc i pins s σ H E I hf st hg
    subst hP hw hK
    obtain ⟨xs, hq, hx⟩ := hg
    obtain ⟨its, rv, p, hz⟩ := I.tuple hq
    have p : s.heap.IsTuple a its.toArray := p
    obtain ⟨⟨old, he⟩, hit⟩ := st
    have hhd : X.A.in1.handled = none := I.ok.hd hc
    have hl := rv.length
    obtain ⟨oi, qi, ci, di⟩ := id hit
    obtain ⟨ol, ql, cl, _⟩ := id p
    have hai : a ≠ it := fun z => by rw [z] at ql; rw [ql] at qi; cases qi; exact absurd (Value.type.inj (cl.symm.trans ci)) (by decide)
    have hi : i = its.toArray.size := by rw [List.size_toArray]; omega
    refine wpAny_pyNext_enum_endD (draws_tup hhd it a hai its.toArray) he (by rw [← hi]; exact ⟨hit, p⟩) fun h' eb => ⟨rfl, inv_turns (t' := s.toks) I (fun b o hb q => eb b o (fun z => hb (by simp [z])) q) hf⟩
  self := fun _ _ _ _ _ st h => let ⟨⟨_, he⟩, _⟩ := st; wpAny_pyIter_enum he h
noncomputable def iEnum (K : PySem.W.Frag) (ta : TA) : TI := fun σ H R => ta σ H fun vs H1 => ∃ a, vs = [.ref a] ∧ (((∃ xs, SqL K H1 a xs) ∧ R (Ite fun H xs => SqL K H a xs) H1) ∨ ((∃ xs, SqT K H1 a xs) ∧ R (Ite fun H xs => SqT K H a xs) H1))
theorem pi_enum {X : Cx} {es : List Expr} {k : Nat} {tp : Pos} {l : Expr} {ta : TA} {p pos : Pos} (hg : Gl X "enumerate") (hm : X.mg "enumerate" = none) (ha : PA X [l] ta) (hs : starEach [l] X.env = [(false, eval l X.env)] := by rfl) :
    PI X (.Tuple es k tp) (.Call (.Name "enumerate" p) [l] [] pos) (iEnum X.K ta) := by
  intro pins s σ H R I h
  refine Call_ (ld_blt I hg hm boot_enumerate (PyProof.Rows.callWith_type1 (thn (ha pos pins s σ H _ I h) fun us s1 ⟨vs, H1, I1, r1, q1⟩ => ?_) hs rfl))
  obtain ⟨a, e, q⟩ := q1
  subst e
  cases r1 with
  | cons r rr =>
    cases rr
    cases r
    have fp : ∀ {h' : Heap}, ∀ b ∈ [s1.heap.objs.size + 1, s1.heap.objs.size], FpOk X pins H1 b := fun b hb => by
      rcases List.mem_cons.mp hb with rfl | hb
      · exact I1.fpOk (Nat.le_succ _) (I1.hok.fresh (Nat.le_succ _))
      · rw [List.mem_singleton.mp hb]; exact I1.fpOk (Nat.le_refl _) (I1.hok.fresh (Nat.le_refl _))
    rcases q with ⟨⟨xs, hq⟩, q⟩ | ⟨⟨xs, hq⟩, q⟩
    · obtain ⟨its, rv, pl, hz⟩ := I1.list hq
      refine call_enumerate_list pl.isList fun h' he hi hsz hk => wpAny_pyIter_enum (s := { s1 with heap := h' }) he ?_
      exact ⟨_, [s1.heap.objs.size + 1, s1.heap.objs.size], _, _, H1, rfl, I1.kept (t' := s1.toks) hk, turn_enumL a _ _ (Nat.succ_ne_self _), ⟨⟨_, he⟩, hi⟩, fp (h' := h'), q⟩
    · obtain ⟨its, rv, pl, hz⟩ := I1.tuple hq
      refine call_enum_tup (show s1.heap.IsTuple a its.toArray from pl) fun h' he hi hsz hk => wpAny_pyIter_enum (s := { s1 with heap := h' }) he ?_
      exact ⟨_, [s1.heap.objs.size + 1, s1.heap.objs.size], _, _, H1, rfl, I1.kept (t' := s1.toks) hk, turn_enumT a _ _ (Nat.succ_ne_self _), ⟨⟨_, he⟩, hi⟩, fp (h' := h'), q⟩
theorem itr_enum {K : PySem.W.Frag} {H : Hp} {A P : List Addr} {Sq : Hp → List V → Prop} {xs : List V} {ds : List D} (r : Reps K (cut H A) xs ds) (h : ∀ H' A', aCk A A' H H' → Sq H' xs) :
    ItR K A P (Ite Sq) H (ds.mapIdx fun i d => D.tup [.int i, d]) := by
  intro H' A' e eP al
  have hs := h H' A' e
  have r' := r.mono e.cut
  rw [List.length_mapIdx]
  refine ⟨fun i hi => ⟨xs, xs[i]'(by rw [r.length]; exact hi), hs, by rw [List.getElem?_eq_getElem]⟩, fun i x Hn hi y => ?_, ⟨xs, hs, r.length⟩⟩
  obtain ⟨p, x0, rfl, hp, hx, rfl⟩ := y
  obtain ⟨d, h1, h2⟩ := r'.getV (hx xs hs)
  have hA : p ∉ A' := al.not hp
  refine ⟨aBu hp _, .tup [.int i, d], ?_, .tup (.inl (.inl (aAq.mpr ⟨hA, aAt⟩))) (.cons (.int _) (.cons (h2.mono (aEh A' (aBu hp _))) .nil))⟩
  rw [List.getElem?_mapIdx, h1]
  rfl
theorem den_iEnum {K : PySem.W.Frag} {t : TE} {f : DEnv → Option D} (h : DenS K t f) : DenIS K (iEnum K (tCons t tNil)) (iEn f) := by
  intro σ H ε A ds R s e q
  obtain ⟨d, e1, e2⟩ := Option.bind_eq_some_iff.mp e
  refine h σ H ε A d _ s e1 fun v H1 s1 r => ?_
  cases r with
  | lst hs r => cases e2; exact ⟨_, rfl, .inl ⟨⟨_, (aAl H1 A).seq hs⟩, q _ H1 s1 (itr_enum r (fun H' A' e => (e.cut.trans (aAl H' A')).seq hs))⟩⟩
  | tup hs r => cases e2; exact ⟨_, rfl, .inr ⟨⟨_, sameT (aAl H1 A) hs⟩, q _ H1 s1 (itr_enum r (fun H' A' e => sameT (e.cut.trans (aAl H' A')) hs))⟩⟩
  | _ => cases e2
section
variable {X : Cx} {l : Expr} {es : List Expr} {k : Nat} {tp p pos : Pos} {f : DEnv → Option D}
theorem i_enum (hg : Gl X "enumerate") (hm : X.mg "enumerate" = none) (q : QS X l f) (hs : starEach [l] X.env = [(false, eval l X.env)] := by rfl) : QIS X (.Tuple es k tp) (.Call (.Name "enumerate" p) [l] [] pos) (iEn f) :=
  let ⟨t, h1, d1⟩ := q; ⟨_, pi_enum hg hm (aEw h1 pa_nil hs) hs, den_iEnum d1⟩
theorem g_tup (is : List Nat) (hN : X.N.Nodup) (hc : X.calm = true := by rfl) (hx : (∃ xs : List (Str × Pos), es = xs.map (fun x => Expr.Name x.1 x.2) ∧ xs.map (fun x => some x.1) = is.map (fun i => X.N[i]?) ∧ ∀ x ∈ xs, Loc X.env.scope x.1 ∧ (X.fn x.1 = true ∨ X.env.scope.names.lookup x.1 = some .local)))
    (hn : (assignEach es X.env).length = is.length := by rfl) (hst : (assignEach es X.env).findIdx? (·.1) = none := by rfl) : QG X (.Tuple es k tp) (tgT is) := ⟨_, pg_tup hc (pgs_names hN is hx) hn hst, den_gTup is⟩
end
end DL
namespace DL
open PySem PySem.Spec L2
open PyProof.Rows hiding St
theorem vals_ints : ∀ {is : List Int} {us : List Value}, Vals (is.map V.int) us → ∃ xs : List (Int × Tok), us = xs.map (fun p => Value.int p.1 p.2) ∧ xs.map (·.1) = is
  | [], _, .nil => ⟨[], rfl, rfl⟩
  | i :: r, _, .cons h t => by
    obtain ⟨tk, rfl⟩ := h
    obtain ⟨xs, e1, e2⟩ := vals_ints t
    exact ⟨(i, tk) :: xs, by rw [e1]; rfl, by rw [List.map_cons, e2]⟩
theorem aIg {K : PySem.W.Frag} {H : Hp} : ∀ {ds : List D} {is : List Int} {xs : List V}, intsD ds = some is → Reps K H xs ds → xs = is.map V.int
  | [], _, _, e, .nil => by cases e; rfl
  | .int i :: r, is, _, e, .cons (xs := xs) h t => by
    rw [intsD] at e
    obtain ⟨js, e1, rfl⟩ := Option.map_eq_some_iff.mp e
    rw [h.flat rfl, aIg e1 t]; rfl
  | .non :: _, _, _, e, _ => by cases e
  | .bl _ :: _, _, _, e, _ => by cases e
  | .str _ :: _, _, _, e, _ => by cases e
  | .tup _ :: _, _, _, e, _ => by cases e
  | .lst _ :: _, _, _, e, _ => by cases e
  | .dic _ :: _, _, _, e, _ => by cases e
theorem reps_boolsD {K : PySem.W.Frag} {H : Hp} : ∀ {ds : List D} {is : List Bool} {xs : List V}, boolsD ds = some is → Reps K H xs ds → xs = is.map V.bl
  | [], _, _, e, .nil => by cases e; rfl
  | .bl i :: r, is, _, e, .cons (xs := xs) h t => by
    rw [boolsD] at e
    obtain ⟨js, e1, rfl⟩ := Option.map_eq_some_iff.mp e
    rw [h.flat rfl, reps_boolsD e1 t]; rfl
  | .non :: _, _, _, e, _ => by cases e
  | .int _ :: _, _, _, e, _ => by cases e
  | .str _ :: _, _, _, e, _ => by cases e
  | .tup _ :: _, _, _, e, _ => by cases e
  | .lst _ :: _, _, _, e, _ => by cases e
  | .dic _ :: _, _, _, e, _ => by cases e
theorem vals_bools : ∀ {bs : List Bool} {us : List Value}, Vals (bs.map V.bl) us → us = bs.map Value.bool
  | [], _, .nil => rfl
  | b :: r, _, .cons h t => by cases h; rw [vals_bools t]; rfl
noncomputable def rSumI (K : PySem.W.Frag) : List V → Hp → VK → Prop := fun xs H Q => ∃ (p : Addr) (is : List Int), xs = [.ref p] ∧ SqL K H p (is.map V.int) ∧ Q (.int is.sum) H
noncomputable def rAllB (K : PySem.W.Frag) (any : Bool) : List V → Hp → VK → Prop := fun xs H Q => ∃ (p : Addr) (bs : List Bool), xs = [.ref p] ∧ SqL K H p (bs.map V.bl) ∧ Q (.bl (if any then bs.any id else bs.all id)) H
section
variable {X : Cx}
theorem call_sumI (hc : X.calm = true) : CallR X (.builtin "sum") (rSumI X.K) := by
  intro pins s σ H xs us Q I r h
  obtain ⟨p, is, rfl, hq, q⟩ := h
  obtain ⟨u, rfl, rx⟩ := vals1 r
  cases rx
  obtain ⟨its, rv, pl, hz⟩ := I.list hq
  obtain ⟨ns, e1, e2⟩ := vals_ints rv
  have hl : s.heap.IsList p (intItems ns.toArray) := by
    have z := pl.isList
    have e3 : its.toArray = intItems ns.toArray := by rw [e1]; simp [intItems]
    rw [e3] at z; exact z
  refine sum_intListG (I.ok.hd hc) hl fun h' tk t' k => ⟨.int is.sum, H, I.kept k, ?_, q⟩
  refine ⟨t', ?_⟩
  rw [preSum_eq, List.take_of_length_le (by simp), e2]
theorem getD_map {bs : List Bool} {i : Nat} {v : Value} {d : Bool} (h : (bs.map Value.bool).toArray[i]? = some v) : v = .bool ((bs[i]?).getD d) := by
  rw [List.getElem?_toArray, List.getElem?_map] at h
  cases q : bs[i]? with
  | none => rw [q] at h; cases h
  | some b => rw [q] at h; cases h; rfl
theorem all_get (bs : List Bool) : ((List.range bs.length).all fun i => (bs[i]?).getD true) = bs.all id := by
  apply Bool.eq_iff_iff.mpr
  simp only [List.all_eq_true, List.mem_range]
  constructor
  · intro h b hb
    obtain ⟨i, hi, rfl⟩ := List.mem_iff_getElem.mp hb
    have := h i hi
    rwa [List.getElem?_eq_getElem hi, Option.getD_some] at this
  · intro h i hi
    rw [List.getElem?_eq_getElem hi, Option.getD_some]
    exact h _ (List.getElem_mem hi)
theorem call_allB (hc : X.calm = true) : CallR X (.builtin "all") (rAllB X.K false) := by
  intro pins s σ H xs us Q I r h
  obtain ⟨p, bs, rfl, hq, q⟩ := h
  obtain ⟨u, rfl, rx⟩ := vals1 r
  cases rx
  obtain ⟨its, rv, pl, hz⟩ := I.list hq
  have ei := vals_bools rv
  subst ei
  have hl := pl.isList
  have hlt : p < s.heap.objs.size := by obtain ⟨_, e, _⟩ := hl; exact Heap.lt_size e
  refine call_all_walk (wpAny_pyIter_list hl ?_)
  refine ⟨s.heap.objs.size, [s.heap.objs.size, p], [s.heap.objs.size], (bs.map Value.bool).toArray.size, _, _, fun i => (bs[i]?).getD true, rfl, Walks.list (A := X.A.in1) (I.ok.hd hc) _ p (Nat.ne_of_lt hlt) (bs.map Value.bool).toArray, ⟨⟨_, Heap.get?_push_size _ rfl, rfl, rfl⟩, hl.push _⟩, fun i v s' Q' E' hP hQ => ?_, fun h' tk hk => ?_⟩
  · obtain rfl := getD_map (d := true) hP
    exact wpAny_truthy_bool hQ
  · refine ⟨.bl (bs.all id), H, I.kept fun b o e => hk b o (fun hm => ?_) (Heap.get?_push_of_some _ e), ?_, q⟩
    · rw [List.mem_singleton.mp hm] at e; exact Nat.lt_irrefl _ (Heap.lt_size e)
    · rw [List.size_toArray, List.length_map, all_get]; rfl
end
section
variable {K : PySem.W.Frag}
theorem cd_sum : aFu K (rSumI K) sumD := by
  intro H A xs ds d Q al rs e q
  unfold sumD at e
  split at e
  · rename_i ys
    obtain ⟨is, e1, rfl⟩ := Option.map_eq_some_iff.mp e
    obtain ⟨x, rfl, r⟩ := rs.one
    obtain ⟨a, vs, rfl, hs, r'⟩ := r.lst
    rw [aIg e1 r'] at hs
    exact ⟨a, is, rfl, hs, q _ H (Same.refl H) (.flat rfl)⟩
  · cases e
theorem cd_all : aFu K (rAllB K false) allD := by
  intro H A xs ds d Q al rs e q
  unfold allD at e
  split at e
  · rename_i ys
    obtain ⟨is, e1, rfl⟩ := Option.map_eq_some_iff.mp e
    obtain ⟨x, rfl, r⟩ := rs.one
    obtain ⟨a, vs, rfl, hs, r'⟩ := r.lst
    rw [reps_boolsD e1 r'] at hs
    exact ⟨a, is, rfl, hs, q _ H (Same.refl H) (.flat rfl)⟩
  · cases e
theorem cd_min : aFu K (fun xs H Q => ∃ i j, xs = [.int i, .int j] ∧ Q (.int (if j < i then j else i)) H) minD := by
  intro H A xs ds d Q al rs e q
  unfold minD at e
  split at e
  · cases e
    obtain ⟨x, y, rfl, r, r'⟩ := rs.two
    obtain rfl := r.flat rfl
    obtain rfl := r'.flat rfl
    exact ⟨_, _, rfl, q _ H (Same.refl H) (.flat rfl)⟩
  · cases e
theorem cd_int : aFu K (fun xs H Q => (∃ i, xs = [.int i] ∧ Q (.int i) H) ∨ ∃ k, xs = [.bl k] ∧ Q (.int (if k then 1 else 0)) H) intD := by
  intro H A xs ds d Q al rs e q
  unfold intD at e
  split at e
  · cases e
    obtain ⟨x, rfl, r⟩ := rs.one
    obtain rfl := r.flat rfl
    exact .inl ⟨_, rfl, q _ H (Same.refl H) (.flat rfl)⟩
  · cases e
    obtain ⟨x, rfl, r⟩ := rs.one
    obtain rfl := r.flat rfl
    exact .inr ⟨_, rfl, q _ H (Same.refl H) (.flat rfl)⟩
  · cases e
end
theorem boot_max : bootBuiltins "max" = some (.builtin "max") := by decide +kernel
section
variable {X : Cx} {a : Expr} {ta : TA} {p p2 pos pos2 : Pos}
end
theorem q_inv {X : Cx} {a : Expr} {f : DEnv → Option D} {pos : Pos} (qa : QB X a f) : QF X (.UnaryOp .Invert a pos) (op1 f gInv) := let ⟨ta, ha, da⟩ := qa; ⟨_, pe_un un_inv ha, den_un (und_U fun _ => rfl) da⟩
section
variable {X : Cx} {e : Expr} {f : DEnv → Option D} {pos pos' : Pos} {x : Str}
theorem ip_or : PIp X .BitOr (ipI fun i j => Builtin.bitOr i j) := by
  intro pins s σ H x y v u Q I r1 r2 h
  obtain ⟨i, j, rfl, rfl, q⟩ := h; obtain ⟨t, rfl⟩ := r1; obtain ⟨t', rfl⟩ := r2
  exact ior_int ⟨.int _, H, I.tok _, ⟨_, rfl⟩, q⟩
theorem den_aug {K : PySem.W.Frag} {i : Nat} {te : TE} {g : Int → Int → Int} (h : DenB K te f) : DenT K (tAug i te (ipI g)) (aBk i (op2 (vB i) f (gI0 fun a b => .int (g a b)))) := by
  intro σ H ε A out De s e fi
  unfold aBk at e
  obtain ⟨d, e1, rfl⟩ := Option.map_eq_some_iff.mp e
  obtain ⟨dx, dy, ex, ey, e2⟩ := op2_some e1
  unfold gI0 at e2
  split at e2
  · rename_i a b
    cases e2
    obtain ⟨v, hv, rfl⟩ := den_vB (K := K) i σ H ε A (.int a) (fun v _ => v = .int a) s ex fun v H' _ r => r.flat rfl
    refine ⟨.int a, hv, h σ H ε A (.int b) _ s ey fun w H1 s1 r => ?_⟩
    obtain rfl := r.flat rfl
    exact ⟨a, b, rfl, rfl, fi _ H1 A ((s.mono s1).setS i (.int _)) (.of s1)⟩
  · cases e2
theorem s_aug_bor (i : Nat) (hN : X.N.Nodup) (q : QB X e f) (hi : X.N[i]? = some x := by rfl) (hx : Loc X.env.scope x := by first | exact Or.inl rfl | exact Or.inr rfl) (hf : X.fn x = true ∨ X.env.scope.names.lookup x = some .local := by first | exact .inl rfl | exact .inr rfl) :
    QT X (.AugAssign (.Name x pos') .BitOr e pos) (aBk i (op2 (vB i) f gOr)) := let ⟨t, h1, d1⟩ := q; ⟨_, ps_aug hN hi hx h1 ip_or hf, den_aug d1⟩
end
theorem den_unp {K : PySem.W.Frag} {is : List Nat} {t : TE} {f : DEnv → Option D} (h : DenS K t f) : DenT K (tAsg t (gTup K is.length (gNames is))) (sUnp is f) := by
  intro σ H ε A out De s e fi
  obtain ⟨d, e1, e⟩ := Option.bind_eq_some_iff.mp e
  obtain ⟨ε', e2, rfl⟩ := Option.map_eq_some_iff.mp e
  exact h σ H ε A d _ s e1 fun v H1 s1 r => den_gTup is v σ H1 ε A d ε' _ (s.mono s1) r e2 fun σ' H' s2 sr _ => fi σ' H' A sr (.of (s1.trans s2))
theorem s_unp {X : Cx} {e : Expr} {es : List Expr} {k : Nat} {tp pos : Pos} {f : DEnv → Option D} (is : List Nat) (hN : X.N.Nodup) (q : QS X e f) (hx : (∃ xs : List (Str × Pos), es = xs.map (fun x => Expr.Name x.1 x.2) ∧ xs.map (fun x => some x.1) = is.map (fun i => X.N[i]?) ∧ ∀ x ∈ xs, Loc X.env.scope x.1 ∧ (X.fn x.1 = true ∨ X.env.scope.names.lookup x.1 = some .local)))
    (hc : X.calm = true := by rfl) (hn : (assignEach es X.env).length = is.length := by rfl) (hst : (assignEach es X.env).findIdx? (·.1) = none := by rfl)
    (hs : swapsWithSole [.Tuple es k tp] e pos.line X.env = pure false := by rfl) (hw : swappedStores [.Tuple es k tp] e X.env = pure none := by rfl) (h1 : (assignEach [.Tuple es k tp] X.env).map (·.2) = [assign (.Tuple es k tp) X.env] := by rfl) :
    QT X (.Assign [.Tuple es k tp] e pos) (sUnp is f) := let ⟨t, h2, d2⟩ := q; ⟨_, ps_asg h2 (pg_tup hc (pgs_names hN is hx) hn hst) hs hw h1, den_unp d2⟩
theorem loc_nil {P : Str × Pos → Prop} : ∀ x ∈ ([] : List (Str × Pos)), P x := fun _ h => nomatch h
theorem aDd {P : Str × Pos → Prop} {y : Str × Pos} {ys : List (Str × Pos)} (h : P y) (t : ∀ x ∈ ys, P x) : ∀ x ∈ y :: ys, P x := fun x hx => (List.mem_cons.mp hx).elim (fun z => z ▸ h) (t x)
end DL
namespace DL
open PySem PySem.Spec L2
open PyProof.Rows hiding St
section
variable {X : Cx} {x : Str} {i : Expr} {ty : TE} {p pos : Pos} {kvs : List (Str × Int)} {f G : DEnv → Option D}
end
end DL
namespace DL
open PySem PySem.Spec L2
open PyProof.Rows hiding St
end DL
namespace DL
open PySem PySem.Spec L2
open PyProof.Rows hiding St
section
variable {X : Cx} {tg : Expr} {x : Str} {p : Pos} {kvs : List (Str × Int)} {G : DEnv → Option D}
end
end DL
namespace DL
open PySem L2
noncomputable def Ex {α : Type} (o : Option α) (Q : α → Prop) : Prop := ∃ a, o = some a ∧ Q a
section
variable {α β : Type} {Q R : α → Prop}
theorem aAg {a : α} : Ex (some a) Q = Q a := by
  apply propext; constructor
  · rintro ⟨b, e, q⟩; cases e; exact q
  · exact fun q => ⟨a, rfl, q⟩
theorem aBi : Ex (none : Option α) Q = False := by
  apply propext; constructor
  · rintro ⟨b, e, q⟩; cases e
  · exact False.elim
theorem aAh {o : Option β} {f : β → Option α} : Ex (o.bind f) Q = Ex o fun b => Ex (f b) Q := by
  apply propext; constructor
  · rintro ⟨a, e, q⟩
    obtain ⟨b, e1, e2⟩ := Option.bind_eq_some_iff.mp e
    exact ⟨b, e1, a, e2, q⟩
  · rintro ⟨b, rfl, a, e2, q⟩
    exact ⟨a, by rw [Option.bind_some, e2], q⟩
theorem aFk {o : Option β} {f : β → α} : Ex (o.map f) Q = Ex o fun b => Q (f b) := by
  apply propext; constructor
  · rintro ⟨a, e, q⟩
    obtain ⟨b, e1, rfl⟩ := Option.map_eq_some_iff.mp e
    exact ⟨b, e1, q⟩
  · rintro ⟨b, rfl, q⟩
    exact ⟨_, rfl, q⟩
theorem ex_ite {c : Prop} [Decidable c] {a b : Option α} : Ex (if c then a else b) Q = if c then Ex a Q else Ex b Q := by split <;> rfl
theorem Ex.imp {o : Option α} (h : Ex o Q) (i : ∀ a, Q a → R a) : Ex o R := let ⟨a, e, q⟩ := h; ⟨a, e, i a q⟩
theorem Ex.of {o : Option α} {a : α} (e : o = some a) (q : Q a) : Ex o Q := ⟨a, e, q⟩
theorem Ex.eq {o : Option α} {a : α} (h : Ex o fun b => b = a) : o = some a := let ⟨b, e, q⟩ := h; q ▸ e
theorem aDw {o : Option α} {a : α} : o = some a ↔ Ex o fun b => b = a := ⟨fun e => ⟨a, e, rfl⟩, Ex.eq⟩
end
theorem aFb {α β : Type} {a : α} {f : α → Option β} : (some a).bind f = f a := rfl
theorem map_s {α β : Type} {a : α} {f : α → β} : (some a).map f = some (f a) := rfl
noncomputable def OutQ (ε' : DEnv → Prop) (o : Out → Prop) : Out → Prop
  | .nx ε => ε' ε
  | x => o x
theorem aHr {F G : DS} {ε : DEnv} {Q : Out → Prop} : Ex (sSeq F G ε) Q = Ex (F ε) (OutQ (fun ε' => Ex (G ε') Q) Q) := by
  unfold sSeq
  apply propext
  cases h : F ε with
  | none => rw [aBi, aBi]
  | some o => cases o <;> simp only [aAg, OutQ]
theorem outq_nx {P : DEnv → Prop} {q : Out → Prop} {ε : DEnv} : OutQ P q (.nx ε) = P ε := rfl
theorem outq_rt {P : DEnv → Prop} {q : Out → Prop} {fr : Bool} {d : D} : OutQ P q (.rt fr d) = q (.rt fr d) := rfl
theorem outq_bk {P : DEnv → Prop} {q : Out → Prop} {ε : DEnv} : OutQ P q (.bk ε) = q (.bk ε) := rfl
theorem outq_ct {P : DEnv → Prop} {q : Out → Prop} {ε : DEnv} : OutQ P q (.ct ε) = q (.ct ε) := rfl
theorem ex_nil {ε : DEnv} {Q : Out → Prop} : Ex (sNil ε) Q = Q (.nx ε) := aAg
theorem ex_if {c : DEnv → Option Bool} {F G : DS} {ε : DEnv} {Q : Out → Prop} : Ex (sIf c F G ε) Q = Ex (c ε) fun b => if b = true then Ex (F ε) Q else Ex (G ε) Q := by
  unfold sIf; rw [aAh]; congr 1; funext b; rw [ex_ite]
theorem ex_asgS {i : Nat} {f : DEnv → Option D} {ε : DEnv} {Q : Out → Prop} : Ex (sAsgS i f ε) Q = Ex (f ε) fun d => Q (.nx (ε.set i (some (false, d)))) := aFk
theorem ex_asgF {i : Nat} {f : DEnv → Option D} {ε : DEnv} {Q : Out → Prop} : Ex (aBk i f ε) Q = Ex (f ε) fun d => Q (.nx (ε.set i (some (isMut d, d)))) := aFk
theorem ex_retS {f : DEnv → Option D} {ε : DEnv} {Q : Out → Prop} : Ex (sRetS f ε) Q = Ex (f ε) fun d => Q (.rt false d) := aFk
theorem ex_retF {f : DEnv → Option D} {ε : DEnv} {Q : Out → Prop} : Ex (aCn f ε) Q = Ex (f ε) fun d => Q (.rt true d) := aFk
theorem ex_retV0 {fl : Bool} {d : D} {r : DEnv} {Q : Out → Prop} : Ex (sRetV 0 (some (fl, d) :: r)) Q = Q (.rt fl d) := aAg
theorem retV_s {i : Nat} {x : Option (Bool × D)} {r : DEnv} : sRetV (i + 1) (x :: r) = sRetV i r := rfl
theorem ex_pub {is : List Nat} {F : DS} {ε : DEnv} {Q : Out → Prop} : Ex (sPub is F ε) Q = Ex (F (pubs is ε)) Q := rfl
theorem ex_app {i : Nat} {f : DEnv → Option D} {ε : DEnv} {Q : Out → Prop} : Ex (sApp i f ε) Q = Ex (ownL i ε) fun ds => Ex (f ε) fun d => ds.length < sizeLine ∧ Q (.nx (ε.set i (some (true, .lst (ds ++ [d]))))) := by
  unfold sApp; rw [aAh]; congr 1; funext ds; rw [aAh]; congr 1; funext d
  apply propext
  by_cases h : ds.length < sizeLine
  · rw [if_pos h, aAg]; exact ⟨fun q => ⟨h, q⟩, fun q => q.2⟩
  · rw [if_neg h, aBi]; exact ⟨False.elim, fun q => h q.1⟩
theorem ex_op2 {f g : DEnv → Option D} {k : D → D → Option D} {ε : DEnv} {Q : D → Prop} : Ex (op2 f g k ε) Q = Ex (f ε) fun x => Ex (g ε) fun y => Ex (k x y) Q := by
  unfold op2; rw [aAh]; congr 1; funext x; rw [aAh]
theorem ex_op1 {f : DEnv → Option D} {k : D → Option D} {ε : DEnv} {Q : D → Prop} : Ex (op1 f k ε) Q = Ex (f ε) fun x => Ex (k x) Q := aAh
theorem ex_cb {f : DEnv → Option (List D)} {k : List D → Option D} {ε : DEnv} {Q : D → Prop} : Ex (cb f k ε) Q = Ex (f ε) fun x => Ex (k x) Q := aAh
theorem ex_cB {f : DEnv → Option D} {ε : DEnv} {Q : Bool → Prop} : Ex (cB f ε) Q = Ex (f ε) fun x => Ex (toB x) Q := aAh
theorem ex_cT {f : DEnv → Option D} {ε : DEnv} {Q : Bool → Prop} : Ex (cT f ε) Q = Ex (f ε) fun x => Ex (truD x) Q := aAh
theorem ex_cAnd {f g : DEnv → Option Bool} {ε : DEnv} {Q : Bool → Prop} : Ex (cAnd f g ε) Q = Ex (f ε) fun b => if b = true then Ex (g ε) Q else Q false := by
  unfold cAnd; rw [aAh]; congr 1; funext b; rw [ex_ite, aAg]
theorem ex_cOr {f g : DEnv → Option Bool} {ε : DEnv} {Q : Bool → Prop} : Ex (cOr f g ε) Q = Ex (f ε) fun b => if b = true then Q true else Ex (g ε) Q := by
  unfold cOr; rw [aAh]; congr 1; funext b; rw [ex_ite, aAg]
theorem ex_cNot {f : DEnv → Option Bool} {ε : DEnv} {Q : Bool → Prop} : Ex (cNot f ε) Q = Ex (f ε) fun b => Q (!b) := aFk
theorem ex_vAnd {f g : DEnv → Option D} {ε : DEnv} {Q : D → Prop} : Ex (vAnd f g ε) Q = Ex (f ε) fun x => Ex (toB x) fun b => if b = true then Ex (g ε) Q else Q (.bl false) := by
  unfold vAnd; rw [aAh, aAh]; congr 1; funext x; congr 1; funext b; rw [ex_ite, aAg]
theorem ex_vNot {f : DEnv → Option D} {ε : DEnv} {Q : D → Prop} : Ex (vNot f ε) Q = Ex (f ε) fun x => Ex (toB x) fun b => Q (.bl (!b)) := by
  unfold vNot; rw [aFk, aAh]
theorem ex_vIf {c : DEnv → Option Bool} {f g : DEnv → Option D} {ε : DEnv} {Q : D → Prop} : Ex (vIf c f g ε) Q = Ex (c ε) fun b => if b = true then Ex (f ε) Q else Ex (g ε) Q := by
  unfold vIf; rw [aAh]; congr 1; funext b; rw [ex_ite]
theorem ex_aCons {f : DEnv → Option D} {g : DEnv → Option (List D)} {ε : DEnv} {Q : List D → Prop} : Ex (aAb f g ε) Q = Ex (f ε) fun d => Ex (g ε) fun ds => Q (d :: ds) := by
  unfold aAb; rw [aAh]; congr 1; funext d; rw [aFk]
theorem ex_aNil {ε : DEnv} {Q : List D → Prop} : Ex (aNil ε) Q = Q [] := aAg
theorem ex_mkL {g : DEnv → Option (List D)} {ε : DEnv} {Q : D → Prop} : Ex (mkL g ε) Q = Ex (g ε) fun ds => ds.length ≤ sizeLine ∧ Q (.lst ds) := by
  unfold mkL; rw [aAh]; congr 1; funext ds; apply propext
  by_cases h : ds.length ≤ sizeLine
  · rw [if_pos h, aAg]; exact ⟨fun q => ⟨h, q⟩, fun q => q.2⟩
  · rw [if_neg h, aBi]; exact ⟨False.elim, fun q => h q.1⟩
theorem ex_mkT {g : DEnv → Option (List D)} {ε : DEnv} {Q : D → Prop} : Ex (mkT g ε) Q = Ex (g ε) fun ds => ds.length ≤ sizeLine ∧ Q (.tup ds) := by
  unfold mkT; rw [aAh]; congr 1; funext ds; apply propext
  by_cases h : ds.length ≤ sizeLine
  · rw [if_pos h, aAg]; exact ⟨fun q => ⟨h, q⟩, fun q => q.2⟩
  · rw [if_neg h, aBi]; exact ⟨False.elim, fun q => h q.1⟩
theorem ex_callS {g : List D → Option (Bool × D)} {fa : DEnv → Option (List D)} {ε : DEnv} {Q : D → Prop} : Ex (callS g [] fa ε) Q = Ex (fa ε) fun ds => Ex (g ds) fun r => Q r.2 := by
  unfold callS; rw [aAh]; congr 1; funext d; rw [aFk, List.append_nil]
theorem ex_callB {g : List D → Option (Bool × D)} {fa : DEnv → Option (List D)} {ε : DEnv} {Q : D → Prop} : Ex (aDb g fa ε) Q = Ex (fa ε) fun ds => Ex (g ds) fun r => aAr r.2 = true ∧ Q r.2 := by
  unfold aDb; rw [aAh]; congr 1; funext d; rw [aAh]; congr 1; funext r; apply propext
  by_cases h : aAr r.2 = true
  · rw [if_pos h, aAg]; exact ⟨fun q => ⟨h, q⟩, fun q => q.2⟩
  · rw [if_neg h, aBi]; exact ⟨False.elim, fun q => h q.1⟩
theorem flat_int {i : Int} : aAr (.int i) = true := rfl
theorem flat_bl {i : Bool} : aAr (.bl i) = true := rfl
theorem flat_non : aAr .non = true := rfl
theorem flat_str {i : Str} : aAr (.str i) = true := rfl
theorem ar_1 {g : List D → Option (Bool × D)} {a : D} : ar 1 g [a] = g [a] := rfl
theorem ar_2 {g : List D → Option (Bool × D)} {a b : D} : ar 2 g [a, b] = g [a, b] := rfl
theorem ar_3 {g : List D → Option (Bool × D)} {a b c : D} : ar 3 g [a, b, c] = g [a, b, c] := rfl
theorem ar_4 {g : List D → Option (Bool × D)} {a b c d : D} : ar 4 g [a, b, c, d] = g [a, b, c, d] := rfl
theorem ar_5 {g : List D → Option (Bool × D)} {a b c d e : D} : ar 5 g [a, b, c, d, e] = g [a, b, c, d, e] := rfl
noncomputable def RetQ (Q : Bool × D → Prop) : Out → Prop
  | .rt fr d => Q (fr, d)
  | .nx _ => Q (true, .non)
  | _ => False
theorem aCm {m : Nat} {F : DS} {ds : List D} {Q : Bool × D → Prop} : Ex (fnD m F ds) Q = Ex (F (aAs m ds)) (RetQ Q) := by
  unfold fnD
  apply propext
  cases h : F (aAs m ds) with
  | none => rw [aBi, aBi]
  | some o => cases o <;> simp only [aAg, aBi, RetQ]
theorem retq_rt {Q : Bool × D → Prop} {fr : Bool} {d : D} : RetQ Q (.rt fr d) = Q (fr, d) := rfl
theorem retq_nx {Q : Bool × D → Prop} {ε : DEnv} : RetQ Q (.nx ε) = Q (true, .non) := rfl
theorem vB_0 {fl : Bool} {d : D} {r : DEnv} : vB 0 (some (fl, d) :: r) = some d := rfl
theorem vB_s {i : Nat} {x : Option (Bool × D)} {r : DEnv} : vB (i + 1) (x :: r) = vB i r := rfl
theorem vS_0 {d : D} {r : DEnv} : vS 0 (some (false, d) :: r) = some d := rfl
theorem vS_s {i : Nat} {x : Option (Bool × D)} {r : DEnv} : vS (i + 1) (x :: r) = vS i r := rfl
theorem ownL_0 {ds : List D} {r : DEnv} : ownL 0 (some (true, .lst ds) :: r) = some ds := rfl
theorem ownL_s {i : Nat} {x : Option (Bool × D)} {r : DEnv} : ownL (i + 1) (x :: r) = ownL i r := rfl
theorem pubs_nil {ε : DEnv} : pubs [] ε = ε := rfl
theorem pubs_cons {i : Nat} {is : List Nat} {ε : DEnv} : pubs (i :: is) ε = pubs is (pub1 i ε) := rfl
theorem pub1_0 {fl : Bool} {d : D} {r : DEnv} : pub1 0 (some (fl, d) :: r) = some (false, d) :: r := rfl
theorem pub1_0n {r : DEnv} : pub1 0 (none :: r) = none :: r := rfl
theorem pub1_s {i : Nat} {x : Option (Bool × D)} {r : DEnv} : pub1 (i + 1) (x :: r) = x :: pub1 i r := by
  unfold pub1
  rw [List.getElem?_cons_succ]
  rcases h : r[i]? with _ | (_ | ⟨fl, d⟩) <;> rfl
theorem start_eq {m : Nat} {ds : List D} : aAs m ds = ds.map (fun d => some (false, d)) ++ List.replicate (m - ds.length) none := rfl
theorem sAdd {i j : Int} : gAdd (.int i) (.int j) = some (.int (i + j)) := rfl
theorem sSub {i j : Int} : gSub (.int i) (.int j) = some (.int (i - j)) := rfl
theorem exMul {i j : Int} {Q : D → Prop} : Ex (gMul (.int i) (.int j)) Q = (CMul i j ∧ Q (.int (i * j))) := by
  show Ex (if _ then _ else _) Q = _
  apply propext
  split
  · rename_i h; rw [aAg]; exact ⟨fun q => ⟨h, q⟩, fun q => q.2⟩
  · rename_i h; rw [aBi]; exact ⟨False.elim, fun q => h q.1⟩
theorem exFDiv {i j : Int} {Q : D → Prop} : Ex (gFDiv (.int i) (.int j)) Q = ((0 < j ∧ j < 1073741824) ∧ Q (.int (i / j))) := by
  show Ex (if _ then _ else _) Q = _
  apply propext
  split
  · rename_i h; rw [aAg]; exact ⟨fun q => ⟨h, q⟩, fun q => q.2⟩
  · rename_i h; rw [aBi]; exact ⟨False.elim, fun q => h q.1⟩
theorem exMod {i j : Int} {Q : D → Prop} : Ex (gMod (.int i) (.int j)) Q = (0 < j ∧ Q (.int (i % j))) := by
  show Ex (if _ then _ else _) Q = _
  apply propext
  split
  · rename_i h; rw [aAg]; exact ⟨fun q => ⟨h, q⟩, fun q => q.2⟩
  · rename_i h; rw [aBi]; exact ⟨False.elim, fun q => h q.1⟩
theorem exShl {i j : Int} {Q : D → Prop} : Ex (gShl (.int i) (.int j)) Q = ((0 ≤ j ∧ j ≤ 1000000 ∧ i.natAbs < 2 ^ 64) ∧ Q (.int (i * 2 ^ j.toNat))) := by
  show Ex (if _ then _ else _) Q = _
  apply propext
  split
  · rename_i h; rw [aAg]; exact ⟨fun q => ⟨h, q⟩, fun q => q.2⟩
  · rename_i h; rw [aBi]; exact ⟨False.elim, fun q => h q.1⟩
theorem exShr {i j : Int} {Q : D → Prop} : Ex (gShr (.int i) (.int j)) Q = (0 ≤ j ∧ Q (.int (i / 2 ^ j.toNat))) := by
  show Ex (if _ then _ else _) Q = _
  apply propext
  split
  · rename_i h; rw [aAg]; exact ⟨fun q => ⟨h, q⟩, fun q => q.2⟩
  · rename_i h; rw [aBi]; exact ⟨False.elim, fun q => h q.1⟩
theorem sBAnd {i j : Int} : gAnd (.int i) (.int j) = some (.int (Builtin.bitAnd i j)) := rfl
theorem sBOr {i j : Int} : gOr (.int i) (.int j) = some (.int (Builtin.bitOr i j)) := rfl
theorem sNeg {i : Int} : gNeg (.int i) = some (.int (-i)) := rfl
theorem sLt {i j : Int} : gLt (.int i) (.int j) = some (.bl (decide (i < j))) := rfl
theorem sLe {i j : Int} : gLe (.int i) (.int j) = some (.bl (decide (i ≤ j))) := rfl
theorem sGt {i j : Int} : gGt (.int i) (.int j) = some (.bl (decide (j < i))) := rfl
theorem sGe {i j : Int} : gGe (.int i) (.int j) = some (.bl (decide (j ≤ i))) := rfl
theorem sEq {i j : Int} : gEqA false (.int i) (.int j) = some (.bl (decide (i = j))) := by show some (D.bl (xor false (decide (i = j)))) = _; rw [Bool.false_xor]
theorem sNe {i j : Int} : gEqA true (.int i) (.int j) = some (.bl (!decide (i = j))) := by show some (D.bl (xor true (decide (i = j)))) = _; rw [Bool.true_xor]
theorem sEqS {i j : Str} : gEqA false (.str i) (.str j) = some (.bl (decide (i = j))) := by show some (D.bl (xor false (decide (i = j)))) = _; rw [Bool.false_xor]
theorem sNeS {i j : Str} : gEqA true (.str i) (.str j) = some (.bl (!decide (i = j))) := by show some (D.bl (xor true (decide (i = j)))) = _; rw [Bool.true_xor]
theorem sEqB {i j : Bool} : gEqA false (.bl i) (.bl j) = some (.bl (decide (i = j))) := by show some (D.bl (xor false (decide (i = j)))) = _; rw [Bool.false_xor]
theorem sNeB {i j : Bool} : gEqA true (.bl i) (.bl j) = some (.bl (!decide (i = j))) := by show some (D.bl (xor true (decide (i = j)))) = _; rw [Bool.true_xor]
theorem sIsN {d : D} : gIsN false d .non = some (.bl (isNon d)) := by show some (D.bl (xor false (isNon d))) = _; rw [Bool.false_xor]
theorem sNotN {d : D} : gIsN true d .non = some (.bl (!isNon d)) := by show some (D.bl (xor true (isNon d))) = _; rw [Bool.true_xor]
theorem isNon_non : isNon .non = true := rfl
theorem isNon_int {i : Int} : isNon (.int i) = false := rfl
theorem isNon_tup {i : List D} : isNon (.tup i) = false := rfl
theorem isNon_lst {i : List D} : isNon (.lst i) = false := rfl
theorem toB_bl {b : Bool} : toB (.bl b) = some b := rfl
theorem tru_bl {b : Bool} : truD (.bl b) = some b := rfl
theorem tru_int {i : Int} : truD (.int i) = some (i != 0) := rfl
theorem tru_lst {ds : List D} : truD (.lst ds) = some (!ds.isEmpty) := rfl
theorem tru_tup {ds : List D} : truD (.tup ds) = some (!ds.isEmpty) := rfl
theorem tru_non : truD .non = some false := rfl
theorem sLenL {ds : List D} : lenD [.lst ds] = some (.int ds.length) := rfl
theorem sLenT {ds : List D} : lenD [.tup ds] = some (.int ds.length) := rfl
theorem sTupL {ds : List D} : tupleD [.lst ds] = some (.tup ds) := rfl
theorem sTupT {ds : List D} : tupleD [.tup ds] = some (.tup ds) := rfl
theorem isMut_int {i : Int} : isMut (.int i) = false := rfl
theorem isMut_str {i : Str} : isMut (.str i) = false := rfl
theorem isMut_bl {i : Bool} : isMut (.bl i) = false := rfl
theorem isMut_non : isMut .non = false := rfl
theorem isMut_tup {i : List D} : isMut (.tup i) = false := rfl
theorem isMut_lst {i : List D} : isMut (.lst i) = true := rfl
theorem isi_int_int {i : Int} : isiD "int" (.int i) = some (.bl true) := rfl
theorem isi_int_bl {i : Bool} : isiD "int" (.bl i) = some (.bl true) := rfl
theorem isi_int_non : isiD "int" .non = some (.bl false) := rfl
theorem isi_bool_int {i : Int} : isiD "bool" (.int i) = some (.bl false) := rfl
theorem isi_tuple_tup {i : List D} : isiD "tuple" (.tup i) = some (.bl true) := rfl
theorem exCat {xs ys : List D} {Q : D → Prop} : Ex (gAdd (.lst xs) (.lst ys)) Q = (xs.length + ys.length ≤ sizeLine ∧ Q (.lst (xs ++ ys))) := by
  show Ex (((if _ then _ else _) : Option D).or none) Q = _
  rw [Option.or_none]
  apply propext
  split
  · rename_i h; rw [aAg]; exact ⟨fun q => ⟨h, q⟩, fun q => q.2⟩
  · rename_i h; rw [aBi]; exact ⟨False.elim, fun q => h q.1⟩
theorem exCatT {xs ys : List D} {Q : D → Prop} : Ex (gAdd (.tup xs) (.tup ys)) Q = (xs.length + ys.length ≤ sizeLine ∧ Q (.tup (xs ++ ys))) := by
  show Ex ((if _ then _ else _) : Option D) Q = _
  apply propext
  split
  · rename_i h; rw [aAg]; exact ⟨fun q => ⟨h, q⟩, fun q => q.2⟩
  · rename_i h; rw [aBi]; exact ⟨False.elim, fun q => h q.1⟩
theorem exIxL {xs : List D} {i : Int} {Q : D → Prop} : Ex (gIxA (.lst xs) (.int i)) Q = Ex (atI xs i) Q := by
  show Ex ((atI xs i).or none) Q = _
  rw [Option.or_none]
theorem exIxT {xs : List D} {i : Int} {Q : D → Prop} : Ex (gIxA (.tup xs) (.int i)) Q = Ex (atI xs i) Q := by
  show Ex ((atI xs i).or none) Q = _
  rw [Option.or_none]
theorem atI_ok {α : Type} {xs : List α} {i : Int} (h0 : 0 ≤ i) (h1 : i < xs.length) : atI xs i = some (xs[i.toNat]'(by omega)) := by
  unfold atI ixN
  rw [if_pos h0, if_pos h1]
  exact List.getElem?_eq_getElem _
theorem ex_slD {f : DEnv → Option D} {lo hi : DEnv → Option (Option Int)} {g : D → Option Int → Option Int → Option D} {ε : DEnv} {Q : D → Prop} : Ex (slD f lo hi g ε) Q = Ex (f ε) fun x => Ex (lo ε) fun a => Ex (hi ε) fun b => Ex (g x a b) Q := by
  unfold slD; rw [aAh]; congr 1; funext x; rw [aAh]; congr 1; funext a; rw [aAh]
theorem ex_oNone {ε : DEnv} {Q : Option Int → Prop} : Ex (oNone ε) Q = Q none := aAg
theorem ex_oSome {f : DEnv → Option D} {ε : DEnv} {Q : Option Int → Prop} : Ex (oSome f ε) Q = Ex (f ε) fun d => Ex (toI d) fun i => Q (some i) := by
  unfold oSome; rw [aFk, aAh]
theorem toI_i {i : Int} : toI (.int i) = some i := rfl
theorem slL {ds : List D} {lo hi : Option Int} : gSlL (.lst ds) lo hi = some (.lst (cutD ds lo hi)) := rfl
theorem cutD_len {α : Type} {xs : List α} {lo hi : Option Int} : (cutD xs lo hi).length ≤ xs.length := by
  unfold cutD; rw [List.length_take, List.length_drop]; omega
theorem cutD_mem {α : Type} {xs : List α} {lo hi : Option Int} {x : α} (h : x ∈ cutD xs lo hi) : x ∈ xs := by
  unfold cutD at h; exact List.mem_of_mem_drop (List.mem_of_mem_take h)
theorem ex_iS {f : DEnv → Option D} {ε : DEnv} {Q : List D → Prop} : Ex (iS f ε) Q = Ex (f ε) fun d => Ex (aHn d) Q := aAh
theorem items_l {ds : List D} : aHn (.lst ds) = some ds := rfl
theorem items_t {ds : List D} : aHn (.tup ds) = some ds := rfl
theorem ex_iEn {f : DEnv → Option D} {ε : DEnv} {Q : List D → Prop} : Ex (iEn f ε) Q = Ex (f ε) fun d => Ex (enumD d) Q := aAh
theorem enum_l {ds : List D} : enumD (.lst ds) = some (ds.mapIdx fun i d => D.tup [.int i, d]) := rfl
theorem enum_t {ds : List D} : enumD (.tup ds) = some (ds.mapIdx fun i d => D.tup [.int i, d]) := rfl
theorem intsD_map : ∀ xs : List Int, intsD (xs.map .int) = some xs
  | [] => rfl
  | x :: r => by rw [List.map_cons, intsD, intsD_map r]; rfl
theorem boolsD_map : ∀ xs : List Bool, boolsD (xs.map .bl) = some xs
  | [] => rfl
  | x :: r => by rw [List.map_cons, boolsD, boolsD_map r]; rfl
theorem sumD_map (xs : List Int) : sumD [.lst (xs.map .int)] = some (.int xs.sum) := by show (intsD (xs.map .int)).map _ = _; rw [intsD_map]; rfl
theorem allD_map (xs : List Bool) : allD [.lst (xs.map .bl)] = some (.bl (xs.all id)) := by show (boolsD (xs.map .bl)).map _ = _; rw [boolsD_map]; rfl
theorem minD_ii {i j : Int} : minD [.int i, .int j] = some (.int (if j < i then j else i)) := rfl
theorem intD_i {i : Int} : intD [.int i] = some (.int i) := rfl
theorem intD_b {b : Bool} : intD [.bl b] = some (.int (if b then 1 else 0)) := rfl
theorem sInv {i : Int} : gInv (.int i) = some (.int (-i - 1)) := rfl
theorem ex_unp {is : List Nat} {f : DEnv → Option D} {ε : DEnv} {Q : Out → Prop} : Ex (sUnp is f ε) Q = Ex (f ε) fun d => Ex (tgT is d ε) fun ε' => Q (.nx ε') := by
  unfold sUnp; rw [aAh]; congr 1; funext d; rw [aFk]
theorem tgT_t {is : List Nat} {ds : List D} {ε : DEnv} : tgT is (.tup ds) ε = tgs is ds ε := rfl
theorem tgs_nil {ε : DEnv} : tgs [] [] ε = some ε := rfl
theorem tgs_cons {i : Nat} {is : List Nat} {d : D} {ds : List D} {ε : DEnv} : tgs (i :: is) (d :: ds) ε = tgs is ds (ε.set i (some (false, d))) := rfl
theorem ex_vChain {f1 f2 f3 : DEnv → Option D} {g g' : D → D → Option D} {ε : DEnv} {Q : D → Prop} : Ex (vChain f1 f2 f3 g g' ε) Q = Ex (f1 ε) fun x => Ex (f2 ε) fun y => Ex (g x y) fun a => Ex (toB a) fun b => if b = true then Ex (f3 ε) fun z => Ex (g' y z) Q else Q (.bl false) := by
  unfold vChain; rw [aAh]; congr 1; funext x; rw [aAh]; congr 1; funext y; rw [aAh, aAh]; congr 1; funext a; congr 1; funext b; rw [ex_ite, aAg, aAh]
theorem ex_iR1 {f : DEnv → Option (List D)} {ε : DEnv} {Q : List D → Prop} : Ex (iR1 f ε) Q = Ex (f ε) fun d => Ex (rng1 d) Q := aAh
theorem tupOf_t {ds : List D} : tupOf (.tup ds) = some ds := rfl
theorem ex_rng1 {j : Int} {Q : List D → Prop} : Ex (rng1 [.int j]) Q = ((-(2 ^ 62) ≤ j ∧ j < 2 ^ 62) ∧ Q (rngD 0 j.toNat)) := by
  show Ex (if _ then _ else _) Q = _
  apply propext
  split
  · rename_i h; rw [aAg]; exact ⟨fun q => ⟨h, q⟩, fun q => q.2⟩
  · rename_i h; rw [aBi]; exact ⟨False.elim, fun q => h q.1⟩
theorem ex_for {fi : DEnv → Option (List D)} {ft : D → DEnv → Option DEnv} {F : DS} {ε : DEnv} {Q : Out → Prop} : Ex (sFor fi ft F ε) Q = Ex (fi ε) fun ds => Ex (loopD ft F ds ε) Q := aAh
noncomputable def TurnQ (N : DEnv → Prop) (B : DEnv → Prop) (R : Bool → D → Prop) : Out → Prop
  | .nx ε => N ε
  | .ct ε => N ε
  | .bk ε => B ε
  | .rt fr d => R fr d
theorem loop_inv {ft : D → DEnv → Option DEnv} {F : DS} {Q : Out → Prop} (I : List D → DEnv → Prop) : ∀ (ds done : List D) {ε : DEnv}, I done ε →
    (∀ pre d post ε, done ++ ds = pre ++ d :: post → I pre ε → Ex (ft d ε) fun ε1 => Ex (F ε1) (TurnQ (I (pre ++ [d])) (fun ε2 => Q (.nx ε2)) fun fr d => Q (.rt fr d))) →
    (∀ ε, I (done ++ ds) ε → Q (.nx ε)) → Ex (loopD ft F ds ε) Q
  | [], done, ε, h0, _, hq => by rw [loopD, aAg]; exact hq ε (by rw [List.append_nil]; exact h0)
  | d :: r, done, ε, h0, ht, hq => by
    rw [loopD, aAh]
    obtain ⟨ε1, e1, o, e2, q⟩ := ht done d r ε rfl h0
    refine ⟨ε1, e1, ?_⟩
    dsimp only
    rw [e2]
    have go : ∀ ε2, I (done ++ [d]) ε2 → Ex (loopD ft F r ε2) Q := fun ε2 h2 => loop_inv I r (done ++ [d]) h2 (fun pre x post ε e => ht pre x post ε (by rw [← e, List.append_assoc]; rfl)) (fun ε h => hq ε (by rw [List.append_assoc] at h; exact h))
    cases o with
    | nx ε2 => exact go ε2 q
    | ct ε2 => exact go ε2 q
    | bk ε2 => show Ex (some (Out.nx ε2)) Q; rw [aAg]; exact q
    | rt fr d => show Ex (some (Out.rt fr d)) Q; rw [aAg]; exact q
theorem ex_while {n : Nat} {c : DEnv → Option Bool} {F : DS} {ε : DEnv} {Q : Out → Prop} : Ex (sWhile n c F ε) Q = Ex (loopW c F n ε) Q := rfl
theorem while_inv {c : DEnv → Option Bool} {F : DS} {Q : Out → Prop} (I : Nat → DEnv → Prop) (ht : ∀ k ε, I k ε → Ex (c ε) fun b => if b = true then 0 < k ∧ Ex (F ε) (TurnQ (I (k - 1)) (fun ε2 => Q (.nx ε2)) fun fr d => Q (.rt fr d)) else Q (.nx ε)) :
    ∀ (n k : Nat) {ε : DEnv}, k < n → I k ε → Ex (loopW c F n ε) Q
  | 0, k, ε, hk, _ => absurd hk (by omega)
  | n + 1, k, ε, hk, h => by
    obtain ⟨b, eb, hb⟩ := ht k ε h
    rw [loopW, eb, aFb]
    cases b with
    | false => rw [if_neg Bool.false_ne_true] at hb ⊢; rw [aAg]; exact hb
    | true =>
      rw [if_pos rfl] at hb ⊢
      obtain ⟨h0, o, e2, q⟩ := hb
      rw [e2]
      cases o with
      | nx ε2 => exact while_inv I ht n (k - 1) (by omega) q
      | ct ε2 => exact while_inv I ht n (k - 1) (by omega) q
      | bk ε2 => show Ex (some (Out.nx ε2)) Q; rw [aAg]; exact q
      | rt fr d => show Ex (some (Out.rt fr d)) Q; rw [aAg]; exact q
theorem turnq_nx {N B : DEnv → Prop} {R : Bool → D → Prop} {ε : DEnv} : TurnQ N B R (.nx ε) = N ε := rfl
theorem turnq_ct {N B : DEnv → Prop} {R : Bool → D → Prop} {ε : DEnv} : TurnQ N B R (.ct ε) = N ε := rfl
theorem turnq_bk {N B : DEnv → Prop} {R : Bool → D → Prop} {ε : DEnv} : TurnQ N B R (.bk ε) = B ε := rfl
theorem turnq_rt {N B : DEnv → Prop} {R : Bool → D → Prop} {fr : Bool} {d : D} : TurnQ N B R (.rt fr d) = R fr d := rfl
theorem ex_tgN {i : Nat} {d : D} {ε : DEnv} {Q : DEnv → Prop} : Ex (tgN i d ε) Q = Q (ε.set i (some (false, d))) := aAg
theorem cTrue_eq {ε : DEnv} : cTrue ε = some true := rfl
theorem ex_compD {js : List (Option Nat)} {fi : DEnv → Option (List D)} {ft : D → DEnv → Option DEnv} {c : DEnv → Option Bool} {f : DEnv → Option D} {ε : DEnv} {Q : D → Prop} :
    Ex (compD js fi ft c f ε) Q = Ex (fi ε) fun ds => ds.length ≤ sizeLine ∧ Ex (compL ft c f ds (capL js ε)) fun ys => Q (.lst ys) := by
  unfold compD; rw [aAh]; congr 1; funext ds; apply propext
  by_cases h : ds.length ≤ sizeLine
  · rw [if_pos h, aFk]; exact ⟨fun q => ⟨h, q⟩, fun q => q.2⟩
  · rw [if_neg h, aBi]; exact ⟨False.elim, fun q => h q.1⟩
theorem compL_eq {ft : D → DEnv → Option DEnv} {c : DEnv → Option Bool} {f : DEnv → Option D} (I : DEnv → Prop) (p : D → Bool) (v : D → D) : ∀ (ds : List D) {ε : DEnv}, I ε →
    (∀ d ∈ ds, ∀ ε, I ε → Ex (ft d ε) fun ε1 => I ε1 ∧ c ε1 = some (p d) ∧ (p d = true → f ε1 = some (v d))) → compL ft c f ds ε = some ((ds.filter p).map v)
  | [], ε, _, _ => rfl
  | d :: r, ε, h0, h => by
    obtain ⟨ε1, e1, i1, ec, ev⟩ := h d List.mem_cons_self ε h0
    have ih := compL_eq I p v r i1 fun x hx => h x (List.mem_cons_of_mem _ hx)
    rw [compL, e1, aFb, ec, aFb, List.filter_cons]
    cases hp : p d with
    | true => rw [if_pos rfl, ev hp, aFb, ih, if_pos rfl]; rfl
    | false => rw [if_neg Bool.false_ne_true, ih, if_neg Bool.false_ne_true]
theorem mem_rngD {lo : Int} {n : Nat} {d : D} : d ∈ rngD lo n ↔ ∃ i : Nat, i < n ∧ d = .int (lo + i) := by
  unfold rngD
  rw [List.mem_map]
  constructor
  · rintro ⟨i, hi, rfl⟩; exact ⟨i, List.mem_range.mp hi, rfl⟩
  · rintro ⟨i, hi, rfl⟩; exact ⟨i, List.mem_range.mpr hi, rfl⟩
theorem aFl {lo : Int} {n : Nat} : (rngD lo n).length = n := by unfold rngD; rw [List.length_map, List.length_range]
end DL
namespace DL
open PySem L2
theorem aDk (a b : Nat) : Builtin.bitAnd (a : Int) (b : Int) = ((a &&& b : Nat) : Int) := by
  unfold Builtin.bitAnd
  rw [decide_eq_true (Int.natCast_nonneg a), decide_eq_true (Int.natCast_nonneg b)]
  simp
theorem aEo (a b : Nat) : Builtin.bitOr (a : Int) (b : Int) = ((a ||| b : Nat) : Int) := by
  unfold Builtin.bitOr Builtin.bitAnd
  have n : ∀ x : Nat, Builtin.bitNot (x : Int) = -(x : Int) - 1 := fun _ => rfl
  have d : ∀ x : Nat, decide (0 ≤ Builtin.bitNot (x : Int)) = false := fun x => decide_eq_false (by rw [n]; omega)
  have m : ∀ x : Nat, (Builtin.bitNot (Builtin.bitNot (x : Int))).toNat = x := fun x => by show (-(-(x : Int) - 1) - 1).toNat = x; omega
  rw [d, d]
  simp only [m]
  show -(-((a ||| b : Nat) : Int) - 1) - 1 = _
  omega
noncomputable def aEq : Nat → (Nat → Bool) → Nat
  | 0, _ => 0
  | w + 1, f => aEq w f + if f w then 2 ^ w else 0
theorem ofBits_lt : ∀ (w : Nat) (f : Nat → Bool), aEq w f < 2 ^ w
  | 0, f => by simp [aEq]
  | w + 1, f => by
    have := ofBits_lt w f
    rw [aEq, Nat.pow_succ]
    split <;> omega
theorem aFw : ∀ (w : Nat) (f : Nat → Bool) (p : Nat), (aEq w f).testBit p = (decide (p < w) && f p)
  | 0, f, p => by simp [aEq]
  | w + 1, f, p => by
    have hl := ofBits_lt w f
    rw [aEq]
    by_cases hw : f w = true
    · rw [if_pos hw, Nat.add_comm]
      by_cases hp : p = w
      · subst hp
        rw [Nat.testBit_two_pow_add_eq, Nat.testBit_lt_two_pow hl]
        simp [hw]
      · by_cases hp2 : p < w
        · rw [Nat.testBit_two_pow_add_gt hp2, aFw w f p]
          simp [hp2, Nat.lt_succ_of_lt hp2]
        · have : (2 ^ w + aEq w f) < 2 ^ p := by
            have : 2 ^ (w + 1) ≤ 2 ^ p := Nat.pow_le_pow_right (by omega) (by omega)
            rw [Nat.pow_succ] at this
            omega
          rw [Nat.testBit_lt_two_pow this]
          have : ¬ p < w + 1 := by omega
          simp [this]
    · rw [if_neg hw, Nat.add_zero, aFw w f p]
      by_cases hp : p = w
      · subst hp; simp [hw]
      · by_cases hp2 : p < w
        · simp [hp2, Nat.lt_succ_of_lt hp2]
        · have : ¬ p < w + 1 := by omega
          simp [hp2, this]
theorem testBit_iff (x p : Nat) : x / 2 ^ p % 2 = 1 ↔ x.testBit p = true := by
  rw [Nat.testBit_eq_decide_div_mod_eq]; simp
theorem bit_ediv (x p : Nat) : decide ((x : Int) / (2 ^ p) % 2 = 1) = x.testBit p := by
  rw [Nat.testBit_eq_decide_div_mod_eq]
  have : ((x : Int) / (2 ^ p) % 2 = 1) ↔ (x / 2 ^ p % 2 = 1) := by
    have e : (x : Int) / (2 ^ p) % 2 = ((x / 2 ^ p % 2 : Nat) : Int) := by
      rw [Int.natCast_emod, Int.natCast_ediv, Int.natCast_pow]; rfl
    rw [e]
    omega
  exact decide_eq_decide.mpr this
theorem aCd (x p : Nat) : Builtin.bitAnd ((x : Int) / 2 ^ p) 1 = if x.testBit p then 1 else 0 := by
  have e : (x : Int) / 2 ^ p = ((x / 2 ^ p : Nat) : Int) := by rw [Int.natCast_ediv, Int.natCast_pow]; rfl
  rw [e, show (1 : Int) = ((1 : Nat) : Int) from rfl, aDk, Nat.and_one_is_mod]
  cases h : x.testBit p with
  | true => rw [(testBit_iff x p).mpr h]; rfl
  | false =>
    have : x / 2 ^ p % 2 ≠ 1 := fun z => by rw [(testBit_iff x p).mp z] at h; cases h
    have : x / 2 ^ p % 2 = 0 := by omega
    rw [this]; rfl
theorem aHs (n : Nat) : ((2 ^ n : Nat) : Int) = 2 ^ n := by rw [Int.natCast_pow]; rfl
theorem eqL_ints {n : Nat} : ∀ (xs ys : List Int), eqL (eqN (n + 1)) (xs.map D.int) (ys.map D.int) = some (decide (xs = ys))
  | [], [] => rfl
  | [], _ :: _ => rfl
  | _ :: _, [] => rfl
  | x :: xs, y :: ys => by
    have e : eqN (n + 1) (D.int x) (D.int y) = some (x == y) := rfl
    simp only [List.map_cons, eqL]
    rw [e, aFb, eqL_ints xs ys, map_s]
    congr 1
    by_cases h : x = y <;> by_cases h' : xs = ys <;> simp [h, h']
theorem sEqT {xs ys : List Int} : gEqA false (.tup (xs.map .int)) (.tup (ys.map .int)) = some (.bl (decide (xs = ys))) := by
  show ((eqL (eqN 5) (xs.map D.int) (ys.map D.int)).map fun b => D.bl (xor false b)) = _
  rw [eqL_ints]; simp
noncomputable abbrev dN (n : Nat) : D := .int (n : Int)
theorem map_dN (ns : List Nat) : ns.map dN = (ns.map fun n : Nat => (n : Int)).map D.int := by rw [List.map_map]; rfl
end DL
namespace DL
open PySem L2
inductive Mx | no | yes | least | most | middle | odd
  deriving DecidableEq
namespace Mx
noncomputable def name : Mx → Str
  | no => "no" | yes => "yes" | least => "least" | most => "most" | middle => "middle" | odd => "odd"
noncomputable def all : List Mx := [no, yes, least, most, middle, odd]
end Mx
theorem at0 {α : Type} {a : α} {r : List α} : atI (a :: r) 0 = some a := atI_ok (by decide) (by simp only [List.length_cons]; omega)
theorem at1 {α : Type} {a b : α} {r : List α} : atI (a :: b :: r) 1 = some b := atI_ok (by decide) (by simp only [List.length_cons]; omega)
theorem at2 {α : Type} {a b c : α} {r : List α} : atI (a :: b :: c :: r) 2 = some c := atI_ok (by decide) (by simp only [List.length_cons]; omega)
theorem shl1 (n : Nat) : (1 : Int) * 2 ^ ((n : Nat) : Int).toNat = ((2 ^ n : Nat) : Int) := by rw [Int.toNat_natCast, aHs]; omega
theorem aCl (n : Nat) (h : n ≤ 1000000) : (0 : Int) ≤ (n : Int) ∧ (n : Int) ≤ 1000000 ∧ Int.natAbs 1 < 2 ^ 64 := ⟨by omega, by omega, by decide⟩
theorem loop_ix {ft : D → DEnv → Option DEnv} {F : DS} {Q : Out → Prop} {ds : List D} {ε : DEnv} (I : Nat → DEnv → Prop) (h0 : I 0 ε)
    (ht : ∀ (k : Nat) (h : k < ds.length) ε, I k ε → Ex (ft ds[k] ε) fun ε1 => Ex (F ε1) (TurnQ (I (k + 1)) (fun ε2 => Q (.nx ε2)) fun fr d => Q (.rt fr d))) (hq : ∀ ε, I ds.length ε → Q (.nx ε)) : Ex (loopD ft F ds ε) Q := by
  refine loop_inv (fun pre => I pre.length) ds [] h0 (fun pre d post ε e h => ?_) hq
  rw [List.nil_append] at e
  have hk : pre.length < ds.length := by rw [e, List.length_append, List.length_cons]; omega
  have hd : ds[pre.length] = d := by
    have : ds[pre.length]? = some d := by rw [e, List.getElem?_append_right (Nat.le_refl _), Nat.sub_self]; rfl
    rw [List.getElem?_eq_getElem hk] at this
    exact Option.some.inj this
  have := ht pre.length hk ε h
  rw [hd] at this
  rw [List.length_append, List.length_singleton]
  exact this
theorem get_rngD {lo : Int} {n k : Nat} (h : k < (rngD lo n).length) : (rngD lo n)[k] = .int (lo + k) := by
  simp [rngD]
theorem loop_rng {ft : D → DEnv → Option DEnv} {F : DS} {Q : Out → Prop} {lo : Int} {n : Nat} {ε : DEnv} (I : Nat → DEnv → Prop) (h0 : I 0 ε)
    (ht : ∀ k, k < n → ∀ ε, I k ε → Ex (ft (.int (lo + k)) ε) fun ε1 => Ex (F ε1) (TurnQ (I (k + 1)) (fun ε2 => Q (.nx ε2)) fun fr d => Q (.rt fr d))) (hq : ∀ ε, I n ε → Q (.nx ε)) : Ex (loopD ft F (rngD lo n) ε) Q :=
  loop_ix I h0 (fun k h ε i => by rw [get_rngD]; exact ht k (by rw [aFl] at h; exact h) ε i) (by rw [aFl]; exact hq)
theorem aDx {ft : D → DEnv → Option DEnv} {F : DS} {Q : Out → Prop} {n : Nat} {ε : DEnv} (I : Nat → DEnv → Prop) (h0 : I 0 ε)
    (ht : ∀ k, k < n → ∀ ε, I k ε → Ex (ft (dN k) ε) fun ε1 => Ex (F ε1) (TurnQ (I (k + 1)) (fun ε2 => Q (.nx ε2)) fun fr d => Q (.rt fr d))) (hq : ∀ ε, I n ε → Q (.nx ε)) : Ex (loopD ft F (rngD 0 n) ε) Q :=
  loop_rng I h0 (fun k h ε i => by rw [Int.zero_add]; exact ht k h ε i) hq
end DL
namespace DL
open PySem L2
theorem ofBits_congr : ∀ {w : Nat} {f g : Nat → Bool}, (∀ p, p < w → f p = g p) → aEq w f = aEq w g
  | 0, _, _, _ => rfl
  | w + 1, f, g, h => by rw [aEq, aEq, ofBits_congr (fun p hp => h p (by omega)), h w (by omega)]
noncomputable def rowN (scope : List Nat) (s : Nat) : Nat := aEq scope.length fun k => s.testBit (scope.getD k 0)
theorem rowN_snoc (scope : List Nat) (u s : Nat) : rowN (scope ++ [u]) s = rowN scope s + if s.testBit u then 2 ^ scope.length else 0 := by
  unfold rowN
  rw [List.length_append, List.length_singleton, aEq]
  congr 1
  · apply ofBits_congr
    intro p hp
    simp [List.getD, List.getElem?_append_left hp]
  · simp [List.getD]
theorem rowN_lt (scope : List Nat) (s : Nat) : rowN scope s < 2 ^ scope.length := ofBits_lt _ _
theorem testBit_rowN (scope : List Nat) (s k : Nat) (hk : k < scope.length) : (rowN scope s).testBit k = s.testBit (scope[k]) := by
  unfold rowN
  rw [aFw]
  simp [hk, List.getD]
theorem snoc_rec {α : Type} {P : List α → Prop} (h0 : P []) (h1 : ∀ xs x, P xs → P (xs ++ [x])) (xs : List α) : P xs := by
  rw [← List.reverse_reverse xs]
  induction xs.reverse with
  | nil => exact h0
  | cons x r ih => rw [List.reverse_cons]; exact h1 _ _ ih
theorem mod_nat (x : Int) {n : Nat} (h : 0 < n) : ∃ r : Nat, x % (n : Int) = r ∧ r < n := by
  have m0 := Int.emod_nonneg x (show (n : Int) ≠ 0 by omega)
  have m1 := Int.emod_lt_of_pos x (show (0 : Int) < (n : Int) by omega)
  exact ⟨(x % (n : Int)).toNat, by omega, by omega⟩
theorem ixN_nat {n k : Nat} (h : k < n) : ixN n (k : Int) = some k := by
  unfold ixN
  rw [if_pos (by omega), if_pos (by omega), Int.toNat_natCast]
theorem atN {α : Type} {xs : List α} {k : Nat} (h : k < xs.length) : atI xs (k : Int) = some xs[k] := by
  unfold atI
  rw [ixN_nat h]
  exact List.getElem?_eq_getElem h
theorem aCe : sizeLine = 16777216 := rfl
theorem mem_mapIdx_tup {ds : List D} {x : D} (h : x ∈ ds.mapIdx fun i d => D.tup [.int i, d]) : ∃ (i : Nat) (hi : i < ds.length), x = .tup [.int i, ds[i]] := by
  obtain ⟨i, hi, e⟩ := List.mem_mapIdx.mp h
  exact ⟨i, hi, e.symm⟩
noncomputable abbrev Tie := List Nat × Nat
noncomputable def tieD (t : Tie) : D := .tup [.tup (t.1.map dN), dN t.2]
noncomputable def met (s : Nat) (t : Tie) : Bool := t.2.testBit (rowN t.1 s)
noncomputable def unm (s : Nat) (ties : List Tie) (k : Nat) : Bool := match ties[k]? with
  | some t => !met s t
  | none => false
theorem unm_at {s : Nat} {ties : List Tie} {k : Nat} (h : k < ties.length) : unm s ties k = !met s ties[k] := by
  unfold unm; rw [List.getElem?_eq_getElem h]
noncomputable def optD : Option Nat → D
  | none => .non
  | some n => dN n
noncomputable def First (P : Nat → Bool) (n : Nat) : Option Nat → Prop
  | none => ∀ j, j < n → P j = false
  | some k => k < n ∧ P k = true ∧ ∀ j, j < k → P j = false
theorem aGs {α : Type} {xs : List α} {i : Nat} (h : i < xs.length) : xs[i]? = some xs[i] := List.getElem?_eq_getElem h
end DL
namespace DL
open PySem L2
noncomputable def aCb (T : Nat) : List Nat := (List.range 16).filter fun p => T.testBit p
theorem aIh {T p : Nat} : p ∈ aCb T ↔ p < 16 ∧ T.testBit p = true := by
  unfold aCb; rw [List.mem_filter, List.mem_range]
theorem mem_rowsOf' {T p : Nat} (h : T < 2 ^ 16) : p ∈ aCb T ↔ T.testBit p = true := by
  rw [aIh]
  refine ⟨fun z => z.2, fun z => ⟨?_, z⟩⟩
  by_cases hp : p < 16
  · exact hp
  · rw [Nat.testBit_lt_two_pow (Nat.lt_of_lt_of_le h (Nat.pow_le_pow_right (by omega) (by omega)))] at z; cases z
theorem aHt {p : Nat → Bool} {a : Nat} : ∀ {b : Nat}, a ≤ b → (∀ i, a ≤ i → i < b → p i = false) → (List.range b).filter p = (List.range a).filter p
  | 0, h, _ => by have : a = 0 := by omega
                  rw [this]
  | b + 1, h, hp => by
    by_cases e : a = b + 1
    · rw [e]
    · rw [List.range_succ, List.filter_append, aHt (b := b) (by omega) fun i h1 h2 => hp i h1 (by omega)]
      simp [hp b (by omega) (by omega)]
theorem rowsOf_bits {T : Nat} (h : T < 2 ^ 16) : (List.range (Builtin.Int.intBits (T : Int))).filter (fun p => T.testBit p) = aCb T := by
  unfold Builtin.Int.intBits aCb
  by_cases h0 : T = 0
  · subst h0; decide
  · have h0' : ((T : Int) == 0) = false := by simp; exact h0
    rw [h0', if_neg Bool.false_ne_true, Int.natAbs_natCast]
    have hl : T.log2 < 16 := (Nat.log2_lt h0).mpr h
    refine (aHt (by omega) fun i h1 h2 => ?_).symm
    exact Nat.testBit_lt_two_pow (Nat.lt_of_lt_of_le (Nat.lt_log2_self) (Nat.pow_le_pow_right (by omega) h1))
theorem bits_le {T : Nat} (h : T < 2 ^ 16) : Builtin.Int.intBits (T : Int) ≤ 16 := by
  unfold Builtin.Int.intBits
  by_cases h0 : T = 0
  · subst h0; decide
  · have h0' : ((T : Int) == 0) = false := by simp; exact h0
    rw [h0', if_neg Bool.false_ne_true, Int.natAbs_natCast]
    have hl : T.log2 < 16 := (Nat.log2_lt h0).mpr h
    omega
noncomputable def Sub (A B : Nat) : Prop := ∀ p, A.testBit p = true → B.testBit p = true
theorem table_lt {T w : Nat} (hw : w ≤ 4) (h : T < 2 ^ 2 ^ w) : T < 2 ^ 16 := Nat.lt_of_lt_of_le h (Nat.pow_le_pow_right (by omega) (by
  have : 2 ^ w ≤ 2 ^ 4 := Nat.pow_le_pow_right (by omega) hw
  omega))
theorem in_any (x : Nat) : ∀ rows : List Nat, (rows.map dN).any (fun z => eqFD z (dN x)) = decide (x ∈ rows)
  | [] => rfl
  | r :: rs => by
    rw [List.map_cons, List.any_cons, in_any x rs]
    have e : eqFD (dN r) (dN x) = decide (r = x) := by show ((r : Int) == (x : Int)) = _; apply Bool.eq_iff_iff.mpr; simp; omega
    rw [e]
    by_cases h : r = x
    · subst h; simp
    · have h' : ¬ x = r := fun z => h z.symm
      simp [h, h']
theorem all_flat (rows : List Nat) : (rows.map dN).all aAr = true := by
  rw [List.all_eq_true]
  intro y hy
  obtain ⟨n, _, rfl⟩ := List.mem_map.mp hy
  rfl
theorem notIn_dN {x : Nat} {rows : List Nat} : gIn true (dN x) (.lst (rows.map dN)) = some (.bl (!decide (x ∈ rows))) := by
  show (if aAr (dN x) && (rows.map dN).all aAr then some (D.bl (if true then _ else _)) else none) = _
  rw [all_flat, in_any]; rfl
end DL
namespace DL
open PySem L2
noncomputable def neg (w x : Nat) : Nat := 2 ^ w - (x + 1)
end DL
namespace DL
open PySem L2
noncomputable def trn (up : Bool) (n r : Nat) : Nat := if up then r else neg n r
structure TieOk (t : Tie) : Prop where
  len : t.1.length ≤ 4
  tab : t.2 < 2 ^ 2 ^ t.1.length
theorem TieOk.t16 {t : Tie} (h : TieOk t) : t.2 < 2 ^ 16 := table_lt h.len h.tab
noncomputable def goes (known : Nat) (scope : List Nat) (r : Nat) : Bool := (List.range scope.length).all fun k => !known.testBit (scope.getD k 0) || r.testBit k
noncomputable def liveL (up : Bool) (known : Nat) (t : Tie) : List Nat := ((aCb t.2).map (trn up t.1.length)).filter (goes known t.1)
noncomputable def pushP (up : Bool) (known : Nat) (t : Tie) (k : Nat) : Bool := (liveL up known t).all (·.testBit k) && !known.testBit (t.1.getD k 0)
noncomputable def pushL (up : Bool) (known : Nat) (t : Tie) : List Nat := if liveL up known t = [] then [] else ((List.range t.1.length).filter (pushP up known t)).map fun k => t.1.getD k 0
end DL
namespace DL
open PySem L2
noncomputable def has (up : Bool) (s u : Nat) : Bool := s.testBit u == up
noncomputable def left (many known : Nat) : Nat := ((List.range many).filter fun u => !known.testBit u).length
noncomputable def Ends (up : Bool) (ties : List Tie) (known : Nat) : Option Nat → Prop
  | some k => ∃ h : k < ties.length, liveL up known ties[k] = []
  | none => ∀ t ∈ ties, liveL up known t ≠ [] ∧ pushL up known t = []
end DL
namespace DL
open PySem L2
noncomputable def gSlT (x : D) (lo hi : Option Int) : Option D := match x with
  | .tup ds => some (.tup (cutD ds lo hi))
  | _ => none
theorem slT {ds : List D} {lo hi : Option Int} : gSlT (.tup ds) lo hi = some (.tup (cutD ds lo hi)) := rfl
end DL
namespace DL
open PySem L2
end DL
namespace DL
open PySem L2
theorem lt_of_bit {r w p : Nat} (h : r < 2 ^ w) (hb : r.testBit p = true) : p < w := by
  by_cases z : p < w
  · exact z
  · rw [Nat.testBit_lt_two_pow (Nat.lt_of_lt_of_le h (Nat.pow_le_pow_right (by omega) (by omega)))] at hb; cases hb
theorem in_dNT {x : Nat} {rows : List Nat} : gIn false (dN x) (.tup (rows.map dN)) = some (.bl (decide (x ∈ rows))) := by
  show (if aAr (dN x) && (rows.map dN).all aAr then some (D.bl (if false then _ else _)) else none) = _
  rw [all_flat, in_any]; rfl
theorem sEqNil {ds : List D} : gEqA false (.lst ds) (.lst []) = some (.bl ds.isEmpty) := by cases ds <;> rfl
theorem sNeNil {ds : List D} : gEqA true (.lst ds) (.lst []) = some (.bl (!ds.isEmpty)) := by cases ds <;> rfl
theorem rngD0 (n : Nat) : rngD 0 n = (List.range n).map dN := by unfold rngD; simp only [Int.zero_add]
theorem aHu {α : Type} {ft : D → DEnv → Option DEnv} {c : DEnv → Option Bool} {f : DEnv → Option D} (I : DEnv → Prop) (g : α → D) (p : α → Bool) (v : α → D) : ∀ (xs : List α) {ε : DEnv}, I ε →
    (∀ x ∈ xs, ∀ ε, I ε → Ex (ft (g x) ε) fun ε1 => I ε1 ∧ c ε1 = some (p x) ∧ (p x = true → f ε1 = some (v x))) → compL ft c f (xs.map g) ε = some ((xs.filter p).map v)
  | [], ε, _, _ => rfl
  | d :: r, ε, h0, h => by
    obtain ⟨ε1, e1, i1, ec, ev⟩ := h d List.mem_cons_self ε h0
    have ih := aHu I g p v r i1 fun x hx => h x (List.mem_cons_of_mem _ hx)
    rw [List.map_cons, compL, e1, aFb, ec, aFb, List.filter_cons]
    cases hp : p d with
    | true => rw [if_pos rfl, ev hp, aFb, ih, if_pos rfl]; rfl
    | false => rw [if_neg Bool.false_ne_true, ih, if_neg Bool.false_ne_true]
theorem sumD_nat (xs : List Nat) : sumD [.lst (xs.map dN)] = some (dN xs.sum) := by
  rw [map_dN, sumD_map]
  congr 2
  induction xs with
  | nil => rfl
  | cons x r ih => rw [List.map_cons, List.sum_cons, List.sum_cons, ih]; omega
theorem sum_powN (p : Nat → Bool) : ∀ n : Nat, (((List.range n).filter p).map fun i => 2 ^ i).sum = aEq n p
  | 0 => rfl
  | n + 1 => by
    rw [List.range_succ, List.filter_append, List.map_append, List.sum_append, sum_powN p n, aEq]
    cases h : p n with
    | true => simp [h]
    | false => simp [h]
theorem cut_take {α : Type} {xs : List α} {k : Nat} : cutD xs none (some (k : Int)) = xs.take k := by
  have e1 : HT.sIx xs.length 0 none = 0 := rfl
  have e2 : HT.sIx xs.length xs.length (some (k : Int)) = min k xs.length := by
    show (if (k : Int) < 0 then ((k : Int) + (xs.length : Int)).toNat else min (k : Int).toNat xs.length) = _
    rw [if_neg (by omega), Int.toNat_natCast]
  unfold cutD
  rw [e1, e2, List.drop_zero, Nat.sub_zero]
  by_cases h : k ≤ xs.length
  · rw [Nat.min_eq_left h]
  · rw [Nat.min_eq_right (by omega), List.take_of_length_le (Nat.le_refl _), List.take_of_length_le (by omega)]
theorem aFx {f : DEnv → Option D} {G : DS} {ε : DEnv} {Q : Out → Prop} {i : Nat} {P : D → Prop} (hf : Ex (f ε) P) (h : ∀ d, P d → Ex (G (ε.set i (some (isMut d, d)))) Q) : Ex (sSeq (aBk i f) G ε) Q := by
  rw [aHr, ex_asgF]
  exact hf.imp fun d p => h d p
theorem ex_asgS1 {f : DEnv → Option D} {G : DS} {ε : DEnv} {Q : Out → Prop} {i : Nat} {P : D → Prop} (hf : Ex (f ε) P) (h : ∀ d, P d → Ex (G (ε.set i (some (false, d)))) Q) : Ex (sSeq (sAsgS i f) G ε) Q := by
  rw [aHr, ex_asgS]
  exact hf.imp fun d p => h d p
theorem ex_optset {α : Type} {c : DEnv → Option Bool} {f : DEnv → Option D} {G : DS} {Q : Out → Prop} {i : Nat} (E : α → DEnv) (g : α → D) {n0 : α} (hset : ∀ a, (E n0).set i (some (isMut (g a), g a)) = E a)
    (hc : Ex (c (E n0)) fun _ => True) (hf : c (E n0) = some true → Ex (f (E n0)) fun d => ∃ a, d = g a) (h : ∀ a, Ex (G (E a)) Q) : Ex (sSeq (sIf c (aBk i f) sNil) G (E n0)) Q := by
  rw [aHr, ex_if]
  obtain ⟨b, eb, _⟩ := hc
  rw [eb, aAg]
  cases b with
  | true =>
    rw [if_pos rfl, ex_asgF]
    refine (hf eb).imp ?_
    rintro d ⟨a, rfl⟩
    rw [hset]
    exact h a
  | false =>
    rw [if_neg Bool.false_ne_true, ex_nil]
    exact h n0
theorem aHv {F G : DS} {ε : DEnv} {Q : Out → Prop} {P : DEnv → Prop} (hF : Ex (F ε) fun o => ∃ ε', o = .nx ε' ∧ P ε') (h : ∀ ε', P ε' → Ex (G ε') Q) : Ex (sSeq F G ε) Q := by
  rw [aHr]
  refine hF.imp ?_
  rintro _ ⟨ε', rfl, p⟩
  exact h ε' p
end DL
namespace DL
open PySem L2
inductive Why | tie (t : Nat) | self | join (i j : Nat) | both (i j : Nat) | turn (i : Nat)
noncomputable def whyD : Why → D
  | .tie t => .tup [.str "tie", dN t]
  | .self => .tup [.str "self"]
  | .join i j => .tup [.str "join", dN i, dN j]
  | .both i j => .tup [.str "both", dN i, dN j]
  | .turn i => .tup [.str "turn", dN i]
structure PLine where
  x : Nat
  y : Nat
  p : Nat
  w : Why
noncomputable def aCt (l : PLine) : D := .tup [dN l.x, dN l.y, dN l.p, whyD l.w]
noncomputable def b01 (b : Bool) : Nat := if b then 1 else 0
noncomputable def prN (a b : Bool) : Nat := b01 a + 2 * b01 b
theorem prN_lt (a b : Bool) : prN a b < 4 := by cases a <;> cases b <;> decide
noncomputable def orF {α : Type} (g : α → Nat) (L : List α) (a : Nat) : Nat := L.foldl (fun acc r => acc ||| 2 ^ g r) a
theorem orF_snoc {α : Type} (g : α → Nat) (L : List α) (r : α) (a : Nat) : orF g (L ++ [r]) a = orF g L a ||| 2 ^ g r := by unfold orF; rw [List.foldl_append]; rfl
theorem testBit_orF {α : Type} (g : α → Nat) (q : Nat) : ∀ (L : List α) (a : Nat), (orF g L a).testBit q = true ↔ a.testBit q = true ∨ ∃ r ∈ L, g r = q
  | [], a => by simp [orF]
  | r :: L, a => by
    have ih := testBit_orF g q L (a ||| 2 ^ g r)
    rw [show orF g (r :: L) a = orF g L (a ||| 2 ^ g r) from rfl, ih, Nat.testBit_or, Nat.testBit_two_pow, Bool.or_eq_true, decide_eq_true_eq]
    constructor
    · rintro ((h | h) | ⟨r', h1, h2⟩)
      · exact .inl h
      · exact .inr ⟨r, List.mem_cons_self, h⟩
      · exact .inr ⟨r', List.mem_cons_of_mem _ h1, h2⟩
    · rintro (h | ⟨r', h1, h2⟩)
      · exact .inl (.inl h)
      · rcases List.mem_cons.mp h1 with rfl | h1
        · exact .inl (.inr h2)
        · exact .inr ⟨r', h1, h2⟩
noncomputable def tieP (T i j : Nat) : Nat := orF (fun r => prN (r.testBit i) (r.testBit j)) (aCb T) 0
noncomputable def turnP (p : Nat) : Nat := ((aCb p).map fun q => 2 ^ (q / 2 + 2 * (q % 2))).sum
noncomputable def jn (a b : Nat) : List (Nat × Nat) := ((aCb a).map fun u => ((aCb b).filter fun v => decide (u / 2 = v % 2)).map fun v => (u, v)).flatten
noncomputable def joinP (a b : Nat) : Nat := orF (fun q : Nat × Nat => q.1 % 2 + 2 * (q.2 / 2)) (jn a b) 0
noncomputable def leftO (ties : List Tie) (lines : List PLine) (place : Nat) (l : PLine) : Option Nat := match l.w with
  | .self => if l.x = l.y then some 9 else none
  | .tie t => match ties[t]? with
    | some e => if l.x ∈ e.1 ∧ l.y ∈ e.1 then some (tieP e.2 (e.1.idxOf l.x) (e.1.idxOf l.y)) else none
    | none => none
  | .turn i => if i < place then match lines[i]? with
      | some f => if f.x = l.y ∧ f.y = l.x then some (turnP f.p) else none
      | none => none
    else none
  | .both i j => if i < place ∧ j < place then match lines[i]?, lines[j]? with
      | some f, some g => if (f.x = l.x ∧ f.y = l.y) ∧ g.x = l.x ∧ g.y = l.y then some (f.p &&& g.p) else none
      | _, _ => none
    else none
  | .join i j => if i < place ∧ j < place then match lines[i]?, lines[j]? with
      | some f, some g => if f.x = l.x ∧ f.y = g.x ∧ g.y = l.y then some (joinP f.p g.p) else none
      | _, _ => none
    else none
theorem row_idx {scope : List Nat} {s x : Nat} (h : x ∈ scope) : (rowN scope s).testBit (scope.idxOf x) = s.testBit x := by
  have hl := List.idxOf_lt_length_iff.mpr h
  rw [testBit_rowN scope s _ hl, List.getElem_idxOf]
theorem intsD_dN (xs : List Nat) : intsD (xs.map dN) = some (xs.map fun n : Nat => (n : Int)) := by rw [map_dN, intsD_map]
theorem idx_dN {x : Nat} : ∀ {xs : List Nat}, (xs.map fun n : Nat => (n : Int)).idxOf (x : Int) = xs.idxOf x
  | [] => rfl
  | y :: r => by
    rw [List.map_cons, List.idxOf_cons, List.idxOf_cons, idx_dN]
    by_cases h : y = x
    · subst h; simp
    · have h1 : (y == x) = false := by simpa using h
      have h2 : (((y : Nat) : Int) == (x : Int)) = false := by
        apply Bool.eq_false_iff.mpr
        intro z
        have : ((y : Nat) : Int) = (x : Int) := by simpa using z
        omega
      rw [h1, h2]
theorem tix_dN {x : Nat} {scope : List Nat} (h : x ∈ scope) : gTIx (.tup (scope.map dN)) (dN x) = some (dN (scope.idxOf x)) := by
  show (intsD (scope.map dN)).bind _ = _
  rw [intsD_dN, aFb, if_pos (List.mem_map.mpr ⟨x, h, rfl⟩), idx_dN]
theorem sEqPair {a b c d : Nat} : gEqA false (.tup [dN a, dN b]) (.tup [dN c, dN d]) = some (.bl (decide (a = c ∧ b = d))) := by
  have h := sEqT (xs := [(a : Int), (b : Int)]) (ys := [(c : Int), (d : Int)])
  refine h.trans ?_
  congr 2
  apply decide_eq_decide.mpr
  constructor
  · intro z
    simp only [List.cons.injEq, and_true] at z
    omega
  · rintro ⟨rfl, rfl⟩; rfl
theorem sEqNilT {ds : List D} : gEqA false (.tup ds) (.tup []) = some (.bl ds.isEmpty) := by cases ds <;> rfl
theorem rep_01 {ds : List D} {b : Bool} (h : ds.length ≤ sizeLine) : gRep (.lst ds) (.int (if b = true then 1 else 0)) = some (.lst (if b then ds else [])) := by
  cases b with
  | true =>
    show (if -(2 ^ 63) ≤ (1 : Int) ∧ (1 : Int) < 2 ^ 63 ∧ ds.length * (1 : Int).toNat ≤ sizeLine then some (D.lst (List.replicate (1 : Int).toNat ds).flatten) else none) = _
    rw [if_pos ⟨by decide, by decide, by show ds.length * 1 ≤ _; omega⟩]
    simp
  | false =>
    show (if -(2 ^ 63) ≤ (0 : Int) ∧ (0 : Int) < 2 ^ 63 ∧ ds.length * (0 : Int).toNat ≤ sizeLine then some (D.lst (List.replicate (0 : Int).toNat ds).flatten) else none) = _
    rw [if_pos ⟨by decide, by decide, by show ds.length * 0 ≤ _; omega⟩]
    simp
end DL
namespace DL
open PySem L2
end DL
namespace HT
open PySem PyProof.Rows
section
variable {prog : Program} {w : World} {A : Around} {E : Value → Shared → Prop} {s : Shared}
theorem getItem_tuple_whole {t sl : Addr} {items : Array Value} {vl vu : Value} {lo hi : Option Int} {Q : Value → Shared → Prop} (ht : IsTup s.heap t items) (hs : s.heap.IsSliceOf sl vl vu .none) (pl : IsPart vl lo) (pu : IsPart vu hi)
    (hw : sIx items.size 0 lo = 0 ∧ sIx items.size items.size hi = items.size) (h : Q (.ref t) s) : wpAny (model prog w) A (getItem (.ref t) (.ref sl)) Q E s := by
  obtain ⟨os, hos, hcs, hds⟩ := id hs
  have hTs : s.TypeIs (.ref sl) "slice" := ⟨os, hos, hcs⟩
  unfold getItem
  try with_reducible refine wpAny_holding ?_
  first | refine wpAny_bind (wpAny_pure ?_) | skip
  refine wpAny_bind (wpAny_sequenceKey ht.typeIs (by decide) ?_)
  refine wpAny_bind (wpAny_callSpecial?_slot (name := Str.ofString "__getitem__") ht.typeIs PyProof.Rows.slot_tuple_getitem
    (wpAny_call_entry PyProof.Rows.slot_tuple_getitem ht.typeIs entry_tuple_getitem ?_ (args_tuple_getitem _ _)))
  show wpAny _ _ (Builtin.Tuple.tupleItemsOf (.ref t) >>= _) _ _ s
  refine wpAny_bind (tupleItemsOf_ ht ?_)
  refine wpAny_bind (wpAny_typeOf hTs ?_)
  rw [if_pos (by decide)]
  refine wpAny_bind (aHb hs pl pu ?_)
  have hyes : (((sIx items.size 0 lo : Nat) : Int) == 0 && (1 : Int) == 1 && (sIx items.size items.size hi - sIx items.size 0 lo) == items.size) = true := by
    rw [hw.1, hw.2]; simp
  show wpAny _ _ (if (((sIx items.size 0 lo : Nat) : Int) == 0 && (1 : Int) == 1 && (sIx items.size items.size hi - sIx items.size 0 lo) == items.size) = true then _ else _) _ _ s
  rw [if_pos hyes]
  refine wpAny_bind ?_
  unfold Builtin.Tuple.tupleIsExact
  refine wpAny_bind (wpAny_typeOf ht.typeIs (wpAny_pure ?_))
  rw [if_pos (by decide)]
  refine wpAny_bind (wpAny_rule ?_)
  exact wpAny_pure ⟨_, rfl, wpAny_pure h⟩
end
end HT
namespace DL
open PySem PySem.Spec L2
open PyProof.Rows hiding St
noncomputable def rSlW (K : PySem.W.Frag) : V → Option Int → Option Int → Hp → VK → Prop := fun x lo hi H Q => ∃ a xs, x = .ref a ∧ SqT K H a xs ∧
  ((HT.sIx xs.length 0 lo = 0 ∧ HT.sIx xs.length xs.length hi = xs.length) → Q (.ref a) H) ∧ (¬ (HT.sIx xs.length 0 lo = 0 ∧ HT.sIx xs.length xs.length hi = xs.length) → ∀ p, H p = none → Q (.ref p) (upd H p (.tup (cutV xs lo hi))))
theorem sl_tupW {X : Cx} : SlR X (rSlW X.K) := by
  intro pins s σ H x v vl vu lo hi sl Q I rx hs pl pu h
  obtain ⟨a, xs, rfl, hx, h1, h2⟩ := h
  by_cases hw : HT.sIx xs.length 0 lo = 0 ∧ HT.sIx xs.length xs.length hi = xs.length
  · cases rx
    obtain ⟨its, r, ht, hz⟩ := I.tuple hx
    have hlen : its.toArray.size = xs.length := by rw [List.size_toArray]; exact r.length.symm
    refine ⟨"tuple", _, PyProof.Rows.slot_tuple_getitem.lookup, ht.typeIs, ?_⟩
    exact HT.getItem_tuple_whole ht hs pl pu (by rw [hlen]; exact hw) ⟨.ref a, H, I, rfl, h1 hw⟩
  · exact sl_tup pins s σ H _ v vl vu lo hi sl Q I rx hs pl pu ⟨a, xs, rfl, hx, hw, h2 hw⟩
theorem sld_T {K : PySem.W.Frag} : SlDen K (rSlW K) gSlT := by
  intro H A x dx lo hi d Q al rx e q
  unfold gSlT at e
  split at e <;> cases e
  rename_i ds
  have rx0 := rx
  obtain ⟨a, xs, rfl, h, r⟩ := rx.tup
  refine ⟨a, xs, rfl, h, fun hw => ?_, fun _ p hp => q _ _ (aBu hp _) (.newT hp (al.not hp) (r.cut lo hi))⟩
  have e : cutD ds lo hi = ds := by
    unfold cutD
    rw [← r.length, hw.1, hw.2, List.drop_zero, Nat.sub_zero, r.length, List.take_length]
  rw [e] at q
  refine q _ H (Same.refl _) (.inr ⟨rfl, ?_⟩)
  rcases rx0 with r0 | ⟨b, hb, hA, o⟩
  · exact r0
  · cases o
theorem q_slT {X : Cx} {a : Expr} {f : DEnv → Option D} {p2 pos : Pos} {lo hi : Option Expr} {fl fh : DEnv → Option (Option Int)} (qa : QB X a f) (ql : QO X lo fl) (qh : QO X hi fh) : QF X (.Subscript a (.Slice lo hi none p2) pos) (slD f fl fh gSlT) :=
  let ⟨ta, ha, da⟩ := qa; let ⟨tl, hl, dl⟩ := ql; let ⟨th, hh, dh⟩ := qh; ⟨_, pe_slice sl_tupW ha hl hh, den_sl sld_T da dl dh⟩
end DL
namespace DL
open PySem
section
variable {prog : Program} {w : World} {A : Around} {E : Value → Shared → Prop} {s : Shared}
end
section
variable {prog : Program} {w : World} {A : Around} {s : Shared}
end
section
variable {prog : Program} {w : World} {A : Around} {E : Value → Shared → Prop} {s : Shared}
end
end DL
namespace DL
open PySem PySem.Spec L2
open PyProof.Rows hiding St
section
variable {X : Cx} {tg l : Expr} {ta : TA} {p pos : Pos} {f : DEnv → Option D}
end
section
variable {X : Cx} {a : Expr} {ta : TA} {p p2 pos pos2 : Pos} {f : DEnv → Option D}
end
end DL
namespace DL
open PySem L2 HT PyProof.Rows
section
variable {X : Cx} {e : Expr} {f : DEnv → Option D} {pos pos' : Pos} {x : Str}
end
end DL
namespace DL
open PySem PySem.Spec L2
open PyProof.Rows hiding St
section
variable {X : Cx} {pins : List (Addr × Obj)} {σ : St} {H : Hp} {s : Shared} {scope : Scope} {cl : List (Str × Addr)} {N' : List Str} {js : List (Option Nat)} {fp : List Addr}
end
section
variable {X : Cx} {pins : List (Addr × Obj)} {σ : St} {scope : Scope} {cl : List (Str × Addr)} {N' : List Str} {js : List (Option Nat)} {elt iter tg : Expr} {ifs : List Expr} {pos : Pos} {wi : TI} {g : TG} {tt : TT} {te : TE}
end
end DL
namespace DL
open PySem PyProof.Rows PyProof PySem.SeqAt
open AutoSeq1 (wpAny_loadPart')
theorem wpAny_range {M : Model} {A : Around} {E : Value → Shared → Prop} {s : Shared} {β : Type} {a b : Nat} {c : β} {f : Nat → β → Sem (ForInStep β)} {Q : β → Shared → Prop} (h : wpAny M A (forIn (List.range' a (b - a)) c f) Q E s) : wpAny M A (forIn [a:b] c f) Q E s := by
  rw [Std.Legacy.Range.forIn_eq_forIn_range']
  have hsz : ([a:b] : Std.Legacy.Range).size = b - a := by simp [Std.Legacy.Range.size]
  show wpAny M A (forIn (List.range' a ([a:b] : Std.Legacy.Range).size 1) c f) Q E s
  rw [hsz]
  exact h
theorem tuple_indexAt (l : Addr) (items : Array Value) (n : Nat) (dd : Option Addr) (sl : Array (Option Value)) (x : Value) (e : Value → Bool) (j : Nat) (hj : j < items.size) (hit : e items[j] = true) (hno : ∀ m (hm : m < items.size), m < j → e items[m] = false) :
    Meets (Builtin.«tuple.index» ⟨[.ref l, x], []⟩)
      (fun A R s => s.heap.get? l = some { cls := .type "tuple", dict := dd, data := .seq items n, slots := sl } ∧ (∀ y, y ∈ items → EqAt A.in1 s y x (e y)) ∧ R (.ok (.ret (.int (j : Nat) s.toks))) { s with toks := s.toks + 1 }) :=
  .of_wp fun prog w A R s h => by
    obtain ⟨hp, g, d, tk, os⟩ := s; obtain ⟨hl, he, h⟩ := h
    wp_walk using wpAny_loadPart' hl, wpAny_range (a := 0), wpAny_forIn_list _ (fun rest b s' => b.1 = none ∧ s' = ⟨hp, g, d, tk, os⟩ ∧ ∃ i, i ≤ j ∧ rest = List.range' i (items.size - i)) _
    case turn =>
      rintro y rest b s' ⟨hb, rfl, i, hij, hr⟩
      have hi : i < items.size := Nat.lt_of_le_of_lt hij hj
      rw [show items.size - i = (items.size - i - 1) + 1 by omega, List.range'_succ] at hr
      cases hr
      have e1 : items[y]? = some items[y] := Array.getElem?_eq_getElem hi
      rw [e1]
      refine wpAny_bind (he items[y] (Array.getElem_mem hi) prog w _ _ ?_)
      by_cases z : y = j
      · subst z
        rw [hit]
        wp_walk
        exact ⟨_, rfl, h⟩
      · rw [hno y hi (by omega)]
        wp_walk
        exact ⟨rfl, rfl, y + 1, by omega, by rw [show items.size - (y + 1) = items.size - y - 1 by omega]⟩
    case fin =>
      rintro ⟨b1, b2⟩ s' ⟨hb, rfl, i, hij, hr⟩
      exfalso
      have := congrArg List.length hr
      rw [List.length_range', List.length_nil] at this
      omega
    case h =>
      exact ⟨rfl, rfl, 0, by omega, by simp⟩
end DL
namespace DL
open PySem PySem.Spec L2
open PyProof.Rows hiding St
theorem intsAre_of : ∀ (xs : List (Int × Tok)), IntsAre (xs.map fun p => Value.int p.1 p.2) (xs.map (·.1))
  | [] => .nil
  | p :: r => .cons p.1 p.2 (intsAre_of r)
theorem Inv.tupleN {X : Cx} {pins : List (Addr × Obj)} {σ : St} {H : Hp} {s : Shared} {a : Addr} {xs : List V} (I : Inv X pins σ H s) (h : SqT X.K H a xs) : ∃ its : List Value, Vals xs its ∧ aHk s.heap a its.toArray ∧ xs.length ≤ sizeLine := by
  rcases h with h | ⟨o, its, n, hk, hc, hs, hz, r⟩
  · obtain ⟨z, its, r, p⟩ := h.ok I.hok
    exact ⟨its, r, p, z⟩
  · refine ⟨its.toList, r, ⟨o, I.kIn a o hk, hc, n, by simpa using hs⟩, ?_⟩
    have e := r.length
    simp only [Array.length_toList] at e
    omega
noncomputable def tTIx (K : PySem.W.Frag) (to : TE) (t : TA) : TE := fun σ H Q => to σ H fun x H1 => (∃ (a : Addr) (is : List Int), x = .ref a ∧ SqT K H1 a (is.map V.int)) ∧ t σ H1 fun xs H2 => ∃ (a : Addr) (is : List Int) (k : Int), x = .ref a ∧ SqT K H2 a (is.map V.int) ∧ xs = [.int k] ∧ k ∈ is ∧ Q (.int (is.idxOf k : Nat)) H2
section
variable {X : Cx} {o e : Expr} {to te : TE} {apos cpos : Pos} {f g : DEnv → Option D}
theorem pe_tix (ho : PE X o to) (he : PE X e te) (hbase : attributeBase o "index" X.env (eval o X.env) = eval o X.env)
    (hfew : ((backTo cpos (starEach [e] X.env)).all (fun x => !x.1) && (backToKw cpos (keywordEach [] X.env)).all (fun x => x.1.isSome)
      && decide (([e] : List Expr).length + ([] : List Keyword).length + (if ([] : List Keyword).isEmpty then 0 else 1) < 30)) = true)
    (hline : (apos.endLine == cpos.line) = true) (hs : starEach [e] X.env = (false, eval e X.env) :: starEach [] X.env) (hplain : (backTo cpos (starEach [] X.env)).any (·.1) = false) :
    PE X (.Call (.Attribute o "index" apos) [e] [] cpos) (tTIx X.K to (tCons te tNil)) := by
  intro pins s σ H Q I h
  refine wpAny_Call_method_late hbase hfew hline rfl (thn (ho pins s σ H _ I h) fun v s1 ⟨x, H1, I1, r1, ⟨a, is, ea, ha⟩, q1⟩ => ?_)
  subst ea
  cases r1
  obtain ⟨its, rv, ⟨ob, e1, c1, n, d1⟩, _⟩ := Inv.tupleN I1 ha
  refine ⟨"tuple", "tuple.index", PySem.F.plainAttrs_tuple, PySem.F.slot_tuple_index, PySem.F.type_tuple_index, ⟨ob, e1, c1.1⟩, fun b eb => by cases eb; exact ⟨ob, e1, c1.2⟩, ?_⟩
  have hA := aEw he pa_nil hs cpos pins s1 σ H1 _ I1 q1
  rw [hs] at hA ⊢
  refine Calls.callWith_builtin (by show (false || (backTo cpos (starEach [] X.env)).any (·.1)) = false; rw [hplain] <;> rfl) (Calls.evalArgs_plain ?_)
  refine thn hA fun us s2 ⟨vs, H2, I2, r2, a', is', k, ea, ha2, ek, hk, q⟩ => ?_
  cases ea
  subst ek
  obtain ⟨u, rfl, ru⟩ := vals1 r2
  obtain ⟨t, rfl⟩ := ru
  obtain ⟨its2, rv2, ⟨⟨cls, dd, data, sl⟩, e2, c2, n2, d2⟩, hz⟩ := Inv.tupleN I2 ha2
  simp only at c2 d2
  obtain ⟨c2, c3⟩ := c2
  subst c2 d2
  obtain ⟨xs, rfl, hx⟩ := vals_ints rv2
  have hi := intsAre_of xs
  rw [hx] at hi
  have hlen := hi.length
  have hj : is'.idxOf k < is'.length := List.idxOf_lt_length_iff.mpr hk
  refine call_meets PySem.F.slot_tuple_index ⟨_, e2, rfl⟩ PySem.F.entry_tuple_index (PySem.F.args_tuple_index_2 _ _)
    (tuple_indexAt a _ n2 dd sl (.int k t) (isInt k) (is'.idxOf k) (by simpa [hlen] using hj) ?_ ?_) ⟨e2, fun y hy => (eq_isInt k t hi y (by simpa using hy)).at _ _, ⟨.int _, H2, I2.tok _, ⟨_, rfl⟩, q⟩⟩
  · show isInt k (xs.map fun p => Value.int p.1 p.2)[is'.idxOf k] = true
    rw [isInt_at k hi _ (by omega) hj]
    simp
  · intro m hm hlt
    have hm2 : m < is'.length := by omega
    show isInt k (xs.map fun p => Value.int p.1 p.2)[m] = false
    rw [isInt_at k hi _ (by omega) hm2]
    exact ne_of_lt_idxOf hlt hm2
theorem den_tix {K : PySem.W.Frag} (ho : DenB K to f) (he : DenB K te g) : DenF K (tTIx K to (tCons te tNil)) (op2 f g gTIx) := by
  intro σ H ε A d Q s e q
  obtain ⟨x, y, ex, ey, e⟩ := op2_some e
  unfold gTIx at e
  split at e
  · rename_i ds k
    obtain ⟨is, hi, e⟩ := Option.bind_eq_some_iff.mp e
    split at e
    · rename_i hk
      cases e
      refine ho σ H ε A _ _ s ex fun v H1 s1 r => ?_
      obtain ⟨a, xs, rfl, hs, rr⟩ := r.tup
      have exs := aIg hi rr
      subst exs
      refine ⟨⟨a, is, rfl, hs⟩, he σ H1 ε A _ _ (s.mono s1) ey fun w H2 s2 r2 => ?_⟩
      obtain rfl := r2.flat rfl
      exact ⟨a, is, k, rfl, sameT s2 hs, rfl, hk, q _ H2 (s1.trans s2) (.flat rfl)⟩
    · cases e
  · cases e
theorem q_tix (qo : QB X o f) (qe : QB X e g) (hbase : attributeBase o "index" X.env (eval o X.env) = eval o X.env := by rfl)
    (hfew : ((backTo cpos (starEach [e] X.env)).all (fun x => !x.1) && (backToKw cpos (keywordEach [] X.env)).all (fun x => x.1.isSome)
      && decide (([e] : List Expr).length + ([] : List Keyword).length + (if ([] : List Keyword).isEmpty then 0 else 1) < 30)) = true := by rfl)
    (hline : (apos.endLine == cpos.line) = true := by rfl) (hs : starEach [e] X.env = (false, eval e X.env) :: starEach [] X.env := by rfl) (hplain : (backTo cpos (starEach [] X.env)).any (·.1) = false := by rfl) :
    QF X (.Call (.Attribute o "index" apos) [e] [] cpos) (op2 f g gTIx) :=
  let ⟨t, h1, d1⟩ := qo; let ⟨u, h2, d2⟩ := qe; ⟨_, pe_tix h1 h2 hbase hfew hline hs hplain, den_tix d1 d2⟩
end
noncomputable def GInt (mg : Str → Option Value) (x : Str) (n : Int) : Prop := ∃ t, mg x = some (.int n t)
theorem gint_mk {K : PySem.W.Frag} {h : Heap} {mg : Str → Option Value} {x : Str} {n : Int} {t : Tok} (X : K.In h) (G : h.Ns mainGlobals mg) (e : PySem.W.nsIn K mainGlobals x = some (some (.int n t))) : GInt mg x n := ⟨t, PySem.W.mg_of X G e⟩
theorem q_gint {X : Cx} {x : Str} {n : Int} {p : Pos} {mg : Str → Option Value} (g : GInt mg x n) (hg : Gl X x) (hdb : (x == ("__debug__" : Str)) = false := by decide) (e3 : X.mg = mg := by rfl) : QF X (.Name x p) (fun _ => some (.int n)) := by
  subst e3
  obtain ⟨t, hm⟩ := g
  refine ⟨fun _ H Q => Q (.int n) H, fun pins s σ H Q I h => ?_, fun σ H ε A d Q s e q => ?_⟩
  · exact ld_glob I hg hm ⟨.int n, H, I, ⟨t, rfl⟩, h⟩ hdb
  · cases e
    exact q _ H (Same.refl H) (.flat rfl)
section
variable {X : Cx} {x : Str} {e : Expr} {te : TE} {p apos cpos : Pos} {kvs : List (Str × Int)} {f : DEnv → Option D}
end
end DL
namespace DL
open PySem PySem.Spec L2
open PyProof.Rows hiding St
section
variable {X : Cx} {e : Expr} {es : List Expr} {fa : DEnv → Option (List D)} {pos p : Pos} {x : Str} {k n : Nat} {g : List D → Option (Bool × D)}
end
end DL
namespace DL
open PySem PySem.Spec L2
open PyProof.Rows hiding St
theorem max_intTup {prog : Program} {w : World} {A : Around} {E : Value → Shared → Prop} {s : Shared} {l : Addr} {xs : Array (Int × Tok)} {Q : Value → Shared → Prop} (hh : A.handled = none) (hl : s.heap.IsTuple l (intItems xs)) (hne : 0 < xs.size)
    (h : ∀ v h' tk, (intItems xs)[argBest (fun i j => decide (numAt xs i > numAt xs j)) (xs.size - 1)]? = some v → (∀ b o, s.heap.get? b = some o → h'.get? b = some o) → Q v { s with heap := h', toks := tk }) :
    wpAny (model prog w) A (call (.builtin "max") [.ref l]) Q E s := by
  have hlt : l < s.heap.objs.size := by obtain ⟨_, e, _⟩ := hl; exact Heap.lt_size e
  refine call_max_walk (wpAny_pyIter_tuple hl ?_)
  refine ⟨_, [_, l], [_], _, _, _, _, rfl, Walks.tuple (A := A.in1) hh _ l (Nat.ne_of_lt hlt) (intItems xs), ⟨⟨_, Heap.get?_push_size _ rfl, rfl, rfl⟩, hl.push _⟩, fun b hb => ?_, by simpa [intItems] using hne, CmpOf.ints_gt (numAt xs) (fun _ _ => intItems_at), fun v h' tk hP hk => ?_⟩
  · show b < (s.heap.push _).objs.size
    rw [Heap.size_push]
    rcases List.mem_cons.mp hb with rfl | hb
    · exact Nat.lt_succ_self _
    · rcases List.mem_cons.mp hb with rfl | hb
      · exact Nat.lt_succ_of_lt hlt
      · cases hb
  · refine h v h' tk (by simpa [intItems] using hP) fun b o e => hk b o (fun hm => ?_) (Heap.get?_push_of_some _ e)
    rcases List.mem_cons.mp hm with e1 | hm
    · exact absurd (e1 ▸ Heap.lt_size e) (Nat.lt_irrefl _)
    · cases hm
noncomputable def mx2 (x : Int) (r : List Int) : Int := r.foldl (fun a b => if a < b then b else a) x
theorem mx2_ge : ∀ (r : List Int) (x : Int), x ≤ mx2 x r ∧ ∀ y ∈ r, y ≤ mx2 x r
  | [], x => ⟨Int.le_refl _, by simp⟩
  | y :: r, x => by
    have ih := mx2_ge r (if x < y then y else x)
    rw [show mx2 x (y :: r) = mx2 (if x < y then y else x) r from rfl]
    constructor
    · have := ih.1
      split at this <;> omega
    · intro z hz
      rcases List.mem_cons.mp hz with rfl | hz
      · have := ih.1
        split at this <;> omega
      · exact ih.2 z hz
theorem mx2_mem : ∀ (r : List Int) (x : Int), mx2 x r = x ∨ mx2 x r ∈ r
  | [], x => .inl rfl
  | y :: r, x => by
    have ih := mx2_mem r (if x < y then y else x)
    rw [show mx2 x (y :: r) = mx2 (if x < y then y else x) r from rfl]
    rcases ih with e | e
    · by_cases h : x < y
      · rw [if_pos h] at e ⊢; exact .inr (by rw [e]; exact List.mem_cons_self)
      · rw [if_neg h] at e ⊢; exact .inl e
    · exact .inr (List.mem_cons_of_mem _ e)
theorem mx2_uniq {x : Int} {r : List Int} {M : Int} (h1 : M ∈ x :: r) (h2 : ∀ a ∈ x :: r, a ≤ M) : M = mx2 x r := by
  have g := mx2_ge r x
  have m := mx2_mem r x
  have a : M ≤ mx2 x r := by
    rcases List.mem_cons.mp h1 with rfl | h1
    · exact g.1
    · exact g.2 M h1
  have b : mx2 x r ≤ M := by
    rcases m with e | e
    · rw [e]; exact h2 x List.mem_cons_self
    · exact h2 _ (List.mem_cons_of_mem _ e)
  omega
noncomputable def rMaxT (K : PySem.W.Frag) : List V → Hp → VK → Prop := fun xs H Q => ∃ (p : Addr) (x : Int) (r : List Int), xs = [.ref p] ∧ SqT K H p ((x :: r).map V.int) ∧ Q (.int (mx2 x r)) H
theorem call_maxT {X : Cx} (hc : X.calm = true) : CallR X (.builtin "max") (rMaxT X.K) := by
  intro pins s σ H xs us Q I r h
  obtain ⟨p, x, rest, rfl, hq, q⟩ := h
  obtain ⟨u, rfl, rx⟩ := vals1 r
  cases rx
  obtain ⟨its, rv, pl, hz⟩ := I.tuple hq
  obtain ⟨ns, e1, e2⟩ := vals_ints rv
  have e3 : its.toArray = intItems ns.toArray := by rw [e1]; simp [intItems]
  have hl : s.heap.IsTuple p (intItems ns.toArray) := by
    obtain ⟨o, a, b, c⟩ := pl
    rw [e3] at c
    exact ⟨o, a, b, c⟩
  have hlen : ns.length = rest.length + 1 := by
    have := congrArg List.length e2
    rw [List.length_map, List.length_cons] at this
    exact this
  refine max_intTup (I.ok.hd hc) hl (by simp [hlen]) fun v h' tk hv k => ?_
  obtain ⟨t, rfl⟩ := intItems_at hv
  obtain ⟨h1, h2⟩ := argBest_gt (numAt ns.toArray) (ns.toArray.size - 1)
  have en : ∀ j, numAt ns.toArray j = (x :: rest).getD j 0 := fun j => by
    rw [numAt_eq]
    show (ns.map (·.1)).getD j 0 = _
    rw [e2]
  have hM : numAt ns.toArray (argBest (fun i j => decide (numAt ns.toArray i > numAt ns.toArray j)) (ns.toArray.size - 1)) = mx2 x rest := by
    refine mx2_uniq ?_ fun a ha => ?_
    · rw [en]
      exact getD_mem (by rw [List.length_cons]; simp [hlen] at h1 ⊢; omega)
    · obtain ⟨j, hj, rfl⟩ := mem_getD ha
      rw [← en]
      exact h2 j (by rw [List.length_cons] at hj; simp [hlen]; omega)
  refine ⟨.int (mx2 x rest), H, I.kept k, ?_, q⟩
  exact ⟨t, by rw [hM]⟩
theorem cd_maxT {K : PySem.W.Frag} : aFu K (rMaxT K) maxTD := by
  intro H A xs ds d Q al rs e q
  unfold maxTD at e
  split at e
  · rename_i ys
    obtain ⟨is, e1, e⟩ := Option.bind_eq_some_iff.mp e
    obtain ⟨x, rfl, r⟩ := rs.one
    obtain ⟨a, vs, rfl, hs, r'⟩ := r.tup
    rw [aIg e1 r'] at hs
    cases is with
    | nil => cases e
    | cons y rest =>
      cases e
      exact ⟨a, y, rest, rfl, hs, q _ H (Same.refl H) (.flat rfl)⟩
  · cases e
end DL
namespace DL
open PySem PySem.Spec L2
open PyProof.Rows hiding St
theorem reps_rep {K : PySem.W.Frag} {H : Hp} {xs : List V} {ds : List D} (r : Reps K H xs ds) : ∀ n : Nat, Reps K H (List.replicate n xs).flatten (List.replicate n ds).flatten
  | 0 => .nil
  | n + 1 => by
    rw [List.replicate_succ, List.flatten_cons, List.replicate_succ, List.flatten_cons]
    exact r.app (reps_rep r n)
theorem den_rep {K : PySem.W.Frag} {ta tb : TE} {f g : DEnv → Option D} (h : DenF K ta f) (h' : DenB K tb g) : DenF K (tOp rRep ta tb) (op2 f g gRep) := by
  intro σ H ε A d Q s e q
  obtain ⟨x, y, ex, ey, e⟩ := op2_some e
  unfold gRep at e
  split at e
  · rename_i ds k
    split at e
    · rename_i c
      cases e
      refine h σ H ε A _ _ s ex fun v H1 s1 r => ?_
      rcases r with ⟨a, rfl, ha, o⟩ | ⟨m, _⟩
      · cases o with
        | lst ho rr =>
          rename_i xs
          refine h' σ H1 ε A _ _ (s.mono s1) ey fun w H2 s2 r2 => ?_
          obtain rfl := r2.flat rfl
          refine ⟨a, k, xs, rfl, rfl, s2 a _ ho, c.1, c.2.1, by rw [rr.length]; exact c.2.2, fun p hp => ?_⟩
          have e12 : Same H H2 := s1.trans s2
          refine q _ _ (e12.trans (aBu hp _)) ((RF.newL hp ?_).back e12)
          exact reps_rep ((rr.mono (aCo fun b hb => List.mem_cons_of_mem _ hb)).mono (aEh A s2)) _
      · cases m
    · cases e
  · cases e
theorem q_rep {X : Cx} {a b : Expr} {f g : DEnv → Option D} {pos : Pos} (qa : QF X a f) (qb : QB X b g) : QF X (.BinOp a .Mult b pos) (op2 f g gRep) :=
  let ⟨ta, ha, da⟩ := qa; let ⟨tb, hb, db⟩ := qb; ⟨_, pe_op op_rep ha hb, den_rep da db⟩
end DL
namespace DL
open PySem L2
noncomputable def g1 {α : Type} (us ws : List α) : List α := match us, ws with
  | [a], [b] => [a, b]
  | _, _ => []
end DL
namespace DL
open PySem PySem.Spec L2
open PyProof.Rows hiding St
open PySem.Builtin.Str (occurrences partsBetween strKind strSliceIndices)
section
variable {X : Cx}
end
end DL
namespace DL
open PySem PySem.Spec L2
open PyProof.Rows hiding St
section
variable {X : Cx} {tg e a b o : Expr} {te : TE} {f g h : DEnv → Option D} {pos p2 apos cpos : Pos}
end
end DL
namespace DL
open PySem L2
section
variable {α : Type}
open Classical in
noncomputable def allOf (G : Addr → Addr → Addr → Option α) : Option α := if h : ∃ a, ∀ p l d, G p l d = some a then some h.choose else none
theorem allOf_eq {G : Addr → Addr → Addr → Option α} {a : α} (h : ∀ p l d, G p l d = some a) : allOf G = some a := by
  have hx : ∃ a, ∀ p l d, G p l d = some a := ⟨a, h⟩
  unfold allOf
  rw [dif_pos hx]
  have := hx.choose_spec 0 0 0
  rw [h 0 0 0] at this
  exact this.symm ▸ rfl
theorem allOf_some {G : Addr → Addr → Addr → Option α} {a : α} (h : allOf G = some a) : ∀ p l d, G p l d = some a := by
  unfold allOf at h
  split at h
  · rename_i hx
    cases h
    exact hx.choose_spec
  · cases h
end
inductive OutW where
  | nx (ε : DEnv) | rt (ε : DEnv) (e : D)
noncomputable abbrev DW := DEnv → Option OutW
noncomputable def wNil : DW := fun ε => some (.nx ε)
noncomputable def wSeq (F G : DW) : DW := fun ε => match F ε with
  | some (.nx ε') => G ε'
  | o => o
noncomputable def wIf (c : DEnv → Option Bool) (F G : DW) : DW := fun ε => (c ε).bind fun b => if b then F ε else G ε
noncomputable def wRet (g : DEnv → Option D) : DW := fun ε => (g ε).map fun e => .rt ε e
noncomputable def wRetN : DW := fun ε => some (.rt ε .non)
noncomputable def wAsg (i0 i : Nat) (f : DEnv → Option D) : DW := fun ε => (f ε).bind fun e => if i ≠ i0 ∧ imm 6 e = true then some (.nx (ε.set i (some (false, e)))) else none
noncomputable def wLoop (i0 : Nat) (ft : D → DEnv → Option DEnv) (F : DW) : List D → DEnv → Option OutW
  | [], ε => some (.nx ε)
  | x :: r, ε => (ft x ε).bind fun ε1 => match F ε1 with
    | some (.nx ε2) => wLoop i0 ft F r ε2
    | o => o
noncomputable def wFor (i0 : Nat) (fi : DEnv → Option (List D)) (ft : D → DEnv → Option DEnv) (F : DW) : DW := fun ε => (fi ε).bind fun ds => if ds.all (imm 6) = true then wLoop i0 ft F ds ε else none
noncomputable def wLoopW (c : DEnv → Option Bool) (F : DW) : Nat → DEnv → Option OutW
  | 0, _ => none
  | n + 1, ε => (c ε).bind fun b => if b then (match F ε with
    | some (.nx ε2) => wLoopW c F n ε2
    | o => o) else some (.nx ε)
noncomputable def wWhile (n : Nat) (c : DEnv → Option Bool) (F : DW) : DW := fun ε => wLoopW c F n ε
noncomputable def aGa (x : D) : Option D := match x with
  | .sht _ _ _ ls _ => some (.lst ls)
  | _ => none
noncomputable def narAt (nar : List (List Key × Int)) (k : List Key) : Option Int := (nar.find? fun kn => decide (kn.1 = k)).map (·.2)
noncomputable def putN (nar : List (List Key × Int)) (k : List Key) (n : Int) : List (List Key × Int) := if (nar.any fun kn => decide (kn.1 = k)) = true then nar.map (fun kn => if kn.1 = k then (kn.1, n) else kn) else nar ++ [(k, n)]
noncomputable def pairK : List D → Option (List Key)
  | [.int i, .int j] => some [.inl i, .inl j]
  | _ => none
noncomputable def gNar (f : DEnv → Option D) (fa : DEnv → Option (List D)) (ε : DEnv) : Option D := (f ε).bind fun x => (fa ε).bind fun ds => (pairK ds).bind fun k => match x with
  | .sht _ _ _ _ nar => some (match narAt nar k with | some n => .int n | none => .non)
  | _ => none
noncomputable def isSht : D → Bool
  | .sht .. => true
  | _ => false
noncomputable def callM (g : List D → Option (Bool × D)) (f : DEnv → Option D) (fa : DEnv → Option (List D)) (ε : DEnv) : Option D := (f ε).bind fun x => (fa ε).bind fun ds => (g (x :: ds)).bind fun r => if isSht x = true ∧ aAr r.2 = true then some r.2 else none
noncomputable abbrev Nar := List (List Key × Int)
noncomputable abbrev GW := Addr → Addr → Addr → List D → Nar → List D → Option (List D × Nar)
noncomputable def wMut (i0 n : Nat) (fa : DEnv → Option (List D)) (g : GW) : DW := fun ε => (fa ε).bind fun ds => match ε[i0]? with
  | some (some (_, .sht p l d ls nar)) => if ds.length = n ∧ ds.all (imm 6) = true then (g p l d ls nar ds).bind fun r => if r.1.all (imm 6) = true then some (.nx (ε.set i0 (some (false, .sht p l d r.1 r.2)))) else none else none
  | _ => none
noncomputable def shAt (ε : DEnv) : Option (List D × Nar) := match (ε[0]? : Option (Option (Bool × D))) with
  | some (some (_, .sht _ _ _ ls nar)) => some (ls, nar)
  | _ => none
noncomputable def fnW (m : Nat) (F : DW) : GW := fun p l d ls nar ds => match F (aAs m (.sht p l d ls nar :: ds)) with
  | some (.nx ε) => shAt ε
  | some (.rt ε .non) => shAt ε
  | _ => none
noncomputable def wNPut (i0 : Nat) (fa : DEnv → Option (List D)) (fv : DEnv → Option D) : DW := fun ε => (fv ε).bind fun v => (fa ε).bind fun ds => (pairK ds).bind fun k => (toI v).bind fun n => match (ε[i0]? : Option (Option (Bool × D))) with
  | some (some (_, .sht p l d ls nar)) => if nar.length < sizeLine then some (.nx (ε.set i0 (some (false, .sht p l d ls (putN nar k n))))) else none
  | _ => none
noncomputable def wLApp (i0 : Nat) (f : DEnv → Option D) : DW := fun ε => (f ε).bind fun e => match ε[i0]? with
  | some (some (_, .sht p l d ls nar)) => if ls.length < sizeLine ∧ imm 6 e = true then some (.nx (ε.set i0 (some (false, .sht p l d (ls ++ [e]) nar)))) else none
  | _ => none
noncomputable def iTI (f : DEnv → Option D) (ε : DEnv) : Option (List D) := (f ε).bind fun e => (tupOf e).bind fun ds => if ds.all (imm 6) = true then some ds else none
noncomputable def iEI (f : DEnv → Option D) (ε : DEnv) : Option (List D) := (iTI f ε).map fun ds => ds.mapIdx fun i e => D.tup [.int i, e]
noncomputable def atSh (m : Nat) (e : D) (p l d : Addr) (ls : List D) (nar : Nar) : DEnv := (aAs m [e]).set 1 (some (false, .sht p l d ls nar))
noncomputable def fnB (m : Nat) (F : DW) (e : D) : Option (List D × Nar) := allOf fun p l d => match F (atSh m e p l d [] []) with
  | some (.rt _ (.sht p' l' d' ls nar)) => if p' = p ∧ l' = l ∧ d' = d ∧ ls.all (imm 6) = true then some (ls, nar) else none
  | _ => none
noncomputable def fnP (m : Nat) (gb : D → Option (List D × Nar)) (F : DW) : List D → Option (Bool × D)
  | [e] => if imm 6 e = true then (gb e).bind fun b => (allOf fun p l d => match F (atSh m e p l d b.1 b.2) with
    | some (.rt _ a) => some a
    | some (.nx _) => some .non
    | none => none).map fun a => (false, a) else none
  | _ => none
end DL
namespace DL
open PySem PySem.Spec L2
open PyProof.Rows hiding St
section
variable {K : PySem.W.Frag}
noncomputable def Keep (l d : Addr) (H H' : Hp) : Prop := ∀ b o, b ≠ l → b ≠ d → H b = some o → H' b = some o
theorem Keep.refl (l d : Addr) (H : Hp) : Keep l d H H := fun _ _ _ _ e => e
theorem Keep.of {l d : Addr} {H H' : Hp} (e : Same H H') : Keep l d H H' := fun b o _ _ h => e b o h
theorem Keep.trans {l d : Addr} {H H1 H2 : Hp} (a : Keep l d H H1) (b : Keep l d H1 H2) : Keep l d H H2 := fun c o h1 h2 e => b c o h1 h2 (a c o h1 h2 e)
noncomputable def TwoAt (l d : Addr) (H : Hp) : Prop := (∃ xs, H l = some (.lst xs)) ∧ ∃ kvs, H d = some (.dT kvs)
theorem keepT {l d : Addr} {H H' : Hp} (w : TwoAt l d H) (k : Keep l d H H') {a : Addr} {xs : List V} (h : SqT K H a xs) : SqT K H' a xs := by
  obtain ⟨⟨ys, hl⟩, ⟨kvs, hd⟩⟩ := w
  rcases h with (h | ⟨o, h⟩) | h
  · exact .inl (.inl (k a _ (fun z => by rw [z, hl] at h; cases h) (fun z => by rw [z, hd] at h; cases h) h))
  · exact .inl (.inr ⟨o, k a _ (fun z => by rw [z, hl] at h; cases h) (fun z => by rw [z, hd] at h; cases h) h⟩)
  · exact .inr h
theorem imm_go {H H' : Hp} (n : Nat) (ih : ∀ {v : V} {e : D}, imm n e = true → Rep K H v e → Rep K H' v e) : ∀ {vs : List V} {es : List D}, es.all (imm n) = true → Reps K H vs es → Reps K H' vs es
  | _, _, _, .nil => .nil
  | _, _, hi, .cons r rs => by
    rw [List.all_cons, Bool.and_eq_true] at hi
    exact .cons (ih hi.1 r) (imm_go n ih hi.2 rs)
theorem imm_keep {l d : Addr} {H H' : Hp} (w : TwoAt l d H) (k : Keep l d H H') : ∀ (n : Nat) {v : V} {e : D}, imm n e = true → Rep K H v e → Rep K H' v e
  | 0, v, e, hi, r => by
    obtain ⟨u, hu⟩ := Option.isSome_iff_exists.mp (show (aBt e).isSome = true from hi)
    rw [r.flat hu]; exact .ofFlat hu
  | n + 1, v, e, hi, r => by
    cases r with
    | non => exact .non
    | bl b => exact .bl b
    | int i => exact .int i
    | str x => exact .str x
    | lst h r => simp [imm, aAr, aBt] at hi
    | dic h r => simp [imm, aAr, aBt] at hi
    | sht _ h hl hd r => simp [imm, aAr, aBt] at hi
    | tup h r =>
      rename_i ds
      have hi : ds.all (imm n) = true := by simpa [imm, aAr, aBt] using hi
      refine .tup (keepT w k h) ?_
      exact imm_go n (fun hi r => imm_keep w k n hi r) hi r
theorem aHw {l d : Addr} {H H' : Hp} (w : TwoAt l d H) (k : Keep l d H H') (n : Nat) : ∀ {vs : List V} {es : List D}, es.all (imm n) = true → Reps K H vs es → Reps K H' vs es
  | _, _, _, .nil => .nil
  | _, _, hi, .cons r rs => by
    rw [List.all_cons, Bool.and_eq_true] at hi
    exact .cons (imm_keep w k n hi.1 r) (aHw w k n hi.2 rs)
structure WOk (i0 : Nat) (p l d : Addr) (ls : List D) (nar : List (List Key × Int)) (ε : DEnv) : Prop where
  hs : ε[i0]? = some (some (false, .sht p l d ls nar))
  lim : ls.all (imm 6) = true
  oth : ∀ (i : Nat) fl e, i ≠ i0 → ε[i]? = some (some (fl, e)) → fl = false ∧ imm 6 e = true
theorem sht_ref {H : Hp} {v : V} {p l d : Addr} {ls : List D} {nar : List (List Key × Int)} (r : Rep K H v (.sht p l d ls nar)) : v = .ref p := by cases r; rfl
theorem sht_two {H : Hp} {v : V} {p l d : Addr} {ls : List D} {nar : List (List Key × Int)} (r : Rep K H v (.sht p l d ls nar)) : TwoAt l d H := by
  cases r with
  | sht _ h hl hd r => exact ⟨⟨_, hl⟩, ⟨_, hd⟩⟩
theorem SR.sheet {H : Hp} {σ : St} {ε : DEnv} {i0 : Nat} {p l d : Addr} {ls : List D} {nar : List (List Key × Int)} (s : SR K H σ ε []) (w : WOk i0 p l d ls nar ε) : σ[i0]? = some (some (.ref p)) ∧ Rep K H (.ref p) (.sht p l d ls nar) := by
  obtain ⟨v, h1, h2⟩ := s.sh i0 _ w.hs
  rw [aCz] at h2
  have := sht_ref h2
  subst this
  exact ⟨h1, h2⟩
theorem SR.mutate {H H' : Hp} {σ : St} {ε : DEnv} {i0 : Nat} {p l d : Addr} {ls ls' : List D} {nar nar' : List (List Key × Int)} (s : SR K H σ ε []) (w : WOk i0 p l d ls nar ε) (k : Keep l d H H') (r' : Rep K H' (.ref p) (.sht p l d ls' nar')) :
    SR K H' σ (ε.set i0 (some (false, .sht p l d ls' nar'))) [] := by
  obtain ⟨hp, r⟩ := s.sheet w
  have two := sht_two r
  have own : ∀ (i : Nat) e, ε[i]? ≠ some (some (true, e)) := fun i e z => by
    obtain ⟨a, _, q, _⟩ := s.ow i e z
    cases q
  have own' : ∀ (i : Nat) e, (ε.set i0 (some (false, .sht p l d ls' nar')))[i]? ≠ some (some (true, e)) := fun i e z => by
    by_cases hi : i0 = i
    · subst hi
      rw [List.getElem?_set_self'] at z
      rw [w.hs] at z
      cases z
    · rw [List.getElem?_set_ne hi] at z; exact own i e z
  refine ⟨by rw [List.length_set]; exact s.len, fun i e h => ?_, fun i e h => absurd h (own' i e), fun i j e f a h => absurd h (own' i e), fun a h => by cases h⟩
  rw [aCz]
  by_cases hi : i0 = i
  · subst hi
    rw [List.getElem?_set_self', w.hs] at h
    cases h
    exact ⟨_, hp, r'⟩
  · rw [List.getElem?_set_ne hi] at h
    obtain ⟨v, h1, h2⟩ := s.sh i e h
    rw [aCz] at h2
    exact ⟨v, h1, imm_keep two k 6 (w.oth i false e (Ne.symm hi) h).2 h2⟩
theorem WOk.mutate {ε : DEnv} {i0 : Nat} {p l d : Addr} {ls ls' : List D} {nar nar' : List (List Key × Int)} (w : WOk i0 p l d ls nar ε) (h : ls'.all (imm 6) = true) : WOk i0 p l d ls' nar' (ε.set i0 (some (false, .sht p l d ls' nar'))) := by
  refine ⟨by rw [List.getElem?_set_self', w.hs]; rfl, h, fun i fl e hi q => ?_⟩
  rw [List.getElem?_set_ne (Ne.symm hi)] at q
  exact w.oth i fl e hi q
theorem WOk.set {ε : DEnv} {i0 i : Nat} {p l d : Addr} {ls : List D} {nar : List (List Key × Int)} {e : D} (w : WOk i0 p l d ls nar ε) (hi : i ≠ i0) (he : imm 6 e = true) : WOk i0 p l d ls nar (ε.set i (some (false, e))) := by
  refine ⟨by rw [List.getElem?_set_ne hi]; exact w.hs, w.lim, fun j fl f hj q => ?_⟩
  by_cases hij : i = j
  · subst hij
    rw [List.getElem?_set_self'] at q
    cases h : ε[i]? with
    | none => rw [h] at q; cases q
    | some z => rw [h] at q; cases q; exact ⟨rfl, he⟩
  · rw [List.getElem?_set_ne hij] at q
    exact w.oth j fl f hj q
noncomputable def WFin (K : PySem.W.Frag) (i0 : Nat) (p l d : Addr) (H : Hp) (De : L2.Ends) : OutW → Prop
  | .nx ε => ∀ σ' H' ls nar, SR K H' σ' ε [] → WOk i0 p l d ls nar ε → Keep l d H H' → De.nx σ' H'
  | .rt ε e => ∀ σ' H' ls nar v, SR K H' σ' ε [] → WOk i0 p l d ls nar ε → Keep l d H H' → Rep K H' v e → De.rt v H'
theorem WFin.later {i0 : Nat} {p l d : Addr} {H H1 : Hp} {De : L2.Ends} {o : OutW} (f : WFin K i0 p l d H De o) (k : Keep l d H H1) : WFin K i0 p l d H1 De o := by
  cases o with
  | nx ε => exact fun σ' H' ls nar s w k' => f σ' H' ls nar s w (k.trans k')
  | rt ε e => exact fun σ' H' ls nar v s w k' => f σ' H' ls nar v s w (k.trans k')
noncomputable def DenW (K : PySem.W.Frag) (i0 : Nat) (t : TS) (F : DW) : Prop := ∀ p l d ls nar σ H ε out De, SR K H σ ε [] → WOk i0 p l d ls nar ε → F ε = some out → WFin K i0 p l d H De out → t De σ H
theorem denw_nil {i0 : Nat} : DenW K i0 tNext wNil := fun p l d ls nar σ H ε out De s w e f => by cases e; exact f σ H ls nar s w (.refl l d H)
theorem denw_seq {i0 : Nat} {t u : TS} {F G : DW} (h : DenW K i0 t F) (h' : DenW K i0 u G) : DenW K i0 (tSeq t u) (wSeq F G) := by
  intro p l d ls nar σ H ε out De s w e f
  unfold wSeq at e
  cases hF : F ε with
  | none => rw [hF] at e; cases e
  | some o =>
    rw [hF] at e
    cases o with
    | nx ε' => exact h p l d ls nar σ H ε _ _ s w hF fun σ' H' ls' nar' s' w' k' => h' p l d ls' nar' σ' H' ε' out De s' w' e (f.later k')
    | rt ε' e' => cases e; exact h p l d ls nar σ H ε _ _ s w hF f
theorem denw_if {i0 : Nat} {t : TT} {ta tb : TS} {c : DEnv → Option Bool} {F G : DW} (h : DenC K t c) (h1 : DenW K i0 ta F) (h2 : DenW K i0 tb G) : DenW K i0 (tIfS t ta tb) (wIf c F G) := by
  intro p l d ls nar σ H ε out De s w e f
  obtain ⟨b, e1, e⟩ := Option.bind_eq_some_iff.mp e
  refine h σ H ε [] b _ s e1 fun H1 s1 => ?_
  cases b with
  | true => exact h1 p l d ls nar σ H1 ε out De (s.mono s1) w e (f.later (.of s1))
  | false => exact h2 p l d ls nar σ H1 ε out De (s.mono s1) w e (f.later (.of s1))
theorem denw_ret {i0 : Nat} {t : TE} {g : DEnv → Option D} (h : DenS K t g) : DenW K i0 (tRet t) (wRet g) := by
  intro p l d ls nar σ H ε out De s w e f
  obtain ⟨x, e1, rfl⟩ := Option.map_eq_some_iff.mp e
  exact h σ H ε [] x _ s e1 fun v H1 s1 r => f σ H1 ls nar v (s.mono s1) w (.of s1) (by rw [aCz] at r; exact r)
theorem denw_retN {i0 : Nat} : DenW K i0 tRetN wRetN := fun p l d ls nar σ H ε out De s w e f => by cases e; exact f σ H ls nar _ s w (.refl l d H) .non
theorem denw_asg {i0 i : Nat} {t : TE} {f : DEnv → Option D} (h : DenS K t f) : DenW K i0 (tAsg t (gName i)) (wAsg i0 i f) := by
  intro p l d ls nar σ H ε out De s w e fi
  obtain ⟨x, e1, e⟩ := Option.bind_eq_some_iff.mp e
  split at e
  · rename_i c
    cases e
    exact h σ H ε [] x _ s e1 fun v H1 s1 r => fi _ H1 ls nar ((s.mono s1).setS i r) (w.set c.1 c.2) (.of s1)
  · cases e
noncomputable def ItW (K : PySem.W.Frag) (l d : Addr) (J : It) (H : Hp) (ds : List D) : Prop :=
  ∀ H', Keep l d H H' → (∀ i, i < ds.length → J.go i H') ∧ (∀ i x Hn, i < ds.length → J.yld i H' x Hn → Same H' Hn ∧ ∃ e, ds[i]? = some e ∧ Rep K Hn x e) ∧ J.stop ds.length H'
noncomputable def DenIW (K : PySem.W.Frag) (wi : TI) (f : DEnv → Option (List D)) : Prop := ∀ σ H ε ds l d (R : It → Hp → Prop), SR K H σ ε [] → TwoAt l d H → f ε = some ds → (∀ J H', Same H H' → ItW K l d J H' ds → R J H') → wi σ H R
noncomputable def TgW (i0 : Nat) (ft : D → DEnv → Option DEnv) : Prop := ∀ p l d ls nar x ε ε', WOk i0 p l d ls nar ε → imm 6 x = true → ft x ε = some ε' → WOk i0 p l d ls nar ε'
theorem denw_for {i0 : Nat} {wi : TI} {g : TG} {tb : TS} {fi : DEnv → Option (List D)} {ft : D → DEnv → Option DEnv} {F : DW} (hi : DenIW K wi fi) (hg : DenG K g ft) (ht : TgW i0 ft) (hb : DenW K i0 tb F) : DenW K i0 (tFor wi g tb) (wFor i0 fi ft F) := by
  intro p l d ls nar σ H ε out De s w e fin
  obtain ⟨ds, e1, e⟩ := Option.bind_eq_some_iff.mp e
  have himm : ds.all (imm 6) = true := Classical.byContradiction fun z => by rw [if_neg z] at e; cases e
  rw [if_pos himm] at e
  refine hi σ H ε ds l d _ s (sht_two (s.sheet w).2) e1 fun J H1 s1 it => ?_
  refine ⟨fun i m σ' H' => m = ds.length - i ∧ i ≤ ds.length ∧ ∃ ε' ls' nar', SR K H' σ' ε' [] ∧ WOk i0 p l d ls' nar' ε' ∧ Keep l d H1 H' ∧ wLoop i0 ft F (ds.drop i) ε' = some out, ⟨ds.length, by simp, Nat.zero_le _, ε, ls, nar, s.mono s1, w, .refl l d H1, e⟩, ?_⟩
  rintro i m σ' H' ⟨rfl, hle, ε', ls', nar', sr, wk, sp, el⟩
  obtain ⟨igo, iyld, istop⟩ := it H' sp
  have spH := (Keep.of (l := l) (d := d) s1).trans sp
  by_cases hlt : i < ds.length
  · refine .inr ⟨igo i hlt, fun σ2 H2 => ds.length - (i + 1) = ds.length - (i + 1) ∧ i + 1 ≤ ds.length ∧ ∃ ε2 ls2 nar2, SR K H2 σ2 ε2 [] ∧ WOk i0 p l d ls2 nar2 ε2 ∧ Keep l d H1 H2 ∧ wLoop i0 ft F (ds.drop (i + 1)) ε2 = some out, fun σ2 H2 n => ⟨ds.length - (i + 1), by omega, n⟩, fun x Hn y => ?_⟩
    obtain ⟨sn, dd, hd, rd⟩ := iyld i x Hn hlt y
    rw [List.drop_eq_getElem_cons hlt] at el
    have hdd : ds[i] = dd := by rw [List.getElem?_eq_getElem hlt] at hd; exact Option.some.inj hd
    have hii : imm 6 dd = true := by rw [← hdd]; exact List.all_eq_true.mp himm _ (List.getElem_mem hlt)
    rw [hdd] at el
    obtain ⟨ε1, eg, el⟩ := Option.bind_eq_some_iff.mp el
    refine hg x σ' Hn ε' [] dd ε1 _ (sr.mono sn) (by rw [aCz]; exact rd) eg fun σ3 H3 s3 sr3 _ => ?_
    have wk3 := ht p l d ls' nar' dd ε' ε1 wk hii eg
    have sp3 : Keep l d H1 H3 := sp.trans ((Keep.of sn).trans (.of s3))
    have spH3 := (Keep.of (l := l) (d := d) s1).trans sp3
    cases hF : F ε1 with
    | none => rw [hF] at el; cases el
    | some o =>
      rw [hF] at el
      refine hb p l d ls' nar' σ3 H3 ε1 o _ sr3 wk3 hF ?_
      cases o with
      | nx ε2 => exact fun σ4 H4 ls4 nar4 sr4 w4 sp4 => ⟨rfl, hlt, ε2, ls4, nar4, sr4, w4, sp3.trans sp4, el⟩
      | rt ε2 e2 => cases el; exact fun σ4 H4 ls4 nar4 v sr4 w4 sp4 r => fin σ4 H4 ls4 nar4 v sr4 w4 (spH3.trans sp4) r
  · have hl : i = ds.length := by omega
    subst hl
    rw [List.drop_length] at el
    cases el
    exact .inl ⟨istop, fin σ' H' ls' nar' sr wk spH⟩
theorem denw_while {i0 : Nat} {tc : TT} {tb : TS} {c : DEnv → Option Bool} {F : DW} (n : Nat) (hc : DenC K tc c) (hb : DenW K i0 tb F) : DenW K i0 (tWhile tc tb) (wWhile n c F) := by
  intro p l d ls nar σ H ε out De s w e fin
  refine ⟨fun m σ' H' => ∃ ε' ls' nar', SR K H' σ' ε' [] ∧ WOk i0 p l d ls' nar' ε' ∧ Keep l d H H' ∧ wLoopW c F m ε' = some out, ⟨n, ε, ls, nar, s, w, .refl l d H, e⟩, ?_⟩
  rintro m σ' H' ⟨ε', ls', nar', sr, wk, sp, el⟩
  cases m with
  | zero => cases el
  | succ m =>
    obtain ⟨b, eb, el⟩ := Option.bind_eq_some_iff.mp el
    refine hc σ' H' ε' [] b _ sr eb fun H1 s1 => ?_
    cases b with
    | false =>
      rw [if_neg Bool.false_ne_true] at el ⊢
      cases el
      exact fin σ' H1 ls' nar' (sr.mono s1) wk (sp.trans (.of s1))
    | true =>
      rw [if_pos rfl] at el ⊢
      cases hF : F ε' with
      | none => rw [hF] at el; cases el
      | some o =>
        rw [hF] at el
        cases o with
        | nx ε2 =>
          refine ⟨fun σ2 H2 => ∃ ε2 ls2 nar2, SR K H2 σ2 ε2 [] ∧ WOk i0 p l d ls2 nar2 ε2 ∧ Keep l d H H2 ∧ wLoopW c F m ε2 = some out, fun σ2 H2 q => ⟨m, Nat.lt_succ_self m, q⟩, ?_⟩
          exact hb p l d ls' nar' σ' H1 ε' _ _ (sr.mono s1) wk hF fun σ4 H4 ls4 nar4 sr4 w4 sp4 => ⟨ε2, ls4, nar4, sr4, w4, sp.trans ((Keep.of s1).trans sp4), el⟩
        | rt ε2 e2 =>
          cases el
          refine ⟨fun _ _ => False, fun σ2 H2 q => q.elim, ?_⟩
          exact hb p l d ls' nar' σ' H1 ε' _ _ (sr.mono s1) wk hF fun σ4 H4 ls4 nar4 v sr4 w4 sp4 r => fin σ4 H4 ls4 nar4 v sr4 w4 (sp.trans ((Keep.of s1).trans sp4)) r
end
end DL
namespace DL
open PySem PySem.Spec L2
open PyProof.Rows hiding St
structure ShCls (K : PySem.W.Frag) (C0 : Addr) : Prop where
  ns : PySem.W.nsIn K mainGlobals "Sheet" = some (some (.ref C0))
  cl : Cls K C0
  n1 : NoAttr K C0 "lines"
  n2 : NoAttr K C0 "narrowest"
section
variable {K : PySem.W.Frag} {C0 : Addr}
theorem RB.sht {H : Hp} {A : List Addr} {v : V} {p l d : Addr} {ls : List D} {nar : List (List Key × Int)} (r : RB K H A v (.sht p l d ls nar)) : Rep K (cut H A) v (.sht p l d ls nar) := by
  rcases r with r | ⟨a, _, _, o⟩
  · exact r
  · cases o
theorem den_lines (c : ShCls K C0) {t : TE} {f : DEnv → Option D} (h : DenB K t f) : DenS K (tFld K t "lines") (op1 f aGa) := by
  intro σ H ε A d Q s e q
  obtain ⟨x, ex, e⟩ := op1_some e
  unfold aGa at e
  split at e
  · cases e
    refine h σ H ε A _ _ s ex fun v H1 s1 r => ?_
    cases r.sht with
    | sht hC hp hl hd rs =>
      rename_i C dx xs
      have eC : C = C0 := by
        have := hC.symm.trans c.ns
        cases this; rfl
      subst eC
      exact ⟨_, _, dx, _, _, rfl, (aAq.mp hp).2, c.cl, c.n1, rfl, q _ H1 s1 (.lst (.inl (.inl hl)) rs)⟩
  · cases e
theorem valV_nar (nar : List (List Key × Int)) (k : List Key) : valV (nar.map fun kn => (kn.1, V.int kn.2)) k = (narAt nar k).map V.int := by
  induction nar with
  | nil => rfl
  | cons a r ih =>
    by_cases h : a.1 = k
    · rw [List.map_cons, valV_pos h]; simp [narAt, h]
    · rw [List.map_cons, valV_neg h, ih]; simp [narAt, h]
theorem pairK_some {ds : List D} {k : List Key} (h : pairK ds = some k) : ∃ i j : Int, ds = [.int i, .int j] ∧ k = [.inl i, .inl j] := by
  unfold pairK at h
  split at h
  · cases h; exact ⟨_, _, rfl, rfl⟩
  · cases h
theorem reps_pair {H : Hp} {vs : List V} {i j : Int} (r : Reps K H vs [.int i, .int j]) : vs = [.int i, .int j] := by
  cases r with
  | cons r1 r2 =>
    cases r2 with
    | cons r3 r4 =>
      cases r4
      rw [r1.flat rfl, r3.flat rfl]
theorem den_nget (c : ShCls K C0) {t : TE} {ta : TA} {f : DEnv → Option D} {fa : DEnv → Option (List D)} (h : DenB K t f) (ha : DenA K ta fa) : DenF K (tDGet1 (tFld K t "narrowest") (tTup ta)) (gNar f fa) := by
  intro σ H ε A e Q s eq q
  obtain ⟨x, ex, eq⟩ := Option.bind_eq_some_iff.mp eq
  obtain ⟨ds, ed, eq⟩ := Option.bind_eq_some_iff.mp eq
  obtain ⟨k, ek, eq⟩ := Option.bind_eq_some_iff.mp eq
  obtain ⟨i, j, rfl, rfl⟩ := pairK_some ek
  cases x with
  | sht p l d ls nar =>
    cases eq
    refine h σ H ε A _ _ s ex fun v H1 s1 r => ?_
    cases r.sht with
    | sht hC hp hl hd rs =>
      rename_i C dx xs
      have eC : C = C0 := by
        have := hC.symm.trans c.ns
        cases this; rfl
      subst eC
      have hd1 := (aAq.mp hd).2
      refine ⟨_, _, dx, _, _, rfl, (aAq.mp hp).2, c.cl, c.n2, rfl, _, rfl, .inr ⟨_, .inl hd1⟩, ?_⟩
      refine ha σ H1 ε A _ _ (s.mono s1) ed fun vs H2 s2 r2 => ⟨by rw [r2.length]; show 2 ≤ sizeLine; decide, fun b hb => ?_⟩
      have ev := reps_pair r2
      subst ev
      have hd3 : upd H2 b (.tup [.int i, .int j]) d = some (.dT (nar.map fun kn => (kn.1, V.int kn.2))) := by
        have := s2 _ _ hd1
        rw [aAn (aBq this hb)]; exact this
      refine ⟨_, DGet.t (k := [.inl i, .inl j]) hd3 aAt, ?_⟩
      rw [valV_nar]
      have sm : Same H (upd H2 b (.tup [.int i, .int j])) := s1.trans (s2.trans (aBu hb _))
      cases hn : narAt nar [.inl i, .inl j] with
      | none => exact q _ _ sm (.flat (by rw [hn]; rfl))
      | some n => exact q _ _ sm (.flat (by rw [hn]; rfl))
  | _ => cases eq
noncomputable def CalM (P : Program) (w : World) (K : PySem.W.Frag) (mg : Str → Option Value) (base : Heap) (C0 : Addr) (m : Str) (k n : Nat) (g : List D → Option (Bool × D)) : Prop :=
  ∃ f fd ps, ps.length = n ∧ Meth K C0 m f ∧ aBf K fd ps [] ∧ FnOk P w K mg base CX0 k f fd ps (spD K n g)
theorem CalM.mono {P : Program} {w : World} {mg : Str → Option Value} {base : Heap} {m : Str} {j k n : Nat} {g : List D → Option (Bool × D)} (c : CalM P w K mg base C0 m j n g) (h : j ≤ k) : CalM P w K mg base C0 m k n g :=
  let ⟨f, fd, ps, a1, a2, a3, a4⟩ := c; ⟨f, fd, ps, a1, a2, a3, a4.mono h⟩
theorem sht_lookup {m : Str} {l d : Addr} (h1 : m ≠ "lines") (h2 : m ≠ "narrowest") : List.lookup m [(("lines" : Str), V.ref l), ("narrowest", V.ref d)] = none := by
  have e1 : (m == ("lines" : Str)) = false := beq_eq_false_iff_ne.mpr h1
  have e2 : (m == ("narrowest" : Str)) = false := beq_eq_false_iff_ne.mpr h2
  simp only [List.lookup, e1, e2]
theorem den_meth (c : ShCls K C0) {m : Str} {n : Nat} {g : List D → Option (Bool × D)} (hg : ∀ ds r, g ds = some r → ds.length = n) (h1 : m ≠ "lines") (h2 : m ≠ "narrowest") {t : TE} {ta : TA} {f : DEnv → Option D} {fa : DEnv → Option (List D)} {E : XK} (h : DenB K t f) (ha : DenAB K ta fa) :
    DenF K (tMeth C0 m (spD K n g) [] E t ta) (callM g f fa) := by
  intro σ H ε A e Q s eq q
  obtain ⟨x, ex, eq⟩ := Option.bind_eq_some_iff.mp eq
  obtain ⟨ds, ed, eq⟩ := Option.bind_eq_some_iff.mp eq
  obtain ⟨⟨fr, a⟩, eg, eq⟩ := Option.bind_eq_some_iff.mp eq
  split at eq
  · rename_i cc
    cases eq
    cases x with
    | sht p l d ls nar =>
      refine h σ H ε A _ _ s ex fun v H1 s1 r => ?_
      have rf := r.full
      cases r.sht with
      | sht hC hp hl hd rs =>
        rename_i C dx xs
        have eC : C = C0 := by
          have := hC.symm.trans c.ns
          cases this; rfl
        subst eC
        refine ⟨_, dx, _, rfl, (aAq.mp hp).2, sht_lookup h1 h2, ?_⟩
        refine ha σ H1 ε A _ _ (s.mono s1) ed fun vs H2 s2 r2 => ?_
        rw [List.append_nil]
        have rr : Reps K H2 (.ref p :: vs) (.sht p l d ls nar :: ds) := .cons (rf.mono s2) r2.full
        refine ⟨_, fr, a, by rw [rr.length]; exact hg _ _ eg, rr, eg, fun v H3 s3 r3 => ?_⟩
        obtain ⟨u, hu⟩ := Option.isSome_iff_exists.mp (show (aBt a).isSome = true from cc.2)
        rw [rr_flat r3 hu]
        exact q _ H3 (s1.trans (s2.trans s3)) (.flat hu)
    | _ => exact absurd cc.1 (by simp [isSht])
  · cases eq
noncomputable def spW (K : PySem.W.Frag) (n : Nat) (g : GW) : Sp := fun vs H Q _ => ∃ p l d ls nar as ds ls' nar', vs = .ref p :: as ∧ as.length = n ∧ Rep K H (.ref p) (.sht p l d ls nar) ∧ ls.all (imm 6) = true ∧ Reps K H as ds ∧ ds.all (imm 6) = true ∧ g p l d ls nar ds = some (ls', nar') ∧
  ∀ H', Keep l d H H' → Rep K H' (.ref p) (.sht p l d ls' nar') → ls'.all (imm 6) = true → Q .non H'
noncomputable def CalW (P : Program) (w : World) (K : PySem.W.Frag) (mg : Str → Option Value) (base : Heap) (C0 : Addr) (m : Str) (k n : Nat) (g : GW) : Prop :=
  ∃ f fd ps, ps.length = n + 1 ∧ Meth K C0 m f ∧ aBf K fd ps [] ∧ FnOk P w K mg base CX0 k f fd ps (spW K n g)
theorem denw_mut (c : ShCls K C0) {m : Str} {n i0 : Nat} {g : GW} (h1 : m ≠ "lines") (h2 : m ≠ "narrowest") {ta : TA} {fa : DEnv → Option (List D)} {E : XK} (ha : DenA K ta fa) : DenW K i0 (tDrop (tMeth C0 m (spW K n g) [] E (tVar i0) ta)) (wMut i0 n fa g) := by
  intro p l d ls nar σ H ε out De s w e fin
  obtain ⟨ds, ed, e⟩ := Option.bind_eq_some_iff.mp e
  obtain ⟨hp, r⟩ := s.sheet w
  rw [w.hs] at e
  simp only at e
  split at e
  · rename_i cc
    obtain ⟨⟨ls', nar'⟩, eg, e⟩ := Option.bind_eq_some_iff.mp e
    split at e
    · rename_i ci
      cases e
      cases hr : r with
      | sht hC hi hl hd rs =>
        rename_i C dx xs
        have eC : C = C0 := by
          have := hC.symm.trans c.ns
          cases this; rfl
        subst eC
        refine ⟨_, hp, _, dx, _, rfl, hi, sht_lookup h1 h2, ?_⟩
        refine ha σ H ε [] ds _ s ed fun vs H2 s2 r2 => ?_
        rw [aCz] at r2
        rw [List.append_nil]
        refine ⟨p, l, d, ls, nar, vs, ds, ls', nar', rfl, by rw [r2.length]; exact cc.1, r.mono s2, w.lim, r2, cc.2, eg, fun H' k' r' hi' => ?_⟩
        exact fin σ H' ls' nar' ((s.mono s2).mutate w k' r') (w.mutate hi') ((Keep.of s2).trans k')
    · cases e
  · cases e
end
end DL
namespace DL
open PySem PySem.Spec L2
open PyProof.Rows hiding St
section
variable {K : PySem.W.Frag} {C0 : Addr}
theorem startD_get {m i : Nat} {ds : List D} {fl : Bool} {e : D} (h : (aAs m ds)[i]? = some (some (fl, e))) : fl = false ∧ ds[i]? = some e := by
  unfold aAs at h
  by_cases hi : i < ds.length
  · rw [List.getElem?_append_left (by rw [List.length_map]; exact hi), List.getElem?_map] at h
    rw [List.getElem?_eq_getElem hi] at h ⊢
    simp at h
    exact ⟨h.1, by rw [h.2]⟩
  · rw [List.getElem?_append_right (by rw [List.length_map]; omega)] at h
    have := List.mem_of_getElem? h
    rw [List.mem_replicate] at this
    cases this.2
theorem start_wok {m : Nat} {p l d : Addr} {ls : List D} {nar : Nar} {ds : List D} (hl : ls.all (imm 6) = true) (hd : ds.all (imm 6) = true) : WOk 0 p l d ls nar (aAs m (.sht p l d ls nar :: ds)) := by
  refine ⟨rfl, hl, fun i fl e hi h => ?_⟩
  obtain ⟨h1, h2⟩ := startD_get h
  refine ⟨h1, ?_⟩
  obtain ⟨j, rfl⟩ : ∃ j, i = j + 1 := ⟨i - 1, by omega⟩
  rw [List.getElem?_cons_succ] at h2
  exact List.all_eq_true.mp hd _ (List.mem_of_getElem? h2)
theorem sheet_at {i0 : Nat} {p l d : Addr} {ls ls' : List D} {nar nar' : Nar} {ε : DEnv} (w : WOk 0 p l d ls nar ε) (h : shAt ε = some (ls', nar')) : ls = ls' ∧ nar = nar' := by
  unfold shAt at h
  rw [w.hs] at h
  cases h
  exact ⟨rfl, rfl⟩
theorem bodyW_ok {t : TS} {F : DW} {N : List Str} {n : Nat} {vs : List V} {H : Hp} {Q : VK} {E : XK} (h : DenW K 0 t F) (hsp : spW K n (fnW N.length F) vs H Q E) : t { nx := fun _ H' => Q .non H', rt := Q } (L2.start N vs) H := by
  obtain ⟨p, l, d, ls, nar, as, ds, ls', nar', rfl, hn, r, hi, rs, di, eg, q⟩ := hsp
  have sr := sr_start (N := N) (.cons r rs)
  have wk := start_wok (m := N.length) (p := p) (l := l) (d := d) (nar := nar) hi di
  unfold fnW at eg
  split at eg
  · rename_i ε hF
    refine h p l d ls nar _ H _ _ _ sr wk hF fun σ' H' ls2 nar2 sr2 w2 k2 => ?_
    obtain ⟨rfl, rfl⟩ := sheet_at (i0 := 0) w2 eg
    exact q H' k2 (sr2.sheet w2).2 w2.lim
  · rename_i ε hF
    refine h p l d ls nar _ H _ _ _ sr wk hF fun σ' H' ls2 nar2 v sr2 w2 k2 rv => ?_
    obtain ⟨rfl, rfl⟩ := sheet_at (i0 := 0) w2 eg
    rw [rv.flat rfl]
    exact q H' k2 (sr2.sheet w2).2 w2.lim
  · cases eg
theorem putK_nar (nar : Nar) (k : List Key) (n : Int) : putK (nar.map fun kn => (kn.1, V.int kn.2)) k (V.int n) = (putN nar k n).map fun kn => (kn.1, V.int kn.2) := by
  unfold putK putN
  have e : ((nar.map fun kn => (kn.1, V.int kn.2)).any fun kv => decide (kv.1 = k)) = nar.any fun kn => decide (kn.1 = k) := by rw [List.any_map]; rfl
  rw [e]
  split
  · rw [List.map_map, List.map_map]
    refine List.map_congr_left fun x _ => ?_
    simp only [Function.comp_apply]
    split <;> rfl
  · rw [List.map_append]; rfl
theorem denw_nput (c : ShCls K C0) {i0 : Nat} {tv : TE} {ta : TA} {fv : DEnv → Option D} {fa : DEnv → Option (List D)} (hv : DenS K tv fv) (ha : DenA K ta fa) : DenW K i0 (sDPut (tFld K (tVar i0) "narrowest") (tTup ta) tv) (wNPut i0 fa fv) := by
  intro p l d ls nar σ H ε out De s w e fin
  obtain ⟨v, ev, e⟩ := Option.bind_eq_some_iff.mp e
  obtain ⟨ds, ed, e⟩ := Option.bind_eq_some_iff.mp e
  obtain ⟨k, ek, e⟩ := Option.bind_eq_some_iff.mp e
  obtain ⟨i, j, rfl, rfl⟩ := pairK_some ek
  obtain ⟨n, en, e⟩ := Option.bind_eq_some_iff.mp e
  unfold toI at en
  split at en
  · cases en
    rw [w.hs] at e
    simp only at e
    split at e
    · rename_i hlen
      cases e
      refine hv σ H ε [] _ _ s ev fun x H1 s1 r1 => ?_
      have ex := r1.flat rfl
      subst ex
      obtain ⟨hp, r⟩ := (s.mono s1).sheet w
      have hw := w.lim
      cases hr : r with
      | sht hC hi hl hd rs =>
        rename_i C dx xs
        have eC : C = C0 := by
          have := hC.symm.trans c.ns
          cases this; rfl
        subst eC
        refine ⟨_, hp, _, _, dx, _, _, rfl, hi, c.cl, c.n2, rfl, ?_⟩
        refine ha σ H1 ε [] _ _ (s.mono s1) ed fun vs H2 s2 r2 => ⟨by rw [r2.length]; show 2 ≤ sizeLine; decide, fun b hb => ?_⟩
        rw [aCz] at r2
        have ev := reps_pair r2
        subst ev
        have s3 : Same H1 (upd H2 b (.tup [.int i, .int j])) := s2.trans (aBu hb _)
        have hd3 := s3 _ _ hd
        refine ⟨d, _, rfl, DPut.t (k := [.inl i, .inl j]) hd3 aAt (by rw [List.length_map]; exact hlen), ?_⟩
        have kp : Keep l d (upd H2 b (.tup [.int i, .int j])) (upd (upd H2 b (.tup [.int i, .int j])) d (.dT (putK (nar.map fun kn => (kn.1, V.int kn.2)) [.inl i, .inl j] (V.int n)))) := fun a o _ hne q => by rw [aAn hne]; exact q
        have hi3 := s3 _ _ hi
        have hl3 := s3 _ _ hl
        have npd : p ≠ d := fun z => by rw [z, hd3] at hi3; cases hi3
        have nld : l ≠ d := fun z => by rw [z, hd3] at hl3; cases hl3
        have rs3 := rs.mono s3
        have r' : Rep K (upd (upd H2 b (.tup [.int i, .int j])) d (.dT (putK (nar.map fun kn => (kn.1, V.int kn.2)) [.inl i, .inl j] (V.int n)))) (.ref p) (.sht p l d ls (putN nar [.inl i, .inl j] n)) :=
          .sht hC (by rw [aAn npd]; exact hi3) (by rw [aAn nld]; exact hl3) (by rw [aAt, putK_nar]) (aHw ⟨⟨_, hl3⟩, ⟨_, hd3⟩⟩ kp 6 hw rs3)
        exact fin σ _ _ _ ((s.mono (s1.trans s3)).mutate w kp r') (w.mutate hw) ((Keep.of (s1.trans s3)).trans kp)
    · cases e
  · cases en
theorem denw_lapp (c : ShCls K C0) {i0 : Nat} {t : TE} {f : DEnv → Option D} (h : DenS K t f) : DenW K i0 (tDrop (tBM K "list" rAppend (tFld K (tVar i0) "lines") (tCons t tNil))) (wLApp i0 f) := by
  intro p l d ls nar σ H ε out De s w e fin
  obtain ⟨x, ex, e⟩ := Option.bind_eq_some_iff.mp e
  rw [w.hs] at e
  simp only at e
  split at e
  · rename_i cc
    cases e
    obtain ⟨hp, r⟩ := s.sheet w
    have hw := w.lim
    cases hr : r with
    | sht hC hi hl hd rs =>
      rename_i C dx xs
      have eC : C = C0 := by
        have := hC.symm.trans c.ns
        cases this; rfl
      subst eC
      refine ⟨_, hp, _, _, dx, _, _, rfl, hi, c.cl, c.n1, rfl, .inl ⟨rfl, xs, .inl (.inl hl)⟩, ?_⟩
      refine h σ H ε [] x _ s ex fun v H1 s1 rv => ?_
      rw [aCz] at rv
      have hl1 := s1 _ _ hl
      have hi1 := s1 _ _ hi
      have hd1 := s1 _ _ hd
      refine ⟨l, xs, v, rfl, rfl, hl1, by rw [rs.length]; exact cc.1, ?_⟩
      have npl : p ≠ l := fun z => by rw [z, hl1] at hi1; cases hi1
      have ndl : d ≠ l := fun z => by rw [z, hl1] at hd1; cases hd1
      have kp : Keep l d H1 (upd H1 l (.lst (xs ++ [v]))) := fun a o hne _ q => by rw [aAn hne]; exact q
      have two : TwoAt l d H1 := ⟨⟨_, hl1⟩, ⟨_, hd1⟩⟩
      have him : (ls ++ [x]).all (imm 6) = true := by rw [List.all_append, hw, List.all_cons, cc.2]; rfl
      have r' : Rep K (upd H1 l (.lst (xs ++ [v]))) (.ref p) (.sht p l d (ls ++ [x]) nar) :=
        .sht hC (by rw [aAn npl]; exact hi1) aAt (by rw [aAn ndl]; exact hd1) (aHw two kp 6 him ((rs.mono s1).app (.cons rv .nil)))
      exact fin σ _ _ _ ((s.mono s1).mutate w kp r') (w.mutate him) ((Keep.of s1).trans kp)
  · cases e
end
end DL
namespace DL
open PySem PySem.Spec L2
open PyProof.Rows hiding St
section
variable {K : PySem.W.Frag} {C0 : Addr}
theorem TwoAt.mono {l d : Addr} {H H' : Hp} (w : TwoAt l d H) (e : Same H H') : TwoAt l d H' := ⟨let ⟨xs, h⟩ := w.1; ⟨xs, e _ _ h⟩, let ⟨xs, h⟩ := w.2; ⟨xs, e _ _ h⟩⟩
theorem denw_rng1 {t : TA} {f : DEnv → Option (List D)} (h : DenAB K t f) : DenIW K (iRng1 t) (fun ε => (f ε).bind rng1) := by
  intro σ H ε ds l d R s w e q
  obtain ⟨as, e1, e2⟩ := Option.bind_eq_some_iff.mp e
  refine h σ H ε [] as _ s e1 fun vs H1 s1 rs => ?_
  unfold rng1 at e2
  split at e2
  · rename_i j
    split at e2
    · rename_i c
      cases e2
      obtain ⟨x, rfl, r⟩ := rs.one
      obtain rfl := r.flat rfl
      refine ⟨j, rfl, c.1, c.2, q _ H1 s1 fun H' k => ?_⟩
      have hl : (rngD 0 j.toNat).length = j.toNat := by unfold rngD; simp
      rw [hl]
      refine ⟨fun i hi => hi, fun i x Hn hi y => ?_, Nat.le_refl _⟩
      obtain ⟨rfl, rfl⟩ := y
      refine ⟨Same.refl _, .int (0 + i), ?_, .int _⟩
      unfold rngD
      rw [List.getElem?_map, List.getElem?_range hi]; rfl
    · cases e2
  · cases e2
theorem itw_tup {l d a : Addr} {H : Hp} {xs : List V} {ds : List D} (w : TwoAt l d H) (hs : SqT K H a xs) (r : Reps K H xs ds) (hi : ds.all (imm 6) = true) : ItW K l d (Itt K a) H ds := by
  intro H' k
  have hs' := keepT w k hs
  have r' := aHw w k 6 hi r
  refine ⟨fun i h => ⟨xs, xs[i]'(by rw [r.length]; exact h), hs', List.getElem?_eq_getElem _⟩, fun i x Hn h y => ?_, ⟨xs, hs', Nat.le_of_eq r.length⟩⟩
  obtain ⟨rfl, y⟩ := y
  obtain ⟨e, h1, h2⟩ := r'.getV (y xs hs')
  exact ⟨Same.refl _, e, h1, h2⟩
theorem denw_iT {t : TE} {f : DEnv → Option D} (h : DenS K t f) : DenIW K (iSeq K t) (iTI f) := by
  intro σ H ε ds l d R s w e q
  obtain ⟨x, e1, e2⟩ := Option.bind_eq_some_iff.mp e
  obtain ⟨ys, e3, e4⟩ := Option.bind_eq_some_iff.mp e2
  obtain rfl := aIf e3
  split at e4
  · rename_i c
    cases e4
    refine .inr (h σ H ε [] _ _ s e1 fun v H1 s1 r => ?_)
    rw [aCz] at r
    cases r with
    | tup hs r => exact ⟨_, rfl, ⟨_, hs⟩, q _ H1 s1 (itw_tup (w.mono s1) hs r c)⟩
  · cases e4
theorem denw_iE {t : TE} {f : DEnv → Option D} (h : DenS K t f) : DenIW K (iEnum K (tCons t tNil)) (iEI f) := by
  intro σ H ε ds l d R s w e q
  obtain ⟨ys, e0, rfl⟩ := Option.map_eq_some_iff.mp e
  obtain ⟨x, e1, e2⟩ := Option.bind_eq_some_iff.mp e0
  obtain ⟨zs, e3, e4⟩ := Option.bind_eq_some_iff.mp e2
  obtain rfl := aIf e3
  split at e4
  · rename_i c
    cases e4
    refine h σ H ε [] _ _ s e1 fun v H1 s1 r => ?_
    rw [aCz] at r
    cases r with
    | tup hs r =>
      refine ⟨_, rfl, .inr ⟨⟨_, hs⟩, q _ H1 s1 fun H' k => ?_⟩⟩
      rename_i a xs
      have w1 := w.mono s1
      have hs' := keepT w1 k hs
      have r' := aHw w1 k 6 c r
      rw [List.length_mapIdx]
      refine ⟨fun i h => ⟨xs, xs[i]'(by rw [r.length]; exact h), hs', List.getElem?_eq_getElem _⟩, fun i x Hn h y => ?_, ⟨xs, hs', r.length⟩⟩
      obtain ⟨p, x0, rfl, hp, hx, rfl⟩ := y
      obtain ⟨e, h1, h2⟩ := r'.getV (hx xs hs')
      refine ⟨aBu hp _, .tup [.int i, e], ?_, .tup (.inl (.inl aAt)) (.cons (.int _) (.cons (h2.mono (aBu hp _)) .nil))⟩
      rw [List.getElem?_mapIdx, h1]
      rfl
  · cases e4
theorem imm_up : ∀ (n : Nat) (e : D), imm n e = true → imm (n + 1) e = true
  | 0, e, h => by
    have h : aAr e = true := h
    show (aAr e || _) = true
    rw [h]; rfl
  | n + 1, e, h => by
    cases e with
    | tup ds =>
      have h : ds.all (imm n) = true := by simpa [imm, aAr, aBt] using h
      have : ds.all (imm (n + 1)) = true := List.all_eq_true.mpr fun x hx => imm_up n x (List.all_eq_true.mp h x hx)
      simpa [imm, aAr, aBt] using this
    | lst ds => simp [imm, aAr, aBt] at h
    | dic ds => simp [imm, aAr, aBt] at h
    | sht p l d ls nar => simp [imm, aAr, aBt] at h
    | non => rfl
    | bl b => rfl
    | int b => rfl
    | str b => rfl
theorem tgw_N {i0 i : Nat} (hi : i ≠ i0) : TgW i0 (tgN i) := fun p l d ls nar x ε ε' w hx e => by cases e; exact w.set hi hx
theorem tgw_s {i0 : Nat} {p l d : Addr} {ls : List D} {nar : Nar} : ∀ (is : List Nat) (ds : List D) (ε ε' : DEnv), i0 ∉ is → WOk i0 p l d ls nar ε → ds.all (imm 6) = true → tgs is ds ε = some ε' → WOk i0 p l d ls nar ε'
  | [], [], ε, ε', _, w, _, e => by cases e; exact w
  | [], _ :: _, ε, ε', _, w, _, e => by cases e
  | _ :: _, [], ε, ε', _, w, _, e => by cases e
  | i :: is, x :: ds, ε, ε', hn, w, hd, e => by
    rw [List.all_cons, Bool.and_eq_true] at hd
    exact tgw_s is ds _ ε' (fun z => hn (List.mem_cons_of_mem _ z)) (w.set (fun z => hn (by simp [z])) hd.1) hd.2 e
theorem tgw_T {i0 : Nat} {is : List Nat} (hn : i0 ∉ is) : TgW i0 (tgT is) := fun p l d ls nar x ε ε' w hx e => by
  cases x with
  | tup ds =>
    have h5 : ds.all (imm 5) = true := by simpa [imm, aAr, aBt] using hx
    exact tgw_s is ds ε ε' hn w (List.all_eq_true.mpr fun y hy => imm_up 5 y (List.all_eq_true.mp h5 y hy)) e
  | _ => cases e
noncomputable def CalV (P : Program) (w : World) (K : PySem.W.Frag) (mg : Str → Option Value) (base : Heap) (x : Str) (k n : Nat) (g : GW) : Prop :=
  ∃ f fd ps, ps.length = n + 1 ∧ mg x = some (.ref f) ∧ PySem.W.keepIn K (.ref f) = true ∧ aBf K fd ps [] ∧ FnOk P w K mg base CX0 k f fd ps (spW K n g)
theorem CalV.mono {P : Program} {w : World} {mg : Str → Option Value} {base : Heap} {x : Str} {j k n : Nat} {g : GW} (c : CalV P w K mg base x j n g) (h : j ≤ k) : CalV P w K mg base x k n g :=
  let ⟨f, fd, ps, a1, a2, a3, a4, a5⟩ := c; ⟨f, fd, ps, a1, a2, a3, a4, a5.mono h⟩
theorem CalW.mono {P : Program} {w : World} {mg : Str → Option Value} {base : Heap} {m : Str} {j k n : Nat} {g : GW} (c : CalW P w K mg base C0 m j n g) (h : j ≤ k) : CalW P w K mg base C0 m k n g :=
  let ⟨f, fd, ps, a1, a2, a3, a4⟩ := c; ⟨f, fd, ps, a1, a2, a3, a4.mono h⟩
theorem denw_mutF {n i0 : Nat} {g : GW} {ta : TA} {fa : DEnv → Option (List D)} {E : XK} (ha : DenA K ta fa) : DenW K i0 (tDrop (tCall (spW K n g) [] E (tCons (tVar i0) ta))) (wMut i0 n fa g) := by
  intro p l d ls nar σ H ε out De s w e fin
  obtain ⟨ds, ed, e⟩ := Option.bind_eq_some_iff.mp e
  obtain ⟨hp, r⟩ := s.sheet w
  rw [w.hs] at e
  simp only at e
  split at e
  · rename_i cc
    obtain ⟨⟨ls', nar'⟩, eg, e⟩ := Option.bind_eq_some_iff.mp e
    split at e
    · rename_i ci
      cases e
      refine ⟨_, hp, ?_⟩
      refine ha σ H ε [] ds _ s ed fun vs H2 s2 r2 => ?_
      rw [aCz] at r2
      show spW K n g ((V.ref p :: vs) ++ []) H2 _ E
      rw [List.append_nil]
      refine ⟨p, l, d, ls, nar, vs, ds, ls', nar', rfl, by rw [r2.length]; exact cc.1, r.mono s2, w.lim, r2, cc.2, eg, fun H' k' r' hi' => ?_⟩
      exact fin σ H' ls' nar' ((s.mono s2).mutate w k' r') (w.mutate hi') ((Keep.of s2).trans k')
    · cases e
  · cases e
end
noncomputable def QWS (X : Cx) (i0 : Nat) (st : Stmt) (F : DW) : Prop := ∃ t, PS X st t ∧ DenW X.K i0 t F
noncomputable def QWSs (X : Cx) (i0 : Nat) (st : List Stmt) (F : DW) : Prop := ∃ t, PSs X st t ∧ DenW X.K i0 t F
noncomputable def QIW (X : Cx) (tg e : Expr) (f : DEnv → Option (List D)) : Prop := ∃ t, PI X tg e t ∧ DenIW X.K t f
section
variable {X : Cx} {C0 : Addr} {i0 : Nat} {a b c e o : Expr} {es : List Expr} {st : Stmt} {sts body orelse : List Stmt} {F G : DW} {f g : DEnv → Option D} {fc : DEnv → Option Bool} {fa : DEnv → Option (List D)} {pos p pos' apos : Pos}
theorem w_nil : QWSs X i0 [] wNil := ⟨_, pss_nil, denw_nil⟩
theorem aFm (q : QWS X i0 st F) (qr : QWSs X i0 sts G) : QWSs X i0 (st :: sts) (wSeq F G) := let ⟨_, h1, d1⟩ := q; let ⟨_, h2, d2⟩ := qr; ⟨_, pss_cons h1 h2, denw_seq d1 d2⟩
theorem aHj (q : QWS X i0 st F) : QWSs X i0 [st] F := let ⟨_, h1, d1⟩ := q; ⟨_, pss_one h1, d1⟩
theorem w_if (q : QC X c fc) (q1 : QWSs X i0 body F) (q2 : QWSs X i0 orelse G) : QWS X i0 (.If c body orelse pos) (wIf fc F G) := let ⟨_, h1, d1⟩ := q; let ⟨_, h2, d2⟩ := q1; let ⟨_, h3, d3⟩ := q2; ⟨_, ps_if h1 h2 h3, denw_if d1 d2 d3⟩
theorem w_ret (q : QS X e f) : QWS X i0 (.Return (some e) pos) (wRet f) := let ⟨_, h1, d1⟩ := q; ⟨_, ps_ret h1, denw_ret d1⟩
theorem w_retN : QWS X i0 (.Return none pos) wRetN := ⟨_, ps_retN, denw_retN⟩
theorem w_asg (i : Nat) {x : Str} (hN : X.N.Nodup) (q : QS X e f) (hi : X.N[i]? = some x := by rfl) (hx : Loc X.env.scope x := by first | exact Or.inl rfl | exact Or.inr rfl) (hs : swapsWith e (some (.Name x pos')) pos.line X.env = pure false := by rfl)
    (hf : X.fn x = true ∨ X.env.scope.names.lookup x = some .local := by first | exact .inl rfl | exact .inr rfl) : QWS X i0 (.Assign [.Name x pos'] e pos) (wAsg i0 i f) := let ⟨_, h1, d1⟩ := q; ⟨_, ps_set hN hi hx h1 hs hf, denw_asg d1⟩
theorem w_for {tg iter : Expr} {fi : DEnv → Option (List D)} {ft : D → DEnv → Option DEnv} (hx : X.xe = fun _ _ => False) (hc : X.calm = true) (qi : QIW X tg iter fi) (qg : QG X tg ft) (ht : TgW i0 ft) (qb : QWSs X i0 body F)
    (hs : ∀ x, foldedSetIterable iter X.env x = pure x := by intro _; rfl) : QWS X i0 (.For tg iter body [] pos) (wFor i0 fi ft F) :=
  let ⟨_, hi, di⟩ := qi; let ⟨_, hg, dg⟩ := qg; let ⟨_, hb, db⟩ := qb; ⟨_, ps_for (by rw [hx]; exact PassesOwn.never) hc hi hg hb hs, denw_for di dg ht db⟩
theorem w_while (n : Nat) (hx : X.xe = fun _ _ => False) (qc : QC X c fc) (qb : QWSs X i0 body F) : QWS X i0 (.While c body [] pos) (wWhile n fc F) :=
  let ⟨_, hc, dc⟩ := qc; let ⟨_, hb, db⟩ := qb; ⟨_, ps_while (by rw [hx]; exact PassesOwn.never) hc hb, denw_while n dc db⟩
theorem wi_rng1 {tg : Expr} (hg : Gl X "range") (hm : X.mg "range" = none) (q : QAB X [a] fa) (hs : starEach [a] X.env = [(false, eval a X.env)] := by rfl) : QIW X tg (.Call (.Name "range" p) [a] [] pos) (fun ε => (fa ε).bind rng1) :=
  let ⟨_, h1, d1⟩ := q; ⟨_, pi_range1 hg hm h1 hs, denw_rng1 d1⟩
theorem wi_tup {tg : Expr} (q : QS X e f) : QIW X tg e (iTI f) := let ⟨_, h1, d1⟩ := q; ⟨_, pi_seq h1, denw_iT d1⟩
theorem wi_enum {k : Nat} {tp : Pos} (hg : Gl X "enumerate") (hm : X.mg "enumerate" = none) (q : QS X a f) (hs : starEach [a] X.env = [(false, eval a X.env)] := by rfl) : QIW X (.Tuple es k tp) (.Call (.Name "enumerate" p) [a] [] pos) (iEI f) :=
  let ⟨_, h1, d1⟩ := q; ⟨_, pi_enum hg hm (aEw h1 pa_nil hs) hs, denw_iE d1⟩
theorem aHx (c : ShCls X.K C0) (q : QB X e f) (hb : attributeBase e "lines" X.env (eval e X.env) = eval e X.env := by rfl) : QS X (.Attribute e "lines" pos) (op1 f aGa) :=
  let ⟨_, h1, d1⟩ := q; ⟨_, pe_fld h1 hb, den_lines c d1⟩
theorem q_nget (c : ShCls X.K C0) {k : Nat} {x1 : Nat} {tp cpos npos : Pos} (hr : Room k X.A) (q : QB X e f) (qa : QA X es fa) (hb : attributeBase e "narrowest" X.env (eval e X.env) = eval e X.env := by rfl)
    (m : M1 X (.Attribute e "narrowest" npos) "get" apos (.Tuple es x1 tp) cpos := by exact ⟨rfl, rfl, rfl, rfl⟩) : QF X (.Call (.Attribute (.Attribute e "narrowest" npos) "get" apos) [.Tuple es x1 tp] [] cpos) (gNar f fa) :=
  let ⟨_, h1, d1⟩ := q; let ⟨_, h2, d2⟩ := qa; ⟨_, pe_dget1 (hu_of hr) (pe_fld h1 hb) (pe_tup h2) m, den_nget c d1 d2⟩
end
end DL
namespace DL
open PySem PySem.Spec L2
open PyProof.Rows hiding St
section
variable {X : Cx} {C0 : Addr} {i0 : Nat} {a b c e o : Expr} {es : List Expr} {F G : DW} {f g : DEnv → Option D} {fa : DEnv → Option (List D)} {pos p pos' apos : Pos} {P : Program} {w : World} {K : PySem.W.Frag} {mg : Str → Option Value} {base : Heap} {m x : Str} {k n : Nat}
theorem q_meth {gg : List D → Option (Bool × D)} (c : ShCls K C0) (cm : CalM P w K mg base C0 m k n (ar n gg)) (hr : Room k X.A) (q : QB X o f) (qa : QAB X (e :: es) fa) (h1 : m ≠ "lines" := by decide) (h2 : m ≠ "narrowest" := by decide) {pl : Sem Bool}
    (hst : starEach (e :: es) X.env = (false, eval e X.env) :: starEach es X.env := by rfl) (hpl : (backTo pos (starEach es X.env)).any (·.1) = false := by rfl)
    (ht : eval (.Call (.Attribute o m apos) (e :: es) [] pos) X.env = (do
      let ov ← eval o X.env
      standAt apos.atName
      let (f, first) ← holding [ov] (getMethod ov m pl)
      callWith pos f first (backTo pos (starEach (e :: es) X.env)) (backToKw pos (keywordEach [] X.env))) := by rfl)
    (e1 : X.prog = P := by rfl) (e2 : X.w = w := by rfl) (e3 : X.K = K := by rfl) (e4 : X.mg = mg := by rfl) (e5 : X.base = base := by rfl) : QF X (.Call (.Attribute o m apos) (e :: es) [] pos) (callM (ar n gg) f fa) := by
  subst e1 e2 e3 e4 e5
  obtain ⟨t, p1, d1⟩ := q
  obtain ⟨u, p2, d2⟩ := qa
  obtain ⟨ff, fd, ps, a1, a2, a3, a4⟩ := cm
  exact ⟨_, pe_meth p1 c.cl a2 a4 hr a3 .nil (pass0 (X := X)) p2 hst hpl ht, den_meth c (fun ds r z => ar_len z) h1 h2 d1 d2⟩
theorem q_meth0 {gg : List D → Option (Bool × D)} (c : ShCls K C0) (cm : CalM P w K mg base C0 m k n (ar n gg)) (hr : Room k X.A) (q : QB X o f) (h1 : m ≠ "lines" := by decide) (h2 : m ≠ "narrowest" := by decide) {pl : Sem Bool}
    (ht : eval (.Call (.Attribute o m apos) [] [] pos) X.env = (do
      let ov ← eval o X.env
      standAt apos.atName
      let (f, first) ← holding [ov] (getMethod ov m pl)
      callWith pos f first (backTo pos (starEach [] X.env)) (backToKw pos (keywordEach [] X.env))) := by rfl)
    (e1 : X.prog = P := by rfl) (e2 : X.w = w := by rfl) (e3 : X.K = K := by rfl) (e4 : X.mg = mg := by rfl) (e5 : X.base = base := by rfl) : QF X (.Call (.Attribute o m apos) [] [] pos) (callM (ar n gg) f aNil) := by
  subst e1 e2 e3 e4 e5
  obtain ⟨t, p1, d1⟩ := q
  obtain ⟨ff, fd, ps, a1, a2, a3, a4⟩ := cm
  exact ⟨_, pe_meth0 p1 c.cl a2 a4 hr a3 .nil (pass0 (X := X)) ht, den_meth c (fun ds r z => ar_len z) h1 h2 d1 den_bNil⟩
theorem w_mut {gw : GW} (c : ShCls K C0) (cm : CalW P w K mg base C0 m k n gw) (hr : Room k X.A) (qa : QA X (e :: es) fa) (h1 : m ≠ "lines" := by decide) (h2 : m ≠ "narrowest" := by decide) {pl : Sem Bool}
    (hN : X.N[i0]? = some x := by rfl) (hv : Vis X.env.scope x := by first | exact Or.inl rfl | exact Or.inr (Or.inl rfl) | exact Or.inr (Or.inr rfl)) (hd : (x == ("__debug__" : Str)) = false := by decide)
    (hcd : (x == ("__classdict__" : Str)) = false := by decide)
    (hst : starEach (e :: es) X.env = (false, eval e X.env) :: starEach es X.env := by rfl) (hpl : (backTo pos (starEach es X.env)).any (·.1) = false := by rfl)
    (ht : eval (.Call (.Attribute (.Name x p) m apos) (e :: es) [] pos) X.env = (do
      let ov ← eval (.Name x p) X.env
      standAt apos.atName
      let (f, first) ← holding [ov] (getMethod ov m pl)
      callWith pos f first (backTo pos (starEach (e :: es) X.env)) (backToKw pos (keywordEach [] X.env))) := by rfl)
    (hsw : swapsWith (.Call (.Attribute (.Name x p) m apos) (e :: es) [] pos) none pos'.line X.env = pure false := by rfl)
    (e1 : X.prog = P := by rfl) (e2 : X.w = w := by rfl) (e3 : X.K = K := by rfl) (e4 : X.mg = mg := by rfl) (e5 : X.base = base := by rfl) : QWS X i0 (.Expr (.Call (.Attribute (.Name x p) m apos) (e :: es) [] pos) pos') (wMut i0 n fa gw) := by
  subst e1 e2 e3 e4 e5
  obtain ⟨u, p2, d2⟩ := qa
  obtain ⟨ff, fd, ps, a1, a2, a3, a4⟩ := cm
  exact ⟨_, ps_expr (pe_meth (aHl hN hv hd hcd) c.cl a2 a4 hr a3 .nil (pass0 (X := X)) p2 hst hpl ht) hsw, denw_mut c h1 h2 d2⟩
theorem w_mutF {gw : GW} {y : Str} {yp : Pos} (cm : CalV P w K mg base y k n gw) (hr : Room k X.A) (hg : Gl X y) (qa : QA X es fa)
    (hN : X.N[i0]? = some x := by rfl) (hv : Vis X.env.scope x := by first | exact Or.inl rfl | exact Or.inr (Or.inl rfl) | exact Or.inr (Or.inr rfl)) (hd : (x == ("__debug__" : Str)) = false := by decide)
    (hcd : (x == ("__classdict__" : Str)) = false := by decide) (hdb : (y == ("__debug__" : Str)) = false := by decide)
    (hst : starEach (.Name x p :: es) X.env = (false, eval (.Name x p) X.env) :: starEach es X.env := by rfl) (hpl : (backTo pos (starEach es X.env)).any (·.1) = false := by rfl)
    (hsw : swapsWith (.Call (.Name y yp) (.Name x p :: es) [] pos) none pos'.line X.env = pure false := by rfl)
    (e1 : X.prog = P := by rfl) (e2 : X.w = w := by rfl) (e3 : X.K = K := by rfl) (e4 : X.mg = mg := by rfl) (e5 : X.base = base := by rfl) : QWS X i0 (.Expr (.Call (.Name y yp) (.Name x p :: es) [] pos) pos') (wMut i0 n fa gw) := by
  subst e1 e2 e3 e4 e5
  obtain ⟨u, p2, d2⟩ := qa
  obtain ⟨ff, fd, ps, a1, a2, a3, a4, a5⟩ := cm
  exact ⟨_, ps_expr (pe_call a5 hr hg a2 a3 a4 .nil (pass0 (X := X)) (aEw (aHl hN hv hd hcd) p2 hst) hdb hst hpl) hsw, denw_mutF d2⟩
theorem w_nput (c : ShCls X.K C0) {x1 : Nat} {tp npos : Pos} (hr : Room k X.A) (qa : QA X es fa) (q : QS X e f)
    (hN : X.N[i0]? = some x := by rfl) (hv : Vis X.env.scope x := by first | exact Or.inl rfl | exact Or.inr (Or.inl rfl) | exact Or.inr (Or.inr rfl)) (hd : (x == ("__debug__" : Str)) = false := by decide)
    (hcd : (x == ("__classdict__" : Str)) = false := by decide) (hb : attributeBase (.Name x p) "narrowest" X.env (eval (.Name x p) X.env) = eval (.Name x p) X.env := by rfl)
    (hs : swapsWith e (some (.Subscript (.Attribute (.Name x p) "narrowest" npos) (.Tuple es x1 tp) pos')) pos.line X.env = pure false := by rfl) :
    QWS X i0 (.Assign [.Subscript (.Attribute (.Name x p) "narrowest" npos) (.Tuple es x1 tp) pos'] e pos) (wNPut i0 fa f) :=
  let ⟨_, h1, d1⟩ := q; let ⟨_, h2, d2⟩ := qa; ⟨_, ps_dput (hu_of hr) (pe_fld (aHl hN hv hd hcd) hb) (pe_tup h2) h1 hs, denw_nput c d1 d2⟩
theorem w_lapp (c : ShCls X.K C0) {npos cpos : Pos} (q : QS X e f)
    (hN : X.N[i0]? = some x := by rfl) (hv : Vis X.env.scope x := by first | exact Or.inl rfl | exact Or.inr (Or.inl rfl) | exact Or.inr (Or.inr rfl)) (hd : (x == ("__debug__" : Str)) = false := by decide)
    (hcd : (x == ("__classdict__" : Str)) = false := by decide) (hb : attributeBase (.Name x p) "lines" X.env (eval (.Name x p) X.env) = eval (.Name x p) X.env := by rfl)
    (hbase : attributeBase (.Attribute (.Name x p) "lines" npos) "append" X.env (eval (.Attribute (.Name x p) "lines" npos) X.env) = eval (.Attribute (.Name x p) "lines" npos) X.env := by rfl)
    (hfew : ((backTo cpos (starEach [e] X.env)).all (fun x => !x.1) && (backToKw cpos (keywordEach [] X.env)).all (fun x => x.1.isSome) && decide (([e] : List Expr).length + ([] : List Keyword).length + (if ([] : List Keyword).isEmpty then 0 else 1) < 30)) = true := by rfl)
    (hline : (apos.endLine == cpos.line) = true := by rfl) (hs : starEach [e] X.env = (false, eval e X.env) :: starEach [] X.env := by rfl) (hplain : (backTo cpos (starEach [] X.env)).any (·.1) = false := by rfl)
    (hsw : swapsWith (.Call (.Attribute (.Attribute (.Name x p) "lines" npos) "append" apos) [e] [] cpos) none pos.line X.env = pure false := by rfl) :
    QWS X i0 (.Expr (.Call (.Attribute (.Attribute (.Name x p) "lines" npos) "append" apos) [e] [] cpos) pos) (wLApp i0 f) :=
  let ⟨_, h1, d1⟩ := q; ⟨_, ps_expr (pe_bm PySem.F.plainAttrs_list PySem.F.slot_list_append PySem.F.type_list_append mt_append (pe_fld (aHl hN hv hd hcd) hb) (aEw h1 pa_nil hs) hbase hfew hline hs hplain) hsw, denw_lapp c d1⟩
end
section
variable {P : Program} {w : World} {K : PySem.W.Frag} {mg : Str → Option Value} {base : Heap} {x qual : Str} {st : Stmt} {f C0 : Addr} {fd : FuncData} {N ps : List Str} {k n : Nat}
theorem calM_of {F : DS} (U : Fun K x qual st f fd) (hm : Meth K C0 x f) (S : FnScope N ps (aAa st)) (hn : ps.length = n) (hb : aBf K fd ps [])
    (body : ∀ (cdv : Value) (A : Around) (outer : List Env) (s : Shared) (H : Hp) (E : XK), Room k (A.deeper (envOfC qual (aAa st) s.heap.objs.size f cdv)) → QTs (cxOf CX0 P w K mg base N qual (aAa st) f cdv A outer s H E).nox (aAk st) F) :
    CalM P w K mg base C0 x (k + 1) n (ar n (fnD N.length F)) := by
  refine ⟨f, fd, ps, hn, hm, hb, U.ok S (fun vs H Q E ⟨ds, fr, d, h1, _⟩ => by rw [hn]; exact h1) fun cdv A outer s H vs Q E hr hsp => ?_⟩
  obtain ⟨t, h1, h2⟩ := body cdv A outer s H E hr
  refine ⟨t, h1, body_ok (n := n) (E := E) h2 ?_⟩
  obtain ⟨ds, fr, d, q1, q2, q3, q4⟩ := hsp
  refine ⟨ds, fr, d, q1, q2, ?_, q4⟩
  unfold ar at q3
  split at q3
  · exact q3
  · cases q3
theorem fnW_ok {F : DW} (U : Fun K x qual st f fd) (S : FnScope N ps (aAa st)) (hn : ps.length = n + 1)
    (body : ∀ (cdv : Value) (A : Around) (outer : List Env) (s : Shared) (H : Hp) (E : XK), Room k (A.deeper (envOfC qual (aAa st) s.heap.objs.size f cdv)) → QWSs (cxOf CX0 P w K mg base N qual (aAa st) f cdv A outer s H E).nox 0 (aAk st) F) :
    FnOk P w K mg base CX0 (k + 1) f fd ps (spW K n (fnW N.length F)) := by
  refine U.ok S (fun vs H Q E ⟨p, l, d, ls, nar, as, ds, ls', nar', h1, h2, _⟩ => by rw [hn, h1, List.length_cons, h2]) fun cdv A outer s H vs Q E hr hsp => ?_
  obtain ⟨t, h1, h2⟩ := body cdv A outer s H E hr
  exact ⟨t, h1, bodyW_ok (E := E) h2 hsp⟩
theorem calW_of {F : DW} (U : Fun K x qual st f fd) (hm : Meth K C0 x f) (S : FnScope N ps (aAa st)) (hn : ps.length = n + 1) (hb : aBf K fd ps [])
    (body : ∀ (cdv : Value) (A : Around) (outer : List Env) (s : Shared) (H : Hp) (E : XK), Room k (A.deeper (envOfC qual (aAa st) s.heap.objs.size f cdv)) → QWSs (cxOf CX0 P w K mg base N qual (aAa st) f cdv A outer s H E).nox 0 (aAk st) F) :
    CalW P w K mg base C0 x (k + 1) n (fnW N.length F) := ⟨f, fd, ps, hn, hm, hb, fnW_ok U S hn body⟩
theorem calV_of {F : DW} (U : Fun K x qual st f fd) (hm : mg x = some (.ref f)) (S : FnScope N ps (aAa st)) (hn : ps.length = n + 1) (hb : aBf K fd ps [])
    (body : ∀ (cdv : Value) (A : Around) (outer : List Env) (s : Shared) (H : Hp) (E : XK), Room k (A.deeper (envOfC qual (aAa st) s.heap.objs.size f cdv)) → QWSs (cxOf CX0 P w K mg base N qual (aAa st) f cdv A outer s H E).nox 0 (aAk st) F) :
    CalV P w K mg base x (k + 1) n (fnW N.length F) := ⟨f, fd, ps, hn, hm, U.kp, hb, fnW_ok U S hn body⟩
end
end DL
namespace DL
open PySem PySem.Spec L2
open PyProof.Rows hiding St
section
variable {α : Type}
end
section
variable {K : PySem.W.Frag} {C0 : Addr}
noncomputable def spI (K : PySem.W.Frag) (C0 : Addr) : Sp := fun vs H Q _ => ∃ x dx, vs = [.ref x] ∧ H x = some (.ins C0 dx []) ∧ ∀ l d H', H l = none → H d = none → (∀ b o, b ≠ x → H b = some o → H' b = some o) →
  H' x = some (.ins C0 dx [("lines", .ref l), ("narrowest", .ref d)]) → H' l = some (.lst []) → H' d = some (.dT []) → Q .non H'
theorem init_ok (c : ShCls K C0) {vs : List V} {H : Hp} {Q : VK} {E : XK} (h : spI K C0 vs H Q E) : (tSeq (sFld K (tVar 0) (tLst tNil) "lines") (sFld K (tVar 0) tDNewT "narrowest")) { nx := fun _ H' => Q .non H', rt := Q } (L2.start ["self"] vs) H := by
  obtain ⟨x, dx, rfl, hx, q⟩ := h
  refine ⟨by show 0 ≤ sizeLine; exact Nat.zero_le _, fun l hl => ?_⟩
  have hxl : x ≠ l := fun z => by rw [z, hl] at hx; cases hx
  refine ⟨_, rfl, x, C0, dx, _, rfl, by rw [aAn hxl]; exact hx, c.cl, c.n1, by decide, ?_⟩
  intro d hd
  have hxd : x ≠ d := fun z => by rw [← z, aAt] at hd; cases hd
  have hld : l ≠ d := fun z => by rw [← z, aAn (Ne.symm hxl), aAt] at hd; cases hd
  have hd0 : H d = none := by rw [aAn (Ne.symm hxd), aAn (Ne.symm hld)] at hd; exact hd
  refine ⟨_, rfl, x, C0, dx, _, rfl, by rw [aAn hxd, aAt], c.cl, c.n2, by show 1 < 1000; decide, ?_⟩
  refine q l d _ hl hd0 (fun b o hb e => ?_) (by rw [aAt]; rfl) ?_ ?_
  · rw [aAn hb, aAn (fun z => by rw [z, hd0] at e; cases e), aAn hb, aAn (fun z => by rw [z, hl] at e; cases e)]; exact e
  · rw [aAn (Ne.symm hxl), aAn hld, aAn (Ne.symm hxl), aAt]
  · rw [aAn (Ne.symm hxd), aAt]
theorem make_ok (c : ShCls K C0) {σ : St} {H : Hp} {Q : VK} (h : ∀ p l d H', Same H H' → H p = none → H l = none → H d = none → Rep K H' (.ref p) (.sht p l d [] []) → Q (.ref p) H') : tMake C0 (spI K C0) [] E0 tNil σ H Q := by
  intro x dx hx hdx hne
  refine ⟨x, dx, rfl, aAt, fun l d H' hl hd keep hxx hll hdd => ⟨rfl, ?_⟩⟩
  have lx : l ≠ x := fun z => by rw [z, aAt] at hl; cases hl
  have ex : d ≠ x := fun z => by rw [z, aAt] at hd; cases hd
  have ldx : l ≠ dx := fun z => by rw [z, aAn hne, aAt] at hl; cases hl
  have ddx : d ≠ dx := fun z => by rw [z, aAn hne, aAt] at hd; cases hd
  refine h x l d H' (fun b o e => ?_) hx (by rw [aAn lx, aAn ldx] at hl; exact hl) (by rw [aAn ex, aAn ddx] at hd; exact hd) (.sht c.ns hxx hll hdd .nil)
  have bx : b ≠ x := fun z => by rw [z, hx] at e; cases e
  have bdx : b ≠ dx := fun z => by rw [z, hdx] at e; cases e
  exact keep b o bx (by rw [aAn bx, aAn bdx]; exact e)
noncomputable def spB (K : PySem.W.Frag) (g : D → Option (List D × Nar)) : Sp := fun vs H Q _ => ∃ v e ls nar, vs = [v] ∧ Rep K H v e ∧ imm 6 e = true ∧ g e = some (ls, nar) ∧
  ∀ p l d H', Same H H' → H l = none → H d = none → Rep K H' (.ref p) (.sht p l d ls nar) → ls.all (imm 6) = true → Q (.ref p) H'
theorem atSh_ok {m : Nat} (hm : 2 ≤ m) {H : Hp} {N : List Str} (hN : N.length = m) {v : V} {e : D} {p l d : Addr} {ls : List D} {nar : Nar} (r : Rep K H v e) (hi : imm 6 e = true) (hl : ls.all (imm 6) = true) (rs : Rep K H (.ref p) (.sht p l d ls nar)) :
    SR K H ((L2.start N [v]).set 1 (some (.ref p))) (atSh m e p l d ls nar) [] ∧ WOk 1 p l d ls nar (atSh m e p l d ls nar) := by
  have sr := sr_start (N := N) (.cons r .nil)
  rw [hN] at sr
  refine ⟨sr.setS 1 (by rw [aCz]; exact rs), ?_⟩
  unfold atSh
  refine ⟨?_, hl, fun i fl f hi1 q => ?_⟩
  · rw [List.getElem?_set_self (by unfold aAs; simp; omega)]
  · rw [List.getElem?_set_ne (Ne.symm hi1)] at q
    obtain ⟨q1, q2⟩ := startD_get q
    refine ⟨q1, ?_⟩
    have : f ∈ [e] := List.mem_of_getElem? q2
    rw [List.mem_singleton.mp this]; exact hi
theorem begun_ok (c : ShCls K C0) {t : TS} {F : DW} {N : List Str} (hN : 2 ≤ N.length) {vs : List V} {H : Hp} {Q : VK} {E : XK} (h : DenW K 1 t F) (hsp : spB K (fnB N.length F) vs H Q E) :
    (tSeq (tAsg (tMake C0 (spI K C0) [] E0 tNil) (gName 1)) t) { nx := fun _ H' => Q .non H', rt := Q } (L2.start N vs) H := by
  obtain ⟨v, e, ls, nar, rfl, r, hi, eg, q⟩ := hsp
  unfold tSeq tAsg
  dsimp only
  refine make_ok c fun p l d H1 s1 hp hl hd rs => ?_
  obtain ⟨sr, wk⟩ := atSh_ok hN rfl (r.mono s1) hi rfl rs
  have eg := allOf_some eg p l d
  split at eg
  · rename_i ε p' l' d' ls' nar' hF
    split at eg
    · rename_i cc
      obtain ⟨rfl, rfl, rfl, ci⟩ := cc
      cases eg
      refine h p' l' d' [] [] _ H1 _ _ _ sr wk hF fun σ' H' ls2 nar2 u sr2 w2 k2 ru => ?_
      have := sht_ref ru
      subst this
      exact q p' l' d' H' (fun b o e => k2 b o (fun z => by rw [z, hl] at e; cases e) (fun z => by rw [z, hd] at e; cases e) (s1 b o e)) hl hd ru ci
    · cases eg
  · cases eg
theorem paired_ok {t : TS} {F : DW} {N : List Str} (hN : 2 ≤ N.length) {gb : D → Option (List D × Nar)} {vs : List V} {H : Hp} {Q : VK} {E : XK} (h : DenW K 1 t F) (hsp : spD K 1 (fnP N.length gb F) vs H Q E) :
    (tSeq (tAsg (tCall (spB K gb) [] E0 (tCons (tVar 0) tNil)) (gName 1)) t) { nx := fun _ H' => Q .non H', rt := Q } (L2.start N vs) H := by
  obtain ⟨ds, fr, a, hn, r, eg, q⟩ := hsp
  unfold fnP at eg
  split at eg
  · rename_i e
    split at eg
    · rename_i hi
      obtain ⟨⟨ls, nar⟩, eb, eg⟩ := Option.bind_eq_some_iff.mp eg
      obtain ⟨a', ea, eg⟩ := Option.map_eq_some_iff.mp eg
      cases eg
      cases r with
      | cons r0 r1 =>
        cases r1
        rename_i v
        have h0 : (L2.start N [v])[0]? = some (some v) := rfl
        refine ⟨v, h0, ?_⟩
        refine ⟨v, e, ls, nar, rfl, r0, hi, eb, fun p l d H1 s1 hl hd rs ci => ?_⟩
        obtain ⟨sr, wk⟩ := atSh_ok hN rfl (r0.mono s1) hi ci rs
        have ea := allOf_some ea p l d
        have fin : ∀ H', Keep l d H1 H' → Same H H' := fun H' k2 b o e => k2 b o (fun z => by rw [z, hl] at e; cases e) (fun z => by rw [z, hd] at e; cases e) (s1 b o e)
        split at ea
        · rename_i ε a1 hF
          cases ea
          refine h p l d ls nar _ H1 _ _ _ sr wk hF fun σ' H' ls2 nar2 u sr2 w2 k2 ru => ?_
          exact q u H' (fin H' k2) (by unfold RR; rw [if_neg Bool.false_ne_true, aCz]; exact ru)
        · rename_i ε hF
          cases ea
          refine h p l d ls nar _ H1 _ _ _ sr wk hF fun σ' H' ls2 nar2 sr2 w2 k2 => ?_
          exact q .non H' (fin H' k2) (by unfold RR; rw [if_neg Bool.false_ne_true]; exact .non)
        · cases ea
    · cases eg
  · cases eg
end
end DL
namespace DL
open PySem PySem.Spec L2
open PyProof.Rows hiding St
noncomputable def CalI (P : Program) (w : World) (K : PySem.W.Frag) (mg : Str → Option Value) (base : Heap) (C0 : Addr) (k : Nat) : Prop :=
  ∃ f fd, Mk K C0 f ∧ mg "Sheet" = some (.ref C0) ∧ aBf K fd ["self"] [] ∧ FnOk P w K mg base CX0 k f fd ["self"] (spI K C0)
noncomputable def CalB (P : Program) (w : World) (K : PySem.W.Frag) (mg : Str → Option Value) (base : Heap) (x : Str) (k : Nat) (g : D → Option (List D × Nar)) : Prop :=
  ∃ f fd ps, ps.length = 1 ∧ mg x = some (.ref f) ∧ PySem.W.keepIn K (.ref f) = true ∧ aBf K fd ps [] ∧ FnOk P w K mg base CX0 k f fd ps (spB K g)
noncomputable def QBg (X : Cx) (C0 : Addr) (sts : List Stmt) (F : DW) : Prop := ∃ t, PSs X sts (tSeq (tAsg (tMake C0 (spI X.K C0) [] E0 tNil) (gName 1)) t) ∧ DenW X.K 1 t F
noncomputable def QPd (X : Cx) (sts : List Stmt) (gb : D → Option (List D × Nar)) (F : DW) : Prop := ∃ t, PSs X sts (tSeq (tAsg (tCall (spB X.K gb) [] E0 (tCons (tVar 0) tNil)) (gName 1)) t) ∧ DenW X.K 1 t F
section
variable {P : Program} {w : World} {K : PySem.W.Frag} {mg : Str → Option Value} {base : Heap} {x qual : Str} {st : Stmt} {f C0 : Addr} {fd : FuncData} {N ps : List Str} {k n : Nat}
theorem CalI.mono {j : Nat} (c : CalI P w K mg base C0 j) (h : j ≤ k) : CalI P w K mg base C0 k := let ⟨f, fd, a1, a2, a3, a4⟩ := c; ⟨f, fd, a1, a2, a3, a4.mono h⟩
theorem CalB.mono {j : Nat} {g : D → Option (List D × Nar)} (c : CalB P w K mg base x j g) (h : j ≤ k) : CalB P w K mg base x k g := let ⟨f, fd, ps, a1, a2, a3, a4, a5⟩ := c; ⟨f, fd, ps, a1, a2, a3, a4, a5.mono h⟩
theorem calI_of (c : ShCls K C0) (M : Mk K C0 f) (hm : mg "Sheet" = some (.ref C0)) (U : Fun K x qual st f fd) (S : FnScope ["self"] ["self"] (aAa st)) (hb : aBf K fd ["self"] [])
    (body : ∀ (cdv : Value) (A : Around) (outer : List Env) (s : Shared) (H : Hp) (E : XK), Room k (A.deeper (envOfC qual (aAa st) s.heap.objs.size f cdv)) → PSs (cxOf CX0 P w K mg base ["self"] qual (aAa st) f cdv A outer s H E).nox (aAk st) (tSeq (sFld K (tVar 0) (tLst tNil) "lines") (sFld K (tVar 0) tDNewT "narrowest"))) :
    CalI P w K mg base C0 (k + 1) := by
  refine ⟨f, fd, M, hm, hb, U.ok S (fun vs H Q E ⟨x, dx, h1, _⟩ => by rw [h1]; rfl) fun cdv A outer s H vs Q E hr hsp => ?_⟩
  exact ⟨_, body cdv A outer s H E hr, init_ok c hsp⟩
theorem calB_of {F : DW} (c : ShCls K C0) (U : Fun K x qual st f fd) (hm : mg x = some (.ref f)) (S : FnScope N ps (aAa st)) (hn : ps.length = 1) (hb : aBf K fd ps []) (hN : 2 ≤ N.length)
    (body : ∀ (cdv : Value) (A : Around) (outer : List Env) (s : Shared) (H : Hp) (E : XK), Room k (A.deeper (envOfC qual (aAa st) s.heap.objs.size f cdv)) → QBg (cxOf CX0 P w K mg base N qual (aAa st) f cdv A outer s H E).nox C0 (aAk st) F) :
    CalB P w K mg base x (k + 1) (fnB N.length F) := by
  refine ⟨f, fd, ps, hn, hm, U.kp, hb, U.ok S (fun vs H Q E ⟨v, e, ls, nar, h1, _⟩ => by rw [h1, hn]; rfl) fun cdv A outer s H vs Q E hr hsp => ?_⟩
  obtain ⟨t, h1, h2⟩ := body cdv A outer s H E hr
  exact ⟨_, h1, begun_ok (E := E) c hN h2 hsp⟩
theorem calP_of {F : DW} {gb : D → Option (List D × Nar)} (U : Fun K x qual st f fd) (hm : mg x = some (.ref f)) (S : FnScope N ps (aAa st)) (hn : ps.length = 1) (hb : aBf K fd ps []) (hN : 2 ≤ N.length)
    (body : ∀ (cdv : Value) (A : Around) (outer : List Env) (s : Shared) (H : Hp) (E : XK), Room k (A.deeper (envOfC qual (aAa st) s.heap.objs.size f cdv)) → QPd (cxOf CX0 P w K mg base N qual (aAa st) f cdv A outer s H E).nox (aAk st) gb F) :
    Cal P w K mg base x (k + 1) 1 (ar 1 (fnP N.length gb F)) := by
  refine ⟨f, fd, ps, hn, hm, U.kp, hb, U.ok S (fun vs H Q E ⟨ds, fr, d, h1, _⟩ => by rw [hn]; exact h1) fun cdv A outer s H vs Q E hr hsp => ?_⟩
  obtain ⟨t, h1, h2⟩ := body cdv A outer s H E hr
  refine ⟨_, h1, paired_ok (E := E) hN h2 ?_⟩
  obtain ⟨ds, fr, d, q1, q2, q3, q4⟩ := hsp
  refine ⟨ds, fr, d, q1, q2, ?_, q4⟩
  unfold ar at q3
  split at q3
  · exact q3
  · cases q3
end
section
variable {X : Cx} {C0 : Addr} {e : Expr} {es : List Expr} {rest : List Stmt} {F : DW} {pos p pos' pos2 q0 : Pos} {P : Program} {w : World} {K : PySem.W.Frag} {mg : Str → Option Value} {base : Heap} {x y z : Str} {k n : Nat}
theorem b_make (ci : CalI P w K mg base C0 k) (hr : Room (k + 1) X.A) (hg : Gl X "Sheet") (hN : X.N.Nodup) (qr : QWSs X 1 rest F) (hi : X.N[1]? = some y := by rfl) (hx : Loc X.env.scope y := by first | exact Or.inl rfl | exact Or.inr rfl)
    (hs : swapsWith (.Call (.Name "Sheet" p) [] [] pos) (some (.Name y pos')) pos2.line X.env = pure false := by rfl) (hf : X.fn y = true ∨ X.env.scope.names.lookup y = some .local := by first | exact .inl rfl | exact .inr rfl)
    (e1 : X.prog = P := by rfl) (e2 : X.w = w := by rfl) (e3 : X.K = K := by rfl) (e4 : X.mg = mg := by rfl) (e5 : X.base = base := by rfl) : QBg X C0 (.Assign [.Name y pos'] (.Call (.Name "Sheet" p) [] [] pos) pos2 :: rest) F := by
  subst e1 e2 e3 e4 e5
  obtain ⟨t, h1, d1⟩ := qr
  obtain ⟨f, fd, a1, a2, a3, a4⟩ := ci
  exact ⟨t, pss_cons (ps_set hN hi hx (pe_make0 a1 a4 hr hg a2 a3 .nil (pass0 (X := X))) hs hf) h1, d1⟩
theorem p_begun {gb : D → Option (List D × Nar)} (cb : CalB P w K mg base x k gb) (hr : Room k X.A) (hg : Gl X x) (hN : X.N.Nodup) (qr : QWSs X 1 rest F) (hz : X.N[0]? = some z := by rfl) (hv : Vis X.env.scope z := by first | exact Or.inl rfl | exact Or.inr (Or.inl rfl) | exact Or.inr (Or.inr rfl))
    (hd : (z == ("__debug__" : Str)) = false := by decide) (hcd : (z == ("__classdict__" : Str)) = false := by decide) (hdb : (x == ("__debug__" : Str)) = false := by decide)
    (hi : X.N[1]? = some y := by rfl) (hx : Loc X.env.scope y := by first | exact Or.inl rfl | exact Or.inr rfl)
    (hst : starEach [.Name z q0] X.env = (false, eval (.Name z q0) X.env) :: starEach [] X.env := by rfl) (hpl : (backTo pos (starEach [] X.env)).any (·.1) = false := by rfl)
    (hs : swapsWith (.Call (.Name x p) [.Name z q0] [] pos) (some (.Name y pos')) pos2.line X.env = pure false := by rfl) (hf : X.fn y = true ∨ X.env.scope.names.lookup y = some .local := by first | exact .inl rfl | exact .inr rfl)
    (e1 : X.prog = P := by rfl) (e2 : X.w = w := by rfl) (e3 : X.K = K := by rfl) (e4 : X.mg = mg := by rfl) (e5 : X.base = base := by rfl) : QPd X (.Assign [.Name y pos'] (.Call (.Name x p) [.Name z q0] [] pos) pos2 :: rest) gb F := by
  subst e1 e2 e3 e4 e5
  obtain ⟨t, h1, d1⟩ := qr
  obtain ⟨f, fd, ps, a1, a2, a3, a4, a5⟩ := cb
  exact ⟨t, pss_cons (ps_set hN hi hx (pe_call a5 hr hg a2 a3 a4 .nil (pass0 (X := X)) (aEw (aHl hz hv hd hcd) pa_nil hst) hdb hst hpl) hs hf) h1, d1⟩
theorem pi_init {q1 q2 q3 q4 q5 q6 q7 q8 : Pos} (hN : X.N = [("self" : Str)]) (hv : Vis X.env.scope "self" := by first | exact Or.inl rfl | exact Or.inr (Or.inl rfl) | exact Or.inr (Or.inr rfl))
    (s1 : swapsWith (.List [] q3) (some (.Attribute (.Name "self" q1) "lines" q2)) q4.line X.env = pure false := by rfl) (s2 : swapsWith (.Dict [] [] q7) (some (.Attribute (.Name "self" q5) "narrowest" q6)) q8.line X.env = pure false := by rfl) :
    PSs X [.Assign [.Attribute (.Name "self" q1) "lines" q2] (.List [] q3) q4, .Assign [.Attribute (.Name "self" q5) "narrowest" q6] (.Dict [] [] q7) q8] (tSeq (sFld X.K (tVar 0) (tLst tNil) "lines") (sFld X.K (tVar 0) tDNewT "narrowest")) :=
  have h0 : X.N[0]? = some ("self" : Str) := by rw [hN]; rfl
  pss_cons (ps_fld (aHl h0 hv) (pe_lst pa_nil) s1) (pss_one (ps_fld (aHl h0 hv) pe_dnewT s2))
end
end DL
namespace DL
open PySem PySem.Spec L2
open PyProof.Rows hiding St
section
variable {X : Cx} {l : Expr} {es : List Expr} {k : Nat} {tp p pos : Pos} {f : DEnv → Option D}
end
end DL
namespace DL
open PySem PySem.Spec PyProof.Rows
end DL
namespace DL
open PySem PySem.Spec PyProof.Rows
section
variable {prog : Program} {w : World} {A : Around} {R : Result → Shared → Prop} {I : Addr} {fp wr : List Addr} {G : Array GenState → Array GenState → Prop} {n : Nat} {P : Nat → Value → Prop} {St : Nat → Shared → Prop}
end
section
variable {prog : Program} {w : World} {A : Around} {E : Value → Shared → Prop} {s : Shared}
end
end DL
namespace DL
open PySem PySem.Spec L2
open PyProof.Rows hiding St
section
variable {X : Cx} {a : Expr} {ta : TA} {p p2 pos pos2 : Pos} {f : DEnv → Option D}
end
end DL
namespace DL
open PySem PySem.Spec L2
open PyProof.Rows hiding St
section
variable {X : Cx} {e : Expr} {es : List Expr} {kws : List Keyword} {f : DEnv → Option D} {fa fk : DEnv → Option (List D)} {pos p kpos : Pos} {x kw : Str} {nm : Option Str} {k n : Nat} {g : List D → Option (Bool × D)} {dd : D}
end
end DL
namespace DL
open PySem PySem.Spec L2
open PyProof.Rows hiding St
end DL
namespace DL
open PySem L2
end DL
namespace DL
open PySem PySem.Spec L2
open PyProof.Rows hiding St
section
variable {X : Cx} {o e : Expr} {to te : TE} {apos cpos : Pos} {f g : DEnv → Option D}
end
end DL
namespace DL
open PySem
end DL
namespace DL
open PySem PySem.Spec PyProof.Rows
noncomputable def ledOf (w : World) : Bool := !w.params.followText "set-order"
section
variable {prog : Program} {w : World}
end
end DL
namespace DL
open PySem PySem.Spec PyProof.Rows
section
variable {prog : Program} {w : World} {A : Around} {E : Value → Shared → Prop} {s : Shared}
open PySem.F in
theorem newT (a : Value) {Q₁ : Value → Shared → Prop}
    (h : Q₁ (.ref s.heap.objs.size) { s with heap := s.heap.push { cls := .type "set", dict := none, data := .set #[] 0 (.fresh 0 0 (ledOf w)) } }) :
    codeAny (model prog w) A (.call (.builtin "set.__new__") ⟨[.type "set", a], []⟩) (wants Q₁ E) s := by
  refine codeAny_of_tree ?_
  show wpAny _ A.in1 (do checkBuiltinCall "set.__new__" ⟨[.type "set", a], []⟩; again (.builtin "set.__new__" ⟨[.type "set", a], []⟩)) _ _ s
  refine wpAny_bind (wpAny_of_eq (F.newCall_set_1 a) (wpAny_pure ⟨plainId_quiet F.plain_set_new _, codeAny_builtin F.entry_set_new ?_⟩))
  rw [Around.under_plainId F.plain_set_new _]
  unfold Builtin.«set.__new__» Builtin.Frozenset.newClass
  have hsub := sub_set_self
  obtain ⟨hp, g, d, tk, os⟩ := s
  dsimp only
  wp_walk
  refine wpAny_askSetting (wpAny_pure ?_)
  dsimp only
  simp only [newObj]
  refine wpAny_bind (wpAny_alloc (wpAny_pure ?_))
  exact wpAny_pure h
end
section
variable {prog : Program} {w : World} {A : Around} {R : Result → Shared → Prop} {I : Addr} {fp wr : List Addr} {G : Array GenState → Array GenState → Prop} {n : Nat} {P : Nat → Value → Prop} {St : Nat → Shared → Prop}
end
section
variable {prog : Program} {w : World} {A : Around} {E : Value → Shared → Prop} {s : Shared}
end
end DL
namespace DL
open PySem PySem.Spec PySem.Calls PyProof.Rows
section
variable {prog : Program} {w : World} {A : Around} {E : Value → Shared → Prop} {s : Shared}
end
end DL
namespace DL
open PySem PySem.Spec L2
open PyProof.Rows hiding St
section
variable {X : Cx} {a : Expr} {ta : TA} {p p2 pos pos2 : Pos} {f : DEnv → Option D}
end
end DL
namespace L2
open PySem PyProof.Rows
section
variable {X : Cx} {pos : Pos}
noncomputable def tPar3 (i j k : Nat) (ta : TA) : TS := fun D σ H => ta σ H fun vs H1 => ∃ u v w, vs = [u, v, w] ∧ D.nx (((σ.set i (some u)).set j (some v)).set k (some w)) H1
theorem ps_par3 {i j k : Nat} {x y z : Str} {a b c : Expr} {ta : TA} {px py pz pt : Pos} {kt k2 pt2} (hc : X.calm = true) (hN : X.N.Nodup) (hi : X.N[i]? = some x) (hj : X.N[j]? = some y) (hk : X.N[k]? = some z) (hij : i ≠ j) (hik : i ≠ k) (hjk : j ≠ k)
    (hx : X.env.scope.names.lookup x = some .local) (hy : X.env.scope.names.lookup y = some .local) (hz : X.env.scope.names.lookup z = some .local) (ha : PA X [a, b, c] ta)
    (hw : swappedStores [.Tuple [.Name x px, .Name y py, .Name z pz] kt pt] (.Tuple [a, b, c] k2 pt2) X.env = pure (some [x, y, z]))
    (hs : swapsWithSole [.Tuple [.Name x px, .Name y py, .Name z pz] kt pt] (.Tuple [a, b, c] k2 pt2) pos.line X.env = pure false := by rfl) :
    PS X (.Assign [.Tuple [.Name x px, .Name y py, .Name z pz] kt pt] (.Tuple [a, b, c] k2 pt2) pos) (tPar3 i j k ta) := by
  intro pins s σ H D I h
  rw [exec_Assign_arm]
  refine wpAny_bind (wpAny_standAt ?_)
  rw [hs]
  refine wpAny_bind (wpAny_pure ?_)
  rw [if_neg (by decide)]
  refine wpAny_bind (Tuple_ (thn (ha _ pins s σ H _ I h) fun us s1 ⟨vs, H1, I1, r1, q1⟩ => ?_))
  obtain ⟨u, v, w, e1, q1⟩ := q1
  subst e1
  obtain ⟨u1, u2, u3, rfl, ru, rv, rw'⟩ : ∃ u1 u2 u3, us = [u1, u2, u3] ∧ RelV u u1 ∧ RelV v u2 ∧ RelV w u3 := by
    cases r1 with
    | cons p q =>
      cases q with
      | cons p' q' =>
        cases q' with
        | cons p2 q2 =>
          cases q2
          exact ⟨_, _, _, rfl, p, p', p2⟩
  refine wpAny_newObj_type ?_ (by show 3 ≤ sizeLine; decide)
  have I2 : Inv X pins σ H1 { s1 with heap := s1.heap.push { cls := .type "tuple", data := .seq [u1, u2, u3].toArray } } := I1.kept (t' := s1.toks) fun b o e => Heap.get?_push_of_some _ e
  rw [hw]
  refine wpAny_bind (wpAny_pure ?_)
  show wpAny (model X.prog X.w) X.A (do rule "assign.swapped-stores"; let items ← unpackItems (.ref s1.heap.objs.size) 3 none; assignInOrder [fun v => bindName X.env z v, fun v => bindName X.env y v, fun v => bindName X.env x v] items.reverse; pure Flow.next) _ _ _
  refine wpAny_bind (wpAny_rule (wpAny_bind (unpackItems_tuple (items := #[u1, u2, u3]) (I.ok.hd hc) (IsTup.new s1.heap _) fun h' hx' => ?_)))
  have I3 := I2.kept (h' := h') (t' := s1.toks) fun b o e => hx' b o (Nat.ne_of_lt (Heap.lt_size e)) e
  show wpAny _ _ (assignInOrder [fun v => bindName X.env z v, fun v => bindName X.env y v, fun v => bindName X.env x v] [u3, u2, u1] >>= fun _ => pure Flow.next) _ _ _
  refine wpAny_bind (assignInOrder_cons (wpAny_bindName (aGm I3 hN hk (.inl hz) rw' (fun s2 I4 => ?_) (.inr hz))))
  refine assignInOrder_cons (wpAny_bindName (aGm I4 hN hj (.inl hy) rv (fun s3 I5 => ?_) (.inr hy)))
  refine assignInOrder_cons (wpAny_bindName (aGm I5 hN hi (.inl hx) ru (fun s4 I6 => assignInOrder_nil (wpAny_pure ?_)) (.inr hx)))
  rw [List.set_comm _ _ (Ne.symm hij), List.set_comm _ _ (Ne.symm hik), List.set_comm _ _ (Ne.symm hjk)] at I6
  exact ⟨_, H1, I6, q1⟩
end
end L2
namespace DL
open PySem L2
theorem mkT_some {g : DEnv → Option (List D)} {ε : DEnv} {d : D} (e : mkT g ε = some d) : ∃ ds, g ε = some ds ∧ D.tup ds = d := by
  obtain ⟨ds, e1, e⟩ := Option.bind_eq_some_iff.mp e
  split at e
  · cases e; exact ⟨ds, e1, rfl⟩
  · cases e
theorem den_par3 {K : PySem.W.Frag} {i j k : Nat} {ta : TA} {fa : DEnv → Option (List D)} (h : DenA K ta fa) : DenT K (tPar3 i j k ta) (sUnp [i, j, k] (mkT fa)) := by
  intro σ H ε A out De s e fi
  obtain ⟨d, e1, e⟩ := Option.bind_eq_some_iff.mp e
  obtain ⟨ds, e0, e3⟩ : ∃ ds, fa ε = some ds ∧ D.tup ds = d := mkT_some e1
  subst e3
  obtain ⟨ε', e2, rfl⟩ := Option.map_eq_some_iff.mp e
  have e2 : tgs [i, j, k] ds ε = some ε' := e2
  refine h σ H ε A ds _ s e0 fun vs H1 s1 r => ?_
  rcases ds with _ | ⟨a, _ | ⟨b, _ | ⟨c, _ | ⟨_, _⟩⟩⟩⟩
  · cases e2
  · cases e2
  · cases e2
  · cases r with | cons ra r =>
    cases r with | cons rb r =>
    cases r with | cons rc r =>
    cases r
    cases e2
    exact ⟨_, _, _, rfl, fi _ H1 A ((((s.mono s1).setS i ra).setS j rb).setS k rc) (.of s1)⟩
  · cases e2
theorem s_par3 {X : Cx} {x y z : Str} {a b c : Expr} {px py pz pt pos : Pos} {kt k2 pt2} {fa : DEnv → Option (List D)} (i j k : Nat) (hN : X.N.Nodup) (q : QA X [a, b, c] fa) (hij : i ≠ j := by decide) (hik : i ≠ k := by decide) (hjk : j ≠ k := by decide) (hc : X.calm = true := by rfl) (hi : X.N[i]? = some x := by rfl) (hj : X.N[j]? = some y := by rfl) (hk : X.N[k]? = some z := by rfl)
    (hx : X.env.scope.names.lookup x = some .local := by rfl) (hy : X.env.scope.names.lookup y = some .local := by rfl) (hz : X.env.scope.names.lookup z = some .local := by rfl)
    (hw : swappedStores [.Tuple [.Name x px, .Name y py, .Name z pz] kt pt] (.Tuple [a, b, c] k2 pt2) X.env = pure (some [x, y, z]) := by rfl)
    (hs : swapsWithSole [.Tuple [.Name x px, .Name y py, .Name z pz] kt pt] (.Tuple [a, b, c] k2 pt2) pos.line X.env = pure false := by rfl) :
    QT X (.Assign [.Tuple [.Name x px, .Name y py, .Name z pz] kt pt] (.Tuple [a, b, c] k2 pt2) pos) (sUnp [i, j, k] (mkT fa)) := let ⟨t, h2, d2⟩ := q; ⟨_, ps_par3 hc hN hi hj hk hij hik hjk hx hy hz h2 hw hs, den_par3 d2⟩
end DL
namespace DL
open PySem L2
end DL
namespace DL
open PySem L2
theorem allD_true {α : Type} (xs : List α) : allD [.lst (xs.map fun _ => D.bl true)] = some (.bl true) := by
  have := allD_map (xs.map fun _ => true)
  rw [List.map_map] at this
  rw [show (fun _ : α => D.bl true) = D.bl ∘ fun _ => true from rfl, this]
  congr 2
  simp
end DL
namespace DL
open PySem L2
theorem eqN_self : ∀ (n : Nat) (d : D), imm n d = true → eqN (n + 1) d d = some true
  | 0, d, h => by
    cases d with
    | tup ds => cases h
    | lst ds => cases h
    | dic ds => cases h
    | sht _ _ _ _ _ => cases h
    | non => rfl
    | bl b => show some (b == b) = _; rw [beq_self_eq_true]
    | int b => show some (b == b) = _; rw [beq_self_eq_true]
    | str b => show some (b == b) = _; rw [beq_self_eq_true]
  | n + 1, d, h => by
    cases d with
    | tup ds =>
      replace h : ds.all (imm n) = true := by
        have h : (aAr (.tup ds) || ds.all (imm n)) = true := h
        rwa [show aAr (.tup ds) = false from rfl, Bool.false_or] at h
      show eqL (eqN (n + 1)) ds ds = some true
      induction ds with
      | nil => rfl
      | cons x r ih =>
        rw [List.all_cons, Bool.and_eq_true] at h
        simp only [eqL]
        rw [eqN_self n x h.1, aFb, ih h.2, map_s]
        rfl
    | lst ds => cases h
    | dic ds => cases h
    | sht _ _ _ _ _ => cases h
    | non => rfl
    | bl b => show some (b == b) = _; rw [beq_self_eq_true]
    | int b => show some (b == b) = _; rw [beq_self_eq_true]
    | str b => show some (b == b) = _; rw [beq_self_eq_true]
theorem sEqSelf {ds : List D} (h : ds.all (imm 4) = true) : gEqA false (.tup ds) (.tup ds) = some (.bl true) := by
  have e : eqN 6 (.tup ds) (.tup ds) = some true := eqN_self 5 (.tup ds) (by show (aAr (.tup ds) || ds.all (imm 4)) = true; rw [h, Bool.or_true])
  have e : eqL (eqN 5) ds ds = some true := e
  show ((eqL (eqN 5) ds ds).map fun b => D.bl (xor false b)) = _
  rw [e]; rfl
end DL
namespace DL
open PySem L2
noncomputable abbrev hp (p : Nat) (a b : Bool) : Bool := p.testBit (prN a b)
theorem sub_iff : ∀ p, p < 16 → ∀ q, q < 16 → (p &&& q = p ↔ ∀ a b, hp p a b = true → hp q a b = true) := by decide +kernel
theorem join_iff : ∀ p, p < 16 → ∀ q, q < 16 → ∀ a b, hp (joinP p q) a b = ((hp p a false && hp q false b) || (hp p a true && hp q true b)) := by decide +kernel
theorem joinP_lt : ∀ p, p < 16 → ∀ q, q < 16 → joinP p q < 16 := by decide +kernel
theorem aEj : ∀ p, p < 16 → (p = 15 ↔ ∀ a b, hp p a b = true) := by decide +kernel
theorem nine_iff : ∀ a b, hp 9 a b = true ↔ a = b := by decide +kernel
theorem zero_iff : ∀ p, p < 16 → (p = 0 ↔ ∀ a b, hp p a b = false) := by decide +kernel
theorem hp_and (p q : Nat) (a b : Bool) : hp (p &&& q) a b = (hp p a b && hp q a b) := Nat.testBit_and ..
theorem and_lt16 {p : Nat} (h : p < 16) (q : Nat) : p &&& q < 16 := Nat.lt_of_le_of_lt Nat.and_le_left h
noncomputable def isXY (x y : Nat) (l : PLine) : Bool := decide (l.x = x) && decide (l.y = y)
theorem aEs {x y : Nat} {l : PLine} : isXY x y l = true ↔ l.x = x ∧ l.y = y := by simp [isXY]
noncomputable def aDf : List PLine → Nat → Nat → Option Nat
  | [], _, _ => none
  | l :: r, x, y => if isXY x y l then some r.length else aDf r x y
noncomputable def aAi : List PLine → Nat → Nat → Nat
  | [], _, _ => 15
  | l :: r, x, y => if isXY x y l then l.p else aAi r x y
theorem leftR_cons (l : PLine) (r : List PLine) (x y : Nat) : aAi (l :: r) x y = if isXY x y l then l.p else aAi r x y := rfl
noncomputable def aEp : List PLine → Bool
  | [] => false
  | l :: _ => decide (l.p = 0)
theorem lastR_lt : ∀ {rs : List PLine} {x y k : Nat}, aDf rs x y = some k → k < rs.length
  | [], _, _, _, h => by cases h
  | l :: r, x, y, k, h => by
    unfold aDf at h
    split at h
    · cases h; exact Nat.lt_succ_self _
    · exact Nat.lt_succ_of_lt (lastR_lt h)
theorem aEc : ∀ {rs : List PLine} {x y k : Nat}, aDf rs x y = some k → ∃ l, rs.reverse[k]? = some l ∧ l.x = x ∧ l.y = y ∧ l.p = aAi rs x y ∧ l ∈ rs
  | [], _, _, _, h => by cases h
  | l :: r, x, y, k, h => by
    unfold aDf at h
    unfold aAi
    rw [List.reverse_cons]
    split at h
    · rename_i c
      cases h
      rw [if_pos c]
      obtain ⟨h1, h2⟩ := aEs.mp c
      exact ⟨l, by rw [List.getElem?_append_right (by simp)]; simp, h1, h2, rfl, List.mem_cons_self⟩
    · rename_i c
      rw [if_neg c]
      obtain ⟨m, h1, h2, h3, h4, h5⟩ := aEc h
      exact ⟨m, by rw [List.getElem?_append_left (by rw [List.length_reverse]; exact lastR_lt h)]; exact h1, h2, h3, h4, List.mem_cons_of_mem _ h5⟩
theorem aEu : ∀ {rs : List PLine} {x y : Nat}, aDf rs x y = none → aAi rs x y = 15
  | [], _, _, _ => rfl
  | l :: r, x, y, h => by
    unfold aDf at h
    unfold aAi
    split at h
    · cases h
    · rename_i c
      rw [if_neg c]
      exact aEu h
theorem aBb : ∀ {rs : List PLine}, (∀ l ∈ rs, l.p < 16) → ∀ x y, aAi rs x y < 16
  | [], _, _, _ => by show 15 < 16; decide
  | l :: r, h, x, y => by
    unfold aAi
    split
    · exact h l List.mem_cons_self
    · exact aBb (fun m hm => h m (List.mem_cons_of_mem _ hm)) x y
noncomputable def aBa (rs : List PLine) (x y p : Nat) (w : Why) : List PLine :=
  if aEp rs = true ∨ aAi rs x y &&& p = aAi rs x y then rs
  else if aAi rs x y &&& p = p then ⟨x, y, p, w⟩ :: rs
  else ⟨x, y, aAi rs x y &&& p, .both ((aDf rs x y).getD 0) rs.length⟩ :: ⟨x, y, p, w⟩ :: rs
theorem aBm (rs : List PLine) (x y p : Nat) (w : Why) :
    (aBa rs x y p w = rs ∧ (aEp rs = true ∨ aAi rs x y &&& p = aAi rs x y)) ∨
    (aEp rs = false ∧ aAi rs x y &&& p ≠ aAi rs x y ∧
      ((aAi rs x y &&& p = p ∧ aBa rs x y p w = ⟨x, y, p, w⟩ :: rs) ∨
       (aAi rs x y &&& p ≠ p ∧ aBa rs x y p w = ⟨x, y, aAi rs x y &&& p, .both ((aDf rs x y).getD 0) rs.length⟩ :: ⟨x, y, p, w⟩ :: rs))) := by
  unfold aBa
  by_cases c : aEp rs = true ∨ aAi rs x y &&& p = aAi rs x y
  · rw [if_pos c]; exact .inl ⟨rfl, c⟩
  · rw [if_neg c]
    have c1 : aEp rs = false := by cases h : aEp rs with
      | true => exact absurd (.inl h) c
      | false => rfl
    have c2 : aAi rs x y &&& p ≠ aAi rs x y := fun h => c (.inr h)
    by_cases d : aAi rs x y &&& p = p
    · rw [if_pos d]; exact .inr ⟨c1, c2, .inl ⟨d, rfl⟩⟩
    · rw [if_neg d]; exact .inr ⟨c1, c2, .inr ⟨d, rfl⟩⟩
theorem aFc (rs : List PLine) (x y p : Nat) (w : Why) (hs : aEp rs = false) (hq : aAi rs x y &&& p ≠ aAi rs x y) (x' y' : Nat) :
    aAi (aBa rs x y p w) x' y' = if x = x' ∧ y = y' then aAi rs x y &&& p else aAi rs x' y' := by
  rcases aBm rs x y p w with ⟨_, h | h⟩ | ⟨_, _, ⟨h1, h2⟩ | ⟨h1, h2⟩⟩
  · rw [hs] at h; cases h
  · exact absurd h hq
  · rw [h2, leftR_cons]
    by_cases c : x = x' ∧ y = y'
    · rw [if_pos (aEs.mpr c), if_pos c, h1]
    · rw [if_neg (fun z => c (aEs.mp z)), if_neg c]
  · rw [h2, leftR_cons, leftR_cons]
    by_cases c : x = x' ∧ y = y'
    · rw [if_pos (aEs.mpr c), if_pos c]
    · rw [if_neg (fun z => c (aEs.mp z)), if_neg c, if_neg (fun z => c (aEs.mp z))]
theorem left_sub (rs : List PLine) (x y p : Nat) (w : Why) (x' y' : Nat) (a b : Bool) (h : hp (aAi (aBa rs x y p w) x' y') a b = true) : hp (aAi rs x' y') a b = true := by
  rcases aBm rs x y p w with ⟨e, _⟩ | ⟨c1, c2, _⟩
  · rw [e] at h; exact h
  · rw [aFc rs x y p w c1 c2] at h
    split at h
    · rename_i c
      obtain ⟨rfl, rfl⟩ := c
      rw [hp_and, Bool.and_eq_true] at h
      exact h.1
    · exact h
theorem shut_narrow (rs : List PLine) (x y p : Nat) (w : Why) (h : aEp rs = true) : aBa rs x y p w = rs := by
  unfold aBa
  rw [if_pos (.inl h)]
inductive Stp (n : Nat) (ties : List Tie) (rs : List PLine) : List PLine → Prop
  | self {x : Nat} (hx : x < n) : Stp n ties rs (aBa rs x x 9 .self)
  | tie {t x y : Nat} {e : Tie} (ht : ties[t]? = some e) (hx : x ∈ e.1) (hy : y ∈ e.1) : Stp n ties rs (aBa rs x y (tieP e.2 (e.1.idxOf x) (e.1.idxOf y)) (.tie t))
  | join {x z y a b : Nat} (hx : x < n) (hz : z < n) (hy : y < n) (ha : aDf rs x z = some a) (hb : aDf rs z y = some b) : Stp n ties rs (aBa rs x y (joinP (aAi rs x z) (aAi rs z y)) (.join a b))
inductive Rch (n : Nat) (ties : List Tie) : List PLine → Prop
  | nil : Rch n ties []
  | step {rs rs' : List PLine} (h : Rch n ties rs) (s : Stp n ties rs rs') : Rch n ties rs'
structure NetOk (n : Nat) (ties : List Tie) : Prop where
  tie : ∀ e ∈ ties, TieOk e
  lt : ∀ e ∈ ties, ∀ x ∈ e.1, x < n
theorem tieP_lt (T i j : Nat) : tieP T i j < 16 := by
  refine Nat.lt_pow_two_of_testBit (n := 4) _ fun q hq => ?_
  cases h : (tieP T i j).testBit q with
  | false => rfl
  | true =>
    obtain h | ⟨r, _, h⟩ := (testBit_orF _ q _ _).mp h
    · rw [Nat.zero_testBit] at h; cases h
    · have := prN_lt (r.testBit i) (r.testBit j)
      omega
theorem tieP_iff {T i j : Nat} {a b : Bool} : hp (tieP T i j) a b = true ↔ ∃ r ∈ aCb T, r.testBit i = a ∧ r.testBit j = b := by
  refine (testBit_orF _ _ _ _).trans ?_
  rw [Nat.zero_testBit]
  constructor
  · rintro (h | ⟨r, h1, h2⟩)
    · cases h
    · refine ⟨r, h1, ?_⟩
      revert h2
      cases r.testBit i <;> cases r.testBit j <;> cases a <;> cases b <;> decide
  · rintro ⟨r, h1, rfl, rfl⟩
    exact .inr ⟨r, h1, rfl⟩
structure Fine (n : Nat) (rs : List PLine) : Prop where
  lt : ∀ l ∈ rs, l.x < n ∧ l.y < n
  p16 : ∀ l ∈ rs, l.p < 16
  p15 : ∀ l ∈ rs, l.p ≠ 15
  p0 : ∀ l ∈ rs.tail, l.p ≠ 0
theorem Fine.open {n : Nat} {rs : List PLine} (f : Fine n rs) (h : aEp rs = false) : ∀ l ∈ rs, l.p ≠ 0 := by
  intro l hl
  cases rs with
  | nil => cases hl
  | cons m r =>
    rcases List.mem_cons.mp hl with rfl | hl
    · exact of_decide_eq_false h
    · exact f.p0 l hl
theorem Fine.narrow {n : Nat} {rs : List PLine} (f : Fine n rs) {x y p : Nat} (w : Why) (hx : x < n) (hy : y < n) (hp : p < 16) : Fine n (aBa rs x y p w) := by
  have hq := aBb f.p16 x y
  rcases aBm rs x y p w with ⟨e, _⟩ | ⟨c1, c2, ⟨h1, e⟩ | ⟨h1, e⟩⟩
  · rw [e]; exact f
  · rw [e]
    refine ⟨?_, ?_, ?_, f.open c1⟩
    · intro l hl
      rcases List.mem_cons.mp hl with rfl | hl
      · exact ⟨hx, hy⟩
      · exact f.lt l hl
    · intro l hl
      rcases List.mem_cons.mp hl with rfl | hl
      · exact hp
      · exact f.p16 l hl
    · intro l hl
      rcases List.mem_cons.mp hl with rfl | hl
      · intro z
        have z : p = 15 := z
        subst z
        exact c2 ((by decide +kernel : ∀ q, q < 16 → q &&& 15 = q) _ hq)
      · exact f.p15 l hl
  · rw [e]
    refine ⟨?_, ?_, ?_, ?_⟩
    · intro l hl
      rcases List.mem_cons.mp hl with rfl | hl
      · exact ⟨hx, hy⟩
      rcases List.mem_cons.mp hl with rfl | hl
      · exact ⟨hx, hy⟩
      · exact f.lt l hl
    · intro l hl
      rcases List.mem_cons.mp hl with rfl | hl
      · exact and_lt16 hq _
      rcases List.mem_cons.mp hl with rfl | hl
      · exact hp
      · exact f.p16 l hl
    · intro l hl
      rcases List.mem_cons.mp hl with rfl | hl
      · exact fun z => c2 ((by decide +kernel : ∀ q, q < 16 → ∀ p, p < 16 → q &&& p = 15 → q &&& p = q) _ hq _ hp z)
      rcases List.mem_cons.mp hl with rfl | hl
      · intro z
        have z : p = 15 := z
        subst z
        exact c2 ((by decide +kernel : ∀ q, q < 16 → q &&& 15 = q) _ hq)
      · exact f.p15 l hl
    · intro l hl
      rcases List.mem_cons.mp hl with rfl | hl
      · intro z
        have z : p = 0 := z
        subst z
        exact h1 (Nat.and_zero _)
      · exact f.open c1 l hl
theorem Stp.fine {n : Nat} {ties : List Tie} {rs rs' : List PLine} (N : NetOk n ties) (f : Fine n rs) (s : Stp n ties rs rs') : Fine n rs' := by
  cases s with
  | self hx => exact f.narrow _ hx hx (by decide)
  | tie ht hx hy => exact f.narrow _ (N.lt _ (List.mem_of_getElem? ht) _ hx) (N.lt _ (List.mem_of_getElem? ht) _ hy) (tieP_lt ..)
  | join hx hz hy ha hb => exact f.narrow _ hx hy (joinP_lt _ (aBb f.p16 ..) _ (aBb f.p16 ..))
theorem Rch.fine {n : Nat} {ties : List Tie} {rs : List PLine} (N : NetOk n ties) (h : Rch n ties rs) : Fine n rs := by
  induction h with
  | nil => exact ⟨(fun _ z => by cases z), (fun _ z => by cases z), (fun _ z => by cases z), (fun _ z => by cases z)⟩
  | step _ s ih => exact s.fine N ih
theorem Fine.line {n : Nat} {rs : List PLine} (f : Fine n rs) {x y : Nat} (h : aAi rs x y ≠ 15) : ∃ k, aDf rs x y = some k := by
  cases e : aDf rs x y with
  | none => exact absurd (aEu e) h
  | some k => exact ⟨k, rfl⟩
theorem Fine.not15 {n : Nat} {rs : List PLine} (f : Fine n rs) {x y k : Nat} (h : aDf rs x y = some k) : aAi rs x y ≠ 15 := by
  obtain ⟨l, _, _, _, h4, h5⟩ := aEc h
  rw [← h4]
  exact f.p15 l h5
theorem Fine.ne0 {n : Nat} {rs : List PLine} (f : Fine n rs) (h : aEp rs = false) (x y : Nat) : aAi rs x y ≠ 0 := by
  cases e : aDf rs x y with
  | none => rw [aEu e]; decide
  | some k =>
    obtain ⟨l, _, _, _, h4, h5⟩ := aEc e
    rw [← h4]
    exact f.open h l h5
structure Good (n : Nat) (ties : List Tie) (R : Nat → Nat → Bool → Bool → Prop) : Prop where
  self : ∀ x, x < n → ∀ a b, R x x a b → a = b
  tie : ∀ e ∈ ties, ∀ x ∈ e.1, ∀ y ∈ e.1, ∀ a b, R x y a b → hp (tieP e.2 (e.1.idxOf x) (e.1.idxOf y)) a b = true
  join : ∀ x, x < n → ∀ z, z < n → ∀ y, y < n → ∀ a b, (¬ ∀ c d, R x z c d) → (¬ ∀ c d, R z y c d) → R x y a b → ∃ c, R x z a c ∧ R z y c b
theorem Good.keep {n : Nat} {ties : List Tie} {R : Nat → Nat → Bool → Bool → Prop} (N : NetOk n ties) (g : Good n ties R) {rs : List PLine} (h : Rch n ties rs) : ∀ x y a b, R x y a b → hp (aAi rs x y) a b = true := by
  induction h with
  | nil => intro x y a b _; exact (aEj 15 (by decide)).mp rfl a b
  | @step rs rs' h s ih =>
    have f := h.fine N
    have main : ∀ (x y p : Nat) (w : Why), (∀ a b, R x y a b → hp p a b = true) → ∀ x' y' a b, R x' y' a b → hp (aAi (aBa rs x y p w) x' y') a b = true := by
      intro x y p w hp x' y' a b r
      rcases aBm rs x y p w with ⟨e, _⟩ | ⟨c1, c2, _⟩
      · rw [e]; exact ih _ _ _ _ r
      · rw [aFc rs x y p w c1 c2]
        split
        · rename_i c
          obtain ⟨rfl, rfl⟩ := c
          rw [hp_and, ih _ _ _ _ r, hp a b r]; rfl
        · exact ih _ _ _ _ r
    cases s with
    | self hx => exact main _ _ _ _ fun a b r => (nine_iff a b).mpr (g.self _ hx a b r)
    | tie ht hx hy => exact main _ _ _ _ fun a b r => g.tie _ (List.mem_of_getElem? ht) _ hx _ hy a b r
    | @join x z y ka kb hx hz hy ha hb =>
      refine main _ _ _ _ fun a b r => ?_
      have h1 : ¬ ∀ c d, R x z c d := fun q => f.not15 ha ((aEj _ (aBb f.p16 ..)).mpr fun c d => ih _ _ _ _ (q c d))
      have h2 : ¬ ∀ c d, R z y c d := fun q => f.not15 hb ((aEj _ (aBb f.p16 ..)).mpr fun c d => ih _ _ _ _ (q c d))
      obtain ⟨c, r1, r2⟩ := g.join _ hx _ hz _ hy _ _ h1 h2 r
      rw [join_iff _ (aBb f.p16 ..) _ (aBb f.p16 ..)]
      have q1 := ih _ _ _ _ r1
      have q2 := ih _ _ _ _ r2
      cases c <;> rw [q1, q2] <;> simp
theorem good_set {n : Nat} {ties : List Tie} {s : Nat} (hT : ∀ e ∈ ties, TieOk e) (hs : ∀ e ∈ ties, met s e = true) : Good n ties fun x y a b => s.testBit x = a ∧ s.testBit y = b := by
  refine ⟨?_, ?_, ?_⟩
  · rintro x - a b ⟨rfl, rfl⟩; rfl
  · rintro e he x hx y hy a b ⟨rfl, rfl⟩
    have hm := hs e he
    refine tieP_iff.mpr ⟨rowN e.1 s, ?_, row_idx hx, row_idx hy⟩
    exact (mem_rowsOf' (hT e he).t16).mpr hm
  · rintro x - z - y - a b - - ⟨rfl, rfl⟩
    exact ⟨s.testBit z, ⟨rfl, rfl⟩, rfl, rfl⟩
theorem never_shut {n : Nat} {ties : List Tie} {s : Nat} (N : NetOk n ties) (hs : ∀ e ∈ ties, met s e = true) {rs : List PLine} (h : Rch n ties rs) : aEp rs = false := by
  have g := (good_set N.tie hs).keep N h
  cases rs with
  | nil => rfl
  | cons l r =>
    refine decide_eq_false fun z => ?_
    have := g l.x l.y _ _ ⟨rfl, rfl⟩
    rw [leftR_cons, if_pos (aEs.mpr ⟨rfl, rfl⟩), z, hp, Nat.zero_testBit] at this
    cases this
end DL
namespace DL
open PySem L2
structure StillR (n : Nat) (ties : List Tie) (rs : List PLine) : Prop where
  rch : Rch n ties rs
  op : aEp rs = false
  self : ∀ x, x < n → ∀ a b, hp (aAi rs x x) a b = true → a = b
  tie : ∀ e ∈ ties, ∀ x ∈ e.1, ∀ y ∈ e.1, ∀ a b, hp (aAi rs x y) a b = true → hp (tieP e.2 (e.1.idxOf x) (e.1.idxOf y)) a b = true
  join : ∀ x, x < n → ∀ z, z < n → ∀ y, y < n → aAi rs x z ≠ 15 → aAi rs z y ≠ 15 → ∀ a b, hp (aAi rs x y) a b = true → ∃ c, hp (aAi rs x z) a c = true ∧ hp (aAi rs z y) c b = true
section
variable {n : Nat} {ties : List Tie} {rs : List PLine}
theorem StillR.good (N : NetOk n ties) (S : StillR n ties rs) : Good n ties fun x y a b => hp (aAi rs y x) b a = true := by
  refine ⟨?_, ?_, ?_⟩
  · intro x hx a b h; exact (S.self x hx b a h).symm
  · intro e he x hx y hy a b h
    obtain ⟨r, h1, h2, h3⟩ := tieP_iff.mp (S.tie e he y hy x hx b a h)
    exact tieP_iff.mpr ⟨r, h1, h3, h2⟩
  · intro x hx z hz y hy a b h1 h2 h
    have g1 : aAi rs z x ≠ 15 := fun q => h1 fun c d => by rw [q]; exact (aEj 15 (by decide)).mp rfl d c
    have g2 : aAi rs y z ≠ 15 := fun q => h2 fun c d => by rw [q]; exact (aEj 15 (by decide)).mp rfl d c
    obtain ⟨c, q1, q2⟩ := S.join y hy z hz x hx g2 g1 b a h
    exact ⟨c, q2, q1⟩
theorem StillR.sym (N : NetOk n ties) (S : StillR n ties rs) {x y : Nat} {a b : Bool} (h : hp (aAi rs y x) b a = true) : hp (aAi rs x y) a b = true := (S.good N).keep N S.rch x y a b h
noncomputable def In (rs : List PLine) (x y : Nat) (a b : Bool) : Prop := hp (aAi rs x y) a b = true ∧ hp (aAi rs x x) a a = true ∧ hp (aAi rs y y) b b = true
theorem In.sym (N : NetOk n ties) (S : StillR n ties rs) {x y : Nat} {a b : Bool} (h : In rs x y a b) : In rs y x b a := ⟨S.sym N h.1, h.2.2, h.2.1⟩
theorem StillR.ends (N : NetOk n ties) (S : StillR n ties rs) {x y : Nat} (hx : x < n) (hy : y < n) (h15 : aAi rs x y ≠ 15) {a b : Bool} (h : hp (aAi rs x y) a b = true) : In rs x y a b := by
  have s15 : ∀ x, x < n → aAi rs x x ≠ 15 := fun x hx q => by
    have := S.self x hx true false (by rw [q]; decide +kernel)
    cases this
  obtain ⟨c, q1, q2⟩ := S.join x hx y hy y hy h15 (s15 y hy) a b h
  have e := S.self y hy c b q2
  subst e
  obtain ⟨d, q3, q4⟩ := S.join x hx x hx y hy (s15 x hx) h15 a c h
  have e := S.self x hx a d q3
  subst e
  exact ⟨h, q3, q2⟩
theorem StillR.some_end (N : NetOk n ties) (S : StillR n ties rs) {x y : Nat} (hx : x < n) (hy : y < n) {a : Bool} (h : hp (aAi rs x x) a a = true) : ∃ b, In rs x y a b := by
  by_cases h15 : aAi rs x y = 15
  · have f := S.rch.fine N
    have n0 := f.ne0 S.op y y
    have : ∃ b, hp (aAi rs y y) b b = true := by
      cases e1 : hp (aAi rs y y) false false with
      | true => exact ⟨_, e1⟩
      | false =>
        cases e2 : hp (aAi rs y y) true true with
        | true => exact ⟨_, e2⟩
        | false =>
          refine absurd ((zero_iff _ (aBb f.p16 y y)).mpr fun a b => ?_) n0
          cases e : hp (aAi rs y y) a b with
          | false => rfl
          | true =>
            have := S.self y hy a b e
            subst this
            cases a
            · rw [e1] at e; cases e
            · rw [e2] at e; cases e
    obtain ⟨b, hb⟩ := this
    exact ⟨b, by rw [h15]; exact (aEj 15 (by decide)).mp rfl a b, h, hb⟩
  · have h15' : aAi rs y x ≠ 15 := fun q => h15 ((aEj _ (aBb (S.rch.fine N).p16 ..)).mpr fun c d => S.sym N (by rw [q]; exact (aEj 15 (by decide)).mp rfl d c))
    obtain ⟨c, q1, q2⟩ := S.join x hx y hy x hx h15 h15' a a h
    exact ⟨c, S.ends N hx hy h15 q1⟩
theorem StillR.path (N : NetOk n ties) (S : StillR n ties rs) {x z y : Nat} (hx : x < n) (hz : z < n) (hy : y < n) {a b : Bool} (h : In rs x y a b) : ∃ c, In rs x z a c ∧ In rs z y c b := by
  by_cases h1 : aAi rs x z = 15
  · obtain ⟨c, hc⟩ := S.some_end N hy hz h.2.2
    exact ⟨c, ⟨by rw [h1]; exact (aEj 15 (by decide)).mp rfl a c, h.2.1, hc.2.2⟩, hc.sym N S⟩
  · by_cases h2 : aAi rs z y = 15
    · obtain ⟨c, hc⟩ := S.some_end N hx hz h.2.1
      exact ⟨c, hc, by rw [h2]; exact (aEj 15 (by decide)).mp rfl c b, hc.2.2, h.2.2⟩
    · obtain ⟨c, q1, q2⟩ := S.join x hx z hz y hy h1 h2 a b h.1
      exact ⟨c, S.ends N hx hz h1 q1, S.ends N hz hy h2 q2⟩
noncomputable def fitB (rs : List PLine) (s u : Nat) : Bool := (List.range (u + 1)).all fun o => hp (aAi rs o u) (s.testBit o) (s.testBit u)
noncomputable def aGt (rs : List PLine) (n : Nat) : Nat := (List.range n).foldl (fun s u => if fitB rs s u then s else s ||| 2 ^ u) 0
structure Chosen (rs : List PLine) (s u : Nat) : Prop where
  lt : s < 2 ^ u
  ok : ∀ i, i < u → ∀ j, j < u → In rs i j (s.testBit i) (s.testBit j)
theorem chosen_step (N : NetOk n ties) (S : StillR n ties rs) {s u : Nat} (hu : u < n) (c : Chosen rs s u) : Chosen rs (if fitB rs s u then s else s ||| 2 ^ u) (u + 1) := by
  have hsu : s.testBit u = false := Nat.testBit_lt_two_pow c.lt
  -- a value that goes with all
  have main : ∀ t : Nat, t < 2 ^ (u + 1) → (∀ i, i < u → t.testBit i = s.testBit i) → (∀ i, i < u → In rs i u (s.testBit i) (t.testBit u)) → hp (aAi rs u u) (t.testBit u) (t.testBit u) = true → Chosen rs t (u + 1) := by
    intro t ht h1 h2 h3
    refine ⟨ht, fun i hi j hj => ?_⟩
    by_cases ei : i = u
    · subst ei
      by_cases ej : j = i
      · subst ej; exact ⟨h3, h3, h3⟩
      · rw [h1 j (by omega)]
        exact (h2 j (by omega)).sym N S
    · rw [h1 i (by omega)]
      by_cases ej : j = u
      · subst ej; exact h2 i (by omega)
      · rw [h1 j (by omega)]
        exact c.ok i (by omega) j (by omega)
  have up : s < 2 ^ (u + 1) := Nat.lt_trans c.lt (Nat.pow_lt_pow_right (by decide) (Nat.lt_succ_self u))
  cases e : fitB rs s u with
  | true =>
    rw [if_pos rfl]
    have e' := List.all_eq_true.mp e
    have h3 : hp (aAi rs u u) (s.testBit u) (s.testBit u) = true := e' u (List.mem_range.mpr (Nat.lt_succ_self u))
    exact main s up (fun _ _ => rfl) (fun i hi => ⟨e' i (List.mem_range.mpr (by omega)), (c.ok i hi i hi).1, h3⟩) h3
  | false =>
    rw [if_neg (by decide)]
    have bu : (s ||| 2 ^ u).testBit u = true := by rw [Nat.testBit_or, Nat.testBit_two_pow_self, Bool.or_true]
    have bi : ∀ i, i < u → (s ||| 2 ^ u).testBit i = s.testBit i := fun i hi => by rw [Nat.testBit_or, Nat.testBit_two_pow_of_ne (by omega), Bool.or_false]
    have hlt : s ||| 2 ^ u < 2 ^ (u + 1) := Nat.or_lt_two_pow up (Nat.pow_lt_pow_right (by decide) (Nat.lt_succ_self u))
    obtain ⟨o, ho, hf⟩ : ∃ o, o < u + 1 ∧ hp (aAi rs o u) (s.testBit o) false = false := by
      rw [fitB, List.all_eq_false] at e
      obtain ⟨o, ho, hf⟩ := e
      rw [hsu] at hf
      exact ⟨o, List.mem_range.mp ho, by simpa using hf⟩
    by_cases eo : o = u
    · subst eo
      rw [hsu] at hf
      have u1 : hp (aAi rs o o) true true = true := by
        -- some value is left
        have f := S.rch.fine N
        cases e2 : hp (aAi rs o o) true true with
        | true => rfl
        | false =>
          refine absurd ((zero_iff _ (aBb f.p16 o o)).mpr fun a b => ?_) (f.ne0 S.op o o)
          cases e : hp (aAi rs o o) a b with
          | false => rfl
          | true =>
            have := S.self o hu a b e
            subst this
            cases a
            · rw [hf] at e; cases e
            · rw [e2] at e; cases e
      refine main _ hlt bi (fun i hi => ?_) (by rw [bu]; exact u1)
      rw [bu]
      obtain ⟨v, hv⟩ := S.some_end N (by omega : i < n) hu (c.ok i hi i hi).1
      cases v with
      | true => exact hv
      | false => have := hv.2.2; rw [hf] at this; cases this
    · have ho' : o < u := by omega
      have all1 : ∀ j, j < u → In rs j u (s.testBit j) true := by
        intro j hj
        obtain ⟨v, h1, h2⟩ := S.path N (by omega : o < n) hu (by omega : j < n) (c.ok o ho' j hj)
        cases v with
        | true => exact h2.sym N S
        | false => have := h1.1; rw [hf] at this; cases this
      exact main _ hlt bi (fun i hi => by rw [bu]; exact all1 i hi) (by rw [bu]; exact (all1 o ho').2.2)
theorem chosen_all (N : NetOk n ties) (S : StillR n ties rs) : ∀ m, m ≤ n → Chosen rs ((List.range m).foldl (fun s u => if fitB rs s u then s else s ||| 2 ^ u) 0) m
  | 0, _ => ⟨by show 0 < 1; decide, fun _ h => by omega⟩
  | m + 1, h => by
    rw [List.range_succ, List.foldl_append]
    exact chosen_step N S (by omega) (chosen_all N S m (by omega))
noncomputable def mid (a b c : Nat) : Nat := a &&& b ||| c &&& (a ||| b)
noncomputable def Mid (T : Nat) : Prop := ∀ a b c, T.testBit a = true → T.testBit b = true → T.testBit c = true → T.testBit (mid a b c) = true
theorem mid_bit (a b c i : Nat) : (mid a b c).testBit i = ((a.testBit i && b.testBit i) || (c.testBit i && (a.testBit i || b.testBit i))) := by
  unfold mid; simp only [Nat.testBit_or, Nat.testBit_and]
theorem mid_has {T w r : Nat} (hw : w ≤ 3) (h0 : T ≠ 0 ∨ 0 < w) (hT : T < 2 ^ 2 ^ w) (hr : r < 2 ^ w) (M : Mid T) (h : ∀ i, i < w → ∀ j, j < w → ∃ q, T.testBit q = true ∧ q.testBit i = r.testBit i ∧ q.testBit j = r.testBit j) : T.testBit r = true := by
  have lt : ∀ q, T.testBit q = true → q < 2 ^ w := fun q hq => by
    refine Nat.lt_of_not_le fun z => ?_
    rw [Nat.testBit_lt_two_pow (Nat.lt_of_lt_of_le hT (Nat.pow_le_pow_right (by decide) z))] at hq
    cases hq
  have ext : ∀ q, q < 2 ^ w → (∀ i, i < w → q.testBit i = r.testBit i) → q = r := fun q hq hi => by
    refine Nat.eq_of_testBit_eq fun i => ?_
    by_cases z : i < w
    · exact hi i z
    · rw [Nat.testBit_lt_two_pow (Nat.lt_of_lt_of_le hq (Nat.pow_le_pow_right (by decide) (by omega))), Nat.testBit_lt_two_pow (Nat.lt_of_lt_of_le hr (Nat.pow_le_pow_right (by decide) (by omega)))]
  rcases (by omega : w = 0 ∨ w = 1 ∨ w = 2 ∨ w = 3) with rfl | rfl | rfl | rfl
  ·
    have : r = 0 := by omega
    subst this
    rcases h0 with h0 | h0
    · have : T = 1 := by omega
      subst this; rfl
    · omega
  ·
    obtain ⟨q, h1, h2, _⟩ := h 0 (by decide) 0 (by decide)
    rw [← ext q (lt q h1) fun i hi => by rw [show i = 0 by omega]; exact h2]
    exact h1
  ·
    obtain ⟨q, h1, h2, h3⟩ := h 0 (by decide) 1 (by decide)
    rw [← ext q (lt q h1) fun i hi => by
      rcases (by omega : i = 0 ∨ i = 1) with rfl | rfl
      · exact h2
      · exact h3]
    exact h1
  ·
    obtain ⟨q, a1, a2, a3⟩ := h 0 (by decide) 1 (by decide)
    obtain ⟨q', b1, b2, b3⟩ := h 0 (by decide) 2 (by decide)
    obtain ⟨q'', c1, c2, c3⟩ := h 1 (by decide) 2 (by decide)
    have hm := M q q' q'' a1 b1 c1
    rw [← ext _ (lt _ hm) fun i hi => by
      rw [mid_bit]
      rcases (by omega : i = 0 ∨ i = 1 ∨ i = 2) with rfl | rfl | rfl
      · rw [a2, b2]; cases r.testBit 0 <;> simp
      · rw [a3, c2]; cases r.testBit 1 <;> cases q'.testBit 1 <;> rfl
      · rw [b3, c3]; cases r.testBit 2 <;> cases q.testBit 2 <;> rfl]
    exact hm
theorem chosen_meets (N : NetOk n ties) (S : StillR n ties rs) (hl : ∀ e ∈ ties, 0 < e.1.length ∧ e.1.length ≤ 3 ∧ e.1.Nodup) (hM : ∀ e ∈ ties, Mid e.2) : ∀ e ∈ ties, met (aGt rs n) e = true := by
  intro e he
  have C := chosen_all N S n (Nat.le_refl n)
  obtain ⟨l0, l3, nd⟩ := hl e he
  refine mid_has (w := e.1.length) l3 (.inr l0) (N.tie e he).tab (rowN_lt ..) (hM e he) fun i hi j hj => ?_
  have hx : e.1[i] ∈ e.1 := List.getElem_mem hi
  have hy : e.1[j] ∈ e.1 := List.getElem_mem hj
  have := S.tie e he _ hx _ hy _ _ (C.ok _ (N.lt e he _ hx) _ (N.lt e he _ hy)).1
  obtain ⟨r, h1, h2, h3⟩ := tieP_iff.mp this
  rw [nd.idxOf_getElem i hi] at h2
  rw [nd.idxOf_getElem j hj] at h3
  refine ⟨r, (aIh.mp h1).2, ?_, ?_⟩
  · rw [h2, ← row_idx hx, nd.idxOf_getElem i hi]; rfl
  · rw [h3, ← row_idx hy, nd.idxOf_getElem j hj]; rfl
end
end DL
namespace DL
open PySem L2
theorem aDe {α β : Type} {f : β → α → β} {P : β → Prop} : ∀ (L : List α), (∀ b, ∀ a ∈ L, P b → P (f b a)) → ∀ b, P b → P (L.foldl f b)
  | [], _, _, h => h
  | a :: r, H, b, h => aDe r (fun b a ha => H b a (List.mem_cons_of_mem _ ha)) _ (H b a List.mem_cons_self h)
theorem fold_est {α β : Type} {f : β → α → β} {P Q : β → Prop} : ∀ (L : List α), (∀ b, ∀ a ∈ L, Q b → Q (f b a)) → (∀ b, ∀ a ∈ L, P b → P (f b a)) → (∃ a ∈ L, ∀ b, Q b → P (f b a)) → ∀ b, Q b → P (L.foldl f b)
  | [], _, _, ⟨_, h, _⟩, _, _ => by cases h
  | a :: r, HQ, HP, ⟨a0, h0, he⟩, b, q => by
    rcases List.mem_cons.mp h0 with rfl | h0
    · exact aDe (P := P) r (fun b a ha => HP b a (List.mem_cons_of_mem _ ha)) _ (he b q)
    · exact fold_est r (fun b a ha => HQ b a (List.mem_cons_of_mem _ ha)) (fun b a ha => HP b a (List.mem_cons_of_mem _ ha)) ⟨a0, h0, he⟩ _ (HQ b a List.mem_cons_self q)
noncomputable def Grw (f : List PLine → List PLine) : Prop := ∀ rs, rs.length ≤ (f rs).length ∧ ((f rs).length = rs.length → f rs = rs)
theorem grw_fold {α : Type} {f : List PLine → α → List PLine} (g : ∀ a, Grw fun rs => f rs a) : ∀ L : List α, Grw fun rs => L.foldl f rs
  | [], rs => ⟨Nat.le_refl _, fun _ => rfl⟩
  | a :: r, rs => by
    have h1 : rs.length ≤ (f rs a).length ∧ ((f rs a).length = rs.length → f rs a = rs) := g a rs
    have h2 : (f rs a).length ≤ (r.foldl f (f rs a)).length ∧ ((r.foldl f (f rs a)).length = (f rs a).length → r.foldl f (f rs a) = f rs a) := grw_fold g r (f rs a)
    refine ⟨Nat.le_trans h1.1 h2.1, fun e => ?_⟩
    have e : (r.foldl f (f rs a)).length = rs.length := e
    have e1 : f rs a = rs := h1.2 (by have := h1.1; have := h2.1; omega)
    show r.foldl f (f rs a) = rs
    rw [h2.2 (by rw [e, e1]), e1]
theorem grw_each {α : Type} {f : List PLine → α → List PLine} (g : ∀ a, Grw fun rs => f rs a) : ∀ (L : List α) (rs : List PLine), (L.foldl f rs).length = rs.length → ∀ a ∈ L, f rs a = rs
  | [], _, _, _, h => by cases h
  | a :: r, rs, e, b, hb => by
    have h1 : rs.length ≤ (f rs a).length ∧ ((f rs a).length = rs.length → f rs a = rs) := g a rs
    have h2 : (f rs a).length ≤ (r.foldl f (f rs a)).length ∧ ((r.foldl f (f rs a)).length = (f rs a).length → r.foldl f (f rs a) = f rs a) := grw_fold g r (f rs a)
    have e : (r.foldl f (f rs a)).length = rs.length := e
    have e1 : f rs a = rs := h1.2 (by have := h1.1; have := h2.1; omega)
    rcases List.mem_cons.mp hb with rfl | hb
    · exact e1
    · rw [e1] at e
      exact grw_each g r rs e b hb
theorem grw_narrow (rs : List PLine) (x y p : Nat) (w : Why) : rs.length ≤ (aBa rs x y p w).length ∧ ((aBa rs x y p w).length = rs.length → aBa rs x y p w = rs) := by
  rcases aBm rs x y p w with ⟨e, _⟩ | ⟨_, _, ⟨_, e⟩ | ⟨_, e⟩⟩ <;> rw [e]
  · exact ⟨Nat.le_refl _, fun _ => rfl⟩
  · refine ⟨by rw [List.length_cons]; omega, fun z => ?_⟩
    rw [List.length_cons] at z; omega
  · refine ⟨by rw [List.length_cons, List.length_cons]; omega, fun z => ?_⟩
    rw [List.length_cons, List.length_cons] at z; omega
noncomputable def joinR (rs : List PLine) (x z y : Nat) : List PLine := match aDf rs x z, aDf rs z y with
  | some a, some b => aBa rs x y (joinP (aAi rs x z) (aAi rs z y)) (.join a b)
  | _, _ => rs
theorem grw_join (x z y : Nat) : Grw fun rs => joinR rs x z y := by
  intro rs
  show rs.length ≤ (joinR rs x z y).length ∧ ((joinR rs x z y).length = rs.length → joinR rs x z y = rs)
  unfold joinR
  split
  · exact grw_narrow ..
  · exact ⟨Nat.le_refl _, fun _ => rfl⟩
noncomputable def allR1 (n : Nat) (rs : List PLine) (x z : Nat) : List PLine := (List.range n).foldl (fun rs y => joinR rs x z y) rs
noncomputable def allR2 (n : Nat) (rs : List PLine) (x : Nat) : List PLine := (List.range n).foldl (fun rs z => allR1 n rs x z) rs
noncomputable def allR (n : Nat) (rs : List PLine) : List PLine := (List.range n).foldl (fun rs x => allR2 n rs x) rs
theorem grw_all1 (n x z : Nat) : Grw fun rs => allR1 n rs x z := grw_fold (f := fun rs y => joinR rs x z y) (fun y => grw_join x z y) _
theorem grw_all2 (n x : Nat) : Grw fun rs => allR2 n rs x := grw_fold (f := fun rs z => allR1 n rs x z) (fun z => grw_all1 n x z) _
theorem grw_all (n : Nat) : Grw fun rs => allR n rs := grw_fold (f := fun rs x => allR2 n rs x) (fun x => grw_all2 n x) _
theorem all_each {n : Nat} {rs : List PLine} (e : (allR n rs).length = rs.length) : ∀ x, x < n → ∀ z, z < n → ∀ y, y < n → joinR rs x z y = rs := by
  intro x hx z hz y hy
  have e1 := grw_each (fun x => grw_all2 n x) _ rs e x (List.mem_range.mpr hx)
  have e2 := grw_each (fun z => grw_all1 n x z) _ rs (congrArg List.length e1) z (List.mem_range.mpr hz)
  exact grw_each (fun y => grw_join x z y) _ rs (congrArg List.length e2) y (List.mem_range.mpr hy)
noncomputable def okR (ties : List Tie) : List PLine → Prop
  | [] => True
  | l :: r => leftO ties r.reverse r.length l = some l.p ∧ okR ties r
theorem ok_narrow {n : Nat} {ties : List Tie} {rs : List PLine} (f : Fine n rs) (o : okR ties rs) {x y p : Nat} {w : Why} (hp : p < 16) (hw : leftO ties rs.reverse rs.length ⟨x, y, p, w⟩ = some p) : okR ties (aBa rs x y p w) := by
  rcases aBm rs x y p w with ⟨e, _⟩ | ⟨_, c2, ⟨_, e⟩ | ⟨h1, e⟩⟩ <;> rw [e]
  · exact o
  · exact ⟨hw, o⟩
  · refine ⟨?_, hw, o⟩
    cases hl : aDf rs x y with
    | none =>
      rw [aEu hl] at h1
      exact absurd ((by decide +kernel : ∀ p, p < 16 → 15 &&& p = p) p hp) h1
    | some k =>
      obtain ⟨l, q1, q2, q3, q4, _⟩ := aEc hl
      have hk := lastR_lt hl
      have hk' : k < rs.reverse.length := by rw [List.length_reverse]; exact hk
      show (if k < rs.length + 1 ∧ rs.length < rs.length + 1 then _ else none) = _
      rw [if_pos ⟨by omega, by omega⟩, List.reverse_cons, Option.getD_some, List.getElem?_append_left hk', q1, List.getElem?_append_right (by rw [List.length_reverse]; exact Nat.le_refl _), List.length_reverse, Nat.sub_self]
      show (if (l.x = x ∧ l.y = y) ∧ x = x ∧ y = y then some (l.p &&& p) else none) = _
      rw [if_pos ⟨⟨q2, q3⟩, rfl, rfl⟩, q4]
theorem Stp.ok {n : Nat} {ties : List Tie} {rs rs' : List PLine} (N : NetOk n ties) (f : Fine n rs) (o : okR ties rs) (s : Stp n ties rs rs') : okR ties rs' := by
  cases s with
  | self hx => exact ok_narrow f o (by decide) (by show (if _ = _ then some 9 else none) = _; rw [if_pos rfl])
  | @tie t x y e ht hx hy =>
    refine ok_narrow f o (tieP_lt ..) ?_
    show (match ties[t]? with
      | some e => if x ∈ e.1 ∧ y ∈ e.1 then some (tieP e.2 (e.1.idxOf x) (e.1.idxOf y)) else none
      | none => none) = _
    rw [ht]
    show (if x ∈ e.1 ∧ y ∈ e.1 then _ else none) = _
    rw [if_pos ⟨hx, hy⟩]
  | @join x z y a b hx hz hy ha hb =>
    refine ok_narrow f o (joinP_lt _ (aBb f.p16 ..) _ (aBb f.p16 ..)) ?_
    obtain ⟨l, q1, q2, q3, q4, _⟩ := aEc ha
    obtain ⟨m, r1, r2, r3, r4, _⟩ := aEc hb
    show (if a < rs.length ∧ b < rs.length then _ else none) = _
    rw [if_pos ⟨lastR_lt ha, lastR_lt hb⟩, q1, r1]
    show (if l.x = x ∧ l.y = m.x ∧ m.y = y then some (joinP l.p m.p) else none) = _
    rw [if_pos ⟨q2, by rw [q3, r2], r3⟩, q4, r4]
theorem Rch.ok {n : Nat} {ties : List Tie} {rs : List PLine} (N : NetOk n ties) (h : Rch n ties rs) : okR ties rs := by
  induction h with
  | nil => trivial
  | step h s ih => exact s.ok N (h.fine N) ih
noncomputable def pop (p : Nat) : Nat := b01 (p.testBit 0) + b01 (p.testBit 1) + b01 (p.testBit 2) + b01 (p.testBit 3)
theorem pop_lt : ∀ q, q < 16 → ∀ p, p < 16 → q &&& p ≠ q → pop (q &&& p) + 1 ≤ pop q := by decide +kernel
theorem sum_le {α : Type} {f g : α → Nat} : ∀ (L : List α), (∀ a ∈ L, f a ≤ g a) → (L.map f).sum ≤ (L.map g).sum
  | [], _ => Nat.le_refl _
  | a :: r, h => by
    have := h a List.mem_cons_self
    have := sum_le r fun b hb => h b (List.mem_cons_of_mem _ hb)
    simp only [List.map_cons, List.sum_cons]; omega
theorem sum_lt {α : Type} {f g : α → Nat} : ∀ (L : List α), (∀ a ∈ L, f a ≤ g a) → (∃ a ∈ L, f a + 1 ≤ g a) → (L.map f).sum + 1 ≤ (L.map g).sum
  | [], _, ⟨_, h, _⟩ => by cases h
  | a :: r, h, ⟨b, hb, hl⟩ => by
    have h1 := h a List.mem_cons_self
    have h2 := sum_le r fun b hb => h b (List.mem_cons_of_mem _ hb)
    simp only [List.map_cons, List.sum_cons]
    rcases List.mem_cons.mp hb with rfl | hb
    · omega
    · have := sum_lt r (fun b hb => h b (List.mem_cons_of_mem _ hb)) ⟨b, hb, hl⟩
      omega
noncomputable def prs (n : Nat) : List (Nat × Nat) := (List.range n).flatMap fun x => (List.range n).map fun y => (x, y)
theorem mem_prs {n x y : Nat} (hx : x < n) (hy : y < n) : (x, y) ∈ prs n := List.mem_flatMap.mpr ⟨x, List.mem_range.mpr hx, List.mem_map.mpr ⟨y, List.mem_range.mpr hy, rfl⟩⟩
noncomputable def mu (n : Nat) (rs : List PLine) : Nat := ((prs n).map fun q => pop (aAi rs q.1 q.2)).sum
theorem mu_narrow {n : Nat} {rs : List PLine} (f : Fine n rs) {x y p : Nat} (w : Why) (hx : x < n) (hy : y < n) (hp : p < 16) : (aBa rs x y p w).length + 2 * mu n (aBa rs x y p w) ≤ rs.length + 2 * mu n rs := by
  have hq := aBb f.p16 x y
  rcases aBm rs x y p w with ⟨e, _⟩ | ⟨c1, c2, h⟩
  · rw [e]; exact Nat.le_refl _
  · have hl : (aBa rs x y p w).length ≤ rs.length + 2 := by
      rcases h with ⟨_, e⟩ | ⟨_, e⟩ <;> rw [e] <;> simp only [List.length_cons] <;> omega
    have : mu n (aBa rs x y p w) + 1 ≤ mu n rs := by
      refine sum_lt _ (fun q _ => ?_) ⟨(x, y), mem_prs hx hy, ?_⟩
      · rw [aFc rs x y p w c1 c2]
        split
        · rename_i c
          rw [← c.1, ← c.2]
          have := pop_lt _ hq _ hp c2
          omega
        · exact Nat.le_refl _
      · show pop (aAi (aBa rs x y p w) x y) + 1 ≤ pop (aAi rs x y)
        rw [aFc rs x y p w c1 c2, if_pos ⟨rfl, rfl⟩]
        exact pop_lt _ hq _ hp c2
    omega
theorem Rch.len {n : Nat} {ties : List Tie} {rs : List PLine} (N : NetOk n ties) (h : Rch n ties rs) : rs.length + 2 * mu n rs ≤ 2 * mu n [] := by
  induction h with
  | nil => show 0 + _ ≤ _; omega
  | step h s ih =>
    have f := h.fine N
    refine Nat.le_trans ?_ ih
    cases s with
    | self hx => exact mu_narrow f _ hx hx (by decide)
    | tie ht hx hy => exact mu_narrow f _ (N.lt _ (List.mem_of_getElem? ht) _ hx) (N.lt _ (List.mem_of_getElem? ht) _ hy) (tieP_lt ..)
    | join hx hz hy ha hb => exact mu_narrow f _ hx hy (joinP_lt _ (aBb f.p16 ..) _ (aBb f.p16 ..))
theorem mu_nil : ∀ n, n < 10 → 2 * mu n [] ≤ 648 := by decide +kernel
theorem Rch.len' {n : Nat} {ties : List Tie} {rs : List PLine} (N : NetOk n ties) (hn : n < 10) (h : Rch n ties rs) : rs.length ≤ 648 := by
  have := h.len N
  have := mu_nil n hn
  omega
noncomputable def Pst (x y p : Nat) (rs : List PLine) : Prop := aEp rs = true ∨ ∀ a b, hp (aAi rs x y) a b = true → hp p a b = true
theorem pst_keep {x y p : Nat} {rs : List PLine} (h : Pst x y p rs) (x' y' p' : Nat) (w : Why) : Pst x y p (aBa rs x' y' p' w) := by
  rcases h with h | h
  · rw [shut_narrow _ _ _ _ _ h]; exact .inl h
  · exact .inr fun a b z => h a b (left_sub _ _ _ _ _ _ _ _ _ z)
theorem pst_get {n : Nat} {rs : List PLine} (f : Fine n rs) (x y p : Nat) (hp' : p < 16) (w : Why) : Pst x y p (aBa rs x y p w) := by
  rcases aBm rs x y p w with ⟨e, h | h⟩ | ⟨c1, c2, _⟩
  · rw [e]; exact .inl h
  · rw [e]
    exact .inr ((sub_iff _ (aBb f.p16 x y) _ hp').mp h)
  · refine .inr fun a b z => ?_
    rw [aFc rs x y p w c1 c2, if_pos ⟨rfl, rfl⟩, hp_and, Bool.and_eq_true] at z
    exact z.2
noncomputable def selfR (n : Nat) : List PLine := (List.range n).foldl (fun rs x => aBa rs x x 9 .self) []
noncomputable def tieR1 (t : Nat) (e : Tie) (rs : List PLine) (x : Nat) : List PLine := e.1.foldl (fun rs y => aBa rs x y (tieP e.2 (e.1.idxOf x) (e.1.idxOf y)) (.tie t)) rs
noncomputable def tieR (t : Nat) (e : Tie) (rs : List PLine) : List PLine := e.1.foldl (fun rs x => tieR1 t e rs x) rs
noncomputable def tieB (rs : List PLine) (et : Tie × Nat) : List PLine := tieR et.2 et.1 rs
noncomputable def aEr (n : Nat) (ties : List Tie) : List PLine := ties.zipIdx.foldl tieB (selfR n)
structure RunR (n : Nat) (ties : List Tie) (rs : List PLine) : Prop where
  rch : Rch n ties rs
  self : ∀ x, x < n → Pst x x 9 rs
  tie : ∀ e ∈ ties, ∀ x ∈ e.1, ∀ y ∈ e.1, Pst x y (tieP e.2 (e.1.idxOf x) (e.1.idxOf y)) rs
section
variable {n : Nat} {ties : List Tie}
theorem rch_tie1 {t : Nat} {e : Tie} (ht : ties[t]? = some e) {rs : List PLine} (h : Rch n ties rs) {x : Nat} (hx : x ∈ e.1) : Rch n ties (tieR1 t e rs x) := aDe (P := Rch n ties) _ (fun b a ha hb => .step hb (.tie ht hx ha)) rs h
theorem rch_tie {t : Nat} {e : Tie} (ht : ties[t]? = some e) {rs : List PLine} (h : Rch n ties rs) : Rch n ties (tieR t e rs) := aDe (P := Rch n ties) (f := tieR1 t e) _ (fun b a ha hb => rch_tie1 ht hb ha) rs h
theorem pst_tie1 {x y p : Nat} {rs : List PLine} (h : Pst x y p rs) (t : Nat) (e : Tie) (z : Nat) : Pst x y p (tieR1 t e rs z) := aDe (P := Pst x y p) _ (fun c d _ hc => pst_keep hc ..) rs h
theorem pst_tie {x y p : Nat} {rs : List PLine} (h : Pst x y p rs) (t : Nat) (e : Tie) : Pst x y p (tieR t e rs) := aDe (P := Pst x y p) (f := tieR1 t e) _ (fun b a _ hb => pst_tie1 hb ..) rs h
theorem zip_at {et : Tie × Nat} (h : et ∈ ties.zipIdx) : ties[et.2]? = some et.1 := by
  obtain ⟨e, t⟩ := et
  have := List.mem_zipIdx_iff_getElem?.mp h
  exact this
theorem rch_self (n : Nat) : Rch n ties (selfR n) := aDe (P := Rch n ties) _ (fun b a ha hb => .step hb (.self (List.mem_range.mp ha))) _ .nil
theorem rch_begun : Rch n ties (aEr n ties) := aDe (P := Rch n ties) (f := tieB) ties.zipIdx (fun b a ha hb => rch_tie (zip_at ha) hb) (selfR n) (rch_self n)
theorem run_begun (N : NetOk n ties) : RunR n ties (aEr n ties) := by
  refine ⟨rch_begun, ?_, ?_⟩
  · intro x hx
    refine aDe (P := Pst x x 9) (f := tieB) ties.zipIdx (fun b a _ hb => pst_tie hb a.2 a.1) (selfR n) ?_
    exact fold_est (Q := Rch n ties) (P := Pst x x 9) _ (fun b a ha hb => .step hb (.self (List.mem_range.mp ha))) (fun b a _ hb => pst_keep hb ..) ⟨x, List.mem_range.mpr hx, fun b q => pst_get (q.fine N) _ _ _ (by decide) _⟩ _ .nil
  · intro e he x hx y hy
    obtain ⟨t, ht⟩ := List.getElem?_of_mem he
    refine fold_est (Q := Rch n ties) (P := Pst x y (tieP e.2 (e.1.idxOf x) (e.1.idxOf y))) (f := tieB) ties.zipIdx (fun b a ha hb => rch_tie (zip_at ha) hb) (fun b a _ hb => pst_tie hb a.2 a.1) ⟨(e, t), List.mem_zipIdx_iff_getElem?.mpr ht, fun b q => ?_⟩ (selfR n) (rch_self n)
    refine fold_est (Q := Rch n ties) (P := Pst x y (tieP e.2 (e.1.idxOf x) (e.1.idxOf y))) (f := tieR1 t e) _ (fun b a ha hb => rch_tie1 ht hb ha) (fun b a _ hb => pst_tie1 hb ..) ⟨x, hx, fun b q => ?_⟩ _ q
    exact fold_est (Q := Rch n ties) (P := Pst x y (tieP e.2 (e.1.idxOf x) (e.1.idxOf y))) _ (fun b a ha hb => .step hb (.tie ht hx ha)) (fun b a _ hb => pst_keep hb ..) ⟨y, hy, fun b q => pst_get (q.fine N) _ _ _ (tieP_lt ..) _⟩ _ q
theorem run_join {rs : List PLine} (h : RunR n ties rs) {x z y : Nat} (hx : x < n) (hz : z < n) (hy : y < n) : RunR n ties (joinR rs x z y) := by
  unfold joinR
  split
  · rename_i a b ha hb
    exact ⟨.step h.rch (.join hx hz hy ha hb), fun x hx => pst_keep (h.self x hx) .., fun e he x hx y hy => pst_keep (h.tie e he x hx y hy) ..⟩
  · exact h
theorem run_all1 {rs : List PLine} (h : RunR n ties rs) {x z : Nat} (hx : x < n) (hz : z < n) : RunR n ties (allR1 n rs x z) := aDe (P := RunR n ties) _ (fun d y hy hd => run_join hd hx hz (List.mem_range.mp hy)) rs h
theorem run_all2 {rs : List PLine} (h : RunR n ties rs) {x : Nat} (hx : x < n) : RunR n ties (allR2 n rs x) := aDe (P := RunR n ties) _ (fun d z hz hd => run_all1 hd hx (List.mem_range.mp hz)) rs h
theorem run_all {rs : List PLine} (h : RunR n ties rs) : RunR n ties (allR n rs) := aDe (P := RunR n ties) _ (fun d x hx hd => run_all2 hd (List.mem_range.mp hx)) rs h
theorem RunR.still (N : NetOk n ties) {rs : List PLine} (h : RunR n ties rs) (e : (allR n rs).length = rs.length) (op : aEp rs = false) : StillR n ties rs := by
  have f := h.rch.fine N
  have open' : ∀ {x y p : Nat}, Pst x y p rs → ∀ a b, hp (aAi rs x y) a b = true → hp p a b = true := fun h => h.elim (fun z => by rw [op] at z; cases z) id
  refine ⟨h.rch, op, fun x hx a b z => (nine_iff a b).mp (open' (h.self x hx) a b z), fun e he x hx y hy => open' (h.tie e he x hx y hy), ?_⟩
  intro x hx z hz y hy h1 h2 a b hab
  obtain ⟨k, hk⟩ := f.line h1
  obtain ⟨m, hm⟩ := f.line h2
  have ej := all_each e x hx z hz y hy
  unfold joinR at ej
  rw [hk, hm] at ej
  have ej : aBa rs x y (joinP (aAi rs x z) (aAi rs z y)) (.join k m) = rs := ej
  have hj := joinP_lt _ (aBb f.p16 x z) _ (aBb f.p16 z y)
  have := pst_get f x y _ hj (.join k m)
  rw [ej] at this
  have := open' this a b hab
  rw [join_iff _ (aBb f.p16 ..) _ (aBb f.p16 ..), Bool.or_eq_true, Bool.and_eq_true, Bool.and_eq_true] at this
  rcases this with q | q
  · exact ⟨_, q⟩
  · exact ⟨_, q⟩
end
end DL
namespace DL
open PySem L2
noncomputable def WK (N : DEnv → Prop) (Q : OutW → Prop) : OutW → Prop
  | .nx ε => N ε
  | x => Q x
theorem wk_nx {N : DEnv → Prop} {Q : OutW → Prop} {ε : DEnv} : WK N Q (.nx ε) = N ε := rfl
theorem wk_rt {N : DEnv → Prop} {Q : OutW → Prop} {ε : DEnv} {e : D} : WK N Q (.rt ε e) = Q (.rt ε e) := rfl
section
variable {ε : DEnv} {Q : OutW → Prop}
theorem ex_wSeq {F G : DW} : Ex (wSeq F G ε) Q = Ex (F ε) (WK (fun ε' => Ex (G ε') Q) Q) := by
  unfold wSeq
  apply propext
  cases h : F ε with
  | none => rw [aBi, aBi]
  | some o => cases o <;> simp only [aAg, WK]
theorem ex_wNil : Ex (wNil ε) Q = Q (.nx ε) := aAg
theorem ex_wRetN : Ex (wRetN ε) Q = Q (.rt ε .non) := aAg
theorem ex_wRet {f : DEnv → Option D} : Ex (wRet f ε) Q = Ex (f ε) fun e => Q (.rt ε e) := aFk
theorem ex_wIf {c : DEnv → Option Bool} {F G : DW} : Ex (wIf c F G ε) Q = Ex (c ε) fun b => if b = true then Ex (F ε) Q else Ex (G ε) Q := by
  unfold wIf; rw [aAh]; congr 1; funext b; rw [ex_ite]
theorem aFn {α : Type} {c : Prop} [Decidable c] {o : Option α} {P : α → Prop} : Ex (if c then o else none) P = (c ∧ Ex o P) := by
  apply propext
  split
  · rename_i h; exact ⟨fun q => ⟨h, q⟩, fun q => q.2⟩
  · rename_i h; rw [aBi]; exact ⟨False.elim, fun q => h q.1⟩
theorem ex_wAsg {i0 i : Nat} {f : DEnv → Option D} : Ex (wAsg i0 i f ε) Q = Ex (f ε) fun e => (i ≠ i0 ∧ imm 6 e = true) ∧ Q (.nx (ε.set i (some (false, e)))) := by
  unfold wAsg; rw [aAh]; congr 1; funext e; rw [aFn, aAg]
theorem ex_wFor {i0 : Nat} {fi : DEnv → Option (List D)} {ft : D → DEnv → Option DEnv} {F : DW} : Ex (wFor i0 fi ft F ε) Q = Ex (fi ε) fun ds => ds.all (imm 6) = true ∧ Ex (wLoop i0 ft F ds ε) Q := by
  unfold wFor; rw [aAh]; congr 1; funext e; rw [aFn]
theorem w_fold {α β : Type} {i0 : Nat} {ft : D → DEnv → Option DEnv} {F : DW} {g : α → D} {f : β → α → β} {S : β → DEnv → Prop} : ∀ (L : List α), (∀ b, ∀ a ∈ L, ∀ ε, S b ε → Ex (ft (g a) ε) fun ε1 => Ex (F ε1) fun o => ∃ ε', o = .nx ε' ∧ S (f b a) ε') →
    ∀ b ε, S b ε → Ex (wLoop i0 ft F (L.map g) ε) fun o => ∃ ε', o = .nx ε' ∧ S (L.foldl f b) ε'
  | [], _, b, ε, s => ⟨_, rfl, ε, rfl, s⟩
  | a :: r, H, b, ε, s => by
    obtain ⟨ε1, e1, o, e2, ε2, rfl, s2⟩ := H b a List.mem_cons_self ε s
    have ih := w_fold (i0 := i0) r (fun b a ha => H b a (List.mem_cons_of_mem _ ha)) _ _ s2
    show Ex (((ft (g a) ε)).bind fun ε1 => match F ε1 with
      | some (.nx ε2) => wLoop i0 ft F (r.map g) ε2
      | o => o) _
    rw [e1, aFb, e2]
    exact ih
theorem ex_callM {g : List D → Option (Bool × D)} {f : DEnv → Option D} {fa : DEnv → Option (List D)} {P : D → Prop} : Ex (callM g f fa ε) P = Ex (f ε) fun x => Ex (fa ε) fun ds => Ex (g (x :: ds)) fun r => (isSht x = true ∧ aAr r.2 = true) ∧ P r.2 := by
  unfold callM
  rw [aAh]; congr 1; funext x; rw [aAh]; congr 1; funext ds; rw [aAh]; congr 1; funext r; rw [aFn, aAg]
end
noncomputable def kxy (x y : Nat) : List Key := [.inl (x : Int), .inl (y : Int)]
theorem kxy_inj {x y x' y' : Nat} : kxy x y = kxy x' y' ↔ x = x' ∧ y = y' := by
  unfold kxy
  simp only [List.cons.injEq, Sum.inl.injEq, and_true]
  omega
noncomputable def aDg : List PLine → Nar
  | [] => []
  | l :: r => putN (aDg r) (kxy l.x l.y) r.length
noncomputable def aAo (rs : List PLine) : List D := rs.reverse.map aCt
noncomputable def shD (p l d : Addr) (rs : List PLine) : D := .sht p l d (aAo rs) (aDg rs)
theorem lines_cons (l : PLine) (rs : List PLine) : aAo (l :: rs) = aAo rs ++ [aCt l] := by unfold aAo; rw [List.reverse_cons, List.map_append]; rfl
theorem aCi (rs : List PLine) : (aAo rs).length = rs.length := by unfold aAo; rw [List.length_map, List.length_reverse]
theorem imm_line6 (l : PLine) : imm 6 (aCt l) = true := by
  obtain ⟨x, y, p, w⟩ := l
  cases w <;> rfl
theorem aDy (rs : List PLine) : (aAo rs).all (imm 6) = true := by
  rw [List.all_eq_true]
  intro d hd
  obtain ⟨l, _, rfl⟩ := List.mem_map.mp hd
  exact imm_line6 l
theorem nar_map_ne {k k' : List Key} {n : Int} (h : k' ≠ k) : ∀ nar : Nar, narAt (nar.map fun kn => if kn.1 = k then (kn.1, n) else kn) k' = narAt nar k'
  | [] => rfl
  | a :: r => by
    have ih := nar_map_ne (n := n) h r
    unfold narAt at ih ⊢
    rw [List.map_cons, List.find?_cons, List.find?_cons]
    by_cases c : a.1 = k'
    · rw [if_neg (fun z => h (c.symm.trans z)), decide_eq_true c]
    · by_cases c' : a.1 = k
      · rw [if_pos c', decide_eq_false c]
        exact ih
      · rw [if_neg c', decide_eq_false c]
        exact ih
theorem nar_map_eq {k : List Key} {n : Int} : ∀ nar : Nar, (nar.any fun kn => decide (kn.1 = k)) = true → narAt (nar.map fun kn => if kn.1 = k then (kn.1, n) else kn) k = some n
  | [], h => by cases h
  | a :: r, h => by
    unfold narAt
    rw [List.map_cons, List.find?_cons]
    by_cases c : a.1 = k
    · rw [if_pos c, decide_eq_true c]; rfl
    · rw [if_neg c, decide_eq_false c]
      rw [List.any_cons, decide_eq_false c, Bool.false_or] at h
      exact nar_map_eq r h
theorem nar_put (nar : Nar) (k k' : List Key) (n : Int) : narAt (putN nar k n) k' = if k' = k then some n else narAt nar k' := by
  unfold putN
  by_cases a : (nar.any fun kn => decide (kn.1 = k)) = true
  · rw [if_pos a]
    by_cases c : k' = k
    · rw [if_pos c, c]; exact nar_map_eq nar a
    · rw [if_neg c]; exact nar_map_ne c nar
  · rw [if_neg a]
    have a' : ∀ x ∈ nar, x.1 ≠ k := fun x hx z => a (List.any_eq_true.mpr ⟨x, hx, decide_eq_true z⟩)
    unfold narAt
    rw [List.find?_append]
    by_cases c : k' = k
    · rw [if_pos c, c, List.find?_eq_none.mpr (fun x hx z => a' x hx (of_decide_eq_true z)), Option.none_or, List.find?_cons, decide_eq_true (show (k, n).1 = k from rfl)]; rfl
    · rw [if_neg c, List.find?_cons, decide_eq_false (show ¬ (k, n).1 = k' from fun z => c z.symm)]
      rw [show List.find? (fun kn => decide (kn.1 = k')) ([] : Nar) = none from rfl, Option.or_none]
theorem lastR_cons (l : PLine) (r : List PLine) (x y : Nat) : aDf (l :: r) x y = if isXY x y l then some r.length else aDf r x y := rfl
theorem nar_at : ∀ (rs : List PLine) (x y : Nat), narAt (aDg rs) (kxy x y) = (aDf rs x y).map fun k : Nat => (k : Int)
  | [], _, _ => rfl
  | l :: r, x, y => by
    rw [aDg, nar_put, nar_at r x y, lastR_cons]
    by_cases c : l.x = x ∧ l.y = y
    · rw [if_pos (kxy_inj.mpr ⟨c.1.symm, c.2.symm⟩), if_pos (aEs.mpr c)]; rfl
    · rw [if_neg (fun z => c ⟨(kxy_inj.mp z).1.symm, (kxy_inj.mp z).2.symm⟩), if_neg (fun z => c (aEs.mp z))]
theorem nar_len : ∀ rs : List PLine, (aDg rs).length ≤ rs.length
  | [] => Nat.le_refl _
  | l :: r => by
    have := nar_len r
    rw [aDg]
    unfold putN
    split
    · rw [List.length_map, List.length_cons]; omega
    · rw [List.length_append, List.length_cons, List.length_cons, List.length_nil]; omega
theorem ex_gNar {p l d : Addr} {rs : List PLine} {x y : Nat} {f : DEnv → Option D} {fa : DEnv → Option (List D)} {ε : DEnv} {P : D → Prop} (h1 : f ε = some (shD p l d rs)) (h2 : fa ε = some [dN x, dN y]) : Ex (gNar f fa ε) P = P (optD (aDf rs x y)) := by
  unfold gNar
  rw [h1, aFb, h2, aFb]
  show Ex (some (match narAt (aDg rs) (kxy x y) with | some n => D.int n | none => .non)) P = _
  rw [nar_at, aAg]
  cases aDf rs x y <;> rfl
theorem aFo {p l d : Addr} {rs : List PLine} : aGa (shD p l d rs) = some (.lst (aAo rs)) := rfl
theorem isSht_s {p l d : Addr} {rs : List PLine} : isSht (shD p l d rs) = true := rfl
theorem lines_at {rs : List PLine} {x y k : Nat} (h : aDf rs x y = some k) : ∃ l, atI (aAo rs) (k : Int) = some (aCt l) ∧ l.p = aAi rs x y := by
  obtain ⟨l, h1, _, _, h4, _⟩ := aEc h
  have hk : k < (aAo rs).length := by rw [aCi]; exact lastR_lt h
  refine ⟨l, ?_, h4⟩
  rw [atN hk]
  have : (aAo rs)[k]? = some (aCt l) := by unfold aAo; rw [List.getElem?_map, h1]; rfl
  rw [List.getElem?_eq_getElem hk] at this
  exact this
theorem lines_last (l : PLine) (rs : List PLine) : atI (aAo (l :: rs)) (-1) = some (aCt l) := by
  rw [lines_cons]
  unfold atI ixN
  rw [if_neg (by decide), List.length_append, if_pos (by simp only [List.length_cons, List.length_nil]; omega), aFb]
  have : ((-1 : Int) + ((aAo rs).length + [aCt l].length : Nat)).toNat = (aAo rs).length := by simp only [List.length_cons, List.length_nil]; omega
  rw [this, List.getElem?_append_right (Nat.le_refl _), Nat.sub_self]; rfl
section
variable {ε : DEnv} {Q : OutW → Prop} {p l d : Addr} {rs : List PLine} {fl : Bool} {r : DEnv} {a0 : Option (Bool × D)} {n : Nat} {fa : DEnv → Option (List D)} {g : GW}
theorem ex_wMut0 : Ex (wMut 0 n fa g (some (fl, shD p l d rs) :: r)) Q = Ex (fa (some (fl, shD p l d rs) :: r)) fun ds => (ds.length = n ∧ ds.all (imm 6) = true) ∧ Ex (g p l d (aAo rs) (aDg rs) ds) fun q => q.1.all (imm 6) = true ∧ Q (.nx (some (false, .sht p l d q.1 q.2) :: r)) := by
  unfold wMut
  rw [aAh]; congr 1; funext ds
  show Ex (if _ then _ else none) Q = _
  rw [aFn, aAh]; congr 2; funext q; rw [aFn, aAg]; rfl
theorem ex_wMut1 : Ex (wMut 1 n fa g (a0 :: some (fl, shD p l d rs) :: r)) Q = Ex (fa (a0 :: some (fl, shD p l d rs) :: r)) fun ds => (ds.length = n ∧ ds.all (imm 6) = true) ∧ Ex (g p l d (aAo rs) (aDg rs) ds) fun q => q.1.all (imm 6) = true ∧ Q (.nx (a0 :: some (false, .sht p l d q.1 q.2) :: r)) := by
  unfold wMut
  rw [aAh]; congr 1; funext ds
  show Ex (if _ then _ else none) Q = _
  rw [aFn, aAh]; congr 2; funext q; rw [aFn, aAg]; rfl
noncomputable def FnWQ (P : List D × Nar → Prop) : OutW → Prop
  | .nx ε => Ex (shAt ε) P
  | .rt ε .non => Ex (shAt ε) P
  | _ => False
theorem ex_fnW {m : Nat} {F : DW} {ls : List D} {nar : Nar} {ds : List D} {P : List D × Nar → Prop} : Ex (fnW m F p l d ls nar ds) P = Ex (F (aAs m (.sht p l d ls nar :: ds))) (FnWQ P) := by
  unfold fnW
  apply propext
  cases h : F (aAs m (.sht p l d ls nar :: ds)) with
  | none => rw [aBi, aBi]
  | some o =>
    rw [aAg]
    cases o with
    | nx ε => exact Iff.rfl
    | rt ε e => cases e <;> first | exact Iff.rfl | exact ⟨fun q => (by cases q.choose_spec.1), False.elim⟩
theorem fnwq_nx {P : List D × Nar → Prop} : FnWQ P (.nx (some (fl, shD p l d rs) :: r)) = P (aAo rs, aDg rs) := aAg
theorem fnwq_rt {P : List D × Nar → Prop} : FnWQ P (.rt (some (fl, shD p l d rs) :: r) .non) = P (aAo rs, aDg rs) := aAg
end
theorem rng0 (n : Nat) : rngD 0 ((n : Int)).toNat = (List.range n).map dN := by
  unfold rngD
  rw [Int.toNat_natCast]
  exact List.map_congr_left fun i _ => by rw [Int.zero_add]
theorem aHy (n : Nat) (L : List Nat) : (L.map dN).all (imm n) = true := by
  rw [List.all_eq_true]
  intro d hd
  obtain ⟨x, _, rfl⟩ := List.mem_map.mp hd
  cases n <;> rfl
theorem imm_tieD (e : Tie) : imm 6 (tieD e) = true := by
  show (false || ((false || (e.1.map dN).all (imm 4)) && (imm 5 (dN e.2) && true))) = true
  rw [aHy]; rfl
theorem imm_ties (L : List Tie) : (L.map tieD).all (imm 6) = true := by
  rw [List.all_eq_true]
  intro d hd
  obtain ⟨x, _, rfl⟩ := List.mem_map.mp hd
  exact imm_tieD x
theorem ex_iTI {f : DEnv → Option D} {ε : DEnv} {P : List D → Prop} : Ex (iTI f ε) P = Ex (f ε) fun e => Ex (tupOf e) fun ds => ds.all (imm 6) = true ∧ P ds := by
  unfold iTI
  rw [aAh]; congr 1; funext x; rw [aAh]; congr 1; funext ds; rw [aFn, aAg]
theorem ex_iEI {f : DEnv → Option D} {ε : DEnv} {P : List D → Prop} : Ex (iEI f ε) P = Ex (iTI f ε) fun ds => P (ds.mapIdx fun i e => D.tup [.int i, e]) := aFk
theorem enum_zip {α : Type} (g : α → D) (L : List α) : ((L.map g).mapIdx fun i e => D.tup [.int i, e]) = L.zipIdx.map fun et => D.tup [dN et.2, g et.1] := by
  refine List.ext_getElem? fun k => ?_
  rw [List.getElem?_mapIdx, List.getElem?_map, List.getElem?_map, List.getElem?_zipIdx]
  cases L[k]? <;> simp
theorem imm_zip (L : List (Tie × Nat)) : (L.map fun et => D.tup [dN et.2, tieD et.1]).all (imm 6) = true := by
  rw [List.all_eq_true]
  intro d hd
  obtain ⟨et, _, rfl⟩ := List.mem_map.mp hd
  show (false || (imm 5 (dN et.2) && ((false || ((false || (et.1.1.map dN).all (imm 3)) && (imm 4 (dN et.1.2) && true))) && true))) = true
  rw [aHy]; rfl
theorem ex_wLoopW {c : DEnv → Option Bool} {F : DW} {n : Nat} {ε : DEnv} {Q : OutW → Prop} : Ex (wLoopW c F (n + 1) ε) Q = Ex (c ε) fun b => if b = true then Ex (F ε) (WK (fun ε2 => Ex (wLoopW c F n ε2) Q) Q) else Q (.nx ε) := by
  show Ex ((c ε).bind fun b => if b then (match F ε with
    | some (.nx ε2) => wLoopW c F n ε2
    | o => o) else some (.nx ε)) Q = _
  rw [aAh]; congr 1; funext b
  cases b with
  | false => rw [if_neg (by decide), if_neg (by decide), aAg]
  | true =>
    rw [if_pos rfl, if_pos rfl]
    apply propext
    cases h : F ε with
    | none => rw [aBi, aBi]
    | some o => cases o <;> simp only [aAg, WK]
theorem ex_wWhile {c : DEnv → Option Bool} {F : DW} {n : Nat} {ε : DEnv} {Q : OutW → Prop} : Ex (wWhile n c F ε) Q = Ex (wLoopW c F n ε) Q := rfl
noncomputable def loopR (n : Nat) : Nat → List PLine → List PLine
  | 0, rs => rs
  | k + 1, rs => if (allR n rs).length = rs.length then rs else loopR n k (allR n rs)
theorem loopR_s (n k : Nat) (rs : List PLine) : loopR n (k + 1) rs = if (allR n rs).length = rs.length then rs else loopR n k (allR n rs) := rfl
theorem run_loop {n : Nat} {ties : List Tie} : ∀ (k : Nat) {rs : List PLine}, RunR n ties rs → RunR n ties (loopR n k rs)
  | 0, _, h => h
  | k + 1, rs, h => by
    rw [loopR_s]
    split
    · exact h
    · exact run_loop k (run_all h)
theorem loop_fix {n : Nat} {ties : List Tie} (N : NetOk n ties) (hn : n < 10) : ∀ (k : Nat) {rs : List PLine}, RunR n ties rs → 650 ≤ rs.length + k → (allR n (loopR n k rs)).length = (loopR n k rs).length
  | 0, rs, h, hk => by have := h.rch.len' N hn; omega
  | k + 1, rs, h, hk => by
    rw [loopR_s]
    split
    · assumption
    · rename_i c
      have g : rs.length ≤ (allR n rs).length := (grw_all n rs).1
      exact loop_fix N hn k (run_all h) (by omega)
noncomputable def pairedD (ties : List Tie) (n : Nat) (rs : List PLine) : D :=
  if aEp rs then .tup [.str "none", .tup (aAo rs)] else if ties.all (met (aGt rs n)) then .tup [.str "set", dN (aGt rs n)] else .non
theorem fnP_1 {m : Nat} {gb : D → Option (List D × Nar)} {F : DW} {e : D} {b : List D × Nar} {a : D} (im : imm 6 e = true) (hb : gb e = some b) (h : ∀ p l d, Ex (F (atSh m e p l d b.1 b.2)) fun o => ∃ ε, o = .rt ε a) : fnP m gb F [e] = some (false, a) := by
  show (if imm 6 e = true then (gb e).bind fun b => (allOf fun p l d => match F (atSh m e p l d b.1 b.2) with
    | some (.rt _ a) => some a
    | some (.nx _) => some .non
    | none => none).map fun a => (false, a) else none) = _
  rw [if_pos im, hb, aFb, allOf_eq (a := a)]
  · rfl
  · intro p l d
    obtain ⟨o, e, ε, rfl⟩ := h p l d
    rw [e]
theorem first_none {s : Nat} {ties : List Tie} (h : First (unm s ties) ties.length none) : ties.all (met s) = true := by
  rw [List.all_eq_true]
  intro e he
  obtain ⟨k, hk, rfl⟩ := List.mem_iff_getElem.mp he
  have := h k hk
  rw [unm_at hk] at this
  simpa using this
theorem first_some {s : Nat} {ties : List Tie} {k : Nat} (h : First (unm s ties) ties.length (some k)) : ties.all (met s) = false := by
  have h2 := h.2.1
  rw [unm_at h.1] at h2
  rw [List.all_eq_false]
  exact ⟨_, List.getElem_mem h.1, by simpa using h2⟩
theorem noT_narrow {rs : List PLine} (h : ∀ l ∈ rs, ∀ i, l.w ≠ .turn i) (x y p : Nat) {w : Why} (hw : ∀ i, w ≠ .turn i) : ∀ l ∈ aBa rs x y p w, ∀ i, l.w ≠ .turn i := by
  rcases aBm rs x y p w with ⟨e, _⟩ | ⟨_, _, ⟨_, e⟩ | ⟨_, e⟩⟩ <;> rw [e]
  · exact h
  · intro l hl
    rcases List.mem_cons.mp hl with rfl | hl
    · exact hw
    · exact h l hl
  · intro l hl
    rcases List.mem_cons.mp hl with rfl | hl
    · intro i z; cases z
    rcases List.mem_cons.mp hl with rfl | hl
    · exact hw
    · exact h l hl
theorem Rch.noT {n : Nat} {ties : List Tie} {rs : List PLine} (h : Rch n ties rs) : ∀ l ∈ rs, ∀ i, l.w ≠ .turn i := by
  induction h with
  | nil => intro l hl; cases hl
  | step h s ih =>
    cases s with
    | self _ => exact noT_narrow ih _ _ _ fun i z => by cases z
    | tie _ _ _ => exact noT_narrow ih _ _ _ fun i z => by cases z
    | join _ _ _ _ _ => exact noT_narrow ih _ _ _ fun i z => by cases z
end DL
set_option maxRecDepth 100000
namespace My
open PySem L2 DL
local macro_rules | `(tactic| simp only [zz, $xs,*] $[$l]?) => `(tactic| simp only [aAg, aBi, aAh, aFk, aHr, outq_nx, outq_rt, outq_bk, outq_ct, ex_nil, ex_if, ex_asgS, ex_asgF, ex_retS, ex_retF, ex_retV0, retV_s, ex_pub, ex_app, ex_op2, ex_op1, ex_cb, ex_cB, ex_cT, ex_cAnd, ex_cOr, ex_cNot, ex_vAnd, ex_vNot, ex_vIf, ex_aCons, ex_aNil, ex_mkL, ex_mkT, ex_callS, ex_callB, flat_int, flat_bl, flat_non, flat_str, ar_1, ar_2, ar_3, ar_4, ar_5, aCm, retq_rt, retq_nx, vB_0, vB_s, vS_0, vS_s, ownL_0, ownL_s, pubs_nil, pubs_cons, pub1_0, pub1_0n, pub1_s, start_eq, sAdd, sSub, exMul, exFDiv, exMod, exShl, exShr, sBAnd, sBOr, sNeg, sLt, sLe, sGt, sGe, sEq, sNe, sEqS, sNeS, sEqB, sNeB, sIsN, sNotN, isNon_non, isNon_int, isNon_tup, isNon_lst, toB_bl, tru_bl, tru_int, tru_lst, tru_tup, tru_non, sLenL, sLenT, sTupL, sTupT, isMut_int, isMut_str, isMut_bl, isMut_non, isMut_tup, isMut_lst, isi_int_int, isi_int_bl, isi_int_non, isi_bool_int, isi_tuple_tup, exCat, exCatT, exIxL, exIxT, ex_iR1, ex_rng1, ex_for, turnq_nx, turnq_ct, turnq_bk, turnq_rt, ex_tgN, ex_compD, ex_slD, ex_oNone, ex_oSome, toI_i, slL, slT, cTrue_eq, ex_iS, items_l, items_t, ex_iEn, enum_l, enum_t, minD_ii, intD_i, intD_b, sInv, ex_unp, tgT_t, tgs_nil, tgs_cons, ex_vChain, ex_while, List.map_cons, List.map_nil, List.length_cons, List.length_nil, List.replicate, List.set_cons_zero, List.set_cons_succ, List.cons_append, List.nil_append, List.append_nil, if_true, if_false, ite_true, ite_false, Bool.false_eq_true, Bool.not_true, Bool.not_false, Bool.true_eq_false, reduceIte, Nat.zero_add, Nat.reduceAdd, Nat.reduceSub, Nat.reduceEqDiff, decide_eq_true_eq, decide_true, decide_false, Bool.not_eq_true', decide_eq_false_iff_not, true_and, and_true, $xs,*] $[$l]?)
noncomputable def F_M_left : DS :=
    (sSeq (aBk 3 (gNar (vB 0) (aAb (vS 1) (aAb (vS 2) aNil))))
    (sRetS (vIf (cB (op2 (vB 3) (fun _ => some D.non) (gIsN false))) (fun _ => some (D.int 15)) (op2 (op2 (op1 (vB 0) aGa) (vB 3) gIxA) (fun _ => some (D.int 2)) gIxA))))
noncomputable def aEk : List D → Option (Bool × D) := fnD 4 F_M_left
theorem u_M_left (ds : List D) (Q : Bool × D → Prop) : Ex (aEk ds) Q = Ex (F_M_left (aAs 4 ds)) (RetQ Q) := aCm
theorem e_left (p l d : Addr) (rs : List PLine) (x y : Nat) : Ex (aEk [shD p l d rs, dN x, dN y]) fun r => r.2 = dN (aAi rs x y) := by
  rw [u_M_left]
  simp only [zz,F_M_left]
  rw [ex_gNar (p := p) (l := l) (d := d) (rs := rs) (x := x) (y := y) rfl rfl]
  cases h : aDf rs x y with
  | none =>
    simp only [zz,optD]
    rw [aEu h]; rfl
  | some k =>
    obtain ⟨m, h1, h2⟩ := lines_at h
    simp only [zz,optD, aFo, h1, aCt, at2, h2]
noncomputable def F_M_put : DW :=
    (wSeq (wNPut 0 (aAb (vS 1) (aAb (vS 2) aNil)) (cb (aAb (op1 (vB 0) aGa) aNil) lenD))
    (wLApp 0 (mkT (aAb (vS 1) (aAb (vS 2) (aAb (vS 3) (aAb (vS 4) aNil)))))))
noncomputable def g_M_put : GW := fnW 5 F_M_put
theorem e_put (p l d : Addr) (rs : List PLine) (x y q : Nat) (w : Why) (hl : rs.length < 1000000) : Ex (g_M_put p l d (aAo rs) (aDg rs) [dN x, dN y, dN q, whyD w]) fun r => r = (aAo (⟨x, y, q, w⟩ :: rs), aDg (⟨x, y, q, w⟩ :: rs)) := by
  unfold g_M_put
  rw [ex_fnW]
  have hz := aCe
  have h1 : (aDg rs).length < sizeLine := by have := nar_len rs; omega
  have h2 : (aAo rs).length < sizeLine := by rw [aCi]; omega
  have e1 : wNPut 0 (aAb (vS 1) (aAb (vS 2) aNil)) (cb (aAb (op1 (vB 0) aGa) aNil) lenD) (aAs 5 [.sht p l d (aAo rs) (aDg rs), dN x, dN y, dN q, whyD w]) = some (.nx (aAs 5 [.sht p l d (aAo rs) (aDg (⟨x, y, q, w⟩ :: rs)), dN x, dN y, dN q, whyD w])) := by
    show (if (aDg rs).length < sizeLine then some (OutW.nx (aAs 5 [.sht p l d (aAo rs) (putN (aDg rs) (kxy x y) ((aAo rs).length : Nat)), dN x, dN y, dN q, whyD w])) else none) = _
    rw [if_pos h1, aCi]; rfl
  have e2 : wLApp 0 (mkT (aAb (vS 1) (aAb (vS 2) (aAb (vS 3) (aAb (vS 4) aNil))))) (aAs 5 [.sht p l d (aAo rs) (aDg (⟨x, y, q, w⟩ :: rs)), dN x, dN y, dN q, whyD w]) = some (.nx (aAs 5 [shD p l d (⟨x, y, q, w⟩ :: rs), dN x, dN y, dN q, whyD w])) := by
    show (if (aAo rs).length < sizeLine ∧ imm 6 (aCt ⟨x, y, q, w⟩) = true then some (OutW.nx (aAs 5 [.sht p l d (aAo rs ++ [aCt ⟨x, y, q, w⟩]) (aDg (⟨x, y, q, w⟩ :: rs)), dN x, dN y, dN q, whyD w])) else none) = _
    rw [if_pos ⟨h2, imm_line6 _⟩, ← lines_cons]; rfl
  rw [F_M_put, ex_wSeq, e1, aAg, wk_nx, e2, aAg]
  exact fnwq_nx.mpr rfl
noncomputable def aGu : DS :=
    (sRetS (vAnd (op2 (cb (aAb (op1 (vB 0) aGa) aNil) lenD) (fun _ => some (D.int 0)) gGt) (op2 (op2 (op2 (op1 (vB 0) aGa) (op1 (fun _ => some (D.int 1)) gNeg) gIxA) (fun _ => some (D.int 2)) gIxA) (fun _ => some (D.int 0)) (gEqA false))))
noncomputable def aDh : List D → Option (Bool × D) := fnD 1 aGu
theorem u_M_is_shut (ds : List D) (Q : Bool × D → Prop) : Ex (aDh ds) Q = Ex (aGu (aAs 1 ds)) (RetQ Q) := aCm
theorem e_is_shut (p l d : Addr) (rs : List PLine) : Ex (aDh [shD p l d rs]) fun r => r.2 = .bl (aEp rs) := by
  rw [u_M_is_shut]
  simp only [zz,aGu,aFo, aCi]
  cases rs with
  | nil => simp only [zz,aEp]; rw [if_neg (by decide)]; trivial
  | cons m r =>
    simp only [zz,lines_last, aCt, at2, aEp]
    rw [if_pos (by omega)]
    congr 1
    by_cases c : m.p = 0
    · rw [decide_eq_true c, c]; rfl
    · rw [decide_eq_false c]; exact decide_eq_false (by omega)
noncomputable def F_M_narrow : DW :=
    (wSeq (wAsg 0 5 (callM (ar 3 aEk) (vB 0) (aAb (vB 1) (aAb (vB 2) aNil))))
    (wSeq (wIf (cOr (cT (callM (ar 1 aDh) (vB 0) aNil)) (cB (op2 (op2 (vB 5) (vB 3) gAnd) (vB 5) (gEqA false)))) wRetN wNil)
    (wSeq (wAsg 0 6 (gNar (vB 0) (aAb (vS 1) (aAb (vS 2) aNil))))
    (wSeq (wMut 0 4 (aAb (vS 1) (aAb (vS 2) (aAb (vS 3) (aAb (vS 4) aNil)))) g_M_put)
    (wIf (cB (op2 (op2 (vB 5) (vB 3) gAnd) (vB 3) (gEqA true))) (wMut 0 4 (aAb (vS 1) (aAb (vS 2) (aAb (op2 (vB 5) (vB 3) gAnd) (aAb (mkT (aAb (fun _ => some (D.str "both")) (aAb (vS 6) (aAb (op2 (cb (aAb (op1 (vB 0) aGa) aNil) lenD) (fun _ => some (D.int 1)) gSub) aNil)))) aNil)))) g_M_put) wNil)))))
noncomputable def aDl : GW := fnW 7 F_M_narrow
theorem e_narrow (p l d : Addr) (rs : List PLine) (x y q : Nat) (w : Why) (hq : q < 16) (h16 : ∀ l ∈ rs, l.p < 16) (hl : rs.length < 900000) : Ex (aDl p l d (aAo rs) (aDg rs) [dN x, dN y, dN q, whyD w]) fun r => r = (aAo (aBa rs x y q w), aDg (aBa rs x y q w)) := by
  unfold aDl
  rw [ex_fnW]
  have hL := aBb h16 x y
  have im : [dN x, dN y, dN q, whyD w].all (imm 6) = true := by cases w <;> rfl
  show Ex (F_M_narrow (aAs 7 [shD p l d rs, dN x, dN y, dN q, whyD w])) _
  obtain ⟨⟨f1, r1⟩, q1, h1⟩ := e_left p l d rs x y
  have h1 : r1 = dN (aAi rs x y) := h1
  subst h1
  obtain ⟨⟨f2, r2⟩, q2, h2⟩ := e_is_shut p l d rs
  have h2 : r2 = .bl (aEp rs) := h2
  subst h2
  simp only [zz,F_M_narrow,ex_wSeq, wk_nx, wk_rt, ex_wAsg, ex_callM, q1, isSht_s]
  refine ⟨⟨by decide, rfl⟩, ?_⟩
  simp only [zz,ex_wIf, ex_callM, q2, isSht_s, aDk]
  rcases aBm rs x y q w with ⟨e, h⟩ | ⟨c1, c2, h⟩
  · rw [e]
    cases hs : aEp rs with
    | true =>
      rw [if_pos rfl, ex_wRetN, wk_rt]
      exact fnwq_rt.mpr rfl
    | false =>
      have h : aAi rs x y &&& q = aAi rs x y := h.elim (fun z => by rw [hs] at z; cases z) id
      rw [if_neg (by decide), h, if_pos rfl, ex_wRetN, wk_rt]
      exact fnwq_rt.mpr rfl
  · rw [c1, if_neg (by decide), if_neg (by omega), ex_wNil, wk_nx, ex_gNar (p := p) (l := l) (d := d) (rs := rs) (x := x) (y := y) rfl rfl]
    refine ⟨⟨by decide, by cases aDf rs x y <;> rfl⟩, ?_⟩
    simp only [zz,ex_wMut0, im]
    refine (e_put p l d rs x y q w (by omega)).imp fun r hr => ?_
    subst hr
    refine ⟨aDy _, ?_⟩
    show Ex _ _
    have fold : D.sht p l d (aAo (⟨x, y, q, w⟩ :: rs), aDg (⟨x, y, q, w⟩ :: rs)).1 (aAo (⟨x, y, q, w⟩ :: rs), aDg (⟨x, y, q, w⟩ :: rs)).2 = shD p l d (⟨x, y, q, w⟩ :: rs) := rfl
    rw [fold]
    simp only [zz,aDk]
    rcases h with ⟨h1, e⟩ | ⟨h1, e⟩
    · rw [e, if_neg (by omega), ex_wNil]
      exact fnwq_nx.mpr rfl
    · rw [e, if_pos (by omega)]
      have hz := aCe
      cases hk : aDf rs x y with
      | none =>
        rw [aEu hk] at h1
        exact absurd ((by decide +kernel : ∀ p, p < 16 → 15 &&& p = p) q hq) h1
      | some k =>
        simp only [zz,ex_wMut0, aFo, aCi, aDk, optD]
        refine ⟨by omega, by rfl, ?_⟩
        have e3 : ((rs.length + 1 : Nat) : Int) - 1 = (rs.length : Int) := by omega
        rw [e3]
        refine (e_put p l d (⟨x, y, q, w⟩ :: rs) x y (aAi rs x y &&& q) (.both k rs.length) (by rw [List.length_cons]; omega)).imp fun r hr => ?_
        subst hr
        refine ⟨aDy _, ?_⟩
        exact fnwq_nx.mpr rfl
noncomputable def K_places_1 : DEnv → Option D :=
    (compD [none, some 0] (iR1 (aAb (op1 (vB 0) gBitLen) aNil)) (tgN 0) (cT (op2 (op2 (vB 1) (vB 0) gShr) (fun _ => some (D.int 1)) gAnd)) (vS 0))
noncomputable def F_places : DS :=
    (aCn K_places_1)
noncomputable def aFp : List D → Option (Bool × D) := fnD 1 F_places
theorem u_places (ds : List D) (Q : Bool × D → Prop) : Ex (aFp ds) Q = Ex (F_places (aAs 1 ds)) (RetQ Q) := aCm
theorem e_places (T : Nat) (h : T < 2 ^ 16) : aFp [dN T] = some (true, .lst ((aCb T).map dN)) := by
  rw [aDw, u_places]
  have hz := aCe
  have hb := bits_le h
  have eb : gBitLen (dN T) = some (dN (Builtin.Int.intBits (T : Int))) := rfl
  simp only [zz,F_places, K_places_1,capL, List.getElem?_cons_zero, List.getElem?_cons_succ, Option.bind_some, Option.bind_none, Option.join_some, Option.map_some, Option.map_none, eb]
  refine ⟨⟨by omega, by omega⟩, by rw [aFl, Int.toNat_natCast]; omega, ?_⟩
  rw [Int.toNat_natCast]
  refine Ex.of (compL_eq (fun ε => ∃ a, ε = [a, some (false, dN T)]) (fun x => match x with | .int i => T.testBit i.toNat | _ => false) id _ ⟨none, rfl⟩ ?_) ?_
  · intro x hx ε hε
    obtain ⟨a, rfl⟩ := hε
    obtain ⟨i, hi, rfl⟩ := mem_rngD.mp hx
    rw [Int.zero_add]
    simp only [zz,true_and]
    refine ⟨⟨_, rfl⟩, ?_, fun _ => rfl⟩
    rw [aDw]
    simp only [zz,true_and]
    refine ⟨by omega, ?_⟩
    rw [Int.toNat_natCast, aCd]
    cases hb : T.testBit i <;> simp [hb]
  · show (true, D.lst _) = (true, D.lst _)
    congr 2
    rw [← rowsOf_bits h]
    unfold rngD
    rw [List.filter_map, List.map_map]
    simp only [Function.comp_def, Int.zero_add, Int.toNat_natCast, id]
noncomputable def F_pair_of : DS :=
    (aCn (op2 (vB 0) (op2 (fun _ => some (D.int 2)) (vB 1) gMul) gAdd))
noncomputable def aDz : List D → Option (Bool × D) := fnD 2 F_pair_of
theorem u_pair_of (ds : List D) (Q : Bool × D → Prop) : Ex (aDz ds) Q = Ex (F_pair_of (aAs 2 ds)) (RetQ Q) := aCm
theorem e_pair_of (a b : Nat) (h : b < 2 ^ 60) : aDz [dN a, dN b] = some (true, dN (a + 2 * b)) := by
  rw [aDw, u_pair_of]
  simp only [zz,F_pair_of]
  refine ⟨.inl ⟨by decide, by decide⟩, ?_⟩
  simp only [dN]
  rw [show ((a + 2 * b : Nat) : Int) = (a : Int) + 2 * (b : Int) by omega]
noncomputable def B_tie_pairs_1 : DS :=
    (aBk 7 (op2 (vB 7) (op2 (fun _ => some (D.int 1)) (aDb (ar 2 aDz) (aAb (op2 (op2 (vB 8) (vB 5) gShr) (fun _ => some (D.int 1)) gAnd) (aAb (op2 (op2 (vB 8) (vB 6) gShr) (fun _ => some (D.int 1)) gAnd) aNil))) gShl) gOr))
noncomputable def aGv : DS :=
    (sSeq (sUnp [3, 4] (vS 0))
    (sSeq (aBk 5 (op2 (vB 3) (vB 1) gTIx))
    (sSeq (aBk 6 (op2 (vB 3) (vB 2) gTIx))
    (sSeq (aBk 7 (fun _ => some (D.int 0)))
    (sSeq (sFor (iS (callS (ar 1 aFp) [] (aAb (vS 4) aNil))) (tgN 8) B_tie_pairs_1)
    (sRetV 7))))))
noncomputable def aFd : List D → Option (Bool × D) := fnD 9 aGv
theorem u_tie_pairs (ds : List D) (Q : Bool × D → Prop) : Ex (aFd ds) Q = Ex (aGv (aAs 9 ds)) (RetQ Q) := aCm
theorem b01_and (r i : Nat) : Builtin.bitAnd ((r : Int) / 2 ^ (i : Int).toNat) 1 = ((b01 (r.testBit i) : Nat) : Int) := by
  rw [Int.toNat_natCast, aCd]
  unfold b01
  cases r.testBit i <;> rfl
theorem b01_le (b : Bool) : b01 b ≤ 1 := by cases b <;> decide
theorem e_tie_pairs (e : Tie) (x y : Nat) (ok : TieOk e) (hx : x ∈ e.1) (hy : y ∈ e.1) : Ex (aFd [tieD e, dN x, dN y]) fun r => r.2 = dN (tieP e.2 (e.1.idxOf x) (e.1.idxOf y)) := by
  rw [u_tie_pairs]
  have hz := aCe
  have t1 := tix_dN hx
  have t2 := tix_dN hy
  simp only [dN] at t1 t2
  simp only [zz,aGv, tieD,t1, t2, e_places e.2 ok.t16]
  refine loop_ix (fun k ε => ∃ a, ε = [some (false, .tup [.tup (e.1.map dN), dN e.2]), some (false, dN x), some (false, dN y), some (false, .tup (e.1.map dN)), some (false, dN e.2), some (false, dN (e.1.idxOf x)), some (false, dN (e.1.idxOf y)), some (false, dN (orF (fun r => prN (r.testBit (e.1.idxOf x)) (r.testBit (e.1.idxOf y))) ((aCb e.2).take k) 0)), a]) ⟨_, rfl⟩ ?_ ?_
  · rintro k hk ε ⟨a, rfl⟩
    rw [List.length_map] at hk
    rw [List.getElem_map, List.take_succ_eq_append_getElem hk, orF_snoc]
    obtain ⟨r, er⟩ : ∃ r, (aCb e.2)[k] = r := ⟨_, rfl⟩
    rw [er]
    simp only [zz,B_tie_pairs_1,b01_and]
    have l1 := b01_le (r.testBit (e.1.idxOf x))
    have l2 := b01_le (r.testBit (e.1.idxOf y))
    have e5 := e_pair_of (b01 (r.testBit (e.1.idxOf x))) (b01 (r.testBit (e.1.idxOf y))) (by omega)
    simp only [dN] at e5
    simp only [zz,e5,shl1, aEo]
    exact ⟨by omega, by omega, aCl _ (by omega), _, rfl⟩
  · rintro ε ⟨a, rfl⟩
    rw [List.length_map, List.take_length]
    simp only [zz,true_and]
    rfl
noncomputable def B_begun_1 : DW :=
    (wMut 1 4 (aAb (vS 2) (aAb (vS 2) (aAb (fun _ => some (D.int 9)) (aAb (mkT (aAb (fun _ => some (D.str "self")) aNil)) aNil)))) aDl)
noncomputable def B_begun_2 : DW :=
    (wMut 1 4 (aAb (vS 2) (aAb (vS 5) (aAb (aDb (ar 3 aFd) (aAb (vB 4) (aAb (vB 2) (aAb (vB 5) aNil)))) (aAb (mkT (aAb (fun _ => some (D.str "tie")) (aAb (vS 3) aNil))) aNil)))) aDl)
noncomputable def B_begun_3 : DW :=
    (wFor 1 (iTI (op2 (vB 4) (fun _ => some (D.int 0)) gIxA)) (tgN 5) B_begun_2)
noncomputable def B_begun_4 : DW :=
    (wFor 1 (iTI (op2 (vB 4) (fun _ => some (D.int 0)) gIxA)) (tgN 2) B_begun_3)
noncomputable def F_begun : DW :=
    (wSeq (wFor 1 (iR1 (aAb (op2 (vB 0) (fun _ => some (D.int 0)) gIxA) aNil)) (tgN 2) B_begun_1)
    (wSeq (wFor 1 (iEI (op2 (vB 0) (fun _ => some (D.int 1)) gIxA)) (tgT [3, 4]) B_begun_4)
    (wRet (vS 1))))
noncomputable def g_begun : D → Option (List D × Nar) := fnB 6 F_begun
theorem e_begun (n : Nat) (ties : List Tie) (N : NetOk n ties) (hn : n < 10) (hz' : (n : Int) < 2 ^ 62) : g_begun (.tup [dN n, .tup (ties.map tieD)]) = some (aAo (aEr n ties), aDg (aEr n ties)) := by
  unfold g_begun fnB
  apply allOf_eq
  intro p l d
  have hz := aCe
  have main : Ex (F_begun (atSh 6 (.tup [dN n, .tup (ties.map tieD)]) p l d [] [])) fun o => ∃ ε, o = .rt ε (shD p l d (aEr n ties)) := by
    have h0 : atSh 6 (.tup [dN n, .tup (ties.map tieD)]) p l d [] [] = [some (false, .tup [dN n, .tup (ties.map tieD)]), some (false, shD p l d []), none, none, none, none] := rfl
    rw [h0]
    simp only [zz,F_begun,ex_wSeq, ex_wFor, at1, rng0]
    rw [show atI [dN n, D.tup (ties.map tieD)] 0 = some (dN n) from rfl]
    simp only [zz,rng0]
    refine ⟨⟨by omega, hz'⟩, aHy _ _, ?_⟩
    refine (w_fold (g := dN) (f := fun rs x => aBa rs x x 9 .self) (S := fun rs ε => Rch n ties rs ∧ ∃ a b c e, ε = [some (false, .tup [dN n, .tup (ties.map tieD)]), some (false, shD p l d rs), a, b, c, e]) (List.range n) ?_ [] _ ⟨.nil, _, _, _, _, rfl⟩).imp ?_
    · rintro rs x hx ε ⟨R, a, b, c, e, rfl⟩
      have hx := List.mem_range.mp hx
      have f := R.fine N
      have hlen := R.len' N hn
      simp only [zz,B_begun_1, ex_wMut1]
      refine ⟨by omega, by rfl, ?_⟩
      refine (e_narrow p l d rs x x 9 .self (by decide) f.p16 (by omega)).imp fun r hr => ?_
      subst hr
      exact ⟨aDy _, _, rfl, .step R (.self hx), _, _, _, _, rfl⟩
    · rintro o ⟨ε', rfl, R, a, b, c, e, rfl⟩
      rw [wk_nx]
      simp only [zz,ex_iEI, ex_iTI, tupOf_t, at1, enum_zip]
      refine ⟨imm_ties _, imm_zip _, ?_⟩
      refine (w_fold (g := fun et : Tie × Nat => D.tup [dN et.2, tieD et.1]) (f := tieB) (S := fun rs ε => Rch n ties rs ∧ ∃ a b c e, ε = [some (false, .tup [dN n, .tup (ties.map tieD)]), some (false, shD p l d rs), a, b, c, e]) ties.zipIdx ?_ _ _ ⟨R, _, _, _, _, rfl⟩).imp ?_
      · rintro rs ⟨e, t⟩ het ε ⟨R, a, b, c, e', rfl⟩
        have ht : ties[t]? = some e := zip_at het
        have he := List.mem_of_getElem? ht
        have a0 : atI [D.tup (e.1.map dN), dN e.2] 0 = some (.tup (e.1.map dN)) := rfl
        simp only [zz,B_begun_4, ex_wFor, ex_iTI, tupOf_t, tieD, a0]
        refine ⟨aHy _ _, aHy _ _, ?_⟩
        refine w_fold (g := dN) (f := tieR1 t e) (S := fun rs ε => Rch n ties rs ∧ ∃ a c, ε = [some (false, .tup [dN n, .tup (ties.map tieD)]), some (false, shD p l d rs), a, some (false, dN t), some (false, tieD e), c]) e.1 ?_ _ _ ⟨R, _, _, rfl⟩ |>.imp ?_
        · rintro rs x hx ε ⟨R, a, c, rfl⟩
          simp only [zz,B_begun_3, ex_wFor, ex_iTI, tupOf_t, tieD, a0]
          refine ⟨aHy _ _, aHy _ _, ?_⟩
          refine w_fold (g := dN) (f := fun rs y => aBa rs x y (tieP e.2 (e.1.idxOf x) (e.1.idxOf y)) (.tie t)) (S := fun rs ε => Rch n ties rs ∧ ∃ c, ε = [some (false, .tup [dN n, .tup (ties.map tieD)]), some (false, shD p l d rs), some (false, dN x), some (false, dN t), some (false, tieD e), c]) e.1 ?_ _ _ ⟨R, _, rfl⟩ |>.imp ?_
          · rintro rs y hy ε ⟨R, c, rfl⟩
            have f := R.fine N
            have hlen := R.len' N hn
            obtain ⟨⟨f1, r1⟩, q1, h1⟩ := e_tie_pairs e x y (N.tie e he) hx hy
            have h1 : r1 = dN (tieP e.2 (e.1.idxOf x) (e.1.idxOf y)) := h1
            subst h1
            simp only [zz,B_begun_2, ex_wMut1, q1]
            refine ⟨by omega, by rfl, ?_⟩
            refine (e_narrow p l d rs x y (tieP e.2 (e.1.idxOf x) (e.1.idxOf y)) (.tie t) (tieP_lt ..) f.p16 (by omega)).imp fun r hr => ?_
            subst hr
            exact ⟨aDy _, _, rfl, .step R (.tie ht hx hy), _, rfl⟩
          · rintro o ⟨ε', rfl, R, c, rfl⟩
            exact ⟨_, rfl, R, _, _, rfl⟩
        · rintro o ⟨ε', rfl, R, a, c, rfl⟩
          exact ⟨_, rfl, R, _, _, _, _, rfl⟩
      · rintro o ⟨ε', rfl, R, a, b, c, e, rfl⟩
        rw [wk_nx]
        simp only [zz,ex_wRet]
        exact ⟨_, rfl⟩
  obtain ⟨o, e, ε, rfl⟩ := main
  rw [e]
  show (if p = p ∧ l = l ∧ d = d ∧ (aAo (aEr n ties)).all (imm 6) = true then some (aAo (aEr n ties), aDg (aEr n ties)) else none) = _
  rw [if_pos ⟨rfl, rfl, rfl, aDy _⟩]
noncomputable def B_fits_1 : DS :=
    (sSeq (aBk 4 (aDb (ar 2 aDz) (aAb (op2 (op2 (vB 1) (vB 3) gShr) (fun _ => some (D.int 1)) gAnd) (aAb (op2 (op2 (vB 1) (vB 2) gShr) (fun _ => some (D.int 1)) gAnd) aNil))))
    (sIf (cNot (cT (op2 (op2 (callM (ar 3 aEk) (vB 0) (aAb (vB 3) (aAb (vB 2) aNil))) (vB 4) gShr) (fun _ => some (D.int 1)) gAnd))) (aCn (fun _ => some (D.bl false))) sNil))
noncomputable def F_fits : DS :=
    (sSeq (sFor (iR1 (aAb (op2 (vB 2) (fun _ => some (D.int 1)) gAdd) aNil)) (tgN 3) B_fits_1)
    (aCn (fun _ => some (D.bl true))))
noncomputable def s_fits : List D → Option (Bool × D) := fnD 5 F_fits
theorem u_fits (ds : List D) (Q : Bool × D → Prop) : Ex (s_fits ds) Q = Ex (F_fits (aAs 5 ds)) (RetQ Q) := aCm
theorem e_fits (p l d : Addr) (rs : List PLine) (s u : Nat) (hu : u < 1000) : Ex (s_fits [shD p l d rs, dN s, dN u]) fun r => r.2 = .bl (fitB rs s u) := by
  rw [u_fits]
  simp only [zz,F_fits]
  refine ⟨⟨by omega, by omega⟩, ?_⟩
  rw [show ((u : Int) + 1).toNat = u + 1 by omega]
  refine aDx (fun k ε => (∃ a b, ε = [some (false, shD p l d rs), some (false, dN s), some (false, dN u), a, b]) ∧ ∀ j, j < k → hp (aAi rs j u) (s.testBit j) (s.testBit u) = true) ⟨⟨_, _, rfl⟩, fun j h => by omega⟩ ?_ ?_
  · rintro k hk ε ⟨⟨a, b, rfl⟩, hj⟩
    simp only [zz,B_fits_1]
    refine ⟨by omega, by omega, ?_⟩
    rw [Int.toNat_natCast, Int.toNat_natCast, aCd, aCd]
    have e1 : ∀ i, D.int (if s.testBit i = true then 1 else 0) = dN (b01 (s.testBit i)) := fun i => by cases s.testBit i <;> rfl
    obtain ⟨⟨f1, r1⟩, q1, h1⟩ := e_left p l d rs k u
    have h1 : r1 = dN (aAi rs k u) := h1
    subst h1
    simp only [zz,e1, e_pair_of _ _ (show b01 (s.testBit u) < 2 ^ 60 by cases s.testBit u <;> decide),ex_callM, q1, isSht_s]
    refine ⟨by omega, ?_⟩
    rw [Int.toNat_natCast, aCd]
    have e2 : (aAi rs k u).testBit (b01 (s.testBit k) + 2 * b01 (s.testBit u)) = hp (aAi rs k u) (s.testBit k) (s.testBit u) := rfl
    rw [e2]
    cases hb : hp (aAi rs k u) (s.testBit k) (s.testBit u) with
    | true =>
      simp only [zz,reduceIte, bne_iff_ne, ne_eq, Int.one_ne_zero, not_false_eq_true, if_true]
      refine ⟨⟨_, _, rfl⟩, fun j z => ?_⟩
      by_cases z' : j < k
      · exact hj j z'
      · have : j = k := by omega
        subst this
        exact hb
    | false =>
      simp only [zz,bne_self_eq_false]
      congr 1
      refine (List.all_eq_false.mpr ⟨k, List.mem_range.mpr hk, ?_⟩).symm
      rw [hb]; decide
  · rintro ε ⟨_, h⟩
    simp only [zz,true_and]
    congr 1
    exact (List.all_eq_true.mpr fun j hj => h j (List.mem_range.mp hj)).symm
noncomputable def B_chosen_by_1 : DS :=
    (sIf (cNot (cT (aDb (ar 3 s_fits) (aAb (vB 0) (aAb (vB 2) (aAb (vB 3) aNil)))))) (aBk 2 (op2 (vB 2) (op2 (fun _ => some (D.int 1)) (vB 3) gShl) gOr)) sNil)
noncomputable def aGw : DS :=
    (sSeq (aBk 2 (fun _ => some (D.int 0)))
    (sSeq (sFor (iR1 (aAb (vB 1) aNil)) (tgN 3) B_chosen_by_1)
    (sRetV 2)))
noncomputable def aFe : List D → Option (Bool × D) := fnD 4 aGw
theorem u_chosen_by (ds : List D) (Q : Bool × D → Prop) : Ex (aFe ds) Q = Ex (aGw (aAs 4 ds)) (RetQ Q) := aCm
theorem e_chosen_by (p l d : Addr) (rs : List PLine) (n : Nat) (hn : n < 1000) : Ex (aFe [shD p l d rs, dN n]) fun r => r.2 = dN (aGt rs n) := by
  rw [u_chosen_by]
  simp only [zz,aGw]
  refine ⟨⟨by omega, by omega⟩, ?_⟩
  rw [Int.toNat_natCast]
  refine aDx (fun k ε => ∃ b, ε = [some (false, shD p l d rs), some (false, dN n), some (false, dN ((List.range k).foldl (fun s u => if fitB rs s u then s else s ||| 2 ^ u) 0)), b]) ⟨_, rfl⟩ ?_ ?_
  · rintro k hk ε ⟨b, rfl⟩
    obtain ⟨⟨f1, r1⟩, q1, h1⟩ := e_fits p l d rs ((List.range k).foldl (fun s u => if fitB rs s u then s else s ||| 2 ^ u) 0) k (by omega)
    have h1 : r1 = .bl (fitB rs ((List.range k).foldl (fun s u => if fitB rs s u then s else s ||| 2 ^ u) 0) k) := h1
    subst h1
    simp only [zz,B_chosen_by_1,q1]
    rw [List.range_succ, List.foldl_append]
    show _
    cases hb : fitB rs ((List.range k).foldl (fun s u => if fitB rs s u then s else s ||| 2 ^ u) 0) k with
    | true =>
      simp only [zz,List.foldl_cons, List.foldl_nil, hb]
      exact ⟨_, rfl⟩
    | false =>
      simp only [zz,List.foldl_cons, List.foldl_nil, hb]
      refine ⟨aCl k (by omega), ?_⟩
      rw [shl1, aEo]
      exact ⟨_, rfl⟩
  · rintro ε ⟨b, rfl⟩
    simp only [zz,true_and]
    rfl
noncomputable def B_joined_1 : DS :=
    (sIf (cB (op2 (op2 (vB 3) (fun _ => some (D.int 1)) gShr) (op2 (vB 4) (fun _ => some (D.int 1)) gAnd) (gEqA false))) (aBk 2 (op2 (vB 2) (op2 (fun _ => some (D.int 1)) (aDb (ar 2 aDz) (aAb (op2 (vB 3) (fun _ => some (D.int 1)) gAnd) (aAb (op2 (vB 4) (fun _ => some (D.int 1)) gShr) aNil))) gShl) gOr)) sNil)
noncomputable def B_joined_2 : DS :=
    (sFor (iS (callS (ar 1 aFp) [] (aAb (vS 1) aNil))) (tgN 4) B_joined_1)
noncomputable def F_joined : DS :=
    (sSeq (aBk 2 (fun _ => some (D.int 0)))
    (sSeq (sFor (iS (callS (ar 1 aFp) [] (aAb (vS 0) aNil))) (tgN 3) B_joined_2)
    (sRetV 2)))
noncomputable def s_joined : List D → Option (Bool × D) := fnD 5 F_joined
theorem u_joined (ds : List D) (Q : Bool × D → Prop) : Ex (s_joined ds) Q = Ex (F_joined (aAs 5 ds)) (RetQ Q) := aCm
theorem orF_app {α : Type} (g : α → Nat) (L M : List α) (a : Nat) : orF g (L ++ M) a = orF g M (orF g L a) := by unfold orF; rw [List.foldl_append]
theorem e_joined (p q : Nat) (hp : p < 16) (hq : q < 16) : Ex (s_joined [dN p, dN q]) fun r => r.2 = dN (joinP p q) := by
  rw [u_joined]
  have hz := aCe
  simp only [zz,F_joined,e_places p (by omega)]
  refine loop_ix (fun k ε => ∃ a b, ε = [some (false, dN p), some (false, dN q), some (false, dN (orF (fun q : Nat × Nat => q.1 % 2 + 2 * (q.2 / 2)) ((((aCb p).take k).map fun u => ((aCb q).filter fun v => decide (u / 2 = v % 2)).map fun v => (u, v)).flatten) 0)), a, b]) ⟨_, _, rfl⟩ ?_ ?_
  · rintro k hk ε ⟨a, b, rfl⟩
    rw [List.length_map] at hk
    rw [List.getElem_map]
    have hu := (aIh.mp (List.getElem_mem hk)).1
    obtain ⟨u, eu⟩ : ∃ u, (aCb p)[k] = u := ⟨_, rfl⟩
    have et : ((aCb p).take (k + 1)) = (aCb p).take k ++ [u] := by rw [List.take_succ_eq_append_getElem hk, eu]
    rw [et, List.map_append, List.flatten_append, orF_app, eu]
    rw [eu] at hu
    obtain ⟨acc, ea⟩ : ∃ acc, orF (fun q : Nat × Nat => q.1 % 2 + 2 * (q.2 / 2)) ((((aCb p).take k).map fun u => ((aCb q).filter fun v => decide (u / 2 = v % 2)).map fun v => (u, v)).flatten) 0 = acc := ⟨_, rfl⟩
    rw [ea]
    simp only [zz,B_joined_2,e_places q (by omega)]
    refine loop_ix (fun j ε => ∃ b, ε = [some (false, dN p), some (false, dN q), some (false, dN (orF (fun q : Nat × Nat => q.1 % 2 + 2 * (q.2 / 2)) ((((aCb q).take j).filter fun v => decide (u / 2 = v % 2)).map fun v => (u, v)) acc)), some (false, dN u), b]) ⟨_, rfl⟩ ?_ ?_
    · rintro j hj ε ⟨b, rfl⟩
      rw [List.length_map] at hj
      rw [List.getElem_map]
      have hv := (aIh.mp (List.getElem_mem hj)).1
      obtain ⟨v, ev⟩ : ∃ v, (aCb q)[j] = v := ⟨_, rfl⟩
      rw [ev] at hv
      have et : ((aCb q).take (j + 1)) = (aCb q).take j ++ [v] := by rw [List.take_succ_eq_append_getElem hj, ev]
      rw [et, List.filter_append, List.map_append, ev]
      simp only [zz,B_joined_1]
      have e1 : ((u : Int) / 2 ^ (1 : Int).toNat) = ((u / 2 : Nat) : Int) := rfl
      have e2 : Builtin.bitAnd (v : Int) 1 = ((v % 2 : Nat) : Int) := by rw [show (1 : Int) = ((1 : Nat) : Int) from rfl, aDk, Nat.and_one_is_mod]
      have e3 : Builtin.bitAnd (u : Int) 1 = ((u % 2 : Nat) : Int) := by rw [show (1 : Int) = ((1 : Nat) : Int) from rfl, aDk, Nat.and_one_is_mod]
      have e4 : ((v : Int) / 2 ^ (1 : Int).toNat) = ((v / 2 : Nat) : Int) := rfl
      simp only [e1, e2, e3, e4]
      have e5 := e_pair_of (u % 2) (v / 2) (by omega)
      simp only [dN] at e5
      refine ⟨by decide, ?_⟩
      by_cases z : u / 2 = v % 2
      · rw [if_pos (by rw [z])]
        simp only [zz,e5,shl1, aEo]
        rw [List.filter_cons, decide_eq_true z, if_pos rfl, List.filter_nil, List.map_cons, List.map_nil, orF_snoc]
        first
          | exact ⟨by decide, aCl _ (by omega), _, rfl⟩
          | exact ⟨aCl _ (by omega), by decide, _, rfl⟩
      · rw [if_neg fun h => z (Int.ofNat_inj.mp h)]
        rw [List.filter_cons, decide_eq_false z, if_neg Bool.false_ne_true, List.filter_nil, List.map_nil, List.append_nil]
        exact ⟨_, rfl⟩
    · rintro ε ⟨b, rfl⟩
      rw [List.length_map, List.take_length]
      simp only [zz,List.map_cons, List.map_nil, List.flatten_cons, List.flatten_nil, List.append_nil]
      exact ⟨_, _, rfl⟩
  · rintro ε ⟨a, b, rfl⟩
    rw [List.length_map, List.take_length]
    simp only [zz,true_and]
    rfl
noncomputable def aGx : DW :=
    (wSeq (wAsg 0 4 (gNar (vB 0) (aAb (vS 1) (aAb (vS 2) aNil))))
    (wSeq (wAsg 0 5 (gNar (vB 0) (aAb (vS 2) (aAb (vS 3) aNil))))
    (wIf (cAnd (cB (op2 (vB 4) (fun _ => some D.non) (gIsN true))) (cB (op2 (vB 5) (fun _ => some D.non) (gIsN true)))) (wMut 0 4 (aAb (vS 1) (aAb (vS 3) (aAb (aDb (ar 2 s_joined) (aAb (callM (ar 3 aEk) (vB 0) (aAb (vB 1) (aAb (vB 2) aNil))) (aAb (callM (ar 3 aEk) (vB 0) (aAb (vB 2) (aAb (vB 3) aNil))) aNil))) (aAb (mkT (aAb (fun _ => some (D.str "join")) (aAb (vS 4) (aAb (vS 5) aNil)))) aNil)))) aDl) wNil)))
noncomputable def aFf : GW := fnW 6 aGx
theorem e_join_by (p l d : Addr) (rs : List PLine) (x z y : Nat) (h16 : ∀ l ∈ rs, l.p < 16) (hl : rs.length < 900000) : Ex (aFf p l d (aAo rs) (aDg rs) [dN x, dN z, dN y]) fun r => r = (aAo (joinR rs x z y), aDg (joinR rs x z y)) := by
  unfold aFf
  rw [ex_fnW]
  show Ex (aGx (aAs 6 [shD p l d rs, dN x, dN z, dN y])) _
  simp only [zz,aGx,ex_wSeq, wk_nx, wk_rt, ex_wAsg]
  rw [ex_gNar (p := p) (l := l) (d := d) (rs := rs) (x := x) (y := z) rfl rfl]
  refine ⟨⟨by decide, by cases aDf rs x z <;> rfl⟩, ?_⟩
  rw [ex_gNar (p := p) (l := l) (d := d) (rs := rs) (x := z) (y := y) rfl rfl]
  refine ⟨⟨by decide, by cases aDf rs z y <;> rfl⟩, ?_⟩
  simp only [zz,ex_wIf]
  unfold joinR
  cases h1 : aDf rs x z with
  | none =>
    simp only [zz,optD, ex_wNil]
    exact fnwq_nx.mpr rfl
  | some a =>
    cases h2 : aDf rs z y with
    | none =>
      simp only [zz,optD, ex_wNil]
      exact fnwq_nx.mpr rfl
    | some b =>
      obtain ⟨⟨f1, r1⟩, q1, h1⟩ := e_left p l d rs x z
      have h1 : r1 = dN (aAi rs x z) := h1
      subst h1
      obtain ⟨⟨f2, r2⟩, q2, h2⟩ := e_left p l d rs z y
      have h2 : r2 = dN (aAi rs z y) := h2
      subst h2
      obtain ⟨⟨f3, r3⟩, q3, h3⟩ := e_joined (aAi rs x z) (aAi rs z y) (aBb h16 ..) (aBb h16 ..)
      have h3 : r3 = dN (joinP (aAi rs x z) (aAi rs z y)) := h3
      subst h3
      have hz := aCe
      simp only [zz,optD, ex_wMut0, ex_callM, q1, q2, q3, isSht_s]
      refine ⟨by omega, by rfl, ?_⟩
      refine (e_narrow p l d rs x y (joinP (aAi rs x z) (aAi rs z y)) (.join a b) (joinP_lt _ (aBb h16 ..) _ (aBb h16 ..)) h16 hl).imp fun r hr => ?_
      subst hr
      refine ⟨aDy _, ?_⟩
      exact fnwq_nx.mpr rfl
noncomputable def B_join_all_1 : DW :=
    (wMut 0 3 (aAb (vS 2) (aAb (vS 3) (aAb (vS 4) aNil))) aFf)
noncomputable def B_join_all_2 : DW :=
    (wFor 0 (iR1 (aAb (vB 1) aNil)) (tgN 4) B_join_all_1)
noncomputable def B_join_all_3 : DW :=
    (wFor 0 (iR1 (aAb (vB 1) aNil)) (tgN 3) B_join_all_2)
noncomputable def F_join_all : DW :=
    (wFor 0 (iR1 (aAb (vB 1) aNil)) (tgN 2) B_join_all_3)
noncomputable def aGb : GW := fnW 5 F_join_all
theorem e_join_all (p l d : Addr) (n : Nat) (ties : List Tie) (N : NetOk n ties) (hn : n < 10) (hz' : (n : Int) < 2 ^ 62) (rs : List PLine) (R : RunR n ties rs) : Ex (aGb p l d (aAo rs) (aDg rs) [dN n]) fun r => r = (aAo (allR n rs), aDg (allR n rs)) := by
  unfold aGb
  rw [ex_fnW]
  show Ex (F_join_all (aAs 5 [shD p l d rs, dN n])) _
  simp only [zz,F_join_all,ex_wFor, rng0]
  refine ⟨⟨by omega, hz'⟩, aHy _ _, ?_⟩
  refine (w_fold (g := dN) (f := fun rs x => allR2 n rs x) (S := fun rs ε => RunR n ties rs ∧ ∃ a b c, ε = [some (false, shD p l d rs), some (false, dN n), a, b, c]) (List.range n) ?_ rs _ ⟨R, _, _, _, rfl⟩).imp ?_
  · rintro rs x hx ε ⟨R, a, b, c, rfl⟩
    have hx := List.mem_range.mp hx
    simp only [zz,B_join_all_3, ex_wFor, rng0]
    refine ⟨⟨by omega, hz'⟩, aHy _ _, ?_⟩
    refine (w_fold (g := dN) (f := fun rs z => allR1 n rs x z) (S := fun rs ε => RunR n ties rs ∧ ∃ b c, ε = [some (false, shD p l d rs), some (false, dN n), some (false, dN x), b, c]) (List.range n) ?_ rs _ ⟨R, _, _, rfl⟩).imp ?_
    · rintro rs z hz ε ⟨R, b, c, rfl⟩
      have hz := List.mem_range.mp hz
      simp only [zz,B_join_all_2, ex_wFor, rng0]
      refine ⟨⟨by omega, hz'⟩, aHy _ _, ?_⟩
      refine (w_fold (g := dN) (f := fun rs y => joinR rs x z y) (S := fun rs ε => RunR n ties rs ∧ ∃ c, ε = [some (false, shD p l d rs), some (false, dN n), some (false, dN x), some (false, dN z), c]) (List.range n) ?_ rs _ ⟨R, _, rfl⟩).imp ?_
      · rintro rs y hy ε ⟨R, c, rfl⟩
        have hy := List.mem_range.mp hy
        have f := R.rch.fine N
        have hlen := R.rch.len' N hn
        simp only [zz,B_join_all_1, ex_wMut0]
        refine ⟨by rfl, ?_⟩
        refine (e_join_by p l d rs x z y f.p16 (by omega)).imp fun r hr => ?_
        subst hr
        exact ⟨aDy _, _, rfl, run_join R hx hz hy, _, rfl⟩
      · rintro o ⟨ε', rfl, R, c, rfl⟩
        exact ⟨_, rfl, R, _, _, rfl⟩
    · rintro o ⟨ε', rfl, R, b, c, rfl⟩
      exact ⟨_, rfl, R, _, _, _, rfl⟩
  · rintro o ⟨ε', rfl, R, a, b, c, rfl⟩
    exact fnwq_nx.mpr rfl
noncomputable def K_row_at_1 : DEnv → Option D :=
    (compD [none, none, some 1] (iEn (vS 0)) (tgT [0, 1]) (cT (op2 (op2 (vB 2) (vB 1) gShr) (fun _ => some (D.int 1)) gAnd)) (op2 (fun _ => some (D.int 1)) (vB 0) gShl))
noncomputable def F_row_at : DS :=
    (aCn (cb (aAb K_row_at_1 aNil) sumD))
noncomputable def s_row_at : List D → Option (Bool × D) := fnD 2 F_row_at
theorem u_row_at (ds : List D) (Q : Bool × D → Prop) : Ex (s_row_at ds) Q = Ex (F_row_at (aAs 2 ds)) (RetQ Q) := aCm
noncomputable def bitP (s : Nat) : D → Bool
  | .tup [_, .int u] => s.testBit u.toNat
  | _ => false
noncomputable def powV : D → D
  | .tup [.int i, _] => .int (2 ^ i.toNat)
  | _ => .non
theorem sum_row (s : Nat) (scope : List Nat) : ∃ xs : List Int, ((((scope.map dN).mapIdx fun i d => D.tup [.int i, d]).filter (bitP s)).map powV) = xs.map .int ∧ xs.sum = (rowN scope s : Int) := by
  induction scope using snoc_rec with
  | h0 => exact ⟨[], rfl, rfl⟩
  | h1 r u ih =>
    obtain ⟨xs, e, hs⟩ := ih
    rw [List.map_append, List.map_cons, List.map_nil, List.mapIdx_concat, List.filter_append, List.map_append, e, List.length_map, rowN_snoc]
    cases hb : s.testBit u with
    | true =>
      refine ⟨xs ++ [2 ^ r.length], ?_, ?_⟩
      · simp [bitP, powV, hb]
      · rw [List.sum_append, hs, if_pos rfl, Int.natCast_add, aHs]; simp
    | false =>
      refine ⟨xs, ?_, ?_⟩
      · simp [bitP, hb]
      · rw [hs]; simp
theorem e_row_at (scope : List Nat) (s : Nat) (h : scope.length ≤ 1000) : s_row_at [.tup (scope.map dN), dN s] = some (true, dN (rowN scope s)) := by
  rw [aDw, u_row_at]
  have hz := aCe
  simp only [zz,F_row_at, K_row_at_1,capL, List.getElem?_cons_zero, List.getElem?_cons_succ, Option.bind_some, Option.bind_none, Option.join_some, Option.map_some, Option.map_none]
  refine ⟨by rw [List.length_mapIdx, List.length_map]; omega, ?_⟩
  obtain ⟨xs, e, hs⟩ := sum_row s scope
  refine Ex.of ((compL_eq (fun ε => ∃ a b, ε = [a, b, some (false, dN s)]) (bitP s) powV _ ⟨none, none, rfl⟩ ?_).trans (congrArg some e)) ?_
  · intro x hx ε hε
    obtain ⟨a, b, rfl⟩ := hε
    obtain ⟨i, hi, rfl⟩ := mem_mapIdx_tup hx
    rw [List.length_map] at hi
    rw [List.getElem_map]
    simp only [zz,true_and]
    refine ⟨⟨_, _, rfl⟩, ?_, fun _ => ?_⟩
    · rw [aDw]
      simp only [zz,true_and]
      refine ⟨by omega, ?_⟩
      rw [Int.toNat_natCast, aCd]
      cases hb : s.testBit scope[i] <;> simp [bitP, hb]
    · rw [aDw]
      simp only [zz,true_and]
      refine ⟨⟨by omega, by omega, by decide⟩, ?_⟩
      rw [shl1, aHs]
      rfl
  · rw [sumD_map, aAg, hs]
noncomputable def B_unmet_1 : DS :=
    (sSeq (sUnp [4, 5] (vS 3))
    (sIf (cNot (cT (op2 (op2 (vB 5) (aDb (ar 2 s_row_at) (aAb (vB 4) (aAb (vB 1) aNil))) gShr) (fun _ => some (D.int 1)) gAnd))) (sRetV 2) sNil))
noncomputable def F_unmet : DS :=
    (sSeq (sFor (iEn (op2 (vB 0) (fun _ => some (D.int 1)) gIxA)) (tgT [2, 3]) B_unmet_1)
    (aCn (fun _ => some D.non)))
noncomputable def s_unmet : List D → Option (Bool × D) := fnD 6 F_unmet
theorem u_unmet (ds : List D) (Q : Bool × D → Prop) : Ex (s_unmet ds) Q = Ex (F_unmet (aAs 6 ds)) (RetQ Q) := aCm
theorem e_unmet (m : D) (ties : List Tie) (s : Nat) (hl : ∀ t ∈ ties, t.1.length ≤ 1000) : Ex (s_unmet [.tup [m, .tup (ties.map tieD)], dN s]) fun r => ∃ o, r.2 = optD o ∧ First (unm s ties) ties.length o := by
  rw [u_unmet]
  simp only [zz,F_unmet,at1]
  refine loop_ix (fun k ε => (∃ a b c d, ε = [some (false, .tup [m, .tup (ties.map tieD)]), some (false, dN s), a, b, c, d]) ∧ ∀ j, j < k → unm s ties j = false) ⟨⟨_, _, _, _, rfl⟩, by omega⟩ ?_ ?_
  · rintro k hk ε ⟨⟨a, b, c, d, rfl⟩, hj⟩
    rw [List.length_mapIdx, List.length_map] at hk
    rw [List.getElem_mapIdx, List.getElem_map]
    have e := hl ties[k] (List.getElem_mem hk)
    simp only [zz,B_unmet_1,tieD, e_row_at _ s e]
    refine ⟨by omega, ?_⟩
    rw [Int.toNat_natCast, aCd]
    have eu := unm_at (s := s) hk
    unfold met at eu
    cases hb : ties[k].2.testBit (rowN ties[k].1 s) with
    | true =>
      rw [hb] at eu
      simp only [zz,reduceIte, bne_iff_ne, ne_eq, Int.one_ne_zero, not_false_eq_true, if_true]
      refine ⟨⟨_, _, _, _, rfl⟩, fun j z => ?_⟩
      by_cases z' : j < k
      · exact hj j z'
      · have : j = k := by omega
        subst this
        exact eu
    | false =>
      rw [hb] at eu
      simp only [zz,bne_self_eq_false]
      exact ⟨some k, rfl, hk, eu, hj⟩
  · rintro ε ⟨_, h⟩
    rw [List.length_mapIdx, List.length_map] at h
    simp only [zz,true_and]
    exact ⟨none, rfl, h⟩
noncomputable def B_paired_1 : DW :=
    (wSeq (wAsg 1 2 (cb (aAb (op1 (vB 1) aGa) aNil) lenD))
    (wMut 1 1 (aAb (op2 (vB 0) (fun _ => some (D.int 0)) gIxA) aNil) aGb))
noncomputable def W_paired_1 : DEnv → Option Bool :=
    (cB (op2 (cb (aAb (op1 (vB 1) aGa) aNil) lenD) (vB 2) (gEqA true)))
noncomputable def F_paired : DW :=
    (wSeq (wAsg 1 2 (op1 (fun _ => some (D.int 1)) gNeg))
    (wSeq (wWhile 5000 W_paired_1 B_paired_1)
    (wSeq (wIf (cT (callM (ar 1 aDh) (vB 1) aNil)) (wRet (mkT (aAb (fun _ => some (D.str "none")) (aAb (cb (aAb (op1 (vB 1) aGa) aNil) tupleD) aNil)))) wNil)
    (wSeq (wAsg 1 3 (aDb (ar 2 aFe) (aAb (vB 1) (aAb (op2 (vB 0) (fun _ => some (D.int 0)) gIxA) aNil))))
    (wRet (vIf (cB (op2 (aDb (ar 2 s_unmet) (aAb (vB 0) (aAb (vB 3) aNil))) (fun _ => some D.non) (gIsN false))) (mkT (aAb (fun _ => some (D.str "set")) (aAb (vS 3) aNil))) (fun _ => some D.non)))))))
noncomputable def s_paired : List D → Option (Bool × D) := fnP 4 g_begun F_paired
theorem e_ploop (p l d : Addr) (n : Nat) (ties : List Tie) (N : NetOk n ties) (hn : n < 10) (hz' : (n : Int) < 2 ^ 62) : ∀ (k : Nat) (rs : List PLine), RunR n ties rs → 650 ≤ rs.length + k →
    Ex (wLoopW W_paired_1 B_paired_1 (k + 1) [some (false, .tup [dN n, .tup (ties.map tieD)]), some (false, shD p l d (allR n rs)), some (false, dN rs.length), none]) fun o => ∃ c, o = .nx [some (false, .tup [dN n, .tup (ties.map tieD)]), some (false, shD p l d (loopR n k rs)), c, none]
  | k, rs, R, hk => by
    have hz := aCe
    have g : rs.length ≤ (allR n rs).length := (grw_all n rs).1
    rw [ex_wLoopW]
    simp only [zz,W_paired_1,aFo, aCi]
    by_cases c : (allR n rs).length = rs.length
    · have e : allR n rs = rs := (grw_all n rs).2 c
      rw [e]
      simp only [zz,true_and]
      rw [if_neg (by simp)]
      refine ⟨some (false, dN rs.length), ?_⟩
      cases k with
      | zero => rfl
      | succ k => rw [loopR_s, if_pos c]
    · rw [if_pos (by omega)]
      cases k with
      | zero => have := R.rch.len' N hn; omega
      | succ k =>
        rw [loopR_s, if_neg c]
        have R' := run_all R
        have ih := e_ploop p l d n ties N hn hz' k (allR n rs) R' (by omega)
        have a0 : atI [dN n, D.tup (ties.map tieD)] 0 = some (dN n) := rfl
        simp only [zz,B_paired_1,ex_wSeq, ex_wAsg, aFo, aCi, wk_nx]
        refine ⟨⟨by decide, rfl⟩, ?_⟩
        simp only [zz,ex_wMut1, a0]
        refine ⟨by rfl, ?_⟩
        refine (e_join_all p l d n ties N hn hz' (allR n rs) R').imp fun r hr => ?_
        subst hr
        exact ⟨aDy _, ih⟩
theorem e_paired (n : Nat) (ties : List Tie) (N : NetOk n ties) (hn : n < 10) : ∃ rs, RunR n ties rs ∧ (allR n rs).length = rs.length ∧ s_paired [.tup [dN n, .tup (ties.map tieD)]] = some (false, pairedD ties n rs) := by
  have hz := aCe
  have hz' : (n : Int) < 2 ^ 62 := by omega
  have R0 := run_begun N
  generalize hk : (4998 : Nat) = k0
  have hk0 : 650 ≤ (aEr n ties).length + k0 := by omega
  refine ⟨loopR n k0 (aEr n ties), run_loop k0 R0, loop_fix N hn k0 R0 hk0, ?_⟩
  have R := run_loop k0 R0
  generalize hrs : loopR n k0 (aEr n ties) = rs at R ⊢
  have a0 : atI [dN n, D.tup (ties.map tieD)] 0 = some (dN n) := rfl
  have im : imm 6 (.tup [dN n, .tup (ties.map tieD)]) = true := by
    show (false || (imm 5 (dN n) && ((false || (ties.map tieD).all (imm 4)) && true))) = true
    have : (ties.map tieD).all (imm 4) = true := by
      rw [List.all_eq_true]
      intro x hx
      obtain ⟨e, _, rfl⟩ := List.mem_map.mp hx
      show (false || ((false || (e.1.map dN).all (imm 2)) && (imm 3 (dN e.2) && true))) = true
      rw [aHy]; rfl
    rw [this]; rfl
  unfold s_paired
  refine fnP_1 im (e_begun n ties N hn hz') fun p l d => ?_
  ·
      have h0 : atSh 4 (.tup [dN n, .tup (ties.map tieD)]) p l d (aAo (aEr n ties)) (aDg (aEr n ties)) = [some (false, .tup [dN n, .tup (ties.map tieD)]), some (false, shD p l d (aEr n ties)), none, none] := rfl
      rw [h0]
      simp only [zz,F_paired,ex_wSeq, ex_wAsg, wk_nx, ex_wWhile]
      refine ⟨⟨by decide, rfl⟩, ?_⟩
      rw [show (5000 : Nat) = (k0 + 1) + 1 by omega, ex_wLoopW]
      simp only [zz,W_paired_1,aFo, aCi]
      rw [if_pos (by omega)]
      simp only [zz,B_paired_1,ex_wSeq, ex_wAsg, aFo, aCi, wk_nx]
      refine ⟨⟨by decide, rfl⟩, ?_⟩
      simp only [zz,ex_wMut1, a0]
      refine ⟨by rfl, ?_⟩
      refine (e_join_all p l d n ties N hn hz' (aEr n ties) R0).imp fun r hr => ?_
      subst hr
      refine ⟨aDy _, ?_⟩
      refine (e_ploop p l d n ties N hn hz' k0 (aEr n ties) R0 hk0).imp fun o ho => ?_
      obtain ⟨c, rfl⟩ := ho
      rw [hrs, wk_nx]
      obtain ⟨⟨f2, r2⟩, q2, h2⟩ := e_is_shut p l d rs
      have h2 : r2 = .bl (aEp rs) := h2
      subst h2
      have hlen := R.rch.len' N hn
      simp only [zz,ex_wIf, ex_callM, q2, isSht_s]
      unfold pairedD
      cases hs : aEp rs with
      | true =>
        rw [if_pos rfl, if_pos rfl]
        simp only [zz,ex_wRet, aFo, aCi, wk_rt]
        exact ⟨by omega, _, rfl⟩
      | false =>
        rw [if_neg (by decide), if_neg (by decide), ex_wNil, wk_nx]
        obtain ⟨⟨f3, r3⟩, q3, h3⟩ := e_chosen_by p l d rs n (by omega)
        have h3 : r3 = dN (aGt rs n) := h3
        subst h3
        simp only [zz,a0, q3]
        refine ⟨⟨by decide, rfl⟩, ?_⟩
        obtain ⟨⟨f4, r4⟩, q4, o, h4, F4⟩ := e_unmet (dN n) ties (aGt rs n) (fun t ht => by have := (N.tie t ht).len; omega)
        have h4 : r4 = optD o := h4
        subst h4
        simp only [zz,ex_wRet, q4]
        refine ⟨by cases o <;> rfl, ?_⟩
        cases o with
        | none =>
          have : ties.all (met (aGt rs n)) = true := first_none F4
          rw [this]
          simp only [zz,optD]
          exact ⟨by omega, _, rfl⟩
        | some k =>
          have : ties.all (met (aGt rs n)) = false := first_some F4
          rw [this]
          simp only [zz,optD]
          exact ⟨_, rfl⟩
noncomputable def aEl : DS :=
    (sSeq (sIf (cB (op2 (vB 1) (cb (aAb (vB 0) aNil) lenD) gLt)) (sRetS (op2 (vB 0) (vB 1) gIxA)) sNil)
    (aCn (fun _ => some (D.int 0))))
noncomputable def aBg : List D → Option (Bool × D) := fnD 2 aEl
theorem u__law_cell_at (ds : List D) (Q : Bool × D → Prop) : Ex (aBg ds) Q = Ex (aEl (aAs 2 ds)) (RetQ Q) := aCm
theorem e_cell_at (ns : List Int) (k : Nat) : Ex (aBg [.lst (ns.map .int), dN k]) fun r => ∃ c : Int, r.2 = .int c := by
  rw [u__law_cell_at]
  simp only [zz,aEl,List.length_map]
  split
  · rename_i h
    rw [atN (by rw [List.length_map]; omega), List.getElem_map]
    simp only [zz,true_and]
    exact ⟨_, rfl⟩
  · exact ⟨0, rfl⟩
noncomputable def aFq : DS :=
    (sRetS (vAnd (op1 (vB 0) (isiD "int")) (vNot (op1 (vB 0) (isiD "bool")))))
noncomputable def aCq : List D → Option (Bool × D) := fnD 1 aFq
theorem u__law_whole (ds : List D) (Q : Bool × D → Prop) : Ex (aCq ds) Q = Ex (aFq (aAs 1 ds)) (RetQ Q) := aCm
theorem e_whole_i (i : Int) : Ex (aCq [.int i]) fun r => r.2 = .bl true := by
  rw [u__law_whole]
  simp only [zz,aFq]
noncomputable def aHc : DEnv → Option D :=
    (compD [none] (iS (vB 0)) (tgN 0) cTrue (vAnd (aDb (ar 1 aCq) (aAb (vB 0) aNil)) (op2 (vB 0) (fun _ => some (D.int 0)) gGe)))
noncomputable def aEm : DS :=
    (aCn (cb (aAb aHc aNil) allD))
noncomputable def aAx : List D → Option (Bool × D) := fnD 1 aEm
theorem u__law_numbers (ds : List D) (Q : Bool × D → Prop) : Ex (aAx ds) Q = Ex (aEm (aAs 1 ds)) (RetQ Q) := aCm
theorem e_numbers (L : List Nat) (h : L.length ≤ 1000) : Ex (aAx [.tup (L.map dN)]) fun r => r.2 = .bl true := by
  rw [u__law_numbers]
  have hz := aCe
  simp only [zz,aEm, aHc,capL, List.getElem?_cons_zero, List.getElem?_cons_succ, Option.bind_some, Option.bind_none, Option.join_some, Option.map_some, Option.map_none, List.length_map]
  refine ⟨by omega, ?_⟩
  refine Ex.of (aHu (fun ε => ∃ a, ε = [a]) dN (fun _ => true) (fun _ => .bl true) L ⟨none, rfl⟩ ?_) ?_
  · rintro r hr ε ⟨a, rfl⟩
    simp only [zz,true_and]
    refine ⟨⟨_, rfl⟩, fun _ => ?_⟩
    obtain ⟨⟨f1, d1⟩, q1, e1⟩ := e_whole_i (r : Int)
    simp only at e1
    subst e1
    rw [aDw]
    simp only [zz,q1]
    have : (0 : Int) ≤ (r : Int) := by omega
    first
      | rw [decide_eq_true this]
      | simp [this]
  · rw [List.filter_eq_self.mpr fun _ _ => rfl, allD_true]
    simp only [zz,true_and]
noncomputable def aHz : DS :=
    (sIf (cAnd (cB (op2 (op2 (op2 (vB 0) (op2 (vB 3) (fun _ => some (D.int 4)) gMod) gShr) (fun _ => some (D.int 1)) gAnd) (fun _ => some (D.int 1)) (gEqA false))) (cB (op2 (op2 (op2 (vB 1) (op2 (vB 3) (fun _ => some (D.int 2)) gFDiv) gShr) (fun _ => some (D.int 1)) gAnd) (fun _ => some (D.int 1)) (gEqA false)))) (aBk 2 (op2 (vB 2) (op2 (fun _ => some (D.int 1)) (op2 (op2 (vB 3) (fun _ => some (D.int 2)) gMod) (op2 (fun _ => some (D.int 2)) (op2 (vB 3) (fun _ => some (D.int 4)) gFDiv) gMul) gAdd) gShl) gOr)) sNil)
noncomputable def aEt : DS :=
    (sSeq (aBk 2 (fun _ => some (D.int 0)))
    (sSeq (sFor (iR1 (aAb (fun _ => some (D.int 8)) aNil)) (tgN 3) aHz)
    (sRetV 2)))
noncomputable def aEa : List D → Option (Bool × D) := fnD 4 aEt
theorem u__law_joined (ds : List D) (Q : Bool × D → Prop) : Ex (aEa ds) Q = Ex (aEt (aAs 4 ds)) (RetQ Q) := aCm
noncomputable def jl (p q : Nat) : Nat := orF (fun n : Nat => n % 2 + 2 * (n / 4)) ((List.range 8).filter fun n => p.testBit (n % 4) && q.testBit (n / 2)) 0
theorem jl_eq : ∀ p, p < 16 → ∀ q, q < 16 → jl p q = joinP p q := by decide +kernel
theorem e_ljoined (p q : Nat) (hp : p < 16) (hq : q < 16) : Ex (aEa [dN p, dN q]) fun r => r.2 = dN (joinP p q) := by
  rw [u__law_joined, ← jl_eq p hp q hq]
  simp only [zz,aEt]
  refine ⟨⟨by decide, by decide⟩, ?_⟩
  refine aDx (n := 8) (fun k ε => ∃ a, ε = [some (false, dN p), some (false, dN q), some (false, dN (orF (fun n : Nat => n % 2 + 2 * (n / 4)) ((List.range k).filter fun n => p.testBit (n % 4) && q.testBit (n / 2)) 0)), a]) ⟨_, rfl⟩ ?_ ?_
  · rintro k hk ε ⟨a, rfl⟩
    rw [List.range_succ, List.filter_append]
    have e1 : (k : Int) % 4 = ((k % 4 : Nat) : Int) := by omega
    have e2 : (k : Int) / 2 = ((k / 2 : Nat) : Int) := by omega
    have e3 : (k : Int) % 2 = ((k % 2 : Nat) : Int) := by omega
    have e4 : (k : Int) / 4 = ((k / 4 : Nat) : Int) := by omega
    simp only [zz,aHz,e1, e2, e3, e4]
    have e5 : ((k % 2 : Nat) : Int) + 2 * ((k / 4 : Nat) : Int) = ((k % 2 + 2 * (k / 4) : Nat) : Int) := by omega
    refine ⟨by decide, by omega, ?_⟩
    rw [Int.toNat_natCast, aCd]
    cases hb : p.testBit (k % 4) with
    | false =>
      rw [if_neg Bool.false_ne_true, if_neg (by decide), List.filter_cons, hb, Bool.false_and, if_neg Bool.false_ne_true, List.filter_nil, List.append_nil]
      exact ⟨_, rfl⟩
    | true =>
      rw [if_pos rfl, if_pos rfl]
      refine ⟨⟨by decide, by decide⟩, by omega, ?_⟩
      rw [Int.toNat_natCast, aCd]
      cases hc : q.testBit (k / 2) with
      | false =>
        rw [if_neg Bool.false_ne_true, if_neg (by decide), List.filter_cons, hb, hc, Bool.and_false, if_neg Bool.false_ne_true, List.filter_nil, List.append_nil]
        exact ⟨_, rfl⟩
      | true =>
        rw [if_pos rfl, if_pos rfl, List.filter_cons, hb, hc, Bool.and_self, if_pos rfl, List.filter_nil, orF_snoc]
        simp only [e5, shl1, aEo]
        exact ⟨by decide, ⟨by decide, by decide⟩, .inl ⟨by decide, by decide⟩, aCl _ (by omega), _, rfl⟩
  · rintro ε ⟨a, rfl⟩
    simp only [zz,true_and]
    rfl
noncomputable def aGc : DS :=
    (sIf (cB (op2 (op2 (op2 (op2 (vB 0) (fun _ => some (D.int 1)) gIxA) (vB 6) gShr) (fun _ => some (D.int 1)) gAnd) (fun _ => some (D.int 1)) (gEqA false))) (aBk 5 (op2 (vB 5) (op2 (fun _ => some (D.int 1)) (op2 (op2 (op2 (vB 6) (vB 3) gShr) (fun _ => some (D.int 2)) gMod) (op2 (fun _ => some (D.int 2)) (op2 (op2 (vB 6) (vB 4) gShr) (fun _ => some (D.int 2)) gMod) gMul) gAdd) gShl) gOr)) sNil)
noncomputable def aEb : DS :=
    (sSeq (aBk 3 (op2 (op2 (vB 0) (fun _ => some (D.int 0)) gIxA) (vB 1) gTIx))
    (sSeq (aBk 4 (op2 (op2 (vB 0) (fun _ => some (D.int 0)) gIxA) (vB 2) gTIx))
    (sSeq (aBk 5 (fun _ => some (D.int 0)))
    (sSeq (sFor (iR1 (aAb (op2 (fun _ => some (D.int 1)) (cb (aAb (op2 (vB 0) (fun _ => some (D.int 0)) gIxA) aNil) lenD) gShl) aNil)) (tgN 6) aGc)
    (sRetV 5)))))
noncomputable def aCr : List D → Option (Bool × D) := fnD 7 aEb
theorem u__law_pairs_of (ds : List D) (Q : Bool × D → Prop) : Ex (aCr ds) Q = Ex (aEb (aAs 7 ds)) (RetQ Q) := aCm
theorem tieP_to (T i j w : Nat) (h : T < 2 ^ w) (hw : w ≤ 16) : orF (fun r => prN (r.testBit i) (r.testBit j)) ((List.range w).filter fun p => T.testBit p) 0 = tieP T i j := by
  unfold tieP aCb
  rw [aHt (a := w) (b := 16) hw (fun p h1 h2 => Nat.testBit_lt_two_pow (Nat.lt_of_lt_of_le h (Nat.pow_le_pow_right (by omega) h1)))]
theorem b01_mod (r i : Nat) : ((r : Int) / 2 ^ (i : Int).toNat) % 2 = ((b01 (r.testBit i) : Nat) : Int) := by
  rw [Int.toNat_natCast]
  have := bit_ediv r i
  unfold b01
  cases hb : r.testBit i with
  | true => rw [hb] at this; rw [of_decide_eq_true this]; rfl
  | false =>
    rw [hb] at this
    have := of_decide_eq_false this
    have := Int.emod_two_eq ((r : Int) / 2 ^ i)
    show _ = (0 : Int)
    omega
theorem e_pairs_of (e : Tie) (x y : Nat) (ok : TieOk e) (hx : x ∈ e.1) (hy : y ∈ e.1) : Ex (aCr [tieD e, dN x, dN y]) fun r => r.2 = dN (tieP e.2 (e.1.idxOf x) (e.1.idxOf y)) := by
  rw [u__law_pairs_of]
  have hz := aCe
  have t1 := tix_dN hx
  have t2 := tix_dN hy
  simp only [dN] at t1 t2
  have hl := ok.len
  have h3 := Nat.two_pow_pos e.1.length
  have h4 : 2 ^ e.1.length ≤ 2 ^ 4 := Nat.pow_le_pow_right (by omega) hl
  simp only [zz,aEb, tieD,at0, t1, t2, List.length_map, shl1]
  refine ⟨aCl _ (by omega), ⟨by omega, by omega⟩, ?_⟩
  rw [Int.toNat_natCast]
  refine aDx (fun k ε => ∃ a, ε = [some (false, .tup [.tup (e.1.map dN), dN e.2]), some (false, dN x), some (false, dN y), some (false, dN (e.1.idxOf x)), some (false, dN (e.1.idxOf y)), some (false, dN (orF (fun r => prN (r.testBit (e.1.idxOf x)) (r.testBit (e.1.idxOf y))) ((List.range k).filter fun p => e.2.testBit p) 0)), a]) ⟨_, rfl⟩ ?_ ?_
  · rintro k hk ε ⟨a, rfl⟩
    rw [List.range_succ, List.filter_append]
    simp only [zz,aGc,at1, b01_mod]
    refine ⟨by omega, ?_⟩
    rw [Int.toNat_natCast, aCd]
    have e1 : ((b01 (k.testBit (e.1.idxOf x)) : Nat) : Int) + 2 * ((b01 (k.testBit (e.1.idxOf y)) : Nat) : Int) = ((prN (k.testBit (e.1.idxOf x)) (k.testBit (e.1.idxOf y)) : Nat) : Int) := by unfold prN; omega
    have lt := prN_lt (k.testBit (e.1.idxOf x)) (k.testBit (e.1.idxOf y))
    cases hb : e.2.testBit k with
    | false =>
      rw [if_neg Bool.false_ne_true, if_neg (by decide), List.filter_cons, hb, if_neg Bool.false_ne_true, List.filter_nil, List.append_nil]
      exact ⟨_, rfl⟩
    | true =>
      rw [if_pos rfl, if_pos rfl, List.filter_cons, hb, if_pos rfl, List.filter_nil, orF_snoc]
      simp only [e1, shl1, aEo]
      exact ⟨by omega, by decide, by omega, by decide, .inl ⟨by decide, by decide⟩, aCl _ (by omega), _, rfl⟩
  · rintro ε ⟨a, rfl⟩
    rw [tieP_to _ _ _ _ ok.tab h4]
    simp only [zz,true_and]
noncomputable def K__law_said_1 : DEnv → Option D :=
    (compD [none, some 5] (iR1 (aAb (fun _ => some (D.int 4)) aNil)) (tgN 0) (cB (op2 (op2 (op2 (op2 (vB 1) (fun _ => some (D.int 2)) gIxA) (vB 0) gShr) (fun _ => some (D.int 1)) gAnd) (fun _ => some (D.int 1)) (gEqA false))) (op2 (fun _ => some (D.int 1)) (op2 (mkL (aAb (fun _ => some (D.int 0)) (aAb (fun _ => some (D.int 2)) (aAb (fun _ => some (D.int 1)) (aAb (fun _ => some (D.int 3)) aNil))))) (vB 0) gIxA) gShl))
noncomputable def aFg : DS :=
    (sSeq (sIf (cAnd (cB (op2 (op2 (vB 4) (fun _ => some (D.int 0)) gIxA) (fun _ => some (D.str "tie")) (gEqA false))) (cAnd (cB (op2 (cb (aAb (vB 4) aNil) lenD) (fun _ => some (D.int 2)) (gEqA false))) (cAnd (cT (callS (ar 1 aAx) [] (aAb (slD (vB 4) (oSome (fun _ => some (D.int 1))) oNone gSlT) aNil))) (cB (op2 (op2 (vB 4) (fun _ => some (D.int 1)) gIxA) (cb (aAb (op2 (vB 0) (fun _ => some (D.int 1)) gIxA) aNil) lenD) gLt))))) (sIf (cAnd (cB (op2 (vB 2) (op2 (op2 (op2 (vB 0) (fun _ => some (D.int 1)) gIxA) (op2 (vB 4) (fun _ => some (D.int 1)) gIxA) gIxA) (fun _ => some (D.int 0)) gIxA) (gIn false))) (cB (op2 (vB 3) (op2 (op2 (op2 (vB 0) (fun _ => some (D.int 1)) gIxA) (op2 (vB 4) (fun _ => some (D.int 1)) gIxA) gIxA) (fun _ => some (D.int 0)) gIxA) (gIn false)))) (aCn (aDb (ar 3 aCr) (aAb (op2 (op2 (vB 0) (fun _ => some (D.int 1)) gIxA) (op2 (vB 4) (fun _ => some (D.int 1)) gIxA) gIxA) (aAb (vB 2) (aAb (vB 3) aNil))))) sNil) sNil)
    (sSeq (sIf (cAnd (cB (op2 (vB 4) (mkT (aAb (fun _ => some (D.str "self")) aNil)) (gEqA false))) (cB (op2 (vB 2) (vB 3) (gEqA false)))) (aCn (fun _ => some (D.int 9))) sNil)
    (sSeq (sIf (cOr (cNot (cT (callS (ar 1 aAx) [] (aAb (slD (vB 4) (oSome (fun _ => some (D.int 1))) oNone gSlT) aNil)))) (cOr (cB (op2 (cb (aAb (vB 4) aNil) lenD) (fun _ => some (D.int 2)) gLt)) (cB (op2 (cb (aAb (slD (vB 4) (oSome (fun _ => some (D.int 1))) oNone gSlT) aNil) maxTD) (cb (aAb (vB 1) aNil) lenD) gGe)))) (aCn (fun _ => some D.non)) sNil)
    (sSeq (sAsgS 5 (op2 (vB 1) (op2 (vB 4) (fun _ => some (D.int 1)) gIxA) gIxA))
    (sSeq (sIf (cAnd (cB (op2 (op2 (vB 4) (fun _ => some (D.int 0)) gIxA) (fun _ => some (D.str "turn")) (gEqA false))) (cAnd (cB (op2 (cb (aAb (vB 4) aNil) lenD) (fun _ => some (D.int 2)) (gEqA false))) (cB (op2 (mkT (aAb (op2 (vB 5) (fun _ => some (D.int 1)) gIxA) (aAb (op2 (vB 5) (fun _ => some (D.int 0)) gIxA) aNil))) (mkT (aAb (vS 2) (aAb (vS 3) aNil))) (gEqA false))))) (aCn (cb (aAb K__law_said_1 aNil) sumD)) sNil)
    (sSeq (sIf (cB (op2 (cb (aAb (vB 4) aNil) lenD) (fun _ => some (D.int 3)) (gEqA true))) (aCn (fun _ => some D.non)) sNil)
    (sSeq (sAsgS 6 (op2 (vB 1) (op2 (vB 4) (fun _ => some (D.int 2)) gIxA) gIxA))
    (sSeq (sIf (cAnd (cB (op2 (op2 (vB 4) (fun _ => some (D.int 0)) gIxA) (fun _ => some (D.str "both")) (gEqA false))) (cAnd (cB (op2 (slD (vB 5) oNone (oSome (fun _ => some (D.int 2))) gSlT) (mkT (aAb (vS 2) (aAb (vS 3) aNil))) (gEqA false))) (cB (op2 (slD (vB 6) oNone (oSome (fun _ => some (D.int 2))) gSlT) (mkT (aAb (vS 2) (aAb (vS 3) aNil))) (gEqA false))))) (aCn (op2 (op2 (vB 5) (fun _ => some (D.int 2)) gIxA) (op2 (vB 6) (fun _ => some (D.int 2)) gIxA) gAnd)) sNil)
    (sSeq (sIf (cAnd (cB (op2 (op2 (vB 4) (fun _ => some (D.int 0)) gIxA) (fun _ => some (D.str "join")) (gEqA false))) (cAnd (cB (op2 (op2 (vB 5) (fun _ => some (D.int 0)) gIxA) (vB 2) (gEqA false))) (cAnd (cB (op2 (op2 (vB 6) (fun _ => some (D.int 1)) gIxA) (vB 3) (gEqA false))) (cB (op2 (op2 (vB 5) (fun _ => some (D.int 1)) gIxA) (op2 (vB 6) (fun _ => some (D.int 0)) gIxA) (gEqA false)))))) (aCn (aDb (ar 2 aEa) (aAb (op2 (vB 5) (fun _ => some (D.int 2)) gIxA) (aAb (op2 (vB 6) (fun _ => some (D.int 2)) gIxA) aNil)))) sNil)
    (aCn (fun _ => some D.non)))))))))))
noncomputable def aFh : List D → Option (Bool × D) := fnD 7 aFg
theorem u__law_said (ds : List D) (Q : Bool × D → Prop) : Ex (aFh ds) Q = Ex (aFg (aAs 7 ds)) (RetQ Q) := aCm
theorem aCf {c : DEnv → Option Bool} {F G : DS} {ε : DEnv} {Q : Out → Prop} (h : Ex (c ε) fun b => b = false) (k : Ex (G ε) Q) : Ex (sSeq (sIf c F sNil) G ε) Q := by
  rw [aHr, ex_if]
  refine h.imp fun b e => ?_
  subst e
  rw [if_neg (by decide), ex_nil]
  exact k
theorem ex_take {c : DEnv → Option Bool} {f : DEnv → Option D} {G H : DS} {ε : DEnv} {Q : Out → Prop} (h : Ex (c ε) fun b => b = true) (k : Ex (f ε) fun d => Q (.rt true d)) : Ex (sSeq (sIf c (aCn f) H) G ε) Q := by
  rw [aHr, ex_if]
  refine h.imp fun b e => ?_
  subst e
  rw [if_pos rfl, ex_retF]
  exact k
theorem ex_take2 {c c' : DEnv → Option Bool} {f : DEnv → Option D} {G H H' : DS} {ε : DEnv} {Q : Out → Prop} (h : Ex (c ε) fun b => b = true) (h' : Ex (c' ε) fun b => b = true) (k : Ex (f ε) fun d => Q (.rt true d)) : Ex (sSeq (sIf c (sIf c' (aCn f) H') H) G ε) Q := by
  rw [aHr, ex_if]
  refine h.imp fun b e => ?_
  subst e
  rw [if_pos rfl, ex_if]
  refine h'.imp fun b e => ?_
  subst e
  rw [if_pos rfl, ex_retF]
  exact k
theorem ex_let {i : Nat} {f : DEnv → Option D} {d : D} {G : DS} {ε : DEnv} {Q : Out → Prop} (h : Ex (f ε) fun x => x = d) (k : Ex (G (ε.set i (some (false, d)))) Q) : Ex (sSeq (sAsgS i f) G ε) Q := by
  rw [aHr, ex_asgS]
  refine h.imp fun b e => ?_
  subst e
  exact k
theorem e_said (m : D) (ties : List Tie) (lines : List PLine) (x y p q : Nat) (w : Why) (hT : ∀ e ∈ ties, TieOk e) (hp : ∀ f ∈ lines, f.p < 16) (hw : ∀ i, w ≠ .turn i) (hq : leftO ties lines lines.length ⟨x, y, p, w⟩ = some q) : Ex (aFh [.tup [m, .tup (ties.map tieD)], .tup (lines.map aCt), dN x, dN y, whyD w]) fun r => r.2 = dN q := by
  rw [u__law_said, start_eq]
  show Ex (aFg [some (false, .tup [m, .tup (ties.map tieD)]), some (false, .tup (lines.map aCt)), some (false, dN x), some (false, dN y), some (false, whyD w), none, none]) _
  unfold aFg
  have hz := aCe
  have w1 : (("self" : Str) = "tie") = False := eq_false (by decide +kernel)
  have w2 : (("both" : Str) = "tie") = False := eq_false (by decide +kernel)
  have w3 : (("join" : Str) = "tie") = False := eq_false (by decide +kernel)
  have w4 : (("both" : Str) = "turn") = False := eq_false (by decide +kernel)
  have w5 : (("join" : Str) = "turn") = False := eq_false (by decide +kernel)
  have w6 : (("join" : Str) = "both") = False := eq_false (by decide +kernel)
  have n1 : (((2 : Nat) : Int) = 2) = True := eq_true rfl
  have n2 : (((3 : Nat) : Int) < 2) = False := eq_false (by decide)
  have n3 : (((3 : Nat) : Int) = 3) = True := eq_true rfl
  have n4 : (((3 : Nat) : Int) = 2) = False := eq_false (by decide)
  have g0 : ∀ (l : PLine), gIxA (aCt l) (.int 0) = some (dN l.x) := fun _ => rfl
  have g1 : ∀ (l : PLine), gIxA (aCt l) (.int 1) = some (dN l.y) := fun _ => rfl
  have g2 : ∀ (l : PLine), gIxA (aCt l) (.int 2) = some (dN l.p) := fun _ => rfl
  have c2 : ∀ (l : PLine), gSlT (aCt l) none (some 2) = some (.tup [dN l.x, dN l.y]) := fun _ => rfl
  have ea : ∀ {i : Nat} (h : i < lines.length), atI (lines.map aCt) (i : Int) = some (aCt lines[i]) := fun {i} h => by rw [atN (by rw [List.length_map]; exact h), List.getElem_map]
  cases w with
  | turn i => exact absurd rfl (hw i)
  | self =>
    have hq : (if x = y then some 9 else none) = some q := hq
    split at hq
    · rename_i c
      cases hq
      subst c
      have es : gEqA false (D.tup [.str "self"]) (D.tup [.str "self"]) = some (.bl true) := sEqSelf rfl
      refine aCf (by simp only [zz,whyD,at0, w1]) (ex_take (by simp only [zz,whyD,at0, es]; omega) ?_)
      simp only [zz,true_and]
      first
        | rfl
        | exact ⟨rfl, rfl⟩
    · cases hq
  | tie t =>
    have hq : (match ties[t]? with
      | some e => if x ∈ e.1 ∧ y ∈ e.1 then some (tieP e.2 (e.1.idxOf x) (e.1.idxOf y)) else none
      | none => none) = some q := hq
    by_cases ht : t < ties.length
    · rw [aGs ht] at hq
      have hq : (if x ∈ ties[t].1 ∧ y ∈ ties[t].1 then some (tieP ties[t].2 (ties[t].1.idxOf x) (ties[t].1.idxOf y)) else none) = some q := hq
      split at hq
      · rename_i c
        cases hq
        have cu : ∀ a b : D, cutD [a, b] (some 1) none = [b] := fun _ _ => rfl
        obtain ⟨⟨f1, d1⟩, q1, e1⟩ := e_numbers [t] (by simp)
        simp only at e1
        subst e1
        have q1 : aAx [.tup [dN t]] = some (f1, .bl true) := q1
        have et : atI (ties.map tieD) (t : Int) = some (tieD ties[t]) := by rw [atN (by rw [List.length_map]; exact ht), List.getElem_map]
        have e2 : gIxA (tieD ties[t]) (.int 0) = some (.tup (ties[t].1.map dN)) := rfl
        have i1 := in_dNT (x := x) (rows := ties[t].1)
        have i2 := in_dNT (x := y) (rows := ties[t].1)
        rw [decide_eq_true c.1] at i1
        rw [decide_eq_true c.2] at i2
        simp only [dN] at i1 i2
        have hlt : ((t : Int) < (ties.length : Int)) = True := eq_true (by omega)
        refine ex_take2 (by simp only [zz,whyD,at0, at1, slT, cu, q1, List.length_map, n1, hlt]) (by simp only [zz,whyD,at0, at1, et, e2, i1, i2]) ?_
        simp only [zz,whyD,at1, et]
        refine (e_pairs_of ties[t] x y (hT _ (List.getElem_mem ht)) c.1 c.2).imp ?_
        rintro ⟨fr, d⟩ e
        exact ⟨by simp only at e; subst e; rfl, e⟩
      · cases hq
    · rw [List.getElem?_eq_none (Nat.le_of_not_lt ht)] at hq
      cases hq
  | both i j =>
    have hq : (if i < lines.length ∧ j < lines.length then match lines[i]?, lines[j]? with
      | some f, some g => if (f.x = x ∧ f.y = y) ∧ g.x = x ∧ g.y = y then some (f.p &&& g.p) else none
      | _, _ => none
    else none) = some q := hq
    split at hq
    · rename_i hij
      rw [aGs hij.1, aGs hij.2] at hq
      have hq : (if (lines[i].x = x ∧ lines[i].y = y) ∧ lines[j].x = x ∧ lines[j].y = y then some (lines[i].p &&& lines[j].p) else none) = some q := hq
      split at hq
      · rename_i c
        cases hq
        have mx : maxTD [.tup [dN i, dN j]] = some (.int (if (i : Int) < (j : Int) then (j : Int) else (i : Int))) := rfl
        have cu : ∀ a b c : D, cutD [a, b, c] (some 1) none = [b, c] := fun _ _ _ => rfl
        obtain ⟨⟨f1, d1⟩, q1, e1⟩ := e_numbers [i, j] (by simp)
        simp only at e1
        subst e1
        have q1 : aAx [.tup [dN i, dN j]] = some (f1, .bl true) := q1
        have es : gEqA false (D.tup [.str "both", dN i, dN j]) (D.tup [.str "self"]) = some (.bl false) := by
          show (eqL (eqN 5) [.str "both", dN i, dN j] [.str "self"]).map (fun z => D.bl (xor false z)) = _
          rfl
        have ep : gEqA false (D.tup [.int (x : Int), .int (y : Int)]) (D.tup [.int (x : Int), .int (y : Int)]) = some (.bl true) := by
          have := sEqPair (a := x) (b := y) (c := x) (d := y)
          rw [decide_eq_true ⟨rfl, rfl⟩] at this
          exact this
        have hge : ((if (i : Int) < (j : Int) then (j : Int) else (i : Int)) ≥ (lines.length : Int)) = False := eq_false (by split <;> omega)
        have hge' : ((lines.length : Int) ≤ (if (i : Int) < (j : Int) then (j : Int) else (i : Int))) = False := eq_false (by split <;> omega)
        have k1 : lines[i].x = x := c.1.1
        have k2 : lines[i].y = y := c.1.2
        have k3 : lines[j].x = x := c.2.1
        have k4 : lines[j].y = y := c.2.2
        refine aCf (by simp only [zz,whyD,at0, w2]) (aCf (by simp only [zz,whyD,es]; omega) (aCf (by simp only [zz,whyD,slT, cu, mx, q1, List.length_map, n2, hge, hge', not_true]) (ex_let (d := aCt lines[i]) (by simp only [zz,whyD,at1, ea hij.1]) (aCf (by simp only [zz,whyD,at0, w4]) (aCf (by simp only [zz,whyD,n3, not_true]) (ex_let (d := aCt lines[j]) (by simp only [zz,whyD,at2, ea hij.2]) (ex_take (by simp only [zz,whyD,at0, c2, k1, k2, k3, k4, ep]; omega) ?_)))))))
        simp only [zz,g2, aDk]
      · cases hq
    · cases hq
  | join i j =>
    have hq : (if i < lines.length ∧ j < lines.length then match lines[i]?, lines[j]? with
      | some f, some g => if f.x = x ∧ f.y = g.x ∧ g.y = y then some (joinP f.p g.p) else none
      | _, _ => none
    else none) = some q := hq
    split at hq
    · rename_i hij
      rw [aGs hij.1, aGs hij.2] at hq
      have hq : (if lines[i].x = x ∧ lines[i].y = lines[j].x ∧ lines[j].y = y then some (joinP lines[i].p lines[j].p) else none) = some q := hq
      split at hq
      · rename_i c
        cases hq
        have mx : maxTD [.tup [dN i, dN j]] = some (.int (if (i : Int) < (j : Int) then (j : Int) else (i : Int))) := rfl
        have cu : ∀ a b c : D, cutD [a, b, c] (some 1) none = [b, c] := fun _ _ _ => rfl
        obtain ⟨⟨f1, d1⟩, q1, e1⟩ := e_numbers [i, j] (by simp)
        simp only at e1
        subst e1
        have q1 : aAx [.tup [dN i, dN j]] = some (f1, .bl true) := q1
        have es : gEqA false (D.tup [.str "join", dN i, dN j]) (D.tup [.str "self"]) = some (.bl false) := by
          show (eqL (eqN 5) [.str "join", dN i, dN j] [.str "self"]).map (fun z => D.bl (xor false z)) = _
          rfl
        have hge' : ((lines.length : Int) ≤ (if (i : Int) < (j : Int) then (j : Int) else (i : Int))) = False := eq_false (by split <;> omega)
        obtain ⟨⟨f3, d3⟩, q3, e3⟩ := e_ljoined lines[i].p lines[j].p (hp _ (List.getElem_mem hij.1)) (hp _ (List.getElem_mem hij.2))
        simp only at e3
        subst e3
        have k1 : lines[i].x = x := c.1
        have k2 : lines[i].y = lines[j].x := c.2.1
        have k3 : lines[j].y = y := c.2.2
        refine aCf (by simp only [zz,whyD,at0, w3]) (aCf (by simp only [zz,whyD,es]; omega) (aCf (by simp only [zz,whyD,slT, cu, mx, q1, List.length_map, n2, hge', not_true]) (ex_let (d := aCt lines[i]) (by simp only [zz,whyD,at1, ea hij.1]) (aCf (by simp only [zz,whyD,at0, w5]) (aCf (by simp only [zz,whyD,n3, not_true]) (ex_let (d := aCt lines[j]) (by simp only [zz,whyD,at2, ea hij.2]) (aCf (by simp only [zz,whyD,at0, w6]) (ex_take (by simp only [zz,whyD,at0, g0, g1, k1, k2, k3]) ?_))))))))
        simp only [zz,g2, q3]
      · cases hq
    · cases hq
noncomputable def B__law_shut_1 : DS :=
    (sSeq (sAsgS 3 (op2 (vB 1) (vB 2) gIxA))
    (sSeq (sIf (cOr (cNot (cT (op1 (vB 3) (isiD "tuple")))) (cOr (cB (op2 (cb (aAb (vB 3) aNil) lenD) (fun _ => some (D.int 4)) (gEqA true))) (cNot (cT (callS (ar 1 aAx) [] (aAb (slD (vB 3) oNone (oSome (fun _ => some (D.int 3))) gSlT) aNil)))))) (aCn (fun _ => some (D.bl false))) sNil)
    (sSeq (sIf (cOr (cB (op2 (cb (aAb (slD (vB 3) oNone (oSome (fun _ => some (D.int 2))) gSlT) aNil) maxTD) (op2 (vB 0) (fun _ => some (D.int 0)) gIxA) gGe)) (cOr (cB (op2 (op2 (vB 3) (fun _ => some (D.int 2)) gIxA) (fun _ => some (D.int 15)) gGt)) (cOr (cNot (cT (op1 (op2 (vB 3) (fun _ => some (D.int 3)) gIxA) (isiD "tuple")))) (cB (op2 (op2 (vB 3) (fun _ => some (D.int 3)) gIxA) (mkT aNil) (gEqA false)))))) (aCn (fun _ => some (D.bl false))) sNil)
    (sSeq (aBk 4 (aDb (ar 5 aFh) (aAb (vB 0) (aAb (slD (vB 1) oNone (oSome (vB 2)) gSlT) (aAb (op2 (vB 3) (fun _ => some (D.int 0)) gIxA) (aAb (op2 (vB 3) (fun _ => some (D.int 1)) gIxA) (aAb (op2 (vB 3) (fun _ => some (D.int 3)) gIxA) aNil)))))))
    (sIf (cOr (cB (op2 (vB 4) (fun _ => some D.non) (gIsN false))) (cB (op2 (op2 (vB 4) (op1 (op2 (vB 3) (fun _ => some (D.int 2)) gIxA) gInv) gAnd) (fun _ => some (D.int 0)) (gEqA true)))) (aCn (fun _ => some (D.bl false))) sNil)))))
noncomputable def aGy : DS :=
    (sSeq (sIf (cOr (cNot (cT (op1 (vB 1) (isiD "tuple")))) (cB (op2 (vB 1) (mkT aNil) (gEqA false)))) (aCn (fun _ => some (D.bl false))) sNil)
    (sSeq (sFor (iR1 (aAb (cb (aAb (vB 1) aNil) lenD) aNil)) (tgN 2) B__law_shut_1)
    (aCn (op2 (op2 (op2 (vB 1) (op1 (fun _ => some (D.int 1)) gNeg) gIxA) (fun _ => some (D.int 2)) gIxA) (fun _ => some (D.int 0)) (gEqA false)))))
noncomputable def aFi : List D → Option (Bool × D) := fnD 5 aGy
theorem u__law_shut (ds : List D) (Q : Bool × D → Prop) : Ex (aFi ds) Q = Ex (aGy (aAs 5 ds)) (RetQ Q) := aCm
theorem inv_self : ∀ p, p < 16 → Builtin.bitAnd ((p : Nat) : Int) (-((p : Nat) : Int) - 1) = 0 := by decide +kernel
theorem okR_take {ties : List Tie} : ∀ {rs : List PLine}, okR ties rs → ∀ k (h : k < rs.reverse.length), leftO ties (rs.reverse.take k) k (rs.reverse[k]) = some (rs.reverse[k]).p
  | [], _, k, h => by simp at h
  | l :: r, o, k, h => by
    by_cases c : k < r.reverse.length
    · have ih := okR_take o.2 k c
      have e1 : (l :: r).reverse[k] = r.reverse[k] := by simp only [List.reverse_cons]; rw [List.getElem_append_left c]
      have e2 : (l :: r).reverse.take k = r.reverse.take k := by rw [List.reverse_cons, List.take_append_of_le_length (Nat.le_of_lt c)]
      rw [e1, e2]; exact ih
    · have hk : k = r.length := by simp at h c; omega
      subst hk
      have e1 : (l :: r).reverse[r.length] = l := by simp only [List.reverse_cons]; rw [List.getElem_append_right (by simp)]; simp
      have e2 : (l :: r).reverse.take r.length = r.reverse := by rw [List.reverse_cons, List.take_append_of_le_length (by simp), List.take_of_length_le (by simp)]
      rw [e1, e2]; exact o.1
theorem e_shut (n : Nat) (ties : List Tie) (rs : List PLine) (N : NetOk n ties) (hn : n < 10) (R : Rch n ties rs) (hs : aEp rs = true) (hw : ∀ l ∈ rs, ∀ i, l.w ≠ .turn i) : Ex (aFi [.tup [dN n, .tup (ties.map tieD)], .tup (aAo rs)]) fun r => r.2 = .bl true := by
  rw [u__law_shut]
  have hz := aCe
  have f := R.fine N
  have o := R.ok N
  have hlen := R.len' N hn
  have hne : (aAo rs).isEmpty = false := by
    cases rs with
    | nil => cases hs
    | cons l r => rw [lines_cons]; cases aAo r <;> rfl
  simp only [zz,aGy,sEqNilT, hne, aCi]
  refine ⟨by omega, ⟨by omega, by omega⟩, ?_⟩
  rw [Int.toNat_natCast]
  refine aDx (fun k ε => ∃ a b c, ε = [some (false, .tup [dN n, .tup (ties.map tieD)]), some (false, .tup (aAo rs)), a, b, c]) ⟨_, _, _, rfl⟩ ?_ ?_
  · rintro k hk ε ⟨a, b, c, rfl⟩
    have hk' : k < rs.reverse.length := by rw [List.length_reverse]; exact hk
    have ek : atI (aAo rs) (k : Int) = some (aCt rs.reverse[k]) := by
      rw [atN (by rw [aCi]; exact hk)]
      unfold aAo
      rw [List.getElem_map]
    have hl := List.getElem_mem hk'
    have hl' : rs.reverse[k] ∈ rs := List.mem_reverse.mp hl
    have ok := okR_take o k hk'
    have hx := f.lt _ hl'
    have hp := f.p16 _ hl'
    have hw' := hw _ hl'
    generalize rs.reverse[k] = L at ek ok hx hp hw' hl'
    obtain ⟨x, y, p, w⟩ := L
    have c3 : gSlT (aCt ⟨x, y, p, w⟩) none (some 3) = some (.tup [dN x, dN y, dN p]) := rfl
    have c2 : gSlT (aCt ⟨x, y, p, w⟩) none (some 2) = some (.tup [dN x, dN y]) := rfl
    have g0 : gIxA (aCt ⟨x, y, p, w⟩) (.int 0) = some (dN x) := rfl
    have g1 : gIxA (aCt ⟨x, y, p, w⟩) (.int 1) = some (dN y) := rfl
    have g2 : gIxA (aCt ⟨x, y, p, w⟩) (.int 2) = some (dN p) := rfl
    have g3 : gIxA (aCt ⟨x, y, p, w⟩) (.int 3) = some (whyD w) := rfl
    have i1 : isiD "tuple" (aCt ⟨x, y, p, w⟩) = some (.bl true) := rfl
    have i2 : isiD "tuple" (whyD w) = some (.bl true) := by cases w <;> rfl
    have l4 : lenD [aCt ⟨x, y, p, w⟩] = some (.int 4) := rfl
    have mx : maxTD [.tup [dN x, dN y]] = some (.int (if (x : Int) < (y : Int) then (y : Int) else (x : Int))) := rfl
    have hge : ((n : Int) ≤ (if (x : Int) < (y : Int) then (y : Int) else (x : Int))) = False := eq_false (by have h1 : x < n := hx.1; have h2 : y < n := hx.2; split <;> omega)
    have hp' : p < 16 := hp
    have hgt : ((15 : Int) < (p : Int)) = False := eq_false (by omega)
    have e0 : gEqA false (whyD w) (.tup []) = some (.bl false) := by cases w <;> rfl
    have a0 : atI [dN n, D.tup (ties.map tieD)] 0 = some (dN n) := rfl
    obtain ⟨⟨f1, d1⟩, q1, e1⟩ := e_numbers [x, y, p] (by simp)
    simp only at e1
    subst e1
    have q1 : aAx [.tup [dN x, dN y, dN p]] = some (f1, .bl true) := q1
    have et : cutD (aAo rs) none (some (k : Int)) = (rs.reverse.take k).map aCt := by rw [cut_take]; unfold aAo; rw [← List.map_take]
    have hlk : (rs.reverse.take k).length = k := by rw [List.length_take]; omega
    obtain ⟨⟨f2, d2⟩, q2, e2⟩ := e_said (dN n) ties (rs.reverse.take k) x y p p w N.tie (fun l hl => f.p16 l (List.mem_reverse.mp (List.mem_of_mem_take hl))) hw' (by rw [hlk]; exact ok)
    simp only at e2
    subst e2
    simp only [zz,B__law_shut_1,ek, c2, c3, g0, g1, g2, g3, i1, i2, l4, mx, hge, hgt, e0, a0, q1, q2, slT, et, inv_self p hp', not_true]
    exact ⟨by omega, _, _, _, rfl⟩
  · rintro ε ⟨a, b, c, rfl⟩
    cases rs with
    | nil => cases hs
    | cons l r =>
      have e0 : l.p = 0 := of_decide_eq_true hs
      have g2 : gIxA (aCt l) (.int 2) = some (dN l.p) := rfl
      simp only [zz,lines_last, g2, e0]
      rfl
noncomputable def aIa : DEnv → Option D :=
    (compD [none, some 1, some 0] (iR1 (aAb (cb (aAb (vB 0) aNil) lenD) aNil)) (tgN 0) (cB (op2 (op2 (op2 (vB 1) (op2 (vB 2) (vB 0) gIxA) gShr) (fun _ => some (D.int 1)) gAnd) (fun _ => some (D.int 1)) (gEqA false))) (op2 (fun _ => some (D.int 1)) (vB 0) gShl))
noncomputable def aGd : DS :=
    (aCn (cb (aAb aIa aNil) sumD))
noncomputable def aCu : List D → Option (Bool × D) := fnD 2 aGd
theorem u__law_row (ds : List D) (Q : Bool × D → Prop) : Ex (aCu ds) Q = Ex (aGd (aAs 2 ds)) (RetQ Q) := aCm
theorem e_row (scope : List Nat) (s : Nat) (h : scope.length ≤ 4) : aCu [.tup (scope.map dN), dN s] = some (true, dN (rowN scope s)) := by
  rw [aDw, u__law_row]
  have hz := aCe
  simp only [zz,aGd, aIa,capL, List.getElem?_cons_zero, List.getElem?_cons_succ, Option.bind_some, Option.bind_none, Option.join_some, Option.map_some, Option.map_none, List.length_map]
  refine ⟨⟨by omega, by omega⟩, by rw [aFl]; omega, ?_⟩
  rw [Int.toNat_natCast, rngD0]
  refine Ex.of (aHu (fun ε => ∃ a, ε = [a, some (false, dN s), some (false, .tup (scope.map dN))]) dN (fun k => s.testBit (scope.getD k 0)) (fun k => dN (2 ^ k)) _ ⟨none, rfl⟩ ?_) ?_
  · rintro i hi ε ⟨a, rfl⟩
    have hi := List.mem_range.mp hi
    simp only [zz,true_and]
    refine ⟨⟨_, rfl⟩, ?_, fun _ => ?_⟩
    · rw [aDw]
      simp only [zz,true_and]
      rw [atN (by rw [List.length_map]; exact hi), List.getElem_map]
      simp only [zz,true_and]
      refine ⟨by omega, ?_⟩
      rw [Int.toNat_natCast, aCd, List.getD, aGs hi]
      show decide (_ = _) = s.testBit scope[i]
      cases s.testBit scope[i] <;> rfl
    · rw [aDw]
      simp only [zz,true_and]
      refine ⟨aCl _ (by omega), ?_⟩
      rw [shl1]
  · rw [show (fun k : Nat => dN (2 ^ k)) = dN ∘ fun k => 2 ^ k from rfl, ← List.map_map, sumD_nat, aAg, sum_powN]
    rfl
theorem e_rowL (scope : List Nat) (s : Nat) (h : scope.length ≤ 4) : aCu [.lst (scope.map dN), dN s] = some (true, dN (rowN scope s)) := by
  rw [aDw, u__law_row]
  have hz := aCe
  simp only [zz,aGd, aIa,capL, List.getElem?_cons_zero, List.getElem?_cons_succ, Option.bind_some, Option.bind_none, Option.join_some, Option.map_some, Option.map_none, List.length_map]
  refine ⟨⟨by omega, by omega⟩, by rw [aFl]; omega, ?_⟩
  rw [Int.toNat_natCast, rngD0]
  refine Ex.of (aHu (fun ε => ∃ a, ε = [a, some (false, dN s), some (false, .lst (scope.map dN))]) dN (fun k => s.testBit (scope.getD k 0)) (fun k => dN (2 ^ k)) _ ⟨none, rfl⟩ ?_) ?_
  · rintro i hi ε ⟨a, rfl⟩
    have hi := List.mem_range.mp hi
    simp only [zz,true_and]
    refine ⟨⟨_, rfl⟩, ?_, fun _ => ?_⟩
    · rw [aDw]
      simp only [zz,true_and]
      rw [atN (by rw [List.length_map]; exact hi), List.getElem_map]
      simp only [zz,true_and]
      refine ⟨by omega, ?_⟩
      rw [Int.toNat_natCast, aCd, List.getD, aGs hi]
      show decide (_ = _) = s.testBit scope[i]
      cases s.testBit scope[i] <;> rfl
    · rw [aDw]
      simp only [zz,true_and]
      refine ⟨aCl _ (by omega), ?_⟩
      rw [shl1]
  · rw [show (fun k : Nat => dN (2 ^ k)) = dN ∘ fun k => 2 ^ k from rfl, ← List.map_map, sumD_nat, aAg, sum_powN]
    rfl
theorem e_rowS (scope : List Nat) (s : Nat) (h : scope.length ≤ 4) : aCu [.tup (scope.map dN), dN s] = some (true, dN (rowN scope s)) := e_row scope s h
noncomputable def B__law_meets_1 : DS :=
    (sIf (cB (op2 (op2 (op2 (vB 3) (aDb (ar 2 aCu) (aAb (vB 2) (aAb (vB 1) aNil))) gShr) (fun _ => some (D.int 1)) gAnd) (fun _ => some (D.int 0)) (gEqA false))) (aCn (fun _ => some (D.bl false))) sNil)
noncomputable def aFr : DS :=
    (sSeq (sFor (iS (op2 (vB 0) (fun _ => some (D.int 1)) gIxA)) (tgT [2, 3]) B__law_meets_1)
    (aCn (fun _ => some (D.bl true))))
noncomputable def aDm : List D → Option (Bool × D) := fnD 4 aFr
theorem u__law_meets (ds : List D) (Q : Bool × D → Prop) : Ex (aDm ds) Q = Ex (aFr (aAs 4 ds)) (RetQ Q) := aCm
theorem e_meets (m : D) (ties : List Tie) (s : Nat) (h : ∀ t ∈ ties, TieOk t) : Ex (aDm [.tup [m, .tup (ties.map tieD)], dN s]) fun r => r.2 = .bl (ties.all (met s)) := by
  rw [u__law_meets]
  simp only [zz,aFr,at1]
  refine loop_ix (fun k ε => (∃ a b, ε = [some (false, .tup [m, .tup (ties.map tieD)]), some (false, dN s), a, b]) ∧ ∀ (j : Nat) (hj : j < ties.length), j < k → met s ties[j] = true) ⟨⟨_, _, rfl⟩, by omega⟩ ?_ ?_
  · rintro k hk ε ⟨⟨a, b, rfl⟩, hj⟩
    rw [List.length_map] at hk
    rw [List.getElem_map]
    have ht := h _ (List.getElem_mem hk)
    simp only [zz,B__law_meets_1,tieD, e_rowS _ s ht.len]
    rw [Int.toNat_natCast, aCd]
    refine ⟨by omega, ?_⟩
    have em : met s ties[k] = ties[k].2.testBit (rowN ties[k].1 s) := rfl
    cases hb : ties[k].2.testBit (rowN ties[k].1 s) with
    | true =>
      rw [if_neg (by decide)]
      refine ⟨⟨_, _, rfl⟩, fun j hj2 z => ?_⟩
      by_cases z' : j < k
      · exact hj j hj2 z'
      · have : j = k := by omega
        subst this
        rw [em, hb]
    | false =>
      rw [if_pos (by decide)]
      show D.bl false = _
      congr 1
      symm
      rw [List.all_eq_false]
      exact ⟨_, List.getElem_mem hk, by rw [em, hb]; decide⟩
  · rintro ε ⟨_, hh⟩
    rw [List.length_map] at hh
    simp only [zz,true_and]
    congr 1
    symm
    rw [List.all_eq_true]
    intro t ht
    obtain ⟨j, hj, rfl⟩ := List.mem_iff_getElem.mp ht
    exact hh j hj hj
noncomputable def aGz : DS :=
    (sSeq (aBk 0 (op2 (op2 (op2 (op2 (op2 (vB 0) (fun _ => some (D.int 1999999871)) gMod) (op2 (fun _ => some (D.int 107)) (vB 1) gMul) gAdd) (fun _ => some (D.int 1)) gAdd) (fun _ => some (D.int 2100005341)) gMul) (fun _ => some (D.int 2147483647)) gMod))
    (aCn (op2 (op2 (op2 (vB 0) (vB 0) gMul) (fun _ => some (D.int 2147483629)) gMod) (fun _ => some (D.int 19)) gFDiv)))
noncomputable def aBv : List D → Option (Bool × D) := fnD 2 aGz
theorem u__law_turn (ds : List D) (Q : Bool × D → Prop) : Ex (aBv ds) Q = Ex (aGz (aAs 2 ds)) (RetQ Q) := aCm
noncomputable def tnum (c k : Int) : Int := (c % 1999999871 + 107 * k + 1) * 2100005341 % 2147483647
noncomputable def turn (c k : Int) : Int := tnum c k * tnum c k % 2147483629 / 19
theorem e_turn (c k : Int) : aBv [.int c, .int k] = some (true, .int (turn c k)) := by
  rw [aDw, u__law_turn]
  simp only [zz,aGz]
  have h0 : 0 ≤ tnum c k := Int.emod_nonneg _ (by decide)
  have h1 : tnum c k < 2147483647 := Int.emod_lt_of_pos _ (by decide)
  refine ⟨by decide, .inl ⟨by decide, by decide⟩, .inr ⟨by decide, by decide⟩, by decide, .inl ⟨?_, ?_⟩, by decide, ⟨by decide, by decide⟩, rfl⟩
  · show -(2 ^ 64) < tnum c k; omega
  · show tnum c k < 2 ^ 64; omega
noncomputable def aHd : DEnv → Option D :=
    (compD [none, some 0] (iR1 (aAb (fun _ => some (D.int 8)) aNil)) (tgN 0) (cB (op2 (op2 (op2 (vB 1) (vB 0) gShr) (fun _ => some (D.int 1)) gAnd) (fun _ => some (D.int 1)) (gEqA false))) (vS 0))
noncomputable def aHe : DS :=
    (sSeq (sUnp [6, 7, 8] (mkT (aAb (op2 (vB 2) (vB 3) gIxA) (aAb (op2 (vB 2) (vB 4) gIxA) (aAb (op2 (vB 2) (vB 5) gIxA) aNil)))))
    (sSeq (aBk 9 (op2 (op2 (vB 6) (vB 7) gAnd) (op2 (vB 8) (op2 (vB 6) (vB 7) gOr) gAnd) gOr))
    (sIf (cB (op2 (op2 (op2 (vB 0) (vB 9) gShr) (fun _ => some (D.int 1)) gAnd) (fun _ => some (D.int 0)) (gEqA false))) (sSeq (aBk 0 (op2 (vB 0) (op2 (fun _ => some (D.int 1)) (vB 9) gShl) gOr))
    (aBk 1 (fun _ => some (D.bl true)))) sNil)))
noncomputable def aHf : DS :=
    (sFor (iR1 (aAb (vB 4) aNil)) (tgN 5) aHe)
noncomputable def aHg : DS :=
    (sFor (iR1 (aAb (vB 3) aNil)) (tgN 4) aHf)
noncomputable def aHh : DS :=
    (sSeq (aBk 1 (fun _ => some (D.bl false)))
    (sSeq (aBk 2 aHd)
    (sFor (iR1 (aAb (cb (aAb (vB 2) aNil) lenD) aNil)) (tgN 3) aHg)))
noncomputable def aHi : DEnv → Option Bool :=
    (cT (vB 1))
noncomputable def aDc : DS :=
    (sSeq (aBk 1 (fun _ => some (D.bl true)))
    (sSeq (sWhile 1000 aHi aHh)
    (sRetV 0)))
noncomputable def aBh : List D → Option (Bool × D) := fnD 10 aDc
theorem u__law_middled (ds : List D) (Q : Bool × D → Prop) : Ex (aBh ds) Q = Ex (aDc (aAs 10 ds)) (RetQ Q) := aCm
theorem mid_c1 (a b c : Nat) : mid a b c = mid b a c := by
  refine Nat.eq_of_testBit_eq fun i => ?_
  rw [mid_bit, mid_bit]
  cases a.testBit i <;> cases b.testBit i <;> cases c.testBit i <;> rfl
theorem mid_c2 (a b c : Nat) : mid a b c = mid a c b := by
  refine Nat.eq_of_testBit_eq fun i => ?_
  rw [mid_bit, mid_bit]
  cases a.testBit i <;> cases b.testBit i <;> cases c.testBit i <;> rfl
theorem mid_same (a c : Nat) : mid a a c = a := by
  refine Nat.eq_of_testBit_eq fun i => ?_
  rw [mid_bit]
  cases a.testBit i <;> cases c.testBit i <;> rfl
theorem mid_lt {a b c w : Nat} (ha : a < 2 ^ w) (hb : b < 2 ^ w) (hc : c < 2 ^ w) : mid a b c < 2 ^ w := Nat.or_lt_two_pow (Nat.lt_of_le_of_lt Nat.and_le_left ha) (Nat.lt_of_le_of_lt Nat.and_le_left hc)
theorem mid_key {R : List Nat} {P : Nat → Prop} (h1 : ∀ x ∈ R, P x) (h : ∀ i (hi : i < R.length) j (hj : j < i) k (hk : k < j), P (mid R[i] R[j] R[k])) : ∀ i (hi : i < R.length) j (hj : j < R.length) k (hk : k < R.length), P (mid R[i] R[j] R[k]) := by
  intro i hi j hj k hk
  have pi := h1 _ (List.getElem_mem hi)
  have pj := h1 _ (List.getElem_mem hj)
  by_cases e1 : i = j
  · subst e1; rw [mid_same]; exact pi
  by_cases e2 : j = k
  · subst e2; rw [mid_c1, mid_c2, mid_same]; exact pj
  by_cases e3 : i = k
  · subst e3; rw [mid_c2, mid_same]; exact pi
  by_cases a : j < i
  · by_cases b : k < j
    · exact h i hi j a k b
    · by_cases c : k < i
      · rw [mid_c2]; exact h i hi k c j (by omega)
      · rw [mid_c2, mid_c1]; exact h k hk i (by omega) j (by omega)
  · by_cases b : k < i
    · rw [mid_c1]; exact h j hj i (by omega) k b
    · by_cases c : k < j
      · rw [mid_c1, mid_c2]; exact h j hj k c i (by omega)
      · rw [mid_c1, mid_c2, mid_c1]; exact h k hk j (by omega) i (by omega)
noncomputable def rows8 (T : Nat) : List Nat := (List.range 8).filter fun r => T.testBit r
theorem mem_rows8 {T r : Nat} (h : T < 2 ^ 8) : r ∈ rows8 T ↔ T.testBit r = true := by
  unfold rows8
  rw [List.mem_filter, List.mem_range]
  exact ⟨fun q => q.2, fun q => ⟨Nat.lt_of_not_le (fun z => by rw [Nat.testBit_lt_two_pow (Nat.lt_of_lt_of_le h (Nat.pow_le_pow_right (by decide) z))] at q; cases q), q⟩⟩
structure MSt (w T T2 : Nat) (g : Bool) (C : Prop) : Prop where
  sub : ∀ t, T.testBit t = true → T2.testBit t = true
  lt : T2 < 2 ^ 2 ^ w
  gr : g = true → T < T2
  ng : g = false → T2 = T ∧ C
theorem MSt.imp {w T T2 : Nat} {g : Bool} {C C' : Prop} (h : MSt w T T2 g C) (i : C → C') : MSt w T T2 g C' := ⟨h.sub, h.lt, h.gr, fun z => ⟨(h.ng z).1, i (h.ng z).2⟩⟩
theorem MSt.le {w T T2 : Nat} {g : Bool} {C : Prop} (h : MSt w T T2 g C) : T ≤ T2 := by
  cases g with
  | true => exact Nat.le_of_lt (h.gr rfl)
  | false => exact Nat.le_of_eq (h.ng rfl).1.symm
theorem MSt.more {w T T2 : Nat} {g : Bool} {C C' : Prop} (h : MSt w T T2 g C) {r : Nat} (hr : r < 2 ^ w) (hb : T2.testBit r = false) : MSt w T (T2 ||| 2 ^ r) true C' := by
  have h1 : T2 ≤ T2 ||| 2 ^ r := Nat.left_le_or
  have h2 : T2 ≠ T2 ||| 2 ^ r := fun e => by
    have := congrArg (fun z => z.testBit r) e
    simp only [Nat.testBit_or, Nat.testBit_two_pow_self, hb, Bool.or_true] at this
    cases this
  have h3 := h.le
  refine ⟨fun t ht => ?_, Nat.or_lt_two_pow h.lt (Nat.pow_lt_pow_right (by decide) hr), (fun _ => by omega), (fun z => by cases z)⟩
  rw [Nat.testBit_or, h.sub t ht, Bool.true_or]
theorem e_middled (T w : Nat) (hw : w ≤ 3) (hT : T < 2 ^ 2 ^ w) : Ex (aBh [dN T]) fun r => ∃ T' : Nat, r.2 = dN T' ∧ T' < 2 ^ 2 ^ w ∧ (∀ t, T.testBit t = true → T'.testBit t = true) ∧ Mid T' := by
  have hz := aCe
  have h8 : 2 ^ w ≤ 2 ^ 3 := Nat.pow_le_pow_right (by omega) hw
  have lt8 : ∀ {X : Nat}, X < 2 ^ 2 ^ w → X < 2 ^ 8 := fun h => Nat.lt_of_lt_of_le h (Nat.pow_le_pow_right (by omega) h8)
  rw [u__law_middled]
  show Ex (aDc [some (false, dN T), none, none, none, none, none, none, none, none, none]) _
  simp only [zz,aDc]
  refine while_inv (fun k ε => ∃ (T2 : Nat) (g : Bool) (a b c d e f x y : Option (Bool × D)), ε = [some (false, dN T2), some (false, .bl g), a, b, c, d, e, f, x, y] ∧ T2 < 2 ^ 2 ^ w ∧ (∀ t, T.testBit t = true → T2.testBit t = true) ∧ (g = true → 256 ≤ k + T2) ∧ (g = false → Mid T2)) ?_ 1000 256 (by decide) ⟨T, true, _, _, _, _, _, _, _, _, rfl, hT, (fun _ h => h), (fun _ => by omega), (fun z => by cases z)⟩
  rintro k ε ⟨T2, g, a, b, c, d, e, f, x, y, rfl, h2, hs, hg, hn⟩
  simp only [zz,aHi]
  cases g with
  | false =>
    simp only [zz,true_and]
    exact ⟨T2, rfl, h2, hs, hn rfl⟩
  | true =>
    rw [if_pos rfl]
    have h256 : T2 < 256 := lt8 h2
    have hk := hg rfl
    refine ⟨by omega, ?_⟩
    have rl : ∀ r ∈ rows8 T2, r < 2 ^ w := fun r hr => lt_of_bit h2 ((mem_rows8 (lt8 h2)).mp hr)
    unfold aHh
    rw [aHr]
    simp only [zz,true_and]
    refine Ex.imp (Q := fun d => d = .lst ((rows8 T2).map dN)) ?_ ?_
    · simp only [zz,aHd,capL, List.getElem?_cons_zero, List.getElem?_cons_succ, Option.bind_some, Option.bind_none, Option.join_some, Option.map_some, Option.map_none, List.length_map]
      refine ⟨⟨by decide, by decide⟩, by rw [aFl]; decide, ?_⟩
      rw [show (8 : Int).toNat = 8 from rfl, rngD0]
      refine Ex.of (aHu (fun ε => ∃ a, ε = [a, some (false, dN T2)]) dN (fun r => T2.testBit r) dN _ ⟨none, rfl⟩ ?_) ?_
      · rintro r hr ε ⟨a, rfl⟩
        simp only [zz,true_and]
        refine ⟨⟨_, rfl⟩, ?_, fun _ => trivial⟩
        rw [aDw]
        simp only [zz,true_and]
        refine ⟨by omega, ?_⟩
        rw [Int.toNat_natCast, aCd]
        cases T2.testBit r <;> rfl
      · rfl
    rintro _ rfl
    have l8 : (rows8 T2).length ≤ 8 := Nat.le_trans (List.length_filter_le _ _) (by rw [List.length_range]; decide)
    simp only [zz,List.length_map]
    refine ⟨⟨by omega, by omega⟩, ?_⟩
    rw [Int.toNat_natCast]
    generalize hR : rows8 T2 = R at rl l8 ⊢
    refine aDx (fun i ε => ∃ (X : Nat) (g m : Bool) (b c d e f x y : Option (Bool × D)), ε = [some (false, dN X), some (false, .bl g), some (m, .lst (R.map dN)), b, c, d, e, f, x, y] ∧ MSt w T2 X g (∀ a (ha : a < R.length), a < i → ∀ b (hb : b < a) c (hc : c < b), T2.testBit (mid R[a] R[b] R[c]) = true)) ⟨T2, false, _, _, _, _, _, _, _, _, rfl, (fun _ h => h), h2, (fun z => by cases z), fun _ => ⟨rfl, fun a ha h => by omega⟩⟩ ?_ ?_
    · rintro i hi ε ⟨X, g, m, b, c, d, e, f, x, y, rfl, hM⟩
      simp only [zz,aHg]
      refine ⟨⟨by omega, by omega⟩, ?_⟩
      rw [Int.toNat_natCast]
      refine aDx (fun j ε => ∃ (X : Nat) (g m : Bool) (c d e f x y : Option (Bool × D)), ε = [some (false, dN X), some (false, .bl g), some (m, .lst (R.map dN)), some (false, dN i), c, d, e, f, x, y] ∧ MSt w T2 X g ((∀ a (ha : a < R.length), a < i → ∀ b (hb : b < a) c (hc : c < b), T2.testBit (mid R[a] R[b] R[c]) = true) ∧ ∀ b (hb : b < i), b < j → ∀ c (hc : c < b), T2.testBit (mid R[i] R[b] R[c]) = true)) ⟨X, g, m, _, _, _, _, _, _, rfl, hM.imp fun q => ⟨q, fun b hb h => by omega⟩⟩ ?_ ?_
      · rintro j hj ε ⟨X, g, m, c, d, e, f, x, y, rfl, hM⟩
        simp only [zz,aHf]
        refine ⟨⟨by omega, by omega⟩, ?_⟩
        rw [Int.toNat_natCast]
        refine aDx (fun k ε => ∃ (X : Nat) (g m : Bool) (d e f x y : Option (Bool × D)), ε = [some (false, dN X), some (false, .bl g), some (m, .lst (R.map dN)), some (false, dN i), some (false, dN j), d, e, f, x, y] ∧ MSt w T2 X g (((∀ a (ha : a < R.length), a < i → ∀ b (hb : b < a) c (hc : c < b), T2.testBit (mid R[a] R[b] R[c]) = true) ∧ ∀ b (hb : b < i), b < j → ∀ c (hc : c < b), T2.testBit (mid R[i] R[b] R[c]) = true) ∧ ∀ c (hc : c < j), c < k → T2.testBit (mid R[i] R[j] R[c]) = true)) ⟨X, g, m, _, _, _, _, _, rfl, hM.imp fun q => ⟨q, fun b hb h => by omega⟩⟩ ?_ ?_
        · rintro k' hk' ε ⟨X, g, m, d, e, f, x, y, rfl, hM⟩
          have ei : ∀ {i : Nat} (h : i < R.length), atI (R.map dN) (i : Int) = some (dN R[i]) := fun {i} h => by rw [atN (by rw [List.length_map]; exact h), List.getElem_map]
          have hj' : j < R.length := by omega
          have hk2 : k' < R.length := by omega
          have hml : mid R[i] R[j] R[k'] < 2 ^ w := mid_lt (rl _ (List.getElem_mem hi)) (rl _ (List.getElem_mem hj')) (rl _ (List.getElem_mem hk2))
          have em : R[i] &&& R[j] ||| R[k'] &&& (R[i] ||| R[j]) = mid R[i] R[j] R[k'] := rfl
          simp only [zz,aHe,ei hi, ei hj', ei hk2, aDk, aEo, em]
          refine ⟨by omega, by omega, ?_⟩
          rw [Int.toNat_natCast, aCd]
          cases hb : X.testBit (mid R[i] R[j] R[k']) with
          | true =>
            rw [if_pos rfl, if_neg (by decide)]
            refine ⟨X, g, m, _, _, _, _, _, rfl, hM.sub, hM.lt, hM.gr, fun z => ?_⟩
            obtain ⟨e1, q⟩ := hM.ng z
            refine ⟨e1, q.1, fun c hc h => ?_⟩
            by_cases z : c < k'
            · exact q.2 c hc z
            · have : c = k' := by omega
              subst this
              rw [← e1]; exact hb
          | false =>
            rw [show (if false = true then (1 : Int) else 0) = 0 from rfl, if_pos rfl]
            refine ⟨aCl _ (by omega), ?_⟩
            have es := shl1 (mid R[i] R[j] R[k'])
            rw [Int.toNat_natCast] at es
            rw [es, aEo]
            exact ⟨X ||| 2 ^ mid R[i] R[j] R[k'], true, m, _, _, _, _, _, rfl, hM.more hml hb⟩
        · rintro ε ⟨X, g, m, d, e, f, x, y, rfl, hM⟩
          refine ⟨X, g, m, _, _, _, _, _, _, rfl, hM.imp fun q => ⟨q.1.1, fun b hb h c hc => ?_⟩⟩
          by_cases z : b < j
          · exact q.1.2 b hb z c hc
          · have : b = j := by omega
            subst this
            exact q.2 c hc hc
      · rintro ε ⟨X, g, m, c, d, e, f, x, y, rfl, hM⟩
        refine ⟨X, g, m, _, _, _, _, _, _, _, rfl, hM.imp fun q a ha h b hb c hc => ?_⟩
        by_cases z : a < i
        · exact q.1 a ha z b hb c hc
        · have : a = i := by omega
          subst this
          exact q.2 b hb hb c hc
    · rintro ε ⟨X, g, m, b, c, d, e, f, x, y, rfl, hM⟩
      refine ⟨X, g, _, _, _, _, _, _, _, _, rfl, hM.lt, (fun t ht => hM.sub t (hs t ht)), (fun z => by have := hM.gr z; omega), fun z => ?_⟩
      obtain ⟨e1, q⟩ := hM.ng z
      subst e1
      have mr : ∀ {r : Nat}, r ∈ R ↔ X.testBit r = true := fun {r} => by rw [← hR]; exact mem_rows8 (lt8 h2)
      have key := mid_key (P := fun z => X.testBit z = true) (fun x hx => mr.mp hx) fun i hi j hj k hk => q i hi hi j hj k hk
      intro a b c ha hb hc
      obtain ⟨i, hi, rfl⟩ := List.mem_iff_getElem.mp (mr.mpr ha)
      obtain ⟨j, hj, rfl⟩ := List.mem_iff_getElem.mp (mr.mpr hb)
      obtain ⟨k, hk, rfl⟩ := List.mem_iff_getElem.mp (mr.mpr hc)
      exact key i hi j hj k hk
noncomputable def B__law_tie_1 : DS :=
    (sSeq (aBk 7 (op2 (aDb (ar 2 aBv) (aAb (vB 0) (aAb (op2 (fun _ => some (D.int 1)) (vB 6) gAdd) aNil))) (vB 1) gMod))
    (sIf (cAnd (cB (op2 (cb (aAb (vB 5) aNil) lenD) (vB 4) gLt)) (cB (op2 (vB 7) (vB 5) (gIn true)))) (sApp 5 (vS 7)) sNil))
noncomputable def K__law_tie_1 : DEnv → Option D :=
    (compD [none, some 0] (iR1 (aAb (vB 8) aNil)) (tgN 0) (cB (op2 (op2 (aDb (ar 2 aBv) (aAb (vB 1) (aAb (op2 (fun _ => some (D.int 30)) (vB 0) gAdd) aNil))) (fun _ => some (D.int 5)) gMod) (op2 (fun _ => some (D.int 1)) (op2 (aDb (ar 2 aBv) (aAb (vB 1) (aAb (fun _ => some (D.int 29)) aNil))) (fun _ => some (D.int 3)) gMod) gAdd) gGt)) (op2 (fun _ => some (D.int 1)) (vB 0) gShl))
noncomputable def aGe : DS :=
    (sSeq (aBk 4 (op2 (fun _ => some (D.int 1)) (op2 (aDb (ar 2 aBv) (aAb (vB 0) (aAb (fun _ => some (D.int 0)) aNil))) (cb (aAb (fun _ => some (D.int 3)) (aAb (vB 1) aNil)) minD) gMod) gAdd))
    (sSeq (aBk 5 (mkL aNil))
    (sSeq (sFor (iR1 (aAb (fun _ => some (D.int 20)) aNil)) (tgN 6) B__law_tie_1)
    (sSeq (aBk 8 (op2 (fun _ => some (D.int 1)) (cb (aAb (vB 5) aNil) lenD) gShl))
    (sSeq (aBk 9 (cb (aAb K__law_tie_1 aNil) sumD))
    (sSeq (sIf (cB (op2 (vB 2) (fun _ => some (D.int 0)) gGe)) (aBk 9 (op2 (vB 9) (op2 (fun _ => some (D.int 1)) (aDb (ar 2 aCu) (aAb (vB 5) (aAb (vB 2) aNil))) gShl) gOr)) sNil)
    (sSeq (sIf (cT (vB 3)) (aBk 9 (aDb (ar 1 aBh) (aAb (vB 9) aNil))) sNil)
    (sPub [9] (aCn (mkT (aAb (cb (aAb (vB 5) aNil) tupleD) (aAb (vS 9) aNil))))))))))))
noncomputable def aGf : List D → Option (Bool × D) := fnD 10 aGe
theorem u__law_tie (ds : List D) (Q : Bool × D → Prop) : Ex (aGf ds) Q = Ex (aGe (aAs 10 ds)) (RetQ Q) := aCm
noncomputable def hidD : Option Nat → D
  | some s => dN s
  | none => .int (-1)
theorem e_tie (c : Int) (many : Nat) (hid : Option Nat) (kept : Bool) (h1 : 1 ≤ many) (h2 : many ≤ 12) : Ex (aGf [.int c, dN many, hidD hid, .bl kept]) fun r => ∃ t : Tie, r.2 = tieD t ∧ (TieOk t ∧ t.1.Nodup ∧ (∀ u ∈ t.1, u < many) ∧ 0 < t.1.length ∧ t.1.length ≤ 3) ∧ ∀ s, hid = some s → met s t = true := by
  rw [u__law_tie]
  have hz := aCe
  show Ex (aGe [some (false, .int c), some (false, dN many), some (false, hidD hid), some (false, .bl kept), none, none, none, none, none, none]) _
  unfold aGe
  refine aFx (P := fun d => ∃ r : Nat, d = .int (1 + r) ∧ r < 3) ?_ ?_
  · simp only [zz,e_turn]
    obtain ⟨lo, hlo, l1, l2⟩ : ∃ lo : Nat, (if (many : Int) < 3 then (many : Int) else 3) = lo ∧ 1 ≤ lo ∧ lo ≤ 3 := by
      split
      · exact ⟨many, rfl, by omega, by omega⟩
      · exact ⟨3, rfl, by omega, by omega⟩
    rw [hlo]
    obtain ⟨r, hr, hr1⟩ := mod_nat (turn c 0) (show 0 < lo by omega)
    rw [hr]
    exact ⟨by omega, r, rfl, by omega⟩
  rintro _ ⟨r, rfl, hr⟩
  refine aFx (P := fun d => d = .lst []) (by simp only [zz,true_and]; omega) ?_
  rintro _ rfl
  refine aHv (P := fun ε => ∃ (scope : List Nat) (a b : Option (Bool × D)), ε = [some (false, .int c), some (false, dN many), some (false, hidD hid), some (false, .bl kept), some (false, .int (1 + r)), some (true, .lst (scope.map dN)), a, b, none, none] ∧ (scope.length ≤ 3 ∧ 0 < scope.length) ∧ scope.Nodup ∧ ∀ u ∈ scope, u < many) ?_ ?_
  · simp only [zz,true_and]
    refine ⟨⟨by decide, by decide⟩, ?_⟩
    refine aDx (n := 20) (fun j ε => ∃ (scope : List Nat) (a b : Option (Bool × D)), ε = [some (false, .int c), some (false, dN many), some (false, hidD hid), some (false, .bl kept), some (false, .int (1 + r)), some (true, .lst (scope.map dN)), a, b, none, none] ∧ (scope.length ≤ 3 ∧ (0 < j → 0 < scope.length)) ∧ scope.Nodup ∧ ∀ u ∈ scope, u < many) ⟨[], _, _, rfl, ⟨by simp, by omega⟩, by simp, by simp⟩ ?_ ?_
    · rintro j hj ε ⟨scope, a, b, rfl, hl, hn, hu⟩
      simp only [zz,B__law_tie_1,e_turn, List.length_map]
      obtain ⟨x, hx, hx1⟩ := mod_nat (turn c (1 + j)) (show 0 < many by omega)
      rw [hx]
      refine ⟨by omega, ?_⟩
      by_cases z : (scope.length : Int) < 1 + r
      · rw [if_pos z]
        have e := notIn_dN (x := x) (rows := scope)
        simp only [dN] at e
        simp only [zz,e]
        by_cases y : x ∈ scope
        · rw [if_neg (by simpa using y)]
          exact ⟨scope, _, _, rfl, ⟨hl.1, fun _ => by have := List.length_pos_of_mem y; omega⟩, hn, hu⟩
        · rw [if_pos (by simpa using y)]
          refine ⟨by omega, scope ++ [x], _, _, by rw [List.map_append]; rfl, ⟨by rw [List.length_append, List.length_singleton]; omega, fun _ => by rw [List.length_append, List.length_singleton]; omega⟩, ?_, fun u hu' => ?_⟩
          · refine List.nodup_append.mpr ⟨hn, by simp, fun a ha b hb e => ?_⟩
            rw [List.mem_singleton.mp hb] at e
            exact y (e ▸ ha)
          · rcases List.mem_append.mp hu' with h | h
            · exact hu u h
            · rw [List.mem_singleton.mp h]; exact hx1
      · rw [if_neg z]
        exact ⟨scope, _, _, rfl, ⟨hl.1, fun _ => by omega⟩, hn, hu⟩
    · rintro ε ⟨scope, a, b, rfl, h, h'⟩
      exact ⟨_, rfl, scope, a, b, rfl, ⟨h.1, h.2 (by decide)⟩, h'⟩
  rintro _ ⟨scope, a, b, rfl, ⟨hl3, hl0⟩, hn, hu⟩
  have hl : scope.length ≤ 4 := by omega
  have h3 := Nat.two_pow_pos scope.length
  have h4 : 2 ^ scope.length ≤ 2 ^ 4 := Nat.pow_le_pow_right (by omega) hl
  refine aFx (P := fun d => d = dN (2 ^ scope.length)) ?_ ?_
  · simp only [zz,List.length_map, shl1]
    first
      | exact ⟨aCl _ (by omega), trivial⟩
      | exact aCl _ (by omega)
  rintro _ rfl
  refine aFx (P := fun d => ∃ T : Nat, d = dN T ∧ T < 2 ^ 2 ^ scope.length) ?_ ?_
  · simp only [zz,K__law_tie_1,capL, List.getElem?_cons_zero, List.getElem?_cons_succ, Option.bind_some, Option.bind_none, Option.join_some, Option.map_some, Option.map_none, List.length_map, shl1]
    refine ⟨⟨by omega, by omega⟩, by rw [aFl]; omega, ?_⟩
    rw [Int.toNat_natCast, rngD0]
    refine Ex.of (aHu (fun ε => ∃ a, ε = [a, some (false, .int c)]) dN (fun k => decide (1 + turn c 29 % 3 < turn c (30 + k) % 5)) (fun k => dN (2 ^ k)) _ ⟨none, rfl⟩ ?_) ?_
    · rintro k hk ε ⟨a, rfl⟩
      have hk := List.mem_range.mp hk
      simp only [zz,true_and]
      refine ⟨⟨_, rfl⟩, ?_, fun _ => ?_⟩
      · rw [aDw]
        simp only [zz,e_turn]
        first
          | exact ⟨by decide, by decide, rfl⟩
          | exact ⟨by decide, by decide⟩
          | exact ⟨by decide, by decide, trivial⟩
      · rw [aDw]
        simp only [zz,shl1]
        first
          | exact ⟨aCl _ (by omega), trivial⟩
          | exact aCl _ (by omega)
    · rw [show (fun k : Nat => dN (2 ^ k)) = dN ∘ fun k => 2 ^ k from rfl, ← List.map_map, sumD_nat, aAg, sum_powN]
      exact ⟨_, rfl, ofBits_lt _ _⟩
  rintro _ ⟨T0, rfl, hT0⟩
  refine aHv (P := fun ε => ∃ T : Nat, ε = [some (false, .int c), some (false, dN many), some (false, hidD hid), some (false, .bl kept), some (false, .int (1 + r)), some (true, .lst (scope.map dN)), a, b, some (false, dN (2 ^ scope.length)), some (false, dN T)] ∧ T < 2 ^ 2 ^ scope.length ∧ ∀ s, hid = some s → T.testBit (rowN scope s) = true) ?_ ?_
  · cases hid with
    | none =>
      simp only [zz,hidD]
      rw [if_neg (by decide)]
      exact ⟨_, rfl, T0, rfl, hT0, fun s e => by cases e⟩
    | some s =>
      have hr := rowN_lt scope s
      simp only [zz,hidD,e_rowL scope s hl, shl1, aEo]
      rw [if_pos (by omega)]
      refine ⟨aCl _ (by omega), _, rfl, T0 ||| 2 ^ rowN scope s, rfl, Nat.or_lt_two_pow hT0 (Nat.pow_lt_pow_right (by omega) hr), fun s' e => ?_⟩
      cases e
      rw [Nat.testBit_or, Nat.testBit_two_pow]
      simp
  rintro _ ⟨T1, rfl, hT1, m1⟩
  refine aHv (P := fun ε => ∃ T : Nat, ε = [some (false, .int c), some (false, dN many), some (false, hidD hid), some (false, .bl kept), some (false, .int (1 + r)), some (true, .lst (scope.map dN)), a, b, some (false, dN (2 ^ scope.length)), some (false, dN T)] ∧ T < 2 ^ 2 ^ scope.length ∧ ∀ s, hid = some s → T.testBit (rowN scope s) = true) ?_ ?_
  · cases kept with
    | false =>
      simp only [zz,true_and]
      exact ⟨_, rfl, T1, rfl, hT1, m1⟩
    | true =>
      simp only [zz,true_and]
      refine (e_middled T1 scope.length hl3 hT1).imp ?_
      rintro ⟨fr, d⟩ ⟨T', e, q1, q2, _⟩
      simp only at e
      subst e
      exact ⟨rfl, _, rfl, T', rfl, q1, fun s e => q2 _ (m1 s e)⟩
  rintro _ ⟨T, rfl, hT, m⟩
  simp only [zz,List.length_map]
  exact ⟨by omega, (scope, T), rfl, ⟨⟨hl, hT⟩, hn, hu, hl0, hl3⟩, m⟩
noncomputable def B_law_1 : DS :=
    (sPub [1] (sApp 5 (callS (ar 4 aGf) [] (aAb (vS 6) (aAb (vS 1) (aAb (vS 4) (aAb (op2 (op2 (op2 (vB 2) (fun _ => some (D.int 2)) gFDiv) (fun _ => some (D.int 4)) gMod) (fun _ => some (D.int 0)) gGt) aNil)))))))
noncomputable def K_law_1 : DEnv → Option D :=
    (compD [none] (iS (vB 5)) (tgN 0) (cB (op2 (aDb (ar 1 aBh) (aAb (op2 (vB 0) (fun _ => some (D.int 1)) gIxA) aNil)) (op2 (vB 0) (fun _ => some (D.int 1)) gIxA) (gEqA true))) (vS 0))
noncomputable def K_law_2 : DEnv → Option D :=
    (compD [none, some 7] (iR1 (aAb (op2 (fun _ => some (D.int 1)) (vB 1) gShl) aNil)) (tgN 0) (cT (aDb (ar 2 aDm) (aAb (vB 1) (aAb (vB 0) aNil)))) (vS 0))
noncomputable def F_law : DS :=
    (sSeq (aBk 1 (op2 (aDb (ar 2 aBg) (aAb (vB 0) (aAb (fun _ => some (D.int 0)) aNil))) (fun _ => some (D.int 8)) gMod))
    (sSeq (aBk 2 (op2 (aDb (ar 2 aBg) (aAb (vB 0) (aAb (fun _ => some (D.int 0)) aNil))) (fun _ => some (D.int 8)) gFDiv))
    (sSeq (aBk 3 (op2 (op2 (aDb (ar 2 aBv) (aAb (vB 2) (aAb (fun _ => some (D.int 90)) aNil))) (fun _ => some (D.int 8)) gMod) (fun _ => some (D.int 1)) (gEqA false)))
    (sSeq (sIf (cT (vB 3)) (aBk 1 (op2 (fun _ => some (D.int 8)) (op2 (vB 1) (fun _ => some (D.int 2)) gMod) gAdd)) sNil)
    (sSeq (aBk 4 (op1 (fun _ => some (D.int 1)) gNeg))
    (sSeq (sIf (cB (op2 (op2 (vB 2) (fun _ => some (D.int 2)) gMod) (fun _ => some (D.int 1)) (gEqA false))) (aBk 4 (op2 (aDb (ar 2 aBg) (aAb (vB 0) (aAb (fun _ => some (D.int 1)) aNil))) (op2 (fun _ => some (D.int 1)) (vB 1) gShl) gMod)) sNil)
    (sSeq (aBk 5 (mkL aNil))
    (sSeq (sFor (iS (op2 (slD (vB 0) (oSome (fun _ => some (D.int 2))) (oSome (op2 (mkL (aAb (fun _ => some (D.int 12)) (aAb (fun _ => some (D.int 18)) aNil))) (cb (aAb (vB 3) aNil) intD) gIxA)) gSlL) (cb (aAb (op2 (vB 1) (fun _ => some (D.int 0)) gGt) aNil) intD) gRep)) (tgN 6) B_law_1)
    (sSeq (sPub [1] (aBk 7 (mkT (aAb (vS 1) (aAb (cb (aAb (vB 5) aNil) tupleD) aNil)))))
    (sSeq (aBk 8 K_law_1)
    (sSeq (sAsgS 9 (callS (ar 1 s_paired) [] (aAb (vS 7) aNil)))
    (sSeq (sIf (cB (op2 (vB 9) (fun _ => some D.non) (gIsN false))) (aCn (op2 (vB 8) (mkL aNil) (gEqA true))) sNil)
    (sSeq (sIf (cOr (cNot (cT (op1 (vB 9) (isiD "tuple")))) (cB (op2 (cb (aAb (vB 9) aNil) lenD) (fun _ => some (D.int 2)) (gEqA true)))) (aCn (fun _ => some (D.bl false))) sNil)
    (sSeq (sIf (cAnd (cB (op2 (vB 8) (mkL aNil) (gEqA false))) (cAnd (cT (vB 3)) (cAnd (cB (op2 (vB 4) (fun _ => some (D.int 0)) gGe)) (cB (op2 (op2 (vB 9) (fun _ => some (D.int 0)) gIxA) (fun _ => some (D.str "set")) (gEqA true)))))) (aCn (fun _ => some (D.bl false))) sNil)
    (sSeq (sIf (cAnd (cB (op2 (vB 8) (mkL aNil) (gEqA false))) (cNot (cT (vB 3)))) (sSeq (aBk 10 (op2 K_law_2 (mkL aNil) (gEqA true)))
    (sIf (cB (op2 (op2 (vB 9) (fun _ => some (D.int 0)) gIxA) (op2 (mkL (aAb (fun _ => some (D.str "none")) (aAb (fun _ => some (D.str "set")) aNil))) (cb (aAb (vB 10) aNil) intD) gIxA) (gEqA true))) (aCn (fun _ => some (D.bl false))) sNil)) sNil)
    (sSeq (sIf (cB (op2 (op2 (vB 9) (fun _ => some (D.int 0)) gIxA) (fun _ => some (D.str "none")) (gEqA false))) (sRetS (callS (ar 2 aFi) [] (aAb (vS 7) (aAb (op2 (vB 9) (fun _ => some (D.int 1)) gIxA) aNil)))) sNil)
    (sRetS (vAnd (op2 (op2 (vB 9) (fun _ => some (D.int 0)) gIxA) (fun _ => some (D.str "set")) (gEqA false)) (vAnd (aDb (ar 1 aCq) (aAb (op2 (vB 9) (fun _ => some (D.int 1)) gIxA) aNil)) (vAnd (vChain (fun _ => some (D.int 0)) (op2 (vB 9) (fun _ => some (D.int 1)) gIxA) (op2 (fun _ => some (D.int 1)) (vB 1) gShl) gLe gLt) (aDb (ar 2 aDm) (aAb (vB 7) (aAb (op2 (vB 9) (fun _ => some (D.int 1)) gIxA) aNil)))))))))))))))))))))))
noncomputable def s_law : List D → Option (Bool × D) := fnD 11 F_law
theorem u_law (ds : List D) (Q : Bool × D → Prop) : Ex (s_law ds) Q = Ex (F_law (aAs 11 ds)) (RetQ Q) := aCm
noncomputable def midP (t : Tie) : Bool := match aBh [dN t.2] with
  | some (_, .int x) => !decide (x = t.2)
  | _ => false
theorem e_midP (t : Tie) (ok : TieOk t) (h3 : t.1.length ≤ 3) : ∃ (fr : Bool) (T' : Nat), aBh [dN t.2] = some (fr, dN T') ∧ midP t = !decide ((T' : Int) = t.2) ∧ (midP t = false → Mid t.2) := by
  obtain ⟨⟨fr, d⟩, q, T', e, _, _, h⟩ := e_middled t.2 t.1.length h3 ok.tab
  simp only at e
  subst e
  have e2 : midP t = !decide ((T' : Int) = t.2) := by unfold midP; rw [q]
  refine ⟨fr, T', q, e2, fun z => ?_⟩
  rw [e2] at z
  have z2 : (T' : Int) = t.2 := by simpa using z
  have z3 : T' = t.2 := by omega
  rw [← z3]; exact h
theorem ex_takeS {c : DEnv → Option Bool} {f : DEnv → Option D} {G H : DS} {ε : DEnv} {Q : Out → Prop} (h : Ex (c ε) fun b => b = true) (k : Ex (f ε) fun d => Q (.rt false d)) : Ex (sSeq (sIf c (sRetS f) H) G ε) Q := by
  rw [aHr, ex_if]
  refine h.imp fun b e => ?_
  subst e
  rw [if_pos rfl, ex_retS]
  exact k
theorem e_law (ns : List Int) (hl : ns.length ≤ 63) : Ex (s_law [.lst (ns.map .int)]) fun r => r.2 = .bl true := by
  rw [u_law]
  have hz := aCe
  obtain ⟨⟨fc, dc⟩, qc, c, rfl⟩ := e_cell_at ns 0
  have qc' : aBg [.lst (ns.map .int), .int 0] = some (fc, .int c) := qc
  obtain ⟨⟨fc1, dc1⟩, qc1, c1, rfl⟩ := e_cell_at ns 1
  have qc1' : aBg [.lst (ns.map .int), .int 1] = some (fc1, .int c1) := qc1
  show Ex (F_law [some (false, .lst (ns.map .int)), none, none, none, none, none, none, none, none, none, none]) _
  unfold F_law
  refine aFx (P := fun d => ∃ m : Nat, d = dN m ∧ m < 8) ?_ ?_
  · simp only [zz,qc']
    obtain ⟨x, hx, hx1⟩ := mod_nat c (show 0 < 8 by omega)
    have hx : c % 8 = x := hx
    rw [hx]
    exact ⟨by decide, x, rfl, hx1⟩
  rintro _ ⟨m0, rfl, hm0⟩
  refine aFx (P := fun d => ∃ shape : Int, d = .int shape) ?_ ?_
  · simp only [zz,qc']
    exact ⟨by decide, _, rfl⟩
  rintro _ ⟨shape, rfl⟩
  refine aFx (P := fun d => ∃ w : Bool, d = .bl w) ?_ ?_
  · simp only [zz,e_turn]
    exact ⟨by decide, _, rfl⟩
  rintro _ ⟨wide, rfl⟩
  refine aHv (P := fun ε => ∃ many : Nat, ε = [some (false, .lst (ns.map .int)), some (false, dN many), some (false, .int shape), some (false, .bl wide), none, none, none, none, none, none, none] ∧ many ≤ 9) ?_ ?_
  · cases wide with
    | false => simp only [zz,true_and]; exact ⟨_, rfl, m0, rfl, by omega⟩
    | true =>
      simp only [zz,true_and]
      obtain ⟨x, hx, hx1⟩ := mod_nat (m0 : Int) (show 0 < 2 by omega)
      have hx : (m0 : Int) % 2 = x := hx
      rw [hx, show (8 : Int) + x = ((8 + x : Nat) : Int) by omega]
      exact ⟨by decide, _, rfl, 8 + x, rfl, by omega⟩
  rintro _ ⟨many, rfl, hm⟩
  have p0 := Nat.two_pow_pos many
  have p12 : 2 ^ many ≤ 2 ^ 9 := Nat.pow_le_pow_right (by omega) hm
  refine aFx (P := fun d => d = hidD none) (by simp only [zz,hidD]) ?_
  rintro _ rfl
  refine ex_optset (fun x : Option Nat => [some (false, .lst (ns.map .int)), some (false, dN many), some (false, .int shape), some (false, .bl wide), some (false, hidD x), none, none, none, none, none, none]) hidD (n0 := none) (fun a => by cases a <;> rfl) ?_ ?_ ?_
  · simp only [zz,true_and]
    first
      | trivial
      | decide
  · intro _
    simp only [zz,qc1', shl1]
    obtain ⟨s, hs, _⟩ := mod_nat c1 p0
    rw [hs]
    exact ⟨aCl _ (by omega), by omega, some s, rfl⟩
  intro hid
  refine aFx (P := fun d => d = .lst []) (by simp only [zz,true_and]; omega) ?_
  rintro _ rfl
  refine aHv (P := fun ε => ∃ (ties : List Tie) (a : Option (Bool × D)), ε = [some (false, .lst (ns.map .int)), some (false, dN many), some (false, .int shape), some (false, .bl wide), some (false, hidD hid), some (true, .lst (ties.map tieD)), a, none, none, none, none] ∧ ties.length ≤ 63 ∧ ∀ t ∈ ties, (TieOk t ∧ t.1.Nodup ∧ (∀ u ∈ t.1, u < many) ∧ 0 < t.1.length ∧ t.1.length ≤ 3) ∧ ∀ s, hid = some s → met s t = true) ?_ ?_
  · have e12 : atI [D.int 12, D.int 18] (if wide = true then 1 else 0) = some (.int (if wide = true then 18 else 12)) := by cases wide <;> rfl
    obtain ⟨hi, hhi⟩ : ∃ hi : Int, (if wide = true then (18 : Int) else 12) = hi := ⟨_, rfl⟩
    rw [hhi] at e12
    have hcl := cutD_len (xs := ns.map D.int) (lo := some 2) (hi := some hi)
    rw [List.length_map] at hcl
    have er : ∀ b : Bool, gRep (D.lst (cutD (List.map D.int ns) (some 2) (some hi))) (D.int (if b = true then 1 else 0)) = _ := fun b => rep_01 (b := b) (by omega)
    simp only [zz,e12]
    refine ⟨by omega, ?_⟩
    by_cases z : 0 < many
    · have er1 := er true
      rw [if_pos rfl, if_pos rfl] at er1
      rw [if_pos (by omega), er1]
      simp only [zz,true_and]
      refine loop_ix (fun k ε => ∃ (ties : List Tie) (a : Option (Bool × D)), ε = [some (false, .lst (ns.map .int)), some (false, dN many), some (false, .int shape), some (false, .bl wide), some (false, hidD hid), some (true, .lst (ties.map tieD)), a, none, none, none, none] ∧ ties.length ≤ k ∧ ∀ t ∈ ties, (TieOk t ∧ t.1.Nodup ∧ (∀ u ∈ t.1, u < many) ∧ 0 < t.1.length ∧ t.1.length ≤ 3) ∧ ∀ s, hid = some s → met s t = true) ⟨[], _, rfl, by simp, by simp⟩ ?_ ?_
      · rintro k hk ε ⟨ties, a, rfl, tl, ht⟩
        have hic : ∃ c, (cutD (ns.map D.int) (some 2) (some hi))[k] = .int c := by
          obtain ⟨c, _, e⟩ := List.mem_map.mp (cutD_mem (List.getElem_mem hk)); exact ⟨c, e.symm⟩
        obtain ⟨cell, hcell⟩ := hic
        rw [hcell]
        simp only [zz,B_law_1]
        refine ⟨by decide, by decide, (e_tie cell many hid _ z (by omega)).imp ?_⟩
        rintro ⟨fr, d⟩ ⟨t, e, t1, t2⟩
        simp only at e
        subst e
        refine ⟨by rw [List.length_map]; omega, ties ++ [t], _, by rw [List.map_append]; rfl, by rw [List.length_append, List.length_singleton]; omega, fun u hu => ?_⟩
        rcases List.mem_append.mp hu with h | h
        · exact ht u h
        · rw [List.mem_singleton.mp h]; exact ⟨t1, t2⟩
      · rintro ε ⟨ties, a, rfl, tl, ht⟩
        exact ⟨_, rfl, ties, a, rfl, by omega, ht⟩
    · have er0 := er false
      rw [if_neg Bool.false_ne_true, if_neg Bool.false_ne_true] at er0
      rw [if_neg (by omega), er0]
      simp only [zz,loopD]
      exact ⟨_, rfl, [], _, rfl, by simp, by simp⟩
  rintro _ ⟨ties, a, rfl, tl, hT⟩
  refine aHv (P := fun ε => ∃ (f : Bool), ε = [some (false, .lst (ns.map .int)), some (false, dN many), some (false, .int shape), some (false, .bl wide), some (false, hidD hid), some (f, .lst (ties.map tieD)), a, some (false, .tup [dN many, .tup (ties.map tieD)]), none, none, none]) ?_ ?_
  · simp only [zz,List.length_map]
    exact ⟨by omega, _, rfl, _, rfl⟩
  rintro _ ⟨f, rfl⟩
  refine aFx (P := fun d => d = .lst ((ties.filter midP).map tieD)) ?_ ?_
  · simp only [zz,K_law_1,capL, List.getElem?_cons_zero, List.getElem?_cons_succ, Option.bind_some, Option.bind_none, Option.join_some, Option.map_some, Option.map_none, List.length_map]
    refine ⟨by omega, ?_⟩
    refine Ex.of (aHu (fun ε => ∃ a, ε = [a]) tieD midP tieD ties ⟨none, rfl⟩ ?_) ?_
    · rintro t ht ε ⟨a, rfl⟩
      obtain ⟨fr, T', q, e, _⟩ := e_midP t (hT t ht).1.1 (hT t ht).1.2.2.2.2
      simp only [zz,tieD]
      refine ⟨⟨_, rfl⟩, ?_, fun _ => trivial⟩
      rw [aDw]
      simp only [zz,at1, q]
      rw [e]
    · rfl
  rintro _ rfl
  have N : NetOk many ties := ⟨fun e he => (hT e he).1.1, fun e he => (hT e he).1.2.2.1⟩
  obtain ⟨rs, Rn, fx, qp⟩ := e_paired many ties N (by omega)
  refine ex_asgS1 (P := fun d => d = pairedD ties many rs) ?_ ?_
  · simp only [zz,qp]
  rintro d hd
  have htri : (d = .tup [.str "none", .tup (aAo rs)] ∧ aEp rs = true ∧ ∀ s, ∃ e ∈ ties, met s e = false) ∨ (∃ s, d = .tup [.str "set", dN s] ∧ s < 2 ^ many ∧ ∀ e ∈ ties, met s e = true) ∨ (d = .non ∧ ∃ e ∈ ties, midP e = true) := by
    unfold pairedD at hd
    cases hs : aEp rs with
    | true =>
      rw [hs, if_pos rfl] at hd
      refine .inl ⟨hd, rfl, fun s => ?_⟩
      by_cases z : ∀ e ∈ ties, met s e = true
      · have := never_shut N z Rn.rch
        rw [hs] at this
        cases this
      · obtain ⟨e, hz⟩ := Classical.not_forall.mp z
        obtain ⟨he, hz⟩ := Classical.not_imp.mp hz
        exact ⟨e, he, by simpa using hz⟩
    | false =>
      have S := Rn.still N fx hs
      rw [hs, if_neg (by decide)] at hd
      cases ha : ties.all (met (aGt rs many)) with
      | true =>
        rw [ha, if_pos rfl] at hd
        exact .inr (.inl ⟨_, hd, (chosen_all N S many (Nat.le_refl _)).lt, fun e he => List.all_eq_true.mp ha e he⟩)
      | false =>
        rw [ha, if_neg (by decide)] at hd
        refine .inr (.inr ⟨hd, ?_⟩)
        by_cases z : ∃ e ∈ ties, midP e = true
        · exact z
        · exfalso
          have hM : ∀ e ∈ ties, Mid e.2 := fun e he => by
            obtain ⟨_, _, _, _, q⟩ := e_midP e (hT e he).1.1 (hT e he).1.2.2.2.2
            refine q ?_
            cases h : midP e with
            | false => rfl
            | true => exact absurd ⟨e, he, h⟩ z
          have := chosen_meets N S (fun e he => ⟨(hT e he).1.2.2.2.1, (hT e he).1.2.2.2.2, (hT e he).1.2.1⟩) hM
          rw [List.all_eq_true.mpr this] at ha
          cases ha
  have hK : ∀ x : Option (Bool × D), Ex (K_law_2 [some (false, .lst (ns.map .int)), some (false, dN many), some (false, .int shape), some (false, .bl wide), some (false, hidD hid), some (f, .lst (ties.map tieD)), a, some (false, .tup [dN many, .tup (ties.map tieD)]), some (true, .lst ((ties.filter midP).map tieD)), x, none]) fun d => d = .lst (((List.range (2 ^ many)).filter fun s => ties.all (met s)).map dN) := fun x => by
    simp only [zz,K_law_2,capL, List.getElem?_cons_zero, List.getElem?_cons_succ, Option.bind_some, Option.bind_none, Option.join_some, Option.map_some, Option.map_none, List.length_map, shl1]
    refine ⟨aCl _ (by omega), ⟨by omega, by omega⟩, by rw [aFl]; omega, ?_⟩
    rw [Int.toNat_natCast, rngD0]
    refine Ex.of (aHu (fun ε => ∃ a, ε = [a, some (false, .tup [dN many, .tup (ties.map tieD)])]) dN (fun s => ties.all (met s)) dN _ ⟨none, rfl⟩ ?_) ?_
    · rintro s hs ε ⟨a, rfl⟩
      obtain ⟨⟨fr, d⟩, q, e⟩ := e_meets (dN many) ties s fun t ht => (hT t ht).1.1
      simp only at e
      subst e
      simp only [zz,true_and]
      refine ⟨⟨_, rfl⟩, ?_, fun _ => trivial⟩
      rw [aDw]
      simp only [zz,q]
    · rfl
  obtain ⟨E, hE⟩ : ∃ E, ((ties.filter midP).map tieD).isEmpty = E := ⟨_, rfl⟩
  have km : isMut (D.lst ((ties.filter midP).map tieD)) = true := rfl
  have n22 : (((2 : Nat) : Int) = 2) = True := eq_true rfl
  clear hd
  rcases htri with ⟨rfl, hsT, hno⟩ | ⟨s, rfl, hs, hme⟩ | ⟨rfl, e, he, hA⟩
  · cases hid with
    | some s =>
      exfalso
      obtain ⟨e, he, hm'⟩ := hno s
      rw [(hT e he).2 s rfl] at hm'
      cases hm'
    | none =>
      have hfe : ((List.range (2 ^ many)).filter fun s => ties.all (met s)) = [] := by
        rw [List.filter_eq_nil_iff]
        intro s _ h
        obtain ⟨e, he, hm'⟩ := hno s
        rw [List.all_eq_true.mp h e he] at hm'
        cases hm'
      have hK' := hK (some (false, .tup [.str "none", .tup (aAo rs)]))
      rw [hfe] at hK'
      have hsh := e_shut many ties rs N (by omega) Rn.rch hsT Rn.rch.noT
      refine aCf (by simp only [zz,true_and]) (aCf (by simp only [zz,n22]) (aCf ?_ (aHv (P := fun ε => ∃ x, ε = [some (false, .lst (ns.map .int)), some (false, dN many), some (false, .int shape), some (false, .bl wide), some (false, hidD none), some (f, .lst (ties.map tieD)), a, some (false, .tup [dN many, .tup (ties.map tieD)]), some (true, .lst ((ties.filter midP).map tieD)), some (false, .tup [.str "none", .tup (aAo rs)]), x]) ?_ ?_)))
      · cases wide <;> cases E <;> simp only [zz,hidD,sEqNil, hE]
        all_goals first
          | exact ⟨by omega, by decide⟩
          | omega
          | exact ⟨by omega, trivial⟩
      · cases wide <;> cases E
        · simp only [zz,sEqNil, hE]
          exact ⟨by omega, _, rfl, _, rfl⟩
        · simp only [zz,sEqNil, hE]
          refine ⟨by omega, hK'.imp ?_⟩
          rintro _ rfl
          simp only [zz,sNeNil, List.isEmpty_nil, at0]
          exact ⟨by omega, by omega, _, rfl, _, rfl⟩
        · simp only [zz,sEqNil, hE]
          exact ⟨by omega, _, rfl, _, rfl⟩
        · simp only [zz,sEqNil, hE]
          exact ⟨by omega, _, rfl, _, rfl⟩
      · rintro _ ⟨x, rfl⟩
        refine ex_takeS (by simp only [zz,at0]) ?_
        simp only [zz,at1]
        exact hsh
  · have hfe : ((List.range (2 ^ many)).filter fun s => ties.all (met s)) ≠ [] := fun z => by
      have : s ∈ (List.range (2 ^ many)).filter fun s => ties.all (met s) := List.mem_filter.mpr ⟨List.mem_range.mpr hs, List.all_eq_true.mpr hme⟩
      rw [z] at this
      cases this
    obtain ⟨x0, xs, hx⟩ : ∃ x0 xs, ((List.range (2 ^ many)).filter fun s => ties.all (met s)) = x0 :: xs := by
      cases h : ((List.range (2 ^ many)).filter fun s => ties.all (met s)) with
      | nil => exact absurd h hfe
      | cons x0 xs => exact ⟨_, _, rfl⟩
    have hK' := hK (some (false, .tup [.str "set", dN s]))
    rw [hx] at hK'
    obtain ⟨⟨fr, d⟩, qm, e⟩ := e_meets (dN many) ties s fun t ht => (hT t ht).1.1
    simp only at e
    subst e
    rw [List.all_eq_true.mpr hme] at qm
    obtain ⟨⟨fr2, d2⟩, qw, e⟩ := e_whole_i (s : Int)
    simp only at e
    subst e
    refine aCf (by simp only [zz,true_and]) (aCf (by simp only [zz,n22]) (aCf ?_ (aHv (P := fun ε => ∃ x, ε = [some (false, .lst (ns.map .int)), some (false, dN many), some (false, .int shape), some (false, .bl wide), some (false, hidD hid), some (f, .lst (ties.map tieD)), a, some (false, .tup [dN many, .tup (ties.map tieD)]), some (true, .lst ((ties.filter midP).map tieD)), some (false, .tup [.str "set", dN s]), x]) ?_ ?_)))
    · cases hid <;> cases wide <;> cases E <;> simp only [zz,hidD,sEqNil, hE, at0]
      all_goals first
        | omega
        | exact ⟨by omega, by decide⟩
        | exact ⟨by omega, trivial⟩
        | (refine ⟨by omega, ?_⟩; split <;> rfl)
    · cases wide <;> cases E
      · simp only [zz,sEqNil, hE]
        exact ⟨by omega, _, rfl, _, rfl⟩
      · simp only [zz,sEqNil, hE]
        refine ⟨by omega, hK'.imp ?_⟩
        rintro _ rfl
        simp only [zz,sNeNil, List.isEmpty_cons, at0, at1]
        exact ⟨by omega, by omega, _, rfl, _, rfl⟩
      · simp only [zz,sEqNil, hE]
        exact ⟨by omega, _, rfl, _, rfl⟩
      · simp only [zz,sEqNil, hE]
        exact ⟨by omega, _, rfl, _, rfl⟩
    · rintro _ ⟨x, rfl⟩
      refine aCf (by simp only [zz,at0]; decide) ?_
      simp only [zz,at0, at1, shl1, qm, qw]
      rw [if_pos (by omega), if_pos (by omega)]
      exact ⟨aCl _ (by omega), trivial⟩
  · have hE' : ((ties.filter midP).map tieD).isEmpty = false := by
      have hm' : e ∈ ties.filter midP := List.mem_filter.mpr ⟨he, hA⟩
      cases h : ties.filter midP with
      | nil => rw [h] at hm'; cases hm'
      | cons _ _ => rfl
    simp only [zz,sNeNil, hE']
    first
      | omega
      | exact ⟨by omega, rfl⟩
end My
namespace My
open PySem PySem.Spec L2 DL
open PyProof.Rows hiding St
noncomputable def top (i : Nat) : Stmt := PySem.Challenge.pw_mixkeep_k41_whole_middle.main.body.getD i (.Pass ⟨0, 0, 0, 0⟩)
section
variable {P : Program} {w : World} {K : PySem.W.Frag} {mg : Str → Option Value} {base : Heap} {f C0 : Addr} {fd : FuncData}
noncomputable abbrev aCv : Stmt := inClass (top 11) 0
theorem sc_M___init__ : FnScope ["self"] ["self"] (aAa aCv) := ⟨rfl, rfl, rfl, by decide +kernel, rfl, by decide +kernel, by decide +kernel⟩
set_option maxRecDepth 100000 in
set_option maxHeartbeats 4000000 in
theorem cal_M___init__ (csh : ShCls K C0) (U : Fun K "__init__" "Sheet.__init__" aCv f fd) (M : Mk K C0 f) (hm : mg "Sheet" = some (.ref C0)) (hb : aBf K fd ["self"] [])   : CalI P w K mg base C0 1 :=
  calI_of csh M hm U sc_M___init__ hb fun cdv A outer s H E hr =>
    pi_init rfl
noncomputable abbrev aGg : Stmt := inClass (top 11) 2
theorem sc_M_left : FnScope ["self", "x", "y", "number"] ["self", "x", "y"] (aAa aGg) := ⟨rfl, rfl, rfl, by decide +kernel, rfl, by decide +kernel, by decide +kernel⟩
set_option maxRecDepth 100000 in
set_option maxHeartbeats 4000000 in
theorem cal_M_left (csh : ShCls K C0) (U : Fun K "left" "Sheet.left" aGg f fd) (hm : Meth K C0 "left" f) (hb : aBf K fd ["self", "x", "y"] [])  (g_ALL_PAIRS : GInt mg "ALL_PAIRS" 15) : CalM P w K mg base C0 "left" 1 3 (ar 3 aEk) :=
  calM_of (N := ["self", "x", "y", "number"]) (F := F_M_left) U hm sc_M_left rfl hb fun cdv A outer s H E hr =>
    (aAf (aBe 3 sc_M_left.nd (q_nget csh hr (q_nB 0) (aAe (q_nS 1) (aAe (q_nS 2) aBn))))
    (aAv (s_retS (q_ife (aBc op_isN opd_isN (q_nB 3) q_non.b (aAj _)) (q_gint g_ALL_PAIRS (by rfl)).s (aAp (aAp (aHx csh (q_nB 0)).b (q_nB 3)).b aAc.b)))))
noncomputable abbrev st_M_put : Stmt := inClass (top 11) 3
theorem sc_M_put : FnScope ["self", "x", "y", "pairs", "why"] ["self", "x", "y", "pairs", "why"] (aAa st_M_put) := ⟨rfl, rfl, rfl, by decide +kernel, rfl, by decide +kernel, by decide +kernel⟩
set_option maxRecDepth 100000 in
set_option maxHeartbeats 4000000 in
theorem cal_M_put (csh : ShCls K C0) (U : Fun K "put" "Sheet.put" st_M_put f fd) (hm : Meth K C0 "put" f) (hb : aBf K fd ["self", "x", "y", "pairs", "why"] [])  (z_len : mg "len" = none) : CalW P w K mg base C0 "put" 1 4 g_M_put :=
  calW_of (N := ["self", "x", "y", "pairs", "why"]) (F := F_M_put) U hm sc_M_put rfl hb fun cdv A outer s H E hr =>
    (aFm (w_nput csh hr (aAe (q_nS 1) (aAe (q_nS 2) aBn)) (q_bi aBj aDi (by rfl) z_len PySem.boot_len (aAd (aHx csh (q_nB 0)).b aAm)).s)
    (aHj (w_lapp csh (q_tup (aAe (q_nS 1) (aAe (q_nS 2) (aAe (q_nS 3) (aAe (q_nS 4) aBn))))).s)))
noncomputable abbrev aDn : Stmt := inClass (top 11) 1
theorem sc_M_is_shut : FnScope ["self"] ["self"] (aAa aDn) := ⟨rfl, rfl, rfl, by decide +kernel, rfl, by decide +kernel, by decide +kernel⟩
set_option maxRecDepth 100000 in
set_option maxHeartbeats 4000000 in
theorem cal_M_is_shut (csh : ShCls K C0) (U : Fun K "is_shut" "Sheet.is_shut" aDn f fd) (hm : Meth K C0 "is_shut" f) (hb : aBf K fd ["self"] [])  (z_len : mg "len" = none) : CalM P w K mg base C0 "is_shut" 1 1 (ar 1 aDh) :=
  calM_of (N := ["self"]) (F := aGu) U hm sc_M_is_shut rfl hb fun cdv A outer s H E hr =>
    (aAv (s_retS (q_and (q_cmp op_gt den_gt (q_bi aBj aDi (by rfl) z_len PySem.boot_len (aAd (aHx csh (q_nB 0)).b aAm)).b aAc.b (aAj _)).b (q_one (q_cmp (aAy hr) aAz (aAp (aAp (aHx csh (q_nB 0)).b (q_neg aAc.b).b).b aAc.b).b aAc.b (aAj _)).s))))
noncomputable abbrev aEd : Stmt := inClass (top 11) 4
theorem sc_M_narrow : FnScope ["self", "x", "y", "pairs", "why", "left", "earlier"] ["self", "x", "y", "pairs", "why"] (aAa aEd) := ⟨rfl, rfl, rfl, by decide +kernel, rfl, by decide +kernel, by decide +kernel⟩
set_option maxRecDepth 100000 in
set_option maxHeartbeats 4000000 in
theorem cal_M_narrow (csh : ShCls K C0) (U : Fun K "narrow" "Sheet.narrow" aEd f fd) (hm : Meth K C0 "narrow" f) (hb : aBf K fd ["self", "x", "y", "pairs", "why"] []) (c_M_left : CalM P w K mg base C0 "left" 1 3 (ar 3 aEk)) (c_M_put : CalW P w K mg base C0 "put" 1 4 g_M_put) (c_M_is_shut : CalM P w K mg base C0 "is_shut" 1 1 (ar 1 aDh)) (z_len : mg "len" = none) : CalW P w K mg base C0 "narrow" 2 4 aDl :=
  calW_of (N := ["self", "x", "y", "pairs", "why", "left", "earlier"]) (F := F_M_narrow) U hm sc_M_narrow rfl hb fun cdv A outer s H E hr =>
    (aFm (w_asg 5 sc_M_narrow.nd (q_meth csh (c_M_left.mono (by decide)) hr (q_nB 0) (aAd (q_nB 1) (aAd (q_nB 2) aAm))).s)
    (aFm (w_if (w_or (aBw (q_meth0 csh (c_M_is_shut.mono (by decide)) hr (q_nB 0)).b) (w_or1 (aBc (aAy hr) aAz (aCh (q_nB 5) (q_nB 3)).b (q_nB 5) (aAj _)))).c (aHj w_retN) w_nil)
    (aFm (w_asg 6 sc_M_narrow.nd (q_nget csh hr (q_nB 0) (aAe (q_nS 1) (aAe (q_nS 2) aBn))).s)
    (aFm (w_mut csh (c_M_put.mono (by decide)) hr (aAe (q_nS 1) (aAe (q_nS 2) (aAe (q_nS 3) (aAe (q_nS 4) aBn)))))
    (aHj (w_if (aBc (aEy hr) aEz (aCh (q_nB 5) (q_nB 3)).b (q_nB 3) (aAj _)) (aHj (w_mut csh (c_M_put.mono (by decide)) hr (aAe (q_nS 1) (aAe (q_nS 2) (aAe (aCh (q_nB 5) (q_nB 3)).s (aAe (q_tup (aAe q_str.s (aAe (q_nS 6) (aAe (q_sub (q_bi aBj aDi (by rfl) z_len PySem.boot_len (aAd (aHx csh (q_nB 0)).b aAm)).b aAc.b).s aBn)))).s aBn)))))) w_nil))))))
noncomputable abbrev aGh : Stmt := top 1
theorem sc_places : FnScope ["mask"] ["mask"] (aAa aGh) := ⟨rfl, rfl, rfl, by decide +kernel, rfl, by decide +kernel, by decide +kernel⟩
set_option maxRecDepth 100000 in
set_option maxHeartbeats 4000000 in
theorem cal_places  (U : Fun K "places" "places" aGh f fd) (hm : mg "places" = some (.ref f)) (hb : aBf K fd ["mask"] [])  (z_range : mg "range" = none) : Cal P w K mg base "places" 1 1 (ar 1 aFp) :=
  aDj (N := ["mask"]) (F := F_places) U hm sc_places rfl hb fun cdv A outer s H E hr =>
    (aAv (aBp (q_comp (N' := ["place", "mask"]) (js := [none, some 0]) (by rfl) (by rfl) (aGr (by rfl) (by rfl)) (cap_ok (by decide)) (aFa (by rfl) z_range (aAd (q_bitlen (q_nB 0)).b aAm)).b (fun _ _ _ _ => ⟨(aBx 0 (show (["place", "mask"] : List Str).Nodup by decide)), (cs_one (aBw (aCh (aFz (q_nB 1) (q_nB 0)).b aAc.b).b)), (q_nS 0)⟩))))
noncomputable abbrev aEv : Stmt := top 8
theorem sc_pair_of : FnScope ["first", "second"] ["first", "second"] (aAa aEv) := ⟨rfl, rfl, rfl, by decide +kernel, rfl, by decide +kernel, by decide +kernel⟩
set_option maxRecDepth 100000 in
set_option maxHeartbeats 4000000 in
theorem cal_pair_of  (U : Fun K "pair_of" "pair_of" aEv f fd) (hm : mg "pair_of" = some (.ref f)) (hb : aBf K fd ["first", "second"] [])   : Cal P w K mg base "pair_of" 1 2 (ar 2 aDz) :=
  aDj (N := ["first", "second"]) (F := F_pair_of) U hm sc_pair_of rfl hb fun cdv A outer s H E hr =>
    (aAv (aBp (q_add (q_nB 0) (q_mul aAc.b (q_nB 1)).b)))
noncomputable abbrev aDo : Stmt := top 9
theorem aCs : FnScope ["tie", "x", "y", "scope", "table", "first", "second", "found", "row"] ["tie", "x", "y"] (aAa aDo) := ⟨rfl, rfl, rfl, by decide +kernel, rfl, by decide +kernel, by decide +kernel⟩
set_option maxRecDepth 100000 in
set_option maxHeartbeats 4000000 in
theorem cal_tie_pairs  (U : Fun K "tie_pairs" "tie_pairs" aDo f fd) (hm : mg "tie_pairs" = some (.ref f)) (hb : aBf K fd ["tie", "x", "y"] []) (c_places : Cal P w K mg base "places" 1 1 (ar 1 aFp)) (c_pair_of : Cal P w K mg base "pair_of" 1 2 (ar 2 aDz))  : Cal P w K mg base "tie_pairs" 2 3 (ar 3 aFd) :=
  aDj (N := ["tie", "x", "y", "scope", "table", "first", "second", "found", "row"]) (F := aGv) U hm aCs rfl hb fun cdv A outer s H E hr =>
    (aAf (s_unp [3, 4] aCs.nd (q_nS 0) ⟨[("scope", _), ("table", _)], rfl, rfl, (aDd ⟨by first | exact Or.inl rfl | exact Or.inr rfl, by first | exact .inl rfl | exact .inr rfl⟩ (aDd ⟨by first | exact Or.inl rfl | exact Or.inr rfl, by first | exact .inl rfl | exact .inr rfl⟩ loc_nil))⟩)
    (aAf (aBe 5 aCs.nd (q_tix (q_nB 3) (q_nB 1)))
    (aAf (aBe 6 aCs.nd (q_tix (q_nB 3) (q_nB 2)))
    (aAf (aBe 7 aCs.nd aAc)
    (aAf (s_for (by rfl) (by rfl) (i_seq (aGq (c_places.mono (by decide)) hr (by rfl) (by rfl) (aAe (q_nS 4) aBn))) (aBx 8 aCs.nd) (aAv (s_aug_bor 7 aCs.nd (q_shl aAc.b (aBd (c_pair_of.mono (by decide)) hr (by rfl) (by rfl) (aAd (aCh (aFz (q_nB 8) (q_nB 5)).b aAc.b).b (aAd (aCh (aFz (q_nB 8) (q_nB 6)).b aAc.b).b aAm))).b).b)))
    (aAv (s_retV 7)))))))
noncomputable abbrev st_begun : Stmt := top 12
theorem sc_begun : FnScope ["net", "sheet", "x", "number", "tie", "y"] ["net"] (aAa st_begun) := ⟨rfl, rfl, rfl, by decide +kernel, rfl, by decide +kernel, by decide +kernel⟩
set_option maxRecDepth 100000 in
set_option maxHeartbeats 4000000 in
theorem cal_begun (csh : ShCls K C0) (U : Fun K "begun" "begun" st_begun f fd) (hm : mg "begun" = some (.ref f)) (hb : aBf K fd ["net"] []) (c_M___init__ : CalI P w K mg base C0 1) (c_M_narrow : CalW P w K mg base C0 "narrow" 2 4 aDl) (c_tie_pairs : Cal P w K mg base "tie_pairs" 2 3 (ar 3 aFd)) (z_range : mg "range" = none) (z_enumerate : mg "enumerate" = none) (g_SAME_PAIRS : GInt mg "SAME_PAIRS" 9) : CalB P w K mg base "begun" 3 g_begun :=
  calB_of (N := ["net", "sheet", "x", "number", "tie", "y"]) (F := F_begun) csh U hm sc_begun rfl hb (by decide) fun cdv A outer s H E hr =>
    b_make (c_M___init__.mono (by decide)) hr (by rfl) sc_begun.nd (aFm (w_for (by rfl) (by rfl) (wi_rng1 (by rfl) z_range (aAd (aAp (q_nB 0) aAc.b).b aAm)) (aBx 2 sc_begun.nd) (tgw_N (by decide)) (aHj (w_mut csh (c_M_narrow.mono (by decide)) hr (aAe (q_nS 2) (aAe (q_nS 2) (aAe (q_gint g_SAME_PAIRS (by rfl)).s (aAe (q_tup (aAe q_str.s aBn)).s aBn)))))))
    (aFm (w_for (by rfl) (by rfl) (wi_enum (by rfl) z_enumerate (aAp (q_nB 0) aAc.b)) (g_tup [3, 4] sc_begun.nd (by rfl) ⟨[("number", _), ("tie", _)], rfl, rfl, (aDd ⟨by first | exact Or.inl rfl | exact Or.inr rfl, by first | exact .inl rfl | exact .inr rfl⟩ (aDd ⟨by first | exact Or.inl rfl | exact Or.inr rfl, by first | exact .inl rfl | exact .inr rfl⟩ loc_nil))⟩) (tgw_T (by decide)) (aHj (w_for (by rfl) (by rfl) (wi_tup (aAp (q_nB 4) aAc.b)) (aBx 2 sc_begun.nd) (tgw_N (by decide)) (aHj (w_for (by rfl) (by rfl) (wi_tup (aAp (q_nB 4) aAc.b)) (aBx 5 sc_begun.nd) (tgw_N (by decide)) (aHj (w_mut csh (c_M_narrow.mono (by decide)) hr (aAe (q_nS 2) (aAe (q_nS 5) (aAe (aBd (c_tie_pairs.mono (by decide)) hr (by rfl) (by rfl) (aAd (q_nB 4) (aAd (q_nB 2) (aAd (q_nB 5) aAm)))).s (aAe (q_tup (aAe q_str.s (aAe (q_nS 3) aBn))).s aBn)))))))))))
    (aHj (w_ret (q_nS 1)))))
noncomputable abbrev st_fits : Stmt := top 14
theorem sc_fits : FnScope ["sheet", "setting", "unknown", "other", "pair"] ["sheet", "setting", "unknown"] (aAa st_fits) := ⟨rfl, rfl, rfl, by decide +kernel, rfl, by decide +kernel, by decide +kernel⟩
set_option maxRecDepth 100000 in
set_option maxHeartbeats 4000000 in
theorem cal_fits (csh : ShCls K C0) (U : Fun K "fits" "fits" st_fits f fd) (hm : mg "fits" = some (.ref f)) (hb : aBf K fd ["sheet", "setting", "unknown"] []) (c_pair_of : Cal P w K mg base "pair_of" 1 2 (ar 2 aDz)) (c_M_left : CalM P w K mg base C0 "left" 1 3 (ar 3 aEk)) (z_range : mg "range" = none) : Cal P w K mg base "fits" 2 3 (ar 3 s_fits) :=
  aDj (N := ["sheet", "setting", "unknown", "other", "pair"]) (F := F_fits) U hm sc_fits rfl hb fun cdv A outer s H E hr =>
    (aAf (s_for (by rfl) (by rfl) (aFa (by rfl) z_range (aAd (q_add (q_nB 2) aAc.b).b aAm)) (aBx 3 sc_fits.nd) (aAf (aBe 4 sc_fits.nd (aBd (c_pair_of.mono (by decide)) hr (by rfl) (by rfl) (aAd (aCh (aFz (q_nB 1) (q_nB 3)).b aAc.b).b (aAd (aCh (aFz (q_nB 1) (q_nB 2)).b aAc.b).b aAm))))
    (aAv (s_if (c_not (aBw (aCh (aFz (q_meth csh (c_M_left.mono (by decide)) hr (q_nB 0) (aAd (q_nB 3) (aAd (q_nB 2) aAm))).b (q_nB 4)).b aAc.b).b)) (aAv (aBp q_bl)) aDa))))
    (aAv (aBp q_bl)))
noncomputable abbrev aDp : Stmt := top 15
theorem aFs : FnScope ["sheet", "many", "setting", "unknown"] ["sheet", "many"] (aAa aDp) := ⟨rfl, rfl, rfl, by decide +kernel, rfl, by decide +kernel, by decide +kernel⟩
set_option maxRecDepth 100000 in
set_option maxHeartbeats 4000000 in
theorem cal_chosen_by  (U : Fun K "chosen_by" "chosen_by" aDp f fd) (hm : mg "chosen_by" = some (.ref f)) (hb : aBf K fd ["sheet", "many"] []) (c_fits : Cal P w K mg base "fits" 2 3 (ar 3 s_fits)) (z_range : mg "range" = none) : Cal P w K mg base "chosen_by" 3 2 (ar 2 aFe) :=
  aDj (N := ["sheet", "many", "setting", "unknown"]) (F := aGw) U hm aFs rfl hb fun cdv A outer s H E hr =>
    (aAf (aBe 2 aFs.nd aAc)
    (aAf (s_for (by rfl) (by rfl) (aFa (by rfl) z_range (aAd (q_nB 1) aAm)) (aBx 3 aFs.nd) (aAv (s_if (c_not (aBw (aBd (c_fits.mono (by decide)) hr (by rfl) (by rfl) (aAd (q_nB 0) (aAd (q_nB 2) (aAd (q_nB 3) aAm)))).b)) (aAv (s_aug_bor 2 aFs.nd (q_shl aAc.b (q_nB 3)).b)) aDa)))
    (aAv (s_retV 2))))
noncomputable abbrev aGi : Stmt := top 10
theorem aIb : FnScope ["first", "second", "found", "one", "other"] ["first", "second"] (aAa aGi) := ⟨rfl, rfl, rfl, by decide +kernel, rfl, by decide +kernel, by decide +kernel⟩
set_option maxRecDepth 100000 in
set_option maxHeartbeats 4000000 in
theorem cal_joined  (U : Fun K "joined" "joined" aGi f fd) (hm : mg "joined" = some (.ref f)) (hb : aBf K fd ["first", "second"] []) (c_places : Cal P w K mg base "places" 1 1 (ar 1 aFp)) (c_pair_of : Cal P w K mg base "pair_of" 1 2 (ar 2 aDz))  : Cal P w K mg base "joined" 2 2 (ar 2 s_joined) :=
  aDj (N := ["first", "second", "found", "one", "other"]) (F := F_joined) U hm aIb rfl hb fun cdv A outer s H E hr =>
    (aAf (aBe 2 aIb.nd aAc)
    (aAf (s_for (by rfl) (by rfl) (i_seq (aGq (c_places.mono (by decide)) hr (by rfl) (by rfl) (aAe (q_nS 0) aBn))) (aBx 3 aIb.nd) (aAv (s_for (by rfl) (by rfl) (i_seq (aGq (c_places.mono (by decide)) hr (by rfl) (by rfl) (aAe (q_nS 1) aBn))) (aBx 4 aIb.nd) (aAv (s_if (aBc (aAy hr) aAz (aFz (q_nB 3) aAc.b).b (aCh (q_nB 4) aAc.b).b (aAj _)) (aAv (s_aug_bor 2 aIb.nd (q_shl aAc.b (aBd (c_pair_of.mono (by decide)) hr (by rfl) (by rfl) (aAd (aCh (q_nB 3) aAc.b).b (aAd (aFz (q_nB 4) aAc.b).b aAm))).b).b)) aDa)))))
    (aAv (s_retV 2))))
noncomputable abbrev aDq : Stmt := inClass (top 11) 5
theorem aIc : FnScope ["self", "x", "z", "y", "first", "second"] ["self", "x", "z", "y"] (aAa aDq) := ⟨rfl, rfl, rfl, by decide +kernel, rfl, by decide +kernel, by decide +kernel⟩
set_option maxRecDepth 100000 in
set_option maxHeartbeats 4000000 in
theorem cal_M_join_by (csh : ShCls K C0) (U : Fun K "join_by" "Sheet.join_by" aDq f fd) (hm : Meth K C0 "join_by" f) (hb : aBf K fd ["self", "x", "z", "y"] []) (c_M_narrow : CalW P w K mg base C0 "narrow" 2 4 aDl) (c_joined : Cal P w K mg base "joined" 2 2 (ar 2 s_joined)) (c_M_left : CalM P w K mg base C0 "left" 1 3 (ar 3 aEk))  : CalW P w K mg base C0 "join_by" 3 3 aFf :=
  calW_of (N := ["self", "x", "z", "y", "first", "second"]) (F := aGx) U hm aIc rfl hb fun cdv A outer s H E hr =>
    (aFm (w_asg 4 aIc.nd (q_nget csh hr (q_nB 0) (aAe (q_nS 1) (aAe (q_nS 2) aBn))).s)
    (aFm (w_asg 5 aIc.nd (q_nget csh hr (q_nB 0) (aAe (q_nS 2) (aAe (q_nS 3) aBn))).s)
    (aHj (w_if (aGp (aBc op_notN opd_notN (q_nB 4) q_non.b (aAj _)) (aHq (aBc op_notN opd_notN (q_nB 5) q_non.b (aAj _)))).c (aHj (w_mut csh (c_M_narrow.mono (by decide)) hr (aAe (q_nS 1) (aAe (q_nS 3) (aAe (aBd (c_joined.mono (by decide)) hr (by rfl) (by rfl) (aAd (q_meth csh (c_M_left.mono (by decide)) hr (q_nB 0) (aAd (q_nB 1) (aAd (q_nB 2) aAm))).b (aAd (q_meth csh (c_M_left.mono (by decide)) hr (q_nB 0) (aAd (q_nB 2) (aAd (q_nB 3) aAm))).b aAm))).s (aAe (q_tup (aAe q_str.s (aAe (q_nS 4) (aAe (q_nS 5) aBn)))).s aBn)))))) w_nil))))
noncomputable abbrev aEe : Stmt := top 13
theorem aHa : FnScope ["sheet", "many", "x", "z", "y"] ["sheet", "many"] (aAa aEe) := ⟨rfl, rfl, rfl, by decide +kernel, rfl, by decide +kernel, by decide +kernel⟩
set_option maxRecDepth 100000 in
set_option maxHeartbeats 4000000 in
theorem cal_join_all (csh : ShCls K C0) (U : Fun K "join_all" "join_all" aEe f fd) (hm : mg "join_all" = some (.ref f)) (hb : aBf K fd ["sheet", "many"] []) (c_M_join_by : CalW P w K mg base C0 "join_by" 3 3 aFf) (z_range : mg "range" = none) : CalV P w K mg base "join_all" 4 1 aGb :=
  calV_of (N := ["sheet", "many", "x", "z", "y"]) (F := F_join_all) U hm aHa rfl hb fun cdv A outer s H E hr =>
    (aHj (w_for (by rfl) (by rfl) (wi_rng1 (by rfl) z_range (aAd (q_nB 1) aAm)) (aBx 2 aHa.nd) (tgw_N (by decide)) (aHj (w_for (by rfl) (by rfl) (wi_rng1 (by rfl) z_range (aAd (q_nB 1) aAm)) (aBx 3 aHa.nd) (tgw_N (by decide)) (aHj (w_for (by rfl) (by rfl) (wi_rng1 (by rfl) z_range (aAd (q_nB 1) aAm)) (aBx 4 aHa.nd) (tgw_N (by decide)) (aHj (w_mut csh (c_M_join_by.mono (by decide)) hr (aAe (q_nS 2) (aAe (q_nS 3) (aAe (q_nS 4) aBn)))))))))))
noncomputable abbrev aGj : Stmt := top 3
theorem sc_row_at : FnScope ["scope", "setting"] ["scope", "setting"] (aAa aGj) := ⟨rfl, rfl, rfl, by decide +kernel, rfl, by decide +kernel, by decide +kernel⟩
set_option maxRecDepth 100000 in
set_option maxHeartbeats 4000000 in
theorem cal_row_at  (U : Fun K "row_at" "row_at" aGj f fd) (hm : mg "row_at" = some (.ref f)) (hb : aBf K fd ["scope", "setting"] [])  (z_enumerate : mg "enumerate" = none) (z_sum : mg "sum" = none) : Cal P w K mg base "row_at" 1 2 (ar 2 s_row_at) :=
  aDj (N := ["scope", "setting"]) (F := F_row_at) U hm sc_row_at rfl hb fun cdv A outer s H E hr =>
    (aAv (aBp (q_bi (call_sumI (by rfl)) cd_sum (by rfl) z_sum boot_sum (aAd (q_comp (N' := ["place", "unknown", "setting"]) (js := [none, none, some 1]) (by rfl) (by rfl) (aGr (by rfl) (by rfl)) (cap_ok (by decide)) (i_enum (by rfl) z_enumerate (q_nS 0)).b (fun _ _ _ _ => ⟨(g_tup [0, 1] (show (["place", "unknown", "setting"] : List Str).Nodup by decide) (by rfl) ⟨[("place", _), ("unknown", _)], rfl, rfl, (aDd ⟨by first | exact Or.inl rfl | exact Or.inr rfl, by first | exact .inl rfl | exact .inr rfl⟩ (aDd ⟨by first | exact Or.inl rfl | exact Or.inr rfl, by first | exact .inl rfl | exact .inr rfl⟩ loc_nil))⟩), (cs_one (aBw (aCh (aFz (q_nB 2) (q_nB 1)).b aAc.b).b)), (q_shl aAc.b (q_nB 0)).s⟩)).b aAm))))
noncomputable abbrev st_unmet : Stmt := top 4
theorem sc_unmet : FnScope ["net", "setting", "number", "tie", "scope", "table"] ["net", "setting"] (aAa st_unmet) := ⟨rfl, rfl, rfl, by decide +kernel, rfl, by decide +kernel, by decide +kernel⟩
set_option maxRecDepth 100000 in
set_option maxHeartbeats 4000000 in
theorem cal_unmet  (U : Fun K "unmet" "unmet" st_unmet f fd) (hm : mg "unmet" = some (.ref f)) (hb : aBf K fd ["net", "setting"] []) (c_row_at : Cal P w K mg base "row_at" 1 2 (ar 2 s_row_at)) (z_enumerate : mg "enumerate" = none) : Cal P w K mg base "unmet" 2 2 (ar 2 s_unmet) :=
  aDj (N := ["net", "setting", "number", "tie", "scope", "table"]) (F := F_unmet) U hm sc_unmet rfl hb fun cdv A outer s H E hr =>
    (aAf (s_for (by rfl) (by rfl) (i_enum (by rfl) z_enumerate (aAp (q_nB 0) aAc.b)) (g_tup [2, 3] sc_unmet.nd (by rfl) ⟨[("number", _), ("tie", _)], rfl, rfl, (aDd ⟨by first | exact Or.inl rfl | exact Or.inr rfl, by first | exact .inl rfl | exact .inr rfl⟩ (aDd ⟨by first | exact Or.inl rfl | exact Or.inr rfl, by first | exact .inl rfl | exact .inr rfl⟩ loc_nil))⟩) (aAf (s_unp [4, 5] sc_unmet.nd (q_nS 3) ⟨[("scope", _), ("table", _)], rfl, rfl, (aDd ⟨by first | exact Or.inl rfl | exact Or.inr rfl, by first | exact .inl rfl | exact .inr rfl⟩ (aDd ⟨by first | exact Or.inl rfl | exact Or.inr rfl, by first | exact .inl rfl | exact .inr rfl⟩ loc_nil))⟩)
    (aAv (s_if (c_not (aBw (aCh (aFz (q_nB 5) (aBd (c_row_at.mono (by decide)) hr (by rfl) (by rfl) (aAd (q_nB 4) (aAd (q_nB 1) aAm))).b).b aAc.b).b)) (aAv (s_retV 2)) aDa))))
    (aAv (aBp q_non)))
noncomputable abbrev aGk : Stmt := top 16
theorem aId : FnScope ["net", "sheet", "before", "setting"] ["net"] (aAa aGk) := ⟨rfl, rfl, rfl, by decide +kernel, rfl, by decide +kernel, by decide +kernel⟩
set_option maxRecDepth 100000 in
set_option maxHeartbeats 4000000 in
theorem cal_paired (csh : ShCls K C0) (U : Fun K "paired" "paired" aGk f fd) (hm : mg "paired" = some (.ref f)) (hb : aBf K fd ["net"] []) (c_begun : CalB P w K mg base "begun" 3 g_begun) (c_M_is_shut : CalM P w K mg base C0 "is_shut" 1 1 (ar 1 aDh)) (c_chosen_by : Cal P w K mg base "chosen_by" 3 2 (ar 2 aFe)) (c_join_all : CalV P w K mg base "join_all" 4 1 aGb) (c_unmet : Cal P w K mg base "unmet" 2 2 (ar 2 s_unmet)) (z_len : mg "len" = none) (z_tuple : mg "tuple" = none) : Cal P w K mg base "paired" 5 1 (ar 1 s_paired) :=
  calP_of (N := ["net", "sheet", "before", "setting"]) (F := F_paired) U hm aId rfl hb (by decide) fun cdv A outer s H E hr =>
    p_begun (c_begun.mono (by decide)) hr (by rfl) aId.nd (aFm (w_asg 2 aId.nd (q_neg aAc.b).s)
    (aFm (w_while 5000 (by rfl) (aBc (aEy hr) aEz (q_bi aBj aDi (by rfl) z_len PySem.boot_len (aAd (aHx csh (q_nB 1)).b aAm)).b (q_nB 2) (aAj _)) (aFm (w_asg 2 aId.nd (q_bi aBj aDi (by rfl) z_len PySem.boot_len (aAd (aHx csh (q_nB 1)).b aAm)).s)
    (aHj (w_mutF (c_join_all.mono (by decide)) hr (by rfl) (aAe (aAp (q_nB 0) aAc.b) aBn)))))
    (aFm (w_if (aBw (q_meth0 csh (c_M_is_shut.mono (by decide)) hr (q_nB 1)).b) (aHj (w_ret (q_tup (aAe q_str.s (aAe (q_ty aGn cd_tuple (by rfl) z_tuple boot_tuple (aAd (aHx csh (q_nB 1)).b aAm)).s aBn))).s)) w_nil)
    (aFm (w_asg 3 aId.nd (aBd (c_chosen_by.mono (by decide)) hr (by rfl) (by rfl) (aAd (q_nB 1) (aAd (aAp (q_nB 0) aAc.b).b aAm))).s)
    (aHj (w_ret (q_ife (aBc op_isN opd_isN (aBd (c_unmet.mono (by decide)) hr (by rfl) (by rfl) (aAd (q_nB 0) (aAd (q_nB 3) aAm))).b q_non.b (aAj _)) (q_tup (aAe q_str.s (aAe (q_nS 3) aBn))).s q_non.s)))))))
noncomputable abbrev aBy : Stmt := top 18
theorem sc__law_cell_at : FnScope ["script", "k"] ["script", "k"] (aAa aBy) := ⟨rfl, rfl, rfl, by decide +kernel, rfl, by decide +kernel, by decide +kernel⟩
set_option maxRecDepth 100000 in
set_option maxHeartbeats 4000000 in
theorem cal__law_cell_at  (U : Fun K "_law_cell_at" "_law_cell_at" aBy f fd) (hm : mg "_law_cell_at" = some (.ref f)) (hb : aBf K fd ["script", "k"] [])  (z_len : mg "len" = none) : Cal P w K mg base "_law_cell_at" 1 2 (ar 2 aBg) :=
  aDj (N := ["script", "k"]) (F := aEl) U hm sc__law_cell_at rfl hb fun cdv A outer s H E hr =>
    (aAf (s_if (aBc op_lt den_lt (q_nB 1) (q_bi aBj aDi (by rfl) z_len PySem.boot_len (aAd (q_nB 0) aAm)).b (aAj _)) (aAv (s_retS (aAp (q_nB 0) (q_nB 1)))) aDa)
    (aAv (aBp aAc)))
noncomputable abbrev aCw : Stmt := top 20
theorem sc__law_whole : FnScope ["found"] ["found"] (aAa aCw) := ⟨rfl, rfl, rfl, by decide +kernel, rfl, by decide +kernel, by decide +kernel⟩
set_option maxRecDepth 100000 in
set_option maxHeartbeats 4000000 in
theorem cal__law_whole  (U : Fun K "_law_whole" "_law_whole" aCw f fd) (hm : mg "_law_whole" = some (.ref f)) (hb : aBf K fd ["found"] [])  (z_isinstance : mg "isinstance" = none) (z_bool : mg "bool" = none) (z_int : mg "int" = none) : Cal P w K mg base "_law_whole" 1 1 (ar 1 aCq) :=
  aDj (N := ["found"]) (F := aFq) U hm sc__law_whole rfl hb fun cdv A outer s H E hr =>
    (aAv (s_retS (q_and (q_isiA (by rfl) z_isinstance (by rfl) z_int boot_int (q_nB 0)).b (q_one (q_not (q_isiA (by rfl) z_isinstance (by rfl) z_bool boot_bool (q_nB 0)).b).s))))
noncomputable abbrev aBz : Stmt := top 27
theorem sc__law_numbers : FnScope ["row"] ["row"] (aAa aBz) := ⟨rfl, rfl, rfl, by decide +kernel, rfl, by decide +kernel, by decide +kernel⟩
set_option maxRecDepth 100000 in
set_option maxHeartbeats 4000000 in
theorem cal__law_numbers  (U : Fun K "_law_numbers" "_law_numbers" aBz f fd) (hm : mg "_law_numbers" = some (.ref f)) (hb : aBf K fd ["row"] []) (c__law_whole : Cal P w K mg base "_law_whole" 1 1 (ar 1 aCq)) (z_all : mg "all" = none) : Cal P w K mg base "_law_numbers" 2 1 (ar 1 aAx) :=
  aDj (N := ["row"]) (F := aEm) U hm sc__law_numbers rfl hb fun cdv A outer s H E hr =>
    (aAv (aBp (q_bi (call_allB (by rfl)) cd_all (by rfl) z_all boot_all (aAd (q_comp (N' := ["one"]) (js := [none]) (by rfl) (by rfl) (aGr (by rfl) (by rfl)) (cap_ok (by decide)) (i_seqB (q_nB 0)) (fun _ _ _ _ => ⟨(aBx 0 (show (["one"] : List Str).Nodup by decide)), cs_nil, (q_and (aBd (c__law_whole.mono (by decide)) hr (by rfl) (by rfl) (aAd (q_nB 0) aAm)).b (q_one (q_cmp op_ge den_ge (q_nB 0) aAc.b (aAj _)).s))⟩)).b aAm))))
noncomputable abbrev aCj : Stmt := top 26
theorem aEn : FnScope ["first", "then", "pairs", "number"] ["first", "then"] (aAa aCj) := ⟨rfl, rfl, rfl, by decide +kernel, rfl, by decide +kernel, by decide +kernel⟩
set_option maxRecDepth 100000 in
set_option maxHeartbeats 4000000 in
theorem cal__law_joined  (U : Fun K "_law_joined" "_law_joined" aCj f fd) (hm : mg "_law_joined" = some (.ref f)) (hb : aBf K fd ["first", "then"] [])  (z_range : mg "range" = none) : Cal P w K mg base "_law_joined" 1 2 (ar 2 aEa) :=
  aDj (N := ["first", "then", "pairs", "number"]) (F := aEt) U hm aEn rfl hb fun cdv A outer s H E hr =>
    (aAf (aBe 2 aEn.nd aAc)
    (aAf (s_for (by rfl) (by rfl) (aFa (by rfl) z_range (aAd aAc.b aAm)) (aBx 3 aEn.nd) (aAv (s_if (aGp (aBc (aAy hr) aAz (aCh (aFz (q_nB 0) (aHp (q_nB 3) aAc.b).b).b aAc.b).b aAc.b (aAj _)) (aHq (aBc (aAy hr) aAz (aCh (aFz (q_nB 1) (q_fdiv (q_nB 3) aAc.b).b).b aAc.b).b aAc.b (aAj _)))).c (aAv (aBe 2 aEn.nd (q_bor (q_nB 2) (q_shl aAc.b (q_add (aHp (q_nB 3) aAc.b).b (q_mul aAc.b (q_fdiv (q_nB 3) aAc.b).b).b).b).b))) aDa)))
    (aAv (s_retV 2))))
noncomputable abbrev aBr : Stmt := top 25
theorem aBs : FnScope ["tie", "x", "y", "one", "other", "pairs", "row"] ["tie", "x", "y"] (aAa aBr) := ⟨rfl, rfl, rfl, by decide +kernel, rfl, by decide +kernel, by decide +kernel⟩
set_option maxRecDepth 100000 in
set_option maxHeartbeats 4000000 in
theorem cal__law_pairs_of  (U : Fun K "_law_pairs_of" "_law_pairs_of" aBr f fd) (hm : mg "_law_pairs_of" = some (.ref f)) (hb : aBf K fd ["tie", "x", "y"] [])  (z_len : mg "len" = none) (z_range : mg "range" = none) : Cal P w K mg base "_law_pairs_of" 1 3 (ar 3 aCr) :=
  aDj (N := ["tie", "x", "y", "one", "other", "pairs", "row"]) (F := aEb) U hm aBs rfl hb fun cdv A outer s H E hr =>
    (aAf (aBe 3 aBs.nd (q_tix (aAp (q_nB 0) aAc.b).b (q_nB 1)))
    (aAf (aBe 4 aBs.nd (q_tix (aAp (q_nB 0) aAc.b).b (q_nB 2)))
    (aAf (aBe 5 aBs.nd aAc)
    (aAf (s_for (by rfl) (by rfl) (aFa (by rfl) z_range (aAd (q_shl aAc.b (q_bi aBj aDi (by rfl) z_len PySem.boot_len (aAd (aAp (q_nB 0) aAc.b).b aAm)).b).b aAm)) (aBx 6 aBs.nd) (aAv (s_if (aBc (aAy hr) aAz (aCh (aFz (aAp (q_nB 0) aAc.b).b (q_nB 6)).b aAc.b).b aAc.b (aAj _)) (aAv (aBe 5 aBs.nd (q_bor (q_nB 5) (q_shl aAc.b (q_add (aHp (aFz (q_nB 6) (q_nB 3)).b aAc.b).b (q_mul aAc.b (aHp (aFz (q_nB 6) (q_nB 4)).b aAc.b).b).b).b).b))) aDa)))
    (aAv (s_retV 5))))))
noncomputable abbrev aDr : Stmt := top 28
theorem aIe : FnScope ["net", "lines", "x", "y", "why", "first", "then"] ["net", "lines", "x", "y", "why"] (aAa aDr) := ⟨rfl, rfl, rfl, by decide +kernel, rfl, by decide +kernel, by decide +kernel⟩
set_option maxRecDepth 100000 in
set_option maxHeartbeats 4000000 in
theorem cal__law_said  (U : Fun K "_law_said" "_law_said" aDr f fd) (hm : mg "_law_said" = some (.ref f)) (hb : aBf K fd ["net", "lines", "x", "y", "why"] []) (c__law_numbers : Cal P w K mg base "_law_numbers" 2 1 (ar 1 aAx)) (c__law_joined : Cal P w K mg base "_law_joined" 1 2 (ar 2 aEa)) (c__law_pairs_of : Cal P w K mg base "_law_pairs_of" 1 3 (ar 3 aCr)) (z_len : mg "len" = none) (z_max : mg "max" = none) (z_range : mg "range" = none) (z_sum : mg "sum" = none) : Cal P w K mg base "_law_said" 3 5 (ar 5 aFh) :=
  aDj (N := ["net", "lines", "x", "y", "why", "first", "then"]) (F := aFg) U hm aIe rfl hb fun cdv A outer s H E hr =>
    (aAf (s_if (aGp (aBc (aAy hr) aAz (aAp (q_nB 4) aAc.b).b q_str.b (aAj _)) (aGp (aBc (aAy hr) aAz (q_bi aBj aDi (by rfl) z_len PySem.boot_len (aAd (q_nB 4) aAm)).b aAc.b (aAj _)) (aGp (aBw (aGq (c__law_numbers.mono (by decide)) hr (by rfl) (by rfl) (aAe (q_slT (q_nB 4) (o_some aAc.b) o_none).s aBn)).b) (aHq (aBc op_lt den_lt (aAp (q_nB 4) aAc.b).b (q_bi aBj aDi (by rfl) z_len PySem.boot_len (aAd (aAp (q_nB 0) aAc.b).b aAm)).b (aAj _)))))).c (aAv (s_if (aGp (aBc op_in_seq opd_in (q_nB 2) (aAp (aAp (aAp (q_nB 0) aAc.b).b (aAp (q_nB 4) aAc.b).b).b aAc.b).b (by with_unfolding_all rfl)) (aHq (aBc op_in_seq opd_in (q_nB 3) (aAp (aAp (aAp (q_nB 0) aAc.b).b (aAp (q_nB 4) aAc.b).b).b aAc.b).b (by with_unfolding_all rfl)))).c (aAv (aBp (aBd (c__law_pairs_of.mono (by decide)) hr (by rfl) (by rfl) (aAd (aAp (aAp (q_nB 0) aAc.b).b (aAp (q_nB 4) aAc.b).b).b (aAd (q_nB 2) (aAd (q_nB 3) aAm)))))) aDa)) aDa)
    (aAf (s_if (aGp (aBc (aAy hr) aAz (q_nB 4) (q_tup (aAe q_str.s aBn)).b (aAj _)) (aHq (aBc (aAy hr) aAz (q_nB 2) (q_nB 3) (aAj _)))).c (aAv (aBp aAc)) aDa)
    (aAf (s_if (w_or (c_not (aBw (aGq (c__law_numbers.mono (by decide)) hr (by rfl) (by rfl) (aAe (q_slT (q_nB 4) (o_some aAc.b) o_none).s aBn)).b)) (w_or (aBc op_lt den_lt (q_bi aBj aDi (by rfl) z_len PySem.boot_len (aAd (q_nB 4) aAm)).b aAc.b (aAj _)) (w_or1 (aBc op_ge den_ge (q_bi (call_maxT (by rfl)) cd_maxT (by rfl) z_max DL.boot_max (aAd (q_slT (q_nB 4) (o_some aAc.b) o_none).b aAm)).b (q_bi aBj aDi (by rfl) z_len PySem.boot_len (aAd (q_nB 1) aAm)).b (aAj _))))).c (aAv (aBp q_non)) aDa)
    (aAf (s_asgS 5 aIe.nd (aAp (q_nB 1) (aAp (q_nB 4) aAc.b).b))
    (aAf (s_if (aGp (aBc (aAy hr) aAz (aAp (q_nB 4) aAc.b).b q_str.b (aAj _)) (aGp (aBc (aAy hr) aAz (q_bi aBj aDi (by rfl) z_len PySem.boot_len (aAd (q_nB 4) aAm)).b aAc.b (aAj _)) (aHq (aBc (aAy hr) aAz (q_tup (aAe (aAp (q_nB 5) aAc.b) (aAe (aAp (q_nB 5) aAc.b) aBn))).b (q_tup (aAe (q_nS 2) (aAe (q_nS 3) aBn))).b (aAj _))))).c (aAv (aBp (q_bi (call_sumI (by rfl)) cd_sum (by rfl) z_sum boot_sum (aAd (q_comp (N' := ["k", "first"]) (js := [none, some 5]) (by rfl) (by rfl) (aGr (by rfl) (by rfl)) (cap_ok (by decide)) (aFa (by rfl) z_range (aAd aAc.b aAm)).b (fun _ _ _ _ => ⟨(aBx 0 (show (["k", "first"] : List Str).Nodup by decide)), (cs_one (aBc (aAy hr) aAz (aCh (aFz (aAp (q_nB 1) aAc.b).b (q_nB 0)).b aAc.b).b aAc.b (aAj _))), (q_shl aAc.b (aAp (q_lst (aAe aAc.s (aAe aAc.s (aAe aAc.s (aAe aAc.s aBn))))).b (q_nB 0)).b).s⟩)).b aAm)))) aDa)
    (aAf (s_if (aBc (aEy hr) aEz (q_bi aBj aDi (by rfl) z_len PySem.boot_len (aAd (q_nB 4) aAm)).b aAc.b (aAj _)) (aAv (aBp q_non)) aDa)
    (aAf (s_asgS 6 aIe.nd (aAp (q_nB 1) (aAp (q_nB 4) aAc.b).b))
    (aAf (s_if (aGp (aBc (aAy hr) aAz (aAp (q_nB 4) aAc.b).b q_str.b (aAj _)) (aGp (aBc (aAy hr) aAz (q_slT (q_nB 5) o_none (o_some aAc.b)).b (q_tup (aAe (q_nS 2) (aAe (q_nS 3) aBn))).b (aAj _)) (aHq (aBc (aAy hr) aAz (q_slT (q_nB 6) o_none (o_some aAc.b)).b (q_tup (aAe (q_nS 2) (aAe (q_nS 3) aBn))).b (aAj _))))).c (aAv (aBp (aCh (aAp (q_nB 5) aAc.b).b (aAp (q_nB 6) aAc.b).b))) aDa)
    (aAf (s_if (aGp (aBc (aAy hr) aAz (aAp (q_nB 4) aAc.b).b q_str.b (aAj _)) (aGp (aBc (aAy hr) aAz (aAp (q_nB 5) aAc.b).b (q_nB 2) (aAj _)) (aGp (aBc (aAy hr) aAz (aAp (q_nB 6) aAc.b).b (q_nB 3) (aAj _)) (aHq (aBc (aAy hr) aAz (aAp (q_nB 5) aAc.b).b (aAp (q_nB 6) aAc.b).b (aAj _)))))).c (aAv (aBp (aBd (c__law_joined.mono (by decide)) hr (by rfl) (by rfl) (aAd (aAp (q_nB 5) aAc.b).b (aAd (aAp (q_nB 6) aAc.b).b aAm))))) aDa)
    (aAv (aBp q_non)))))))))))
noncomputable abbrev aDs : Stmt := top 29
theorem aFt : FnScope ["net", "lines", "k", "line", "least"] ["net", "lines"] (aAa aDs) := ⟨rfl, rfl, rfl, by decide +kernel, rfl, by decide +kernel, by decide +kernel⟩
set_option maxRecDepth 100000 in
set_option maxHeartbeats 4000000 in
theorem cal__law_shut  (U : Fun K "_law_shut" "_law_shut" aDs f fd) (hm : mg "_law_shut" = some (.ref f)) (hb : aBf K fd ["net", "lines"] []) (c__law_said : Cal P w K mg base "_law_said" 3 5 (ar 5 aFh)) (c__law_numbers : Cal P w K mg base "_law_numbers" 2 1 (ar 1 aAx)) (z_isinstance : mg "isinstance" = none) (z_tuple : mg "tuple" = none) (z_len : mg "len" = none) (z_range : mg "range" = none) (z_max : mg "max" = none) : Cal P w K mg base "_law_shut" 4 2 (ar 2 aFi) :=
  aDj (N := ["net", "lines", "k", "line", "least"]) (F := aGy) U hm aFt rfl hb fun cdv A outer s H E hr =>
    (aAf (s_if (w_or (c_not (aBw (q_isiA (by rfl) z_isinstance (by rfl) z_tuple boot_tuple (q_nB 1)).b)) (w_or1 (aBc (aAy hr) aAz (q_nB 1) (q_tup aBn).b (aAj _)))).c (aAv (aBp q_bl)) aDa)
    (aAf (s_for (by rfl) (by rfl) (aFa (by rfl) z_range (aAd (q_bi aBj aDi (by rfl) z_len PySem.boot_len (aAd (q_nB 1) aAm)).b aAm)) (aBx 2 aFt.nd) (aAf (s_asgS 3 aFt.nd (aAp (q_nB 1) (q_nB 2)))
    (aAf (s_if (w_or (c_not (aBw (q_isiA (by rfl) z_isinstance (by rfl) z_tuple boot_tuple (q_nB 3)).b)) (w_or (aBc (aEy hr) aEz (q_bi aBj aDi (by rfl) z_len PySem.boot_len (aAd (q_nB 3) aAm)).b aAc.b (aAj _)) (w_or1 (c_not (aBw (aGq (c__law_numbers.mono (by decide)) hr (by rfl) (by rfl) (aAe (q_slT (q_nB 3) o_none (o_some aAc.b)).s aBn)).b))))).c (aAv (aBp q_bl)) aDa)
    (aAf (s_if (w_or (aBc op_ge den_ge (q_bi (call_maxT (by rfl)) cd_maxT (by rfl) z_max DL.boot_max (aAd (q_slT (q_nB 3) o_none (o_some aAc.b)).b aAm)).b (aAp (q_nB 0) aAc.b).b (aAj _)) (w_or (aBc op_gt den_gt (aAp (q_nB 3) aAc.b).b aAc.b (aAj _)) (w_or (c_not (aBw (q_isiA (by rfl) z_isinstance (by rfl) z_tuple boot_tuple (aAp (q_nB 3) aAc.b).b).b)) (w_or1 (aBc (aAy hr) aAz (aAp (q_nB 3) aAc.b).b (q_tup aBn).b (aAj _)))))).c (aAv (aBp q_bl)) aDa)
    (aAf (aBe 4 aFt.nd (aBd (c__law_said.mono (by decide)) hr (by rfl) (by rfl) (aAd (q_nB 0) (aAd (q_slT (q_nB 1) o_none (o_some (q_nB 2))).b (aAd (aAp (q_nB 3) aAc.b).b (aAd (aAp (q_nB 3) aAc.b).b (aAd (aAp (q_nB 3) aAc.b).b aAm)))))))
    (aAv (s_if (w_or (aBc op_isN opd_isN (q_nB 4) q_non.b (aAj _)) (w_or1 (aBc (aEy hr) aEz (aCh (q_nB 4) (q_inv (aAp (q_nB 3) aAc.b).b).b).b aAc.b (aAj _)))).c (aAv (aBp q_bl)) aDa)))))))
    (aAv (aBp (q_cmp (aAy hr) aAz (aAp (aAp (q_nB 1) (q_neg aAc.b).b).b aAc.b).b aAc.b (aAj _))))))
noncomputable abbrev aEf : Stmt := top 22
theorem sc__law_row : FnScope ["scope", "setting"] ["scope", "setting"] (aAa aEf) := ⟨rfl, rfl, rfl, by decide +kernel, rfl, by decide +kernel, by decide +kernel⟩
set_option maxRecDepth 100000 in
set_option maxHeartbeats 4000000 in
theorem cal__law_row  (U : Fun K "_law_row" "_law_row" aEf f fd) (hm : mg "_law_row" = some (.ref f)) (hb : aBf K fd ["scope", "setting"] [])  (z_len : mg "len" = none) (z_range : mg "range" = none) (z_sum : mg "sum" = none) : Cal P w K mg base "_law_row" 1 2 (ar 2 aCu) :=
  aDj (N := ["scope", "setting"]) (F := aGd) U hm sc__law_row rfl hb fun cdv A outer s H E hr =>
    (aAv (aBp (q_bi (call_sumI (by rfl)) cd_sum (by rfl) z_sum boot_sum (aAd (q_comp (N' := ["k", "setting", "scope"]) (js := [none, some 1, some 0]) (by rfl) (by rfl) (aGr (by rfl) (by rfl)) (cap_ok (by decide)) (aFa (by rfl) z_range (aAd (q_bi aBj aDi (by rfl) z_len PySem.boot_len (aAd (q_nB 0) aAm)).b aAm)).b (fun _ _ _ _ => ⟨(aBx 0 (show (["k", "setting", "scope"] : List Str).Nodup by decide)), (cs_one (aBc (aAy hr) aAz (aCh (aFz (q_nB 1) (aAp (q_nB 2) (q_nB 0)).b).b aAc.b).b aAc.b (aAj _))), (q_shl aAc.b (q_nB 0)).s⟩)).b aAm))))
noncomputable abbrev aCx : Stmt := top 24
theorem sc__law_meets : FnScope ["net", "setting", "scope", "table"] ["net", "setting"] (aAa aCx) := ⟨rfl, rfl, rfl, by decide +kernel, rfl, by decide +kernel, by decide +kernel⟩
set_option maxRecDepth 100000 in
set_option maxHeartbeats 4000000 in
theorem cal__law_meets  (U : Fun K "_law_meets" "_law_meets" aCx f fd) (hm : mg "_law_meets" = some (.ref f)) (hb : aBf K fd ["net", "setting"] []) (c__law_row : Cal P w K mg base "_law_row" 1 2 (ar 2 aCu))  : Cal P w K mg base "_law_meets" 2 2 (ar 2 aDm) :=
  aDj (N := ["net", "setting", "scope", "table"]) (F := aFr) U hm sc__law_meets rfl hb fun cdv A outer s H E hr =>
    (aAf (s_for (by rfl) (by rfl) (i_seq (aAp (q_nB 0) aAc.b)) (g_tup [2, 3] sc__law_meets.nd (by rfl) ⟨[("scope", _), ("table", _)], rfl, rfl, (aDd ⟨by first | exact Or.inl rfl | exact Or.inr rfl, by first | exact .inl rfl | exact .inr rfl⟩ (aDd ⟨by first | exact Or.inl rfl | exact Or.inr rfl, by first | exact .inl rfl | exact .inr rfl⟩ loc_nil))⟩) (aAv (s_if (aBc (aAy hr) aAz (aCh (aFz (q_nB 3) (aBd (c__law_row.mono (by decide)) hr (by rfl) (by rfl) (aAd (q_nB 2) (aAd (q_nB 1) aAm))).b).b aAc.b).b aAc.b (aAj _)) (aAv (aBp q_bl)) aDa)))
    (aAv (aBp q_bl)))
noncomputable abbrev aDt : Stmt := top 19
theorem sc__law_turn : FnScope ["number", "k"] ["number", "k"] (aAa aDt) := ⟨rfl, rfl, rfl, by decide +kernel, rfl, by decide +kernel, by decide +kernel⟩
set_option maxRecDepth 100000 in
set_option maxHeartbeats 4000000 in
theorem cal__law_turn  (U : Fun K "_law_turn" "_law_turn" aDt f fd) (hm : mg "_law_turn" = some (.ref f)) (hb : aBf K fd ["number", "k"] [])   : Cal P w K mg base "_law_turn" 1 2 (ar 2 aBv) :=
  aDj (N := ["number", "k"]) (F := aGz) U hm sc__law_turn rfl hb fun cdv A outer s H E hr =>
    (aAf (aBe 0 sc__law_turn.nd (aHp (q_mul (q_add (q_add (aHp (q_nB 0) aAc.b).b (q_mul aAc.b (q_nB 1)).b).b aAc.b).b aAc.b).b aAc.b))
    (aAv (aBp (q_fdiv (aHp (q_mul (q_nB 0) (q_nB 0)).b aAc.b).b aAc.b))))
noncomputable abbrev aCa : Stmt := top 21
theorem aAw : FnScope ["table", "grown", "rows", "i", "j", "k", "a", "b", "c", "row"] ["table"] (aAa aCa) := ⟨rfl, rfl, rfl, by decide +kernel, rfl, by decide +kernel, by decide +kernel⟩
set_option maxRecDepth 100000 in
set_option maxHeartbeats 4000000 in
theorem cal__law_middled  (U : Fun K "_law_middled" "_law_middled" aCa f fd) (hm : mg "_law_middled" = some (.ref f)) (hb : aBf K fd ["table"] [])  (z_range : mg "range" = none) (z_len : mg "len" = none) : Cal P w K mg base "_law_middled" 1 1 (ar 1 aBh) :=
  aDj (N := ["table", "grown", "rows", "i", "j", "k", "a", "b", "c", "row"]) (F := aDc) U hm aAw rfl hb fun cdv A outer s H E hr =>
    (aAf (aBe 1 aAw.nd q_bl)
    (aAf (s_while 1000 (by rfl) (aBw (q_nB 1)) (aAf (aBe 1 aAw.nd q_bl)
    (aAf (s_comp 2 (N' := ["row", "table"]) (js := [none, some 0]) (by rfl) (by rfl) (aGr (by rfl) (by rfl)) (cap_ok (by decide)) (aFa (by rfl) z_range (aAd aAc.b aAm)).b (fun _ _ _ _ => ⟨(aBx 0 (show (["row", "table"] : List Str).Nodup by decide)), (cs_one (aBc (aAy hr) aAz (aCh (aFz (q_nB 1) (q_nB 0)).b aAc.b).b aAc.b (aAj _))), (q_nS 0)⟩) aAw.nd)
    (aAv (s_for (by rfl) (by rfl) (aFa (by rfl) z_range (aAd (q_bi aBj aDi (by rfl) z_len PySem.boot_len (aAd (q_nB 2) aAm)).b aAm)) (aBx 3 aAw.nd) (aAv (s_for (by rfl) (by rfl) (aFa (by rfl) z_range (aAd (q_nB 3) aAm)) (aBx 4 aAw.nd) (aAv (s_for (by rfl) (by rfl) (aFa (by rfl) z_range (aAd (q_nB 4) aAm)) (aBx 5 aAw.nd) (aAf (s_par3 6 7 8 aAw.nd (aAe (aAp (q_nB 2) (q_nB 3)) (aAe (aAp (q_nB 2) (q_nB 4)) (aAe (aAp (q_nB 2) (q_nB 5)) aBn))))
    (aAf (aBe 9 aAw.nd (q_bor (aCh (q_nB 6) (q_nB 7)).b (aCh (q_nB 8) (q_bor (q_nB 6) (q_nB 7)).b).b))
    (aAv (s_if (aBc (aAy hr) aAz (aCh (aFz (q_nB 0) (q_nB 9)).b aAc.b).b aAc.b (aAj _)) (aAf (aBe 0 aAw.nd (q_bor (q_nB 0) (q_shl aAc.b (q_nB 9)).b))
    (aAv (aBe 1 aAw.nd q_bl))) aDa)))))))))))))
    (aAv (s_retV 0))))
noncomputable abbrev aEg : Stmt := top 23
theorem aCg : FnScope ["cell", "many", "hidden", "kept", "size", "scope", "k", "x", "rows", "table"] ["cell", "many", "hidden", "kept"] (aAa aEg) := ⟨rfl, rfl, rfl, by decide +kernel, rfl, by decide +kernel, by decide +kernel⟩
set_option maxRecDepth 100000 in
set_option maxHeartbeats 4000000 in
theorem cal__law_tie  (U : Fun K "_law_tie" "_law_tie" aEg f fd) (hm : mg "_law_tie" = some (.ref f)) (hb : aBf K fd ["cell", "many", "hidden", "kept"] []) (c__law_middled : Cal P w K mg base "_law_middled" 1 1 (ar 1 aBh)) (c__law_turn : Cal P w K mg base "_law_turn" 1 2 (ar 2 aBv)) (c__law_row : Cal P w K mg base "_law_row" 1 2 (ar 2 aCu)) (z_min : mg "min" = none) (z_range : mg "range" = none) (z_len : mg "len" = none) (z_sum : mg "sum" = none) (z_tuple : mg "tuple" = none) : Cal P w K mg base "_law_tie" 2 4 (ar 4 aGf) :=
  aDj (N := ["cell", "many", "hidden", "kept", "size", "scope", "k", "x", "rows", "table"]) (F := aGe) U hm aCg rfl hb fun cdv A outer s H E hr =>
    (aAf (aBe 4 aCg.nd (q_add aAc.b (aHp (aBd (c__law_turn.mono (by decide)) hr (by rfl) (by rfl) (aAd (q_nB 0) (aAd aAc.b aAm))).b (q_bi (call_min2 (by rfl)) cd_min (by rfl) z_min boot_min (aAd aAc.b (aAd (q_nB 1) aAm))).b).b))
    (aAf (aBe 5 aCg.nd (q_lst aBn))
    (aAf (s_for (by rfl) (by rfl) (aFa (by rfl) z_range (aAd aAc.b aAm)) (aBx 6 aCg.nd) (aAf (aBe 7 aCg.nd (aHp (aBd (c__law_turn.mono (by decide)) hr (by rfl) (by rfl) (aAd (q_nB 0) (aAd (q_add aAc.b (q_nB 6)).b aAm))).b (q_nB 1)))
    (aAv (s_if (aGp (aBc op_lt den_lt (q_bi aBj aDi (by rfl) z_len PySem.boot_len (aAd (q_nB 5) aAm)).b (q_nB 4) (aAj _)) (aHq (aBc op_notIn_seq opd_in (q_nB 7) (q_nB 5) (by with_unfolding_all rfl)))).c (aAv (s_app 5 (q_nS 7))) aDa))))
    (aAf (aBe 8 aCg.nd (q_shl aAc.b (q_bi aBj aDi (by rfl) z_len PySem.boot_len (aAd (q_nB 5) aAm)).b))
    (aAf (aBe 9 aCg.nd (q_bi (call_sumI (by rfl)) cd_sum (by rfl) z_sum boot_sum (aAd (q_comp (N' := ["row", "cell"]) (js := [none, some 0]) (by rfl) (by rfl) (aGr (by rfl) (by rfl)) (cap_ok (by decide)) (aFa (by rfl) z_range (aAd (q_nB 8) aAm)).b (fun _ _ _ _ => ⟨(aBx 0 (show (["row", "cell"] : List Str).Nodup by decide)), (cs_one (aBc op_gt den_gt (aHp (aBd (c__law_turn.mono (by decide)) hr (by rfl) (by rfl) (aAd (q_nB 1) (aAd (q_add aAc.b (q_nB 0)).b aAm))).b aAc.b).b (q_add aAc.b (aHp (aBd (c__law_turn.mono (by decide)) hr (by rfl) (by rfl) (aAd (q_nB 1) (aAd aAc.b aAm))).b aAc.b).b).b (aAj _))), (q_shl aAc.b (q_nB 0)).s⟩)).b aAm)))
    (aAf (s_if (aBc op_ge den_ge (q_nB 2) aAc.b (aAj _)) (aAv (aBe 9 aCg.nd (q_bor (q_nB 9) (q_shl aAc.b (aBd (c__law_row.mono (by decide)) hr (by rfl) (by rfl) (aAd (q_nB 5) (aAd (q_nB 2) aAm))).b).b))) aDa)
    (aAf (s_if (aBw (q_nB 3)) (aAv (aBe 9 aCg.nd (aBd (c__law_middled.mono (by decide)) hr (by rfl) (by rfl) (aAd (q_nB 9) aAm)))) aDa)
    (aAv (s_pub [9] (aBp (q_tup (aAe (q_ty aGn cd_tuple (by rfl) z_tuple boot_tuple (aAd (q_nB 5) aAm)).s (aAe (q_nS 9) aBn)))))))))))))
noncomputable abbrev st_law : Stmt := top 30
theorem aGl : FnScope ["script", "many", "shape", "wide", "hidden", "ties", "cell", "net", "loose", "found", "there"] ["script"] (aAa st_law) := ⟨rfl, rfl, rfl, by decide +kernel, rfl, by decide +kernel, by decide +kernel⟩
set_option maxRecDepth 100000 in
set_option maxHeartbeats 4000000 in
theorem fn_law (U : Fun K "law" "law" st_law f fd) (hb : aBf K fd ["script"] []) (c_paired : Cal P w K mg base "paired" 5 1 (ar 1 s_paired)) (c__law_cell_at : Cal P w K mg base "_law_cell_at" 1 2 (ar 2 aBg)) (c__law_shut : Cal P w K mg base "_law_shut" 4 2 (ar 2 aFi)) (c__law_whole : Cal P w K mg base "_law_whole" 1 1 (ar 1 aCq)) (c__law_meets : Cal P w K mg base "_law_meets" 2 2 (ar 2 aDm)) (c__law_turn : Cal P w K mg base "_law_turn" 1 2 (ar 2 aBv)) (c__law_tie : Cal P w K mg base "_law_tie" 2 4 (ar 4 aGf)) (c__law_middled : Cal P w K mg base "_law_middled" 1 1 (ar 1 aBh)) (z_int : mg "int" = none) (z_tuple : mg "tuple" = none) (z_len : mg "len" = none) (z_isinstance : mg "isinstance" = none) (z_range : mg "range" = none) : FnOk P w K mg base CX0 6 f fd ["script"] (spD K 1 (ar 1 s_law)) :=
  fnok_at (N := ["script", "many", "shape", "wide", "hidden", "ties", "cell", "net", "loose", "found", "there"]) (F := F_law) U aGl rfl fun cdv A outer s H E hr =>
    (aAf (aBe 1 aGl.nd (aHp (aBd (c__law_cell_at.mono (by decide)) hr (by rfl) (by rfl) (aAd (q_nB 0) (aAd aAc.b aAm))).b aAc.b))
    (aAf (aBe 2 aGl.nd (q_fdiv (aBd (c__law_cell_at.mono (by decide)) hr (by rfl) (by rfl) (aAd (q_nB 0) (aAd aAc.b aAm))).b aAc.b))
    (aAf (aBe 3 aGl.nd (q_cmp (aAy hr) aAz (aHp (aBd (c__law_turn.mono (by decide)) hr (by rfl) (by rfl) (aAd (q_nB 2) (aAd aAc.b aAm))).b aAc.b).b aAc.b (aAj _)))
    (aAf (s_if (aBw (q_nB 3)) (aAv (aBe 1 aGl.nd (q_add aAc.b (aHp (q_nB 1) aAc.b).b))) aDa)
    (aAf (aBe 4 aGl.nd (q_neg aAc.b))
    (aAf (s_if (aBc (aAy hr) aAz (aHp (q_nB 2) aAc.b).b aAc.b (aAj _)) (aAv (aBe 4 aGl.nd (aHp (aBd (c__law_cell_at.mono (by decide)) hr (by rfl) (by rfl) (aAd (q_nB 0) (aAd aAc.b aAm))).b (q_shl aAc.b (q_nB 1)).b))) aDa)
    (aAf (aBe 5 aGl.nd (q_lst aBn))
    (aAf (s_for (by rfl) (by rfl) (i_seq (q_rep (q_slL (q_nB 0) (o_some aAc.b) (o_some (aAp (q_lst (aAe aAc.s (aAe aAc.s aBn))).b (q_ty call_int1 cd_int (by rfl) z_int boot_int (aAd (q_nB 3) aAm)).b).b)) (q_ty call_int1 cd_int (by rfl) z_int boot_int (aAd (q_cmp op_gt den_gt (q_nB 1) aAc.b (aAj _)).b aAm)).b).s) (aBx 6 aGl.nd) (aAv (s_pub [1] (s_app 5 (aGq (c__law_tie.mono (by decide)) hr (by rfl) (by rfl) (aAe (q_nS 6) (aAe (q_nS 1) (aAe (q_nS 4) (aAe (q_cmp op_gt den_gt (aHp (q_fdiv (q_nB 2) aAc.b).b aAc.b).b aAc.b (aAj _)).s aBn)))))))))
    (aAf (s_pub [1] (aBe 7 aGl.nd (q_tup (aAe (q_nS 1) (aAe (q_ty aGn cd_tuple (by rfl) z_tuple boot_tuple (aAd (q_nB 5) aAm)).s aBn)))))
    (aAf (s_comp 8 (N' := ["tie"]) (js := [none]) (by rfl) (by rfl) (aGr (by rfl) (by rfl)) (cap_ok (by decide)) (i_seqB (q_nB 5)) (fun _ _ _ _ => ⟨(aBx 0 (show (["tie"] : List Str).Nodup by decide)), (cs_one (aBc (aEy hr) aEz (aBd (c__law_middled.mono (by decide)) hr (by rfl) (by rfl) (aAd (aAp (q_nB 0) aAc.b).b aAm)).b (aAp (q_nB 0) aAc.b).b (aAj _))), (q_nS 0)⟩) aGl.nd)
    (aAf (s_asgS 9 aGl.nd (aGq (c_paired.mono (by decide)) hr (by rfl) (by rfl) (aAe (q_nS 7) aBn)))
    (aAf (s_if (aBc op_isN opd_isN (q_nB 9) q_non.b (aAj _)) (aAv (aBp (q_cmp (aEy hr) aEz (q_nB 8) (q_lst aBn).b (aAj _)))) aDa)
    (aAf (s_if (w_or (c_not (aBw (q_isiA (by rfl) z_isinstance (by rfl) z_tuple boot_tuple (q_nB 9)).b)) (w_or1 (aBc (aEy hr) aEz (q_bi aBj aDi (by rfl) z_len PySem.boot_len (aAd (q_nB 9) aAm)).b aAc.b (aAj _)))).c (aAv (aBp q_bl)) aDa)
    (aAf (s_if (aGp (aBc (aAy hr) aAz (q_nB 8) (q_lst aBn).b (aAj _)) (aGp (aBw (q_nB 3)) (aGp (aBc op_ge den_ge (q_nB 4) aAc.b (aAj _)) (aHq (aBc (aEy hr) aEz (aAp (q_nB 9) aAc.b).b q_str.b (aAj _)))))).c (aAv (aBp q_bl)) aDa)
    (aAf (s_if (aGp (aBc (aAy hr) aAz (q_nB 8) (q_lst aBn).b (aAj _)) (aHq (c_not (aBw (q_nB 3))))).c (aAf (aBe 10 aGl.nd (q_cmp (aEy hr) aEz (q_comp (N' := ["setting", "net"]) (js := [none, some 7]) (by rfl) (by rfl) (aGr (by rfl) (by rfl)) (cap_ok (by decide)) (aFa (by rfl) z_range (aAd (q_shl aAc.b (q_nB 1)).b aAm)).b (fun _ _ _ _ => ⟨(aBx 0 (show (["setting", "net"] : List Str).Nodup by decide)), (cs_one (aBw (aBd (c__law_meets.mono (by decide)) hr (by rfl) (by rfl) (aAd (q_nB 1) (aAd (q_nB 0) aAm))).b)), (q_nS 0)⟩)).b (q_lst aBn).b (aAj _)))
    (aAv (s_if (aBc (aEy hr) aEz (aAp (q_nB 9) aAc.b).b (aAp (q_lst (aAe q_str.s (aAe q_str.s aBn))).b (q_ty call_int1 cd_int (by rfl) z_int boot_int (aAd (q_nB 10) aAm)).b).b (aAj _)) (aAv (aBp q_bl)) aDa))) aDa)
    (aAf (s_if (aBc (aAy hr) aAz (aAp (q_nB 9) aAc.b).b q_str.b (aAj _)) (aAv (s_retS (aGq (c__law_shut.mono (by decide)) hr (by rfl) (by rfl) (aAe (q_nS 7) (aAe (aAp (q_nB 9) aAc.b) aBn))))) aDa)
    (aAv (s_retS (q_and (q_cmp (aAy hr) aAz (aAp (q_nB 9) aAc.b).b q_str.b (aAj _)).b (q_and (aBd (c__law_whole.mono (by decide)) hr (by rfl) (by rfl) (aAd (aAp (q_nB 9) aAc.b).b aAm)).b (q_and (q_chain op_le den_le op_lt den_lt aAc.b (aAp (q_nB 9) aAc.b).b (q_shl aAc.b (q_nB 1)).b).b (q_one (aBd (c__law_meets.mono (by decide)) hr (by rfl) (by rfl) (aAd (q_nB 7) (aAd (aAp (q_nB 9) aAc.b).b aAm))).s))))))))))))))))))))))
end
theorem lnX1 {α : Type} (us : List α) (hl : us.length = 1) : ∃ a, us = [a] := lnU1 (P := fun us => ∃ a, us = [a]) us hl fun a => ⟨a, rfl⟩
theorem lnX2 {α : Type} (us : List α) (hl : us.length = 2) : ∃ a b, us = [a, b] := lnU2 (P := fun us => ∃ a b, us = [a, b]) us hl fun a b => ⟨a, b, rfl⟩
theorem lnX3 {α : Type} (us : List α) (hl : us.length = 3) : ∃ a b c, us = [a, b, c] := lnU3 (P := fun us => ∃ a b c, us = [a, b, c]) us hl fun a b c => ⟨a, b, c, rfl⟩
theorem lnX4 {α : Type} (us : List α) (hl : us.length = 4) : ∃ a b c d, us = [a, b, c, d] := lnU4 (P := fun us => ∃ a b c d, us = [a, b, c, d]) us hl fun a b c d => ⟨a, b, c, d, rfl⟩
theorem lnX5 {α : Type} (us : List α) (hl : us.length = 5) : ∃ a b c d e, us = [a, b, c, d, e] := lnU5 (P := fun us => ∃ a b c d e, us = [a, b, c, d, e]) us hl fun a b c d e => ⟨a, b, c, d, e, rfl⟩
set_option maxHeartbeats 4000000 in
theorem all_mk {l : PySem.W.OpenLaw} {w : World} {K : PySem.W.Frag} {h : Heap} {mg : Str → Option Value} {fa : Addr} (X : K.In h) (G : h.Ns mainGlobals mg) (hfa : mg "law" = some (.ref fa))
    {f0 : Addr} {od0 an0 : Option Addr} {sl0 : Array (Option Value)} {oc0 kV0 dc0 pm0 cd0 ct0 : Value}
    {f1 : Addr} {od1 an1 : Option Addr} {sl1 : Array (Option Value)} {oc1 kV1 dc1 pm1 cd1 ct1 : Value}
    {f2 : Addr} {od2 an2 : Option Addr} {sl2 : Array (Option Value)} {oc2 kV2 dc2 pm2 cd2 ct2 : Value}
    {f3 : Addr} {od3 an3 : Option Addr} {sl3 : Array (Option Value)} {oc3 kV3 dc3 pm3 cd3 ct3 : Value}
    {f4 : Addr} {od4 an4 : Option Addr} {sl4 : Array (Option Value)} {oc4 kV4 dc4 pm4 cd4 ct4 : Value}
    {f5 : Addr} {od5 an5 : Option Addr} {sl5 : Array (Option Value)} {oc5 kV5 dc5 pm5 cd5 ct5 : Value}
    {f6 : Addr} {od6 an6 : Option Addr} {sl6 : Array (Option Value)} {oc6 kV6 dc6 pm6 cd6 ct6 : Value}
    {f7 : Addr} {od7 an7 : Option Addr} {sl7 : Array (Option Value)} {oc7 kV7 dc7 pm7 cd7 ct7 : Value}
    {f8 : Addr} {od8 an8 : Option Addr} {sl8 : Array (Option Value)} {oc8 kV8 dc8 pm8 cd8 ct8 : Value}
    {f9 : Addr} {od9 an9 : Option Addr} {sl9 : Array (Option Value)} {oc9 kV9 dc9 pm9 cd9 ct9 : Value}
    {f10 : Addr} {od10 an10 : Option Addr} {sl10 : Array (Option Value)} {oc10 kV10 dc10 pm10 cd10 ct10 : Value}
    {f11 : Addr} {od11 an11 : Option Addr} {sl11 : Array (Option Value)} {oc11 kV11 dc11 pm11 cd11 ct11 : Value}
    {f12 : Addr} {od12 an12 : Option Addr} {sl12 : Array (Option Value)} {oc12 kV12 dc12 pm12 cd12 ct12 : Value}
    {f13 : Addr} {od13 an13 : Option Addr} {sl13 : Array (Option Value)} {oc13 kV13 dc13 pm13 cd13 ct13 : Value}
    {f14 : Addr} {od14 an14 : Option Addr} {sl14 : Array (Option Value)} {oc14 kV14 dc14 pm14 cd14 ct14 : Value}
    {f15 : Addr} {od15 an15 : Option Addr} {sl15 : Array (Option Value)} {oc15 kV15 dc15 pm15 cd15 ct15 : Value}
    {f16 : Addr} {od16 an16 : Option Addr} {sl16 : Array (Option Value)} {oc16 kV16 dc16 pm16 cd16 ct16 : Value}
    {f17 : Addr} {od17 an17 : Option Addr} {sl17 : Array (Option Value)} {oc17 kV17 dc17 pm17 cd17 ct17 : Value}
    {f18 : Addr} {od18 an18 : Option Addr} {sl18 : Array (Option Value)} {oc18 kV18 dc18 pm18 cd18 ct18 : Value}
    {f19 : Addr} {od19 an19 : Option Addr} {sl19 : Array (Option Value)} {oc19 kV19 dc19 pm19 cd19 ct19 : Value}
    {f20 : Addr} {od20 an20 : Option Addr} {sl20 : Array (Option Value)} {oc20 kV20 dc20 pm20 cd20 ct20 : Value}
    {f21 : Addr} {od21 an21 : Option Addr} {sl21 : Array (Option Value)} {oc21 kV21 dc21 pm21 cd21 ct21 : Value}
    {f22 : Addr} {od22 an22 : Option Addr} {sl22 : Array (Option Value)} {oc22 kV22 dc22 pm22 cd22 ct22 : Value}
    {f23 : Addr} {od23 an23 : Option Addr} {sl23 : Array (Option Value)} {oc23 kV23 dc23 pm23 cd23 ct23 : Value}
    {f24 : Addr} {od24 an24 : Option Addr} {sl24 : Array (Option Value)} {oc24 kV24 dc24 pm24 cd24 ct24 : Value}
    {f25 : Addr} {od25 an25 : Option Addr} {sl25 : Array (Option Value)} {oc25 kV25 dc25 pm25 cd25 ct25 : Value}
    {f26 : Addr} {od26 an26 : Option Addr} {sl26 : Array (Option Value)} {oc26 kV26 dc26 pm26 cd26 ct26 : Value}
    {f27 : Addr} {od27 an27 : Option Addr} {sl27 : Array (Option Value)} {oc27 kV27 dc27 pm27 cd27 ct27 : Value}
    {f28 : Addr} {od28 an28 : Option Addr} {sl28 : Array (Option Value)} {oc28 kV28 dc28 pm28 cd28 ct28 : Value}
    {f29 : Addr} {od29 an29 : Option Addr} {sl29 : Array (Option Value)} {oc29 kV29 dc29 pm29 cd29 ct29 : Value}
    {C0 : Addr}
    {gt0 : Tok}
    {gt1 : Tok}
    (a0 : PySem.W.findIn K (.ref C0) "__init__" = some (some (.ref f0))) (i0 : PySem.W.isFn K (.ref f0) = true) (l0 : K.lookup f0 = some ⟨oc0, od0, .func (PySem.W.fnOf "__init__" "Sheet.__init__" (aAu aCv) (aAk aCv) (aAa aCv) .none kV0 dc0 pm0 an0 cd0 ct0), sl0⟩) (e0 : PySem.W.codeIn K cd0 "Sheet.__init__" = true) (k0 : PySem.W.keepIn K (.ref f0) = true)
    (a1 : PySem.W.findIn K (.ref C0) "left" = some (some (.ref f1))) (i1 : PySem.W.isFn K (.ref f1) = true) (l1 : K.lookup f1 = some ⟨oc1, od1, .func (PySem.W.fnOf "left" "Sheet.left" (aAu aGg) (aAk aGg) (aAa aGg) .none kV1 dc1 pm1 an1 cd1 ct1), sl1⟩) (e1 : PySem.W.codeIn K cd1 "Sheet.left" = true) (k1 : PySem.W.keepIn K (.ref f1) = true)
    (a2 : PySem.W.findIn K (.ref C0) "put" = some (some (.ref f2))) (i2 : PySem.W.isFn K (.ref f2) = true) (l2 : K.lookup f2 = some ⟨oc2, od2, .func (PySem.W.fnOf "put" "Sheet.put" (aAu st_M_put) (aAk st_M_put) (aAa st_M_put) .none kV2 dc2 pm2 an2 cd2 ct2), sl2⟩) (e2 : PySem.W.codeIn K cd2 "Sheet.put" = true) (k2 : PySem.W.keepIn K (.ref f2) = true)
    (a3 : PySem.W.findIn K (.ref C0) "is_shut" = some (some (.ref f3))) (i3 : PySem.W.isFn K (.ref f3) = true) (l3 : K.lookup f3 = some ⟨oc3, od3, .func (PySem.W.fnOf "is_shut" "Sheet.is_shut" (aAu aDn) (aAk aDn) (aAa aDn) .none kV3 dc3 pm3 an3 cd3 ct3), sl3⟩) (e3 : PySem.W.codeIn K cd3 "Sheet.is_shut" = true) (k3 : PySem.W.keepIn K (.ref f3) = true)
    (a4 : PySem.W.findIn K (.ref C0) "narrow" = some (some (.ref f4))) (i4 : PySem.W.isFn K (.ref f4) = true) (l4 : K.lookup f4 = some ⟨oc4, od4, .func (PySem.W.fnOf "narrow" "Sheet.narrow" (aAu aEd) (aAk aEd) (aAa aEd) .none kV4 dc4 pm4 an4 cd4 ct4), sl4⟩) (e4 : PySem.W.codeIn K cd4 "Sheet.narrow" = true) (k4 : PySem.W.keepIn K (.ref f4) = true)
    (a5 : PySem.W.nsIn K mainGlobals "places" = some (some (.ref f5))) (l5 : K.lookup f5 = some ⟨oc5, od5, .func (PySem.W.fnOf "places" "places" (aAu aGh) (aAk aGh) (aAa aGh) .none kV5 dc5 pm5 an5 cd5 ct5), sl5⟩) (e5 : PySem.W.codeIn K cd5 "places" = true) (k5 : PySem.W.keepIn K (.ref f5) = true)
    (a6 : PySem.W.nsIn K mainGlobals "pair_of" = some (some (.ref f6))) (l6 : K.lookup f6 = some ⟨oc6, od6, .func (PySem.W.fnOf "pair_of" "pair_of" (aAu aEv) (aAk aEv) (aAa aEv) .none kV6 dc6 pm6 an6 cd6 ct6), sl6⟩) (e6 : PySem.W.codeIn K cd6 "pair_of" = true) (k6 : PySem.W.keepIn K (.ref f6) = true)
    (a7 : PySem.W.nsIn K mainGlobals "tie_pairs" = some (some (.ref f7))) (l7 : K.lookup f7 = some ⟨oc7, od7, .func (PySem.W.fnOf "tie_pairs" "tie_pairs" (aAu aDo) (aAk aDo) (aAa aDo) .none kV7 dc7 pm7 an7 cd7 ct7), sl7⟩) (e7 : PySem.W.codeIn K cd7 "tie_pairs" = true) (k7 : PySem.W.keepIn K (.ref f7) = true)
    (a8 : PySem.W.nsIn K mainGlobals "begun" = some (some (.ref f8))) (l8 : K.lookup f8 = some ⟨oc8, od8, .func (PySem.W.fnOf "begun" "begun" (aAu st_begun) (aAk st_begun) (aAa st_begun) .none kV8 dc8 pm8 an8 cd8 ct8), sl8⟩) (e8 : PySem.W.codeIn K cd8 "begun" = true) (k8 : PySem.W.keepIn K (.ref f8) = true)
    (a9 : PySem.W.nsIn K mainGlobals "fits" = some (some (.ref f9))) (l9 : K.lookup f9 = some ⟨oc9, od9, .func (PySem.W.fnOf "fits" "fits" (aAu st_fits) (aAk st_fits) (aAa st_fits) .none kV9 dc9 pm9 an9 cd9 ct9), sl9⟩) (e9 : PySem.W.codeIn K cd9 "fits" = true) (k9 : PySem.W.keepIn K (.ref f9) = true)
    (a10 : PySem.W.nsIn K mainGlobals "chosen_by" = some (some (.ref f10))) (l10 : K.lookup f10 = some ⟨oc10, od10, .func (PySem.W.fnOf "chosen_by" "chosen_by" (aAu aDp) (aAk aDp) (aAa aDp) .none kV10 dc10 pm10 an10 cd10 ct10), sl10⟩) (e10 : PySem.W.codeIn K cd10 "chosen_by" = true) (k10 : PySem.W.keepIn K (.ref f10) = true)
    (a11 : PySem.W.nsIn K mainGlobals "joined" = some (some (.ref f11))) (l11 : K.lookup f11 = some ⟨oc11, od11, .func (PySem.W.fnOf "joined" "joined" (aAu aGi) (aAk aGi) (aAa aGi) .none kV11 dc11 pm11 an11 cd11 ct11), sl11⟩) (e11 : PySem.W.codeIn K cd11 "joined" = true) (k11 : PySem.W.keepIn K (.ref f11) = true)
    (a12 : PySem.W.findIn K (.ref C0) "join_by" = some (some (.ref f12))) (i12 : PySem.W.isFn K (.ref f12) = true) (l12 : K.lookup f12 = some ⟨oc12, od12, .func (PySem.W.fnOf "join_by" "Sheet.join_by" (aAu aDq) (aAk aDq) (aAa aDq) .none kV12 dc12 pm12 an12 cd12 ct12), sl12⟩) (e12 : PySem.W.codeIn K cd12 "Sheet.join_by" = true) (k12 : PySem.W.keepIn K (.ref f12) = true)
    (a13 : PySem.W.nsIn K mainGlobals "join_all" = some (some (.ref f13))) (l13 : K.lookup f13 = some ⟨oc13, od13, .func (PySem.W.fnOf "join_all" "join_all" (aAu aEe) (aAk aEe) (aAa aEe) .none kV13 dc13 pm13 an13 cd13 ct13), sl13⟩) (e13 : PySem.W.codeIn K cd13 "join_all" = true) (k13 : PySem.W.keepIn K (.ref f13) = true)
    (a14 : PySem.W.nsIn K mainGlobals "row_at" = some (some (.ref f14))) (l14 : K.lookup f14 = some ⟨oc14, od14, .func (PySem.W.fnOf "row_at" "row_at" (aAu aGj) (aAk aGj) (aAa aGj) .none kV14 dc14 pm14 an14 cd14 ct14), sl14⟩) (e14 : PySem.W.codeIn K cd14 "row_at" = true) (k14 : PySem.W.keepIn K (.ref f14) = true)
    (a15 : PySem.W.nsIn K mainGlobals "unmet" = some (some (.ref f15))) (l15 : K.lookup f15 = some ⟨oc15, od15, .func (PySem.W.fnOf "unmet" "unmet" (aAu st_unmet) (aAk st_unmet) (aAa st_unmet) .none kV15 dc15 pm15 an15 cd15 ct15), sl15⟩) (e15 : PySem.W.codeIn K cd15 "unmet" = true) (k15 : PySem.W.keepIn K (.ref f15) = true)
    (a16 : PySem.W.nsIn K mainGlobals "paired" = some (some (.ref f16))) (l16 : K.lookup f16 = some ⟨oc16, od16, .func (PySem.W.fnOf "paired" "paired" (aAu aGk) (aAk aGk) (aAa aGk) .none kV16 dc16 pm16 an16 cd16 ct16), sl16⟩) (e16 : PySem.W.codeIn K cd16 "paired" = true) (k16 : PySem.W.keepIn K (.ref f16) = true)
    (a17 : PySem.W.nsIn K mainGlobals "_law_cell_at" = some (some (.ref f17))) (l17 : K.lookup f17 = some ⟨oc17, od17, .func (PySem.W.fnOf "_law_cell_at" "_law_cell_at" (aAu aBy) (aAk aBy) (aAa aBy) .none kV17 dc17 pm17 an17 cd17 ct17), sl17⟩) (e17 : PySem.W.codeIn K cd17 "_law_cell_at" = true) (k17 : PySem.W.keepIn K (.ref f17) = true)
    (a18 : PySem.W.nsIn K mainGlobals "_law_whole" = some (some (.ref f18))) (l18 : K.lookup f18 = some ⟨oc18, od18, .func (PySem.W.fnOf "_law_whole" "_law_whole" (aAu aCw) (aAk aCw) (aAa aCw) .none kV18 dc18 pm18 an18 cd18 ct18), sl18⟩) (e18 : PySem.W.codeIn K cd18 "_law_whole" = true) (k18 : PySem.W.keepIn K (.ref f18) = true)
    (a19 : PySem.W.nsIn K mainGlobals "_law_numbers" = some (some (.ref f19))) (l19 : K.lookup f19 = some ⟨oc19, od19, .func (PySem.W.fnOf "_law_numbers" "_law_numbers" (aAu aBz) (aAk aBz) (aAa aBz) .none kV19 dc19 pm19 an19 cd19 ct19), sl19⟩) (e19 : PySem.W.codeIn K cd19 "_law_numbers" = true) (k19 : PySem.W.keepIn K (.ref f19) = true)
    (a20 : PySem.W.nsIn K mainGlobals "_law_joined" = some (some (.ref f20))) (l20 : K.lookup f20 = some ⟨oc20, od20, .func (PySem.W.fnOf "_law_joined" "_law_joined" (aAu aCj) (aAk aCj) (aAa aCj) .none kV20 dc20 pm20 an20 cd20 ct20), sl20⟩) (e20 : PySem.W.codeIn K cd20 "_law_joined" = true) (k20 : PySem.W.keepIn K (.ref f20) = true)
    (a21 : PySem.W.nsIn K mainGlobals "_law_pairs_of" = some (some (.ref f21))) (l21 : K.lookup f21 = some ⟨oc21, od21, .func (PySem.W.fnOf "_law_pairs_of" "_law_pairs_of" (aAu aBr) (aAk aBr) (aAa aBr) .none kV21 dc21 pm21 an21 cd21 ct21), sl21⟩) (e21 : PySem.W.codeIn K cd21 "_law_pairs_of" = true) (k21 : PySem.W.keepIn K (.ref f21) = true)
    (a22 : PySem.W.nsIn K mainGlobals "_law_said" = some (some (.ref f22))) (l22 : K.lookup f22 = some ⟨oc22, od22, .func (PySem.W.fnOf "_law_said" "_law_said" (aAu aDr) (aAk aDr) (aAa aDr) .none kV22 dc22 pm22 an22 cd22 ct22), sl22⟩) (e22 : PySem.W.codeIn K cd22 "_law_said" = true) (k22 : PySem.W.keepIn K (.ref f22) = true)
    (a23 : PySem.W.nsIn K mainGlobals "_law_shut" = some (some (.ref f23))) (l23 : K.lookup f23 = some ⟨oc23, od23, .func (PySem.W.fnOf "_law_shut" "_law_shut" (aAu aDs) (aAk aDs) (aAa aDs) .none kV23 dc23 pm23 an23 cd23 ct23), sl23⟩) (e23 : PySem.W.codeIn K cd23 "_law_shut" = true) (k23 : PySem.W.keepIn K (.ref f23) = true)
    (a24 : PySem.W.nsIn K mainGlobals "_law_row" = some (some (.ref f24))) (l24 : K.lookup f24 = some ⟨oc24, od24, .func (PySem.W.fnOf "_law_row" "_law_row" (aAu aEf) (aAk aEf) (aAa aEf) .none kV24 dc24 pm24 an24 cd24 ct24), sl24⟩) (e24 : PySem.W.codeIn K cd24 "_law_row" = true) (k24 : PySem.W.keepIn K (.ref f24) = true)
    (a25 : PySem.W.nsIn K mainGlobals "_law_meets" = some (some (.ref f25))) (l25 : K.lookup f25 = some ⟨oc25, od25, .func (PySem.W.fnOf "_law_meets" "_law_meets" (aAu aCx) (aAk aCx) (aAa aCx) .none kV25 dc25 pm25 an25 cd25 ct25), sl25⟩) (e25 : PySem.W.codeIn K cd25 "_law_meets" = true) (k25 : PySem.W.keepIn K (.ref f25) = true)
    (a26 : PySem.W.nsIn K mainGlobals "_law_turn" = some (some (.ref f26))) (l26 : K.lookup f26 = some ⟨oc26, od26, .func (PySem.W.fnOf "_law_turn" "_law_turn" (aAu aDt) (aAk aDt) (aAa aDt) .none kV26 dc26 pm26 an26 cd26 ct26), sl26⟩) (e26 : PySem.W.codeIn K cd26 "_law_turn" = true) (k26 : PySem.W.keepIn K (.ref f26) = true)
    (a27 : PySem.W.nsIn K mainGlobals "_law_middled" = some (some (.ref f27))) (l27 : K.lookup f27 = some ⟨oc27, od27, .func (PySem.W.fnOf "_law_middled" "_law_middled" (aAu aCa) (aAk aCa) (aAa aCa) .none kV27 dc27 pm27 an27 cd27 ct27), sl27⟩) (e27 : PySem.W.codeIn K cd27 "_law_middled" = true) (k27 : PySem.W.keepIn K (.ref f27) = true)
    (a28 : PySem.W.nsIn K mainGlobals "_law_tie" = some (some (.ref f28))) (l28 : K.lookup f28 = some ⟨oc28, od28, .func (PySem.W.fnOf "_law_tie" "_law_tie" (aAu aEg) (aAk aEg) (aAa aEg) .none kV28 dc28 pm28 an28 cd28 ct28), sl28⟩) (e28 : PySem.W.codeIn K cd28 "_law_tie" = true) (k28 : PySem.W.keepIn K (.ref f28) = true)
    (a29 : PySem.W.nsIn K mainGlobals "law" = some (some (.ref f29))) (l29 : K.lookup f29 = some ⟨oc29, od29, .func (PySem.W.fnOf "law" "law" (aAu st_law) (aAk st_law) (aAa st_law) .none kV29 dc29 pm29 an29 cd29 ct29), sl29⟩) (e29 : PySem.W.codeIn K cd29 "law" = true) (k29 : PySem.W.keepIn K (.ref f29) = true)
    (aC : PySem.W.nsIn K mainGlobals "Sheet" = some (some (.ref C0))) (pg : PySem.W.plainGet K C0 Str.empty = true) (hd : PySem.W.hasDictIn K C0 = true) (po : PySem.W.plainOver K C0 = true) (sa : PySem.W.findIn K (.ref C0) "__setattr__" = some (some (.builtin "object.__setattr__"))) (mk : PySem.W.makesIn K C0 = true) (kc : PySem.W.keepIn K (.ref C0) = true) (nL : PySem.W.findIn K (.ref C0) "lines" = some none) (nN : PySem.W.findIn K (.ref C0) "narrowest" = some none)
    (y0 : PySem.W.nsIn K mainGlobals "len" = some none)
    (y1 : PySem.W.nsIn K mainGlobals "range" = some none)
    (y2 : PySem.W.nsIn K mainGlobals "enumerate" = some none)
    (y3 : PySem.W.nsIn K mainGlobals "sum" = some none)
    (y4 : PySem.W.nsIn K mainGlobals "tuple" = some none)
    (y5 : PySem.W.nsIn K mainGlobals "isinstance" = some none)
    (y6 : PySem.W.nsIn K mainGlobals "bool" = some none)
    (y7 : PySem.W.nsIn K mainGlobals "int" = some none)
    (y8 : PySem.W.nsIn K mainGlobals "all" = some none)
    (y9 : PySem.W.nsIn K mainGlobals "max" = some none)
    (y10 : PySem.W.nsIn K mainGlobals "min" = some none)
    (gn0 : PySem.W.nsIn K mainGlobals "ALL_PAIRS" = some (some (.int 15 gt0)))
    (gn1 : PySem.W.nsIn K mainGlobals "SAME_PAIRS" = some (some (.int 9 gt1))) :
    ∃ fd : FuncData, (∀ (s : Shared) (v : Value), BindsTo s fd ⟨[v], []⟩ [("script", v)]) ∧ ∀ base : Heap, K.In base → base.Ns mainGlobals mg → FnOk l.prog w K mg base CX0 6 fa fd ["script"] (spD K 1 (ar 1 s_law)) := by
  have e := hfa.symm.trans (PySem.W.mg_of X G a29)
  cases e
  have csh : ShCls K C0 := ⟨aC, ⟨pg, hd, po, sa⟩, nL, nN⟩
  have mC := PySem.W.mg_of X G aC
  have z_len := PySem.W.mg_none_of X G y0
  have z_range := PySem.W.mg_none_of X G y1
  have z_enumerate := PySem.W.mg_none_of X G y2
  have z_sum := PySem.W.mg_none_of X G y3
  have z_tuple := PySem.W.mg_none_of X G y4
  have z_isinstance := PySem.W.mg_none_of X G y5
  have z_bool := PySem.W.mg_none_of X G y6
  have z_int := PySem.W.mg_none_of X G y7
  have z_all := PySem.W.mg_none_of X G y8
  have z_max := PySem.W.mg_none_of X G y9
  have z_min := PySem.W.mg_none_of X G y10
  have g_ALL_PAIRS := gint_mk X G gn0
  have g_SAME_PAIRS := gint_mk X G gn1
  have U0 := aBo (st := aCv) l0 e0 k0
  have b0 := U0.binds (ps := ["self"]) fun _ _ _ _ _ _ us hl => by obtain ⟨_, rfl⟩ := lnX1 us hl; rfl
  have m0 : Meth K C0 "__init__" f0 := ⟨a0, i0, k0⟩
  have U1 := aBo (st := aGg) l1 e1 k1
  have b1 := U1.binds (ps := ["self", "x", "y"]) fun _ _ _ _ _ _ us hl => by obtain ⟨_, _, _, rfl⟩ := lnX3 us hl; rfl
  have m1 : Meth K C0 "left" f1 := ⟨a1, i1, k1⟩
  have U2 := aBo (st := st_M_put) l2 e2 k2
  have b2 := U2.binds (ps := ["self", "x", "y", "pairs", "why"]) fun _ _ _ _ _ _ us hl => by obtain ⟨_, _, _, _, _, rfl⟩ := lnX5 us hl; rfl
  have m2 : Meth K C0 "put" f2 := ⟨a2, i2, k2⟩
  have U3 := aBo (st := aDn) l3 e3 k3
  have b3 := U3.binds (ps := ["self"]) fun _ _ _ _ _ _ us hl => by obtain ⟨_, rfl⟩ := lnX1 us hl; rfl
  have m3 : Meth K C0 "is_shut" f3 := ⟨a3, i3, k3⟩
  have U4 := aBo (st := aEd) l4 e4 k4
  have b4 := U4.binds (ps := ["self", "x", "y", "pairs", "why"]) fun _ _ _ _ _ _ us hl => by obtain ⟨_, _, _, _, _, rfl⟩ := lnX5 us hl; rfl
  have m4 : Meth K C0 "narrow" f4 := ⟨a4, i4, k4⟩
  have U5 := aBo (st := aGh) l5 e5 k5
  have b5 := U5.binds (ps := ["mask"]) fun _ _ _ _ _ _ us hl => by obtain ⟨_, rfl⟩ := lnX1 us hl; rfl
  have m5 := PySem.W.mg_of X G a5
  have U6 := aBo (st := aEv) l6 e6 k6
  have b6 := U6.binds (ps := ["first", "second"]) fun _ _ _ _ _ _ us hl => by obtain ⟨_, _, rfl⟩ := lnX2 us hl; rfl
  have m6 := PySem.W.mg_of X G a6
  have U7 := aBo (st := aDo) l7 e7 k7
  have b7 := U7.binds (ps := ["tie", "x", "y"]) fun _ _ _ _ _ _ us hl => by obtain ⟨_, _, _, rfl⟩ := lnX3 us hl; rfl
  have m7 := PySem.W.mg_of X G a7
  have U8 := aBo (st := st_begun) l8 e8 k8
  have b8 := U8.binds (ps := ["net"]) fun _ _ _ _ _ _ us hl => by obtain ⟨_, rfl⟩ := lnX1 us hl; rfl
  have m8 := PySem.W.mg_of X G a8
  have U9 := aBo (st := st_fits) l9 e9 k9
  have b9 := U9.binds (ps := ["sheet", "setting", "unknown"]) fun _ _ _ _ _ _ us hl => by obtain ⟨_, _, _, rfl⟩ := lnX3 us hl; rfl
  have m9 := PySem.W.mg_of X G a9
  have U10 := aBo (st := aDp) l10 e10 k10
  have b10 := U10.binds (ps := ["sheet", "many"]) fun _ _ _ _ _ _ us hl => by obtain ⟨_, _, rfl⟩ := lnX2 us hl; rfl
  have m10 := PySem.W.mg_of X G a10
  have U11 := aBo (st := aGi) l11 e11 k11
  have b11 := U11.binds (ps := ["first", "second"]) fun _ _ _ _ _ _ us hl => by obtain ⟨_, _, rfl⟩ := lnX2 us hl; rfl
  have m11 := PySem.W.mg_of X G a11
  have U12 := aBo (st := aDq) l12 e12 k12
  have b12 := U12.binds (ps := ["self", "x", "z", "y"]) fun _ _ _ _ _ _ us hl => by obtain ⟨_, _, _, _, rfl⟩ := lnX4 us hl; rfl
  have m12 : Meth K C0 "join_by" f12 := ⟨a12, i12, k12⟩
  have U13 := aBo (st := aEe) l13 e13 k13
  have b13 := U13.binds (ps := ["sheet", "many"]) fun _ _ _ _ _ _ us hl => by obtain ⟨_, _, rfl⟩ := lnX2 us hl; rfl
  have m13 := PySem.W.mg_of X G a13
  have U14 := aBo (st := aGj) l14 e14 k14
  have b14 := U14.binds (ps := ["scope", "setting"]) fun _ _ _ _ _ _ us hl => by obtain ⟨_, _, rfl⟩ := lnX2 us hl; rfl
  have m14 := PySem.W.mg_of X G a14
  have U15 := aBo (st := st_unmet) l15 e15 k15
  have b15 := U15.binds (ps := ["net", "setting"]) fun _ _ _ _ _ _ us hl => by obtain ⟨_, _, rfl⟩ := lnX2 us hl; rfl
  have m15 := PySem.W.mg_of X G a15
  have U16 := aBo (st := aGk) l16 e16 k16
  have b16 := U16.binds (ps := ["net"]) fun _ _ _ _ _ _ us hl => by obtain ⟨_, rfl⟩ := lnX1 us hl; rfl
  have m16 := PySem.W.mg_of X G a16
  have U17 := aBo (st := aBy) l17 e17 k17
  have b17 := U17.binds (ps := ["script", "k"]) fun _ _ _ _ _ _ us hl => by obtain ⟨_, _, rfl⟩ := lnX2 us hl; rfl
  have m17 := PySem.W.mg_of X G a17
  have U18 := aBo (st := aCw) l18 e18 k18
  have b18 := U18.binds (ps := ["found"]) fun _ _ _ _ _ _ us hl => by obtain ⟨_, rfl⟩ := lnX1 us hl; rfl
  have m18 := PySem.W.mg_of X G a18
  have U19 := aBo (st := aBz) l19 e19 k19
  have b19 := U19.binds (ps := ["row"]) fun _ _ _ _ _ _ us hl => by obtain ⟨_, rfl⟩ := lnX1 us hl; rfl
  have m19 := PySem.W.mg_of X G a19
  have U20 := aBo (st := aCj) l20 e20 k20
  have b20 := U20.binds (ps := ["first", "then"]) fun _ _ _ _ _ _ us hl => by obtain ⟨_, _, rfl⟩ := lnX2 us hl; rfl
  have m20 := PySem.W.mg_of X G a20
  have U21 := aBo (st := aBr) l21 e21 k21
  have b21 := U21.binds (ps := ["tie", "x", "y"]) fun _ _ _ _ _ _ us hl => by obtain ⟨_, _, _, rfl⟩ := lnX3 us hl; rfl
  have m21 := PySem.W.mg_of X G a21
  have U22 := aBo (st := aDr) l22 e22 k22
  have b22 := U22.binds (ps := ["net", "lines", "x", "y", "why"]) fun _ _ _ _ _ _ us hl => by obtain ⟨_, _, _, _, _, rfl⟩ := lnX5 us hl; rfl
  have m22 := PySem.W.mg_of X G a22
  have U23 := aBo (st := aDs) l23 e23 k23
  have b23 := U23.binds (ps := ["net", "lines"]) fun _ _ _ _ _ _ us hl => by obtain ⟨_, _, rfl⟩ := lnX2 us hl; rfl
  have m23 := PySem.W.mg_of X G a23
  have U24 := aBo (st := aEf) l24 e24 k24
  have b24 := U24.binds (ps := ["scope", "setting"]) fun _ _ _ _ _ _ us hl => by obtain ⟨_, _, rfl⟩ := lnX2 us hl; rfl
  have m24 := PySem.W.mg_of X G a24
  have U25 := aBo (st := aCx) l25 e25 k25
  have b25 := U25.binds (ps := ["net", "setting"]) fun _ _ _ _ _ _ us hl => by obtain ⟨_, _, rfl⟩ := lnX2 us hl; rfl
  have m25 := PySem.W.mg_of X G a25
  have U26 := aBo (st := aDt) l26 e26 k26
  have b26 := U26.binds (ps := ["number", "k"]) fun _ _ _ _ _ _ us hl => by obtain ⟨_, _, rfl⟩ := lnX2 us hl; rfl
  have m26 := PySem.W.mg_of X G a26
  have U27 := aBo (st := aCa) l27 e27 k27
  have b27 := U27.binds (ps := ["table"]) fun _ _ _ _ _ _ us hl => by obtain ⟨_, rfl⟩ := lnX1 us hl; rfl
  have m27 := PySem.W.mg_of X G a27
  have U28 := aBo (st := aEg) l28 e28 k28
  have b28 := U28.binds (ps := ["cell", "many", "hidden", "kept"]) fun _ _ _ _ _ _ us hl => by obtain ⟨_, _, _, _, rfl⟩ := lnX4 us hl; rfl
  have m28 := PySem.W.mg_of X G a28
  have U29 := aBo (st := st_law) l29 e29 k29
  have b29 := U29.binds (ps := ["script"]) fun _ _ _ _ _ _ us hl => by obtain ⟨_, rfl⟩ := lnX1 us hl; rfl
  have m29 := PySem.W.mg_of X G a29
  refine ⟨PySem.W.fnOf "law" "law" (aAu st_law) (aAk st_law) (aAa st_law) .none kV29 dc29 pm29 an29 cd29 ct29, fun s v => .of_eq rfl, fun base _ _ => ?_⟩
  have c_M___init__ := cal_M___init__ (P := l.prog) (w := w) (base := base) csh U0 ⟨mk, a0, i0, kc⟩ mC b0  
  have c_M_left := cal_M_left (P := l.prog) (w := w) (base := base) csh U1 m1 b1  g_ALL_PAIRS
  have c_M_put := cal_M_put (P := l.prog) (w := w) (base := base) csh U2 m2 b2  z_len
  have c_M_is_shut := cal_M_is_shut (P := l.prog) (w := w) (base := base) csh U3 m3 b3  z_len
  have c_M_narrow := cal_M_narrow (P := l.prog) (w := w) (base := base) csh U4 m4 b4 c_M_left c_M_put c_M_is_shut z_len
  have c_places := cal_places (P := l.prog) (w := w) (base := base) U5 m5 b5  z_range
  have c_pair_of := cal_pair_of (P := l.prog) (w := w) (base := base) U6 m6 b6  
  have c_tie_pairs := cal_tie_pairs (P := l.prog) (w := w) (base := base) U7 m7 b7 c_places c_pair_of 
  have c_begun := cal_begun (P := l.prog) (w := w) (base := base) csh U8 m8 b8 c_M___init__ c_M_narrow c_tie_pairs z_range z_enumerate g_SAME_PAIRS
  have c_fits := cal_fits (P := l.prog) (w := w) (base := base) csh U9 m9 b9 c_pair_of c_M_left z_range
  have c_chosen_by := cal_chosen_by (P := l.prog) (w := w) (base := base) U10 m10 b10 c_fits z_range
  have c_joined := cal_joined (P := l.prog) (w := w) (base := base) U11 m11 b11 c_places c_pair_of 
  have c_M_join_by := cal_M_join_by (P := l.prog) (w := w) (base := base) csh U12 m12 b12 c_M_narrow c_joined c_M_left 
  have c_join_all := cal_join_all (P := l.prog) (w := w) (base := base) csh U13 m13 b13 c_M_join_by z_range
  have c_row_at := cal_row_at (P := l.prog) (w := w) (base := base) U14 m14 b14  z_enumerate z_sum
  have c_unmet := cal_unmet (P := l.prog) (w := w) (base := base) U15 m15 b15 c_row_at z_enumerate
  have c_paired := cal_paired (P := l.prog) (w := w) (base := base) csh U16 m16 b16 c_begun c_M_is_shut c_chosen_by c_join_all c_unmet z_len z_tuple
  have c__law_cell_at := cal__law_cell_at (P := l.prog) (w := w) (base := base) U17 m17 b17  z_len
  have c__law_whole := cal__law_whole (P := l.prog) (w := w) (base := base) U18 m18 b18  z_isinstance z_bool z_int
  have c__law_numbers := cal__law_numbers (P := l.prog) (w := w) (base := base) U19 m19 b19 c__law_whole z_all
  have c__law_joined := cal__law_joined (P := l.prog) (w := w) (base := base) U20 m20 b20  z_range
  have c__law_pairs_of := cal__law_pairs_of (P := l.prog) (w := w) (base := base) U21 m21 b21  z_len z_range
  have c__law_said := cal__law_said (P := l.prog) (w := w) (base := base) U22 m22 b22 c__law_numbers c__law_joined c__law_pairs_of z_len z_max z_range z_sum
  have c__law_shut := cal__law_shut (P := l.prog) (w := w) (base := base) U23 m23 b23 c__law_said c__law_numbers z_isinstance z_tuple z_len z_range z_max
  have c__law_row := cal__law_row (P := l.prog) (w := w) (base := base) U24 m24 b24  z_len z_range z_sum
  have c__law_meets := cal__law_meets (P := l.prog) (w := w) (base := base) U25 m25 b25 c__law_row 
  have c__law_turn := cal__law_turn (P := l.prog) (w := w) (base := base) U26 m26 b26  
  have c__law_middled := cal__law_middled (P := l.prog) (w := w) (base := base) U27 m27 b27  z_range z_len
  have c__law_tie := cal__law_tie (P := l.prog) (w := w) (base := base) U28 m28 b28 c__law_middled c__law_turn c__law_row z_min z_range z_len z_sum z_tuple
  exact fn_law (P := l.prog) (w := w) (base := base) U29 b29 c_paired c__law_cell_at c__law_shut c__law_whole c__law_meets c__law_turn c__law_tie c__law_middled z_int z_tuple z_len z_isinstance z_range
end My
open PySem PySem.W PyProof.Rows
set_option maxRecDepth 100000 in
set_option maxHeartbeats 0 in
theorem PySem.Challenge.cw_mixkeep_k41_whole_middle_holds : PySem.Challenge.rw_mixkeep_k41_whole_middle.Holds := by
  w_on; o_law; k_head; (case hw => w_witness2)
  k_fill
  refine L2.walk_ofK (l := PySem.Challenge.rw_mixkeep_k41_whole_middle) (n := 63) (k := 6) (x := "script") (CX := L2.CX0) (sp := fun K => DL.spD K 1 (DL.ar 1 My.s_law)) rfl (by decide) rfl ⟨rfl, by decide, by decide⟩ (fun w h Y => PySem.W.kIn_of Y) ?F ?S ?C
  case F =>
    intro w mg fa h KX G hmg
    refine' My.all_mk KX G hmg ?a0 ?i0 ?l0 ?e0 ?k0 ?a1 ?i1 ?l1 ?e1 ?k1 ?a2 ?i2 ?l2 ?e2 ?k2 ?a3 ?i3 ?l3 ?e3 ?k3 ?a4 ?i4 ?l4 ?e4 ?k4 ?a5 ?l5 ?e5 ?k5 ?a6 ?l6 ?e6 ?k6 ?a7 ?l7 ?e7 ?k7 ?a8 ?l8 ?e8 ?k8 ?a9 ?l9 ?e9 ?k9 ?a10 ?l10 ?e10 ?k10 ?a11 ?l11 ?e11 ?k11 ?a12 ?i12 ?l12 ?e12 ?k12 ?a13 ?l13 ?e13 ?k13 ?a14 ?l14 ?e14 ?k14 ?a15 ?l15 ?e15 ?k15 ?a16 ?l16 ?e16 ?k16 ?a17 ?l17 ?e17 ?k17 ?a18 ?l18 ?e18 ?k18 ?a19 ?l19 ?e19 ?k19 ?a20 ?l20 ?e20 ?k20 ?a21 ?l21 ?e21 ?k21 ?a22 ?l22 ?e22 ?k22 ?a23 ?l23 ?e23 ?k23 ?a24 ?l24 ?e24 ?k24 ?a25 ?l25 ?e25 ?k25 ?a26 ?l26 ?e26 ?k26 ?a27 ?l27 ?e27 ?k27 ?a28 ?l28 ?e28 ?k28 ?a29 ?l29 ?e29 ?k29 ?aC ?pg ?hd ?po ?sa ?mk ?kc ?nL ?nN ?y0 ?y1 ?y2 ?y3 ?y4 ?y5 ?y6 ?y7 ?y8 ?y9 ?y10 ?gn0 ?gn1
    (case aC => k_is)
    (case a0 => k_is)
    (case i0 => k_is)
    (case l0 => k_is)
    (case e0 => k_is)
    (case k0 => k_is)
    (case a1 => k_is)
    (case i1 => k_is)
    (case l1 => k_is)
    (case e1 => k_is)
    (case k1 => k_is)
    (case a2 => k_is)
    (case i2 => k_is)
    (case l2 => k_is)
    (case e2 => k_is)
    (case k2 => k_is)
    (case a3 => k_is)
    (case i3 => k_is)
    (case l3 => k_is)
    (case e3 => k_is)
    (case k3 => k_is)
    (case a4 => k_is)
    (case i4 => k_is)
    (case l4 => k_is)
    (case e4 => k_is)
    (case k4 => k_is)
    (case a5 => k_is)
    (case l5 => k_is)
    (case e5 => k_is)
    (case k5 => k_is)
    (case a6 => k_is)
    (case l6 => k_is)
    (case e6 => k_is)
    (case k6 => k_is)
    (case a7 => k_is)
    (case l7 => k_is)
    (case e7 => k_is)
    (case k7 => k_is)
    (case a8 => k_is)
    (case l8 => k_is)
    (case e8 => k_is)
    (case k8 => k_is)
    (case a9 => k_is)
    (case l9 => k_is)
    (case e9 => k_is)
    (case k9 => k_is)
    (case a10 => k_is)
    (case l10 => k_is)
    (case e10 => k_is)
    (case k10 => k_is)
    (case a11 => k_is)
    (case l11 => k_is)
    (case e11 => k_is)
    (case k11 => k_is)
    (case a12 => k_is)
    (case i12 => k_is)
    (case l12 => k_is)
    (case e12 => k_is)
    (case k12 => k_is)
    (case a13 => k_is)
    (case l13 => k_is)
    (case e13 => k_is)
    (case k13 => k_is)
    (case a14 => k_is)
    (case l14 => k_is)
    (case e14 => k_is)
    (case k14 => k_is)
    (case a15 => k_is)
    (case l15 => k_is)
    (case e15 => k_is)
    (case k15 => k_is)
    (case a16 => k_is)
    (case l16 => k_is)
    (case e16 => k_is)
    (case k16 => k_is)
    (case a17 => k_is)
    (case l17 => k_is)
    (case e17 => k_is)
    (case k17 => k_is)
    (case a18 => k_is)
    (case l18 => k_is)
    (case e18 => k_is)
    (case k18 => k_is)
    (case a19 => k_is)
    (case l19 => k_is)
    (case e19 => k_is)
    (case k19 => k_is)
    (case a20 => k_is)
    (case l20 => k_is)
    (case e20 => k_is)
    (case k20 => k_is)
    (case a21 => k_is)
    (case l21 => k_is)
    (case e21 => k_is)
    (case k21 => k_is)
    (case a22 => k_is)
    (case l22 => k_is)
    (case e22 => k_is)
    (case k22 => k_is)
    (case a23 => k_is)
    (case l23 => k_is)
    (case e23 => k_is)
    (case k23 => k_is)
    (case a24 => k_is)
    (case l24 => k_is)
    (case e24 => k_is)
    (case k24 => k_is)
    (case a25 => k_is)
    (case l25 => k_is)
    (case e25 => k_is)
    (case k25 => k_is)
    (case a26 => k_is)
    (case l26 => k_is)
    (case e26 => k_is)
    (case k26 => k_is)
    (case a27 => k_is)
    (case l27 => k_is)
    (case e27 => k_is)
    (case k27 => k_is)
    (case a28 => k_is)
    (case l28 => k_is)
    (case e28 => k_is)
    (case k28 => k_is)
    (case a29 => k_is)
    (case l29 => k_is)
    (case e29 => k_is)
    (case k29 => k_is)
    (case pg => k_is)
    (case hd => k_is)
    (case po => k_is)
    (case sa => k_is)
    (case mk => k_is)
    (case kc => k_is)
    (case nL => k_is)
    (case nN => k_is)
    (case y0 => k_is)
    (case y1 => k_is)
    (case y2 => k_is)
    (case y3 => k_is)
    (case y4 => k_is)
    (case y5 => k_is)
    (case y6 => k_is)
    (case y7 => k_is)
    (case y8 => k_is)
    (case y9 => k_is)
    (case y10 => k_is)
    (case gn0 => k_is)
    (case gn1 => k_is)
  case S => exact fun K H a ns hl hO hS => DL.law_true_of My.e_law K H a ns hl hS
  case C => exact fun _ _ _ _ z => z

