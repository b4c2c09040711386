import PyProof.Rows.All
import Wide.All
import OpenK.AllK
import Wide.FinOn
import Lean
import PyProof.EqAt
import PyProof.EqKinds
import PyProof.TupleCall
import PyProof.ExcArgsOwn
import PyProof.NeKinds
import PyProof.NsDelKeeps
import KE.KTryMore
import KE.KIsAll
import KE.KUnpack
import KE.LcSums
import OpenK.KOwn
import PyProof.CompMap
import PyProof.Cells
import PySem.Challenge.RW_endrooms_k12_walks_refused
set_option Elab.async false
set_option linter.all false
set_option maxRecDepth 100000
namespace L2
open PySem PySem.Spec PyProof.Rows
noncomputable abbrev Key := Sum Int Str
noncomputable def keyIs : Key → Value → Bool
  | .inl k, v => Value.isInt k v
  | .inr x, v => Value.isStrOf x v
noncomputable def keyH (w : World) : Key → Int
  | .inl k => hashInt k
  | .inr x => hashStr w x
theorem keyIs_shape : ∀ {k : Key} {v : Value}, keyIs k v = true → (∃ i t, k = Sum.inl i ∧ v = Value.int i t) ∨ (∃ x t, k = Sum.inr x ∧ v = Value.str x t)
  | .inl i, v, h => by
    obtain ⟨t, e⟩ := Value.isInt_shape (k := i) (v := v) h
    exact .inl ⟨i, t, rfl, e⟩
  | .inr x, v, h => by
    obtain ⟨t, e⟩ := Value.isStrOf_shape (x := x) (v := v) h
    exact .inr ⟨x, t, rfl, e⟩
theorem key_ll (a b : Int) : decide ((Sum.inl a : Key) = Sum.inl b) = (a == b) := by
  by_cases e : a = b
  · subst e; simp
  · have h : ¬ (Sum.inl a : Key) = Sum.inl b := fun q => e (Sum.inl.inj q)
    rw [decide_eq_false h]
    exact (beq_eq_false_iff_ne.mpr e).symm
theorem key_rr (a b : Str) : decide ((Sum.inr a : Key) = Sum.inr b) = decide (a = b) := by
  by_cases e : a = b
  · subst e; simp
  · have h : ¬ (Sum.inr a : Key) = Sum.inr b := fun q => e (Sum.inr.inj q)
    rw [decide_eq_false h, decide_eq_false e]
theorem key_lr (a : Int) (b : Str) : decide ((Sum.inl a : Key) = Sum.inr b) = false := decide_eq_false (fun q => nomatch q)
theorem key_rl (a : Str) (b : Int) : decide ((Sum.inr a : Key) = Sum.inl b) = false := decide_eq_false (fun q => nomatch q)
noncomputable def mixKind (prog : Program) (w : World) : PySem.KeyKind prog w Key where
  is := keyIs
  hash := keyH w
  inj := fun v a b ha hb => by
    rcases keyIs_shape ha with ⟨i, t, rfl, rfl⟩ | ⟨x, t, rfl, rfl⟩
    · rcases keyIs_shape hb with ⟨j, u, rfl, e⟩ | ⟨y, u, rfl, e⟩
      · injection e with e1 _; rw [e1]
      · exact nomatch e
    · rcases keyIs_shape hb with ⟨j, u, rfl, e⟩ | ⟨y, u, rfl, e⟩
      · exact nomatch e
      · injection e with e1 _; rw [e1]
  byValue := fun k v h => by
    rcases keyIs_shape h with ⟨i, t, rfl, rfl⟩ | ⟨x, t, rfl, rfl⟩ <;> rfl
  pyHash := fun hv h => by
    rcases keyIs_shape hv with ⟨i, t, rfl, rfl⟩ | ⟨x, t, rfl, rfl⟩
    · exact wpAny_pyHash_int h
    · exact wpAny_pyHash_str h
  eqBool := fun hu hv h => by
    rcases keyIs_shape hu with ⟨i, t, rfl, rfl⟩ | ⟨x, t, rfl, rfl⟩
    · rcases keyIs_shape hv with ⟨j, u, rfl, rfl⟩ | ⟨y, u, rfl, rfl⟩
      · rw [key_ll] at h; exact wpAny_eqBool_int h
      · rw [key_lr] at h; exact SeqAt.EqAt.int_str i t y u _ _ _ _ h
    · rcases keyIs_shape hv with ⟨j, u, rfl, rfl⟩ | ⟨y, u, rfl, rfl⟩
      · rw [key_rl] at h; exact SeqAt.EqAt.str_int x t j u _ _ _ _ h
      · rw [key_rr] at h; exact wpAny_eqBool_str h
  «strs» := fun k x t v h => by
    rcases keyIs_shape h with ⟨i, u, rfl, e⟩ | ⟨y, u, rfl, e⟩
    · exact nomatch e
    · injection e with e1 _
      subst e1
      cases v <;> rfl
end L2
namespace L2
open PySem PySem.Spec PyProof.Rows
inductive V where
  | non | bl (b : Bool) | int (i : Int) | str (x : Str) | byt (b : Array UInt8) | flt (b : UInt64) | ref (a : Addr) | ty (n : String)
  deriving DecidableEq
noncomputable def RelV : V → Value → Prop
  | .non, u => u = Value.none
  | .bl b, u => u = Value.bool b
  | .int i, u => ∃ t, u = Value.int i t
  | .str x, u => ∃ t, u = Value.str x t
  | .byt b, u => ∃ t, u = Value.bytes b t
  | .flt b, u => ∃ t, u = Value.float b t
  | .ref a, u => u = Value.ref a
  | .ty n, u => u = Value.type n
noncomputable abbrev Vals : List V → List Value → Prop := Paired RelV
theorem Vals.length {xs : List V} {us : List Value} (r : Vals xs us) : xs.length = us.length := Paired.length r
theorem Vals.get : ∀ {xs : List V} {us : List Value} {i : Nat} {x : V}, Vals xs us → xs[i]? = some x → ∃ u, us[i]? = some u ∧ RelV x u
  | _, _, _, _, .nil, e => by simp at e
  | _, _, 0, _, .cons r _, e => by simp at e; subst e; exact ⟨_, rfl, r⟩
  | _, _, i + 1, x, .cons _ t, e => by
    obtain ⟨u, h1, h2⟩ := Vals.get (i := i) (x := x) t (by simpa using e)
    exact ⟨u, by simpa using h1, h2⟩
theorem Vals.set {x : V} {u : Value} (r : RelV x u) : ∀ {xs : List V} {us : List Value} (i : Nat), Vals xs us → Vals (xs.set i x) (us.set i u)
  | _, _, _, .nil => .nil
  | _, _, 0, .cons _ t => .cons r t
  | _, _, i + 1, .cons q t => .cons q (Vals.set r i t)
theorem Vals.append : ∀ {xs ys : List V} {us ws : List Value}, Vals xs us → Vals ys ws → Vals (xs ++ ys) (us ++ ws)
  | _, _, _, _, .nil, s => s
  | _, _, _, _, .cons r t, s => .cons r (Vals.append t s)
theorem Vals.take : ∀ {xs : List V} {us : List Value} (n : Nat), Vals xs us → Vals (xs.take n) (us.take n)
  | _, _, 0, _ => .nil
  | _, _, _ + 1, .nil => .nil
  | _, _, n + 1, .cons r t => .cons r (Vals.take n t)
theorem Vals.drop : ∀ {xs : List V} {us : List Value} (n : Nat), Vals xs us → Vals (xs.drop n) (us.drop n)
  | _, _, 0, r => r
  | _, _, _ + 1, .nil => .nil
  | _, _, n + 1, .cons _ t => Vals.drop n t
noncomputable def RelO : Option V → Option Value → Prop
  | some v, some u => RelV v u
  | none, none => True
  | _, _ => False
noncomputable def KV {κ : Type} : List (κ × V) → List (κ × Value) → Prop := Paired fun (p : κ × V) (q : κ × Value) => p.1 = q.1 ∧ RelV p.2 q.2
noncomputable def kV : Key → V
  | .inl i => .int i
  | .inr x => .str x
inductive HO where
    | lst (xs : List V)
    | tup (xs : List V)
    | dK (kvs : List (Key × V)) | dT (kvs : List (List Key × V))
    | set (S : Int → Bool) (n : Nat)
    | ins (C dx : Addr) (fs : List (Str × V))
    | own (x : Addr)
    | xd (fs : List (Str × V))
    | met (f x : Addr)
    | rng (lo hi : Int)
    | frz (o : Obj) (u : HO)
    | tbl (ps : Array Value)
    | ext (φ : Heap → Prop)
noncomputable abbrev Hp := Addr → Option HO
noncomputable def upd (H : Hp) (a : Addr) (o : HO) : Hp := fun b => if b = a then some o else H b
theorem upd_same {H : Hp} {a : Addr} {o : HO} : upd H a o a = some o := by unfold upd; rw [if_pos rfl]
theorem upd_ne {H : Hp} {a b : Addr} {o : HO} (h : b ≠ a) : upd H a o b = H b := by unfold upd; rw [if_neg h]
theorem ne_of {H : Hp} {a b : Addr} {o u : HO} (h : H a = some o) (h' : H b = some u) (d : o ≠ u) : a ≠ b := by
  intro e; subst e; rw [h] at h'; exact d (Option.some.inj h')
theorem ne_of_none {H : Hp} {a b : Addr} {o : HO} (h : H a = some o) (h' : H b = none) : a ≠ b := by
  intro e; subst e; rw [h] at h'; cases h'
section
variable (P : Program) (w : World)
noncomputable def ObjOk (H : Hp) (h : Heap) (a : Addr) : HO → Prop
  | .lst xs => xs.length ≤ sizeLine ∧ ∃ (its : List Value) (n : Nat), Vals xs its ∧ h.get? a = some { cls := .type "list", data := .seq its.toArray n }
  | .tup xs => xs.length ≤ sizeLine ∧ ∃ its : List Value, Vals xs its ∧ IsTup h a its.toArray
  | .dK kvs => kvs.length ≤ sizeLine ∧ (a == sysModules) = false ∧ ∃ vs, KV kvs vs ∧ h.DictOf (mixKind P w) a vs
  | .dT kvs => kvs.length ≤ sizeLine ∧ (a == sysModules) = false ∧ ∃ xs : List (List Key × Addr × Value),
      Paired (fun (p : List Key × V) (q : List Key × Addr × Value) => p.1 = q.1 ∧ H q.2.1 = some (.tup (p.1.map kV)) ∧ RelV p.2 q.2.2) kvs xs ∧
      ∃ o es ep, h.get? a = some o ∧ o.ExactDict ∧ o.data = .dict es ep ∧ es.toList = xs.map (entryOfKey (tupleKind (mixKind P w))) ∧ (xs.map (·.1)).Nodup
  | .set S n => h.SetOf (intKind P w) a S n
  | .ins C dx fs => H dx = some (.own a) ∧ fs.length ≤ 1000 ∧ dx ≠ a ∧ h.get? a = some (PySem.W.instObj C dx) ∧
      ∃ mA, h.Ns1 dx mA ∧ (∀ f, RelO (fs.lookup f) (mA f)) ∧ PySem.Within mA (fs.map (·.1))
  | .own _ => ∃ o, h.get? a = some o
  | .xd fs => ∃ mA, h.Ns1 a mA ∧ ∀ f, RelO (fs.lookup f) (mA f)
  | .rng lo hi => ∃ t u v, h.get? a = some { cls := .type "range", data := .fields #[.int lo t, .int hi u, .int 1 v] }
  | .frz o u => h.get? a = some o ∧ ObjOk H h a u
  | .tbl ps => h.get? a = some { cls := .none, data := .fields ps }
  | .met f x => h.get? a = some (PySem.W.methodObj (.ref f) (.ref x))
  | .ext φ => φ h ∧ (∃ o, h.get? a = some o) ∧ ∀ h1 h2 : Heap, φ h1 → (∀ o, h1.get? a = some o → h2.get? a = some o) → φ h2
noncomputable def HOk (H : Hp) (h : Heap) : Prop := ∀ a o, H a = some o → ObjOk P w H h a o
end
section
variable {P : Program} {w : World} {H H' : Hp} {h h' : Heap} {a : Addr} {o : HO}
theorem ObjOk.lt (x : ObjOk P w H h a o) : a < h.objs.size := by
  cases o with
  | lst xs => obtain ⟨_, _, _, _, e⟩ := x; exact Heap.lt_size e
  | tup xs => obtain ⟨_, _, _, p⟩ := x; exact p.lt
  | dK kvs => obtain ⟨_, _, _, _, o, _, _, e, _⟩ := x; exact Heap.lt_size e
  | dT kvs => obtain ⟨_, _, _, _, o, _, _, e, _⟩ := x; exact Heap.lt_size e
  | set S n => obtain ⟨o, _, _, _, e, _⟩ := x; exact Heap.lt_size e
  | ins C dx fs => obtain ⟨_, _, _, e, _⟩ := x; exact Heap.lt_size e
  | own y => obtain ⟨_, e⟩ := x; exact Heap.lt_size e
  | xd fs => obtain ⟨_, ⟨_, _, _, e, _⟩, _⟩ := x; exact Heap.lt_size e
  | rng lo hi => obtain ⟨_, _, _, e⟩ := x; exact Heap.lt_size e
  | frz ob u => obtain ⟨e, _⟩ := x; exact Heap.lt_size e
  | tbl ps => exact Heap.lt_size (show h.get? a = some _ from x)
  | met f y => exact Heap.lt_size (show h.get? a = some _ from x)
  | ext φ => obtain ⟨_, ⟨_, e⟩, _⟩ := x; exact Heap.lt_size e
theorem Paired.mapP {α β : Type} {F G : α → β → Prop} : ∀ {l₁ : List α} {l₂ : List β}, Paired F l₁ l₂ → (∀ a b, F a b → G a b) → Paired G l₁ l₂
  | _, _, .nil, _ => .nil
  | _, _, .cons r t, f => .cons (f _ _ r) (Paired.mapP t f)
theorem ObjOk.stay (x : ObjOk P w H h a o) (k : ∀ b u, (b = a ∨ H b = some (.own a)) → h.get? b = some u → h'.get? b = some u)
    (ho : ∀ b, H b = some (.own a) → H' b = some (.own a)) (ht : ∀ b xs, H b = some (.tup xs) → H' b = some (.tup xs)) : ObjOk P w H' h' a o := by
  induction o with
  | lst xs => obtain ⟨z, its, n, r, e⟩ := x; exact ⟨z, its, n, r, k _ _ (.inl rfl) e⟩
  | tup xs => obtain ⟨z, its, r, ob, e, c⟩ := x; exact ⟨z, its, r, ob, k _ _ (.inl rfl) e, c⟩
  | dK kvs => obtain ⟨z, y, vs, r, ob, es, ep, e, c⟩ := x; exact ⟨z, y, vs, r, ob, es, ep, k _ _ (.inl rfl) e, c⟩
  | dT kvs =>
    obtain ⟨z, y, xs, r, ob, es, ep, e, c⟩ := x
    exact ⟨z, y, xs, Paired.mapP r fun p q z => ⟨z.1, ht _ _ z.2.1, z.2.2⟩, ob, es, ep, k _ _ (.inl rfl) e, c⟩
  | set S n => obtain ⟨ob, es, ep, t, e, c⟩ := x; exact ⟨ob, es, ep, t, k _ _ (.inl rfl) e, c⟩
  | ins C dx fs =>
    obtain ⟨d, z, ne, e, mA, ⟨od, es, ep, e2, c⟩, r⟩ := x
    exact ⟨ho _ d, z, ne, k _ _ (.inl rfl) e, mA, ⟨od, es, ep, k _ _ (.inr d) e2, c⟩, r⟩
  | own y => obtain ⟨ob, e⟩ := x; exact ⟨ob, k _ _ (.inl rfl) e⟩
  | xd fs => obtain ⟨mA, ⟨od, es, ep, e, c⟩, r⟩ := x; exact ⟨mA, ⟨od, es, ep, k _ _ (.inl rfl) e, c⟩, r⟩
  | rng lo hi => obtain ⟨t, u, v, e⟩ := x; exact ⟨t, u, v, k _ _ (.inl rfl) e⟩
  | frz ob u ih => obtain ⟨e, q⟩ := x; exact ⟨k _ _ (.inl rfl) e, ih q⟩
  | tbl ps =>
    have e : h.get? a = some { cls := .none, data := .fields ps } := x
    show h'.get? a = some { cls := .none, data := .fields ps }
    exact k a _ (.inl rfl) e
  | met f y =>
    have e : h.get? a = some (PySem.W.methodObj (.ref f) (.ref y)) := x
    show h'.get? a = some (PySem.W.methodObj (.ref f) (.ref y))
    exact k a _ (.inl rfl) e
  | ext φ => obtain ⟨p, ⟨o, e⟩, st⟩ := x; exact ⟨st _ _ p fun o q => k _ _ (.inl rfl) q, ⟨o, k _ _ (.inl rfl) e⟩, st⟩
theorem HOk.lt (x : HOk P w H h) (e : H a = some o) : a < h.objs.size := (x a o e).lt
theorem HOk.fresh (x : HOk P w H h) (e : h.objs.size ≤ a) : H a = none := by
  cases q : H a with
  | none => rfl
  | some u => exact absurd (Nat.lt_of_lt_of_le (x.lt q) e) (Nat.lt_irrefl _)
theorem HOk.kept (x : HOk P w H h) (k : ∀ b u, h.get? b = some u → h'.get? b = some u) : HOk P w H h' := fun a o e =>
  (x a o e).stay (fun b u _ q => k b u q) (fun _ q => q) fun _ _ q => q
theorem HOk.laid (x : HOk P w H h) (k : ∀ b u, h.get? b = some u → h'.get? b = some u) (hp : h.objs.size ≤ a) (new : ObjOk P w (upd H a o) h' a o) : HOk P w (upd H a o) h' := fun b u e => by
  have hn := x.fresh hp
  by_cases hb : b = a
  · subst hb; rw [upd_same] at e; cases e; exact new
  · rw [upd_ne hb] at e
    exact (x b u e).stay (fun c v _ q => k c v q) (fun c q => by rw [upd_ne (ne_of_none q hn)]; exact q) fun c xs q => by rw [upd_ne (ne_of_none q hn)]; exact q
end
noncomputable def Rd (H : Hp) (a : Addr) (u : HO) : Prop := H a = some u ∨ ∃ o, H a = some (.frz o u)
theorem Rd.ok {P : Program} {w : World} {H : Hp} {h : Heap} {a : Addr} {u : HO} (r : Rd H a u) (x : HOk P w H h) : ObjOk P w H h a u := by
  rcases r with r | ⟨o, r⟩
  · exact x a u r
  · obtain ⟨_, q⟩ := x a _ r
    exact q
noncomputable def Mut : Option HO → Prop
  | some (.lst _) => True
  | some (.dK _) => True
  | some (.dT _) => True
  | some (.set _ _) => True
  | some (.ins _ _ _) => True
  | some (.ext _) => True
  | _ => False
section
variable {P : Program} {w : World} {H : Hp} {h h' : Heap} {x e : Addr} {o' : HO}
theorem HOk.write (ok : HOk P w H h) (mu : Mut (H x)) (he : e = x ∨ H e = some (.own x)) (k : ∀ b u, b ≠ e → h.get? b = some u → h'.get? b = some u) (heo : ∃ u, h'.get? e = some u)
    (new : ObjOk P w (upd H x o') h' x o') : HOk P w (upd H x o') h' := fun b u q => by
  have nown : ∀ c y, H c = some (.own y) → c ≠ x := fun c y r z => by subst z; rw [r] at mu; exact mu
  have ntup : ∀ c xs, H c = some (.tup xs) → c ≠ x := fun c xs r z => by subst z; rw [r] at mu; exact mu
  by_cases hb : b = x
  · subst hb; rw [upd_same] at q; cases q; exact new
  · rw [upd_ne hb] at q
    by_cases hbe : b = e
    · have q' : H b = some (.own x) := by
        rcases he with z | z
        · exact absurd (hbe.trans z) hb
        · rw [hbe]; exact z
      rw [q] at q'; cases q'
      obtain ⟨v, hv⟩ := heo
      exact ⟨v, by rw [hbe]; exact hv⟩
    · refine (ok b u q).stay (fun c v hc r => k c v ?_ r) (fun c r => by rw [upd_ne (nown c b r)]; exact r) fun c xs r => by rw [upd_ne (ntup c xs r)]; exact r
      rcases hc with rfl | hc
      · exact hbe
      · rintro rfl
        rcases he with z | z
        · exact nown c b hc z
        · rw [hc] at z; cases z; exact hb rfl
end
structure Un (fs ex : List Addr) (H H' : Hp) (h h' : Heap) : Prop where
  keep : ∀ b o, h.get? b = some o → H b = none → b ∉ fs → b ∉ ex → h'.get? b = some o
  slot : ∀ b o, h.get? b = some o → H b = none → b ∈ fs → b ∉ ex → ∃ sl, h'.get? b = some { o with slots := sl }
  free : ∀ b o, h.get? b = some o → H b = none → b ∉ ex → H' b = none
  there : ∀ b o, h.get? b = some o → b ∉ ex → ∃ o', h'.get? b = some o'
  tups : ∀ b xs, H b = some (.tup xs) → H' b = some (.tup xs)
  frzs : ∀ b o u, H b = some (.frz o u) → H' b = some (.frz o u)
  tbls : ∀ b ps, H b = some (.tbl ps) → ∃ more, H' b = some (.tbl (ps ++ more))
section
variable {fs fs' ex ex' : List Addr} {H H1 H2 : Hp} {h h1 h2 h' : Heap} {a x e : Addr} {o : HO}
theorem Un.any (u : Un fs ex H H1 h h1) {b : Addr} {ob : Obj} (q : h.get? b = some ob) (n : H b = none) (hx : b ∉ ex) : ∃ sl, h1.get? b = some { ob with slots := sl } := by
  by_cases hb : b ∈ fs
  · exact u.slot b ob q n hb hx
  · exact ⟨ob.slots, u.keep b ob q n hb hx⟩
theorem Un.kept (k : ∀ b u, h.get? b = some u → h'.get? b = some u) : Un fs ex H H h h' :=
  ⟨fun b ob q _ _ _ => k b ob q, fun b ob q _ _ _ => ⟨ob.slots, k b ob q⟩, fun _ _ _ n _ => n, fun b ob q _ => ⟨ob, k b ob q⟩, fun _ _ q => q, fun _ _ _ q => q, fun _ ps q => ⟨#[], by rw [q]; simp⟩⟩
theorem Un.refl : Un fs ex H H h h := Un.kept fun _ _ q => q
theorem Un.laid (k : ∀ b u, h.get? b = some u → h'.get? b = some u) (hp : h.objs.size ≤ a) (hn : H a = none) : Un fs ex H (upd H a o) h h' where
  keep := fun b u q _ _ _ => k b u q
  slot := fun b u q _ _ _ => ⟨u.slots, k b u q⟩
  free := fun b u q n _ => by rw [upd_ne (Nat.ne_of_lt (Nat.lt_of_lt_of_le (Heap.lt_size q) hp))]; exact n
  there := fun b u q _ => ⟨u, k b u q⟩
  tups := fun b xs q => by rw [upd_ne (ne_of_none q hn)]; exact q
  frzs := fun b u xs q => by rw [upd_ne (ne_of_none q hn)]; exact q
  tbls := fun b ps q => ⟨#[], by rw [upd_ne (ne_of_none q hn), q]; simp⟩
theorem Un.write (mu : Mut (H x)) (he : e = x ∨ H e = some (.own x)) (k : ∀ b u, b ≠ e → h.get? b = some u → h'.get? b = some u) (heo : ∃ u, h'.get? e = some u) : Un fs ex H (upd H x o) h h' := by
  have hx : ∀ b, H b = none → b ≠ x := fun b n z => by subst z; rw [n] at mu; exact mu
  have hb : ∀ b, H b = none → b ≠ e := fun b n z => by
    subst z
    rcases he with r | r
    · exact hx b n r
    · rw [n] at r; cases r
  have hm : ∀ b u, H b = some u → ¬ Mut (some u) → b ≠ x := fun b u q nm z => by subst z; rw [q] at mu; exact nm mu
  refine ⟨fun b u q n _ _ => k b u (hb b n) q, fun b u q n _ _ => ⟨u.slots, k b u (hb b n) q⟩, fun b u q n _ => by rw [upd_ne (hx b n)]; exact n, fun b u q _ => ?_,
    fun b xs q => by rw [upd_ne (hm b _ q fun z => z)]; exact q, fun b u xs q => by rw [upd_ne (hm b _ q fun z => z)]; exact q, fun b ps q => ⟨#[], by rw [upd_ne (hm b _ q fun z => z), q]; simp⟩⟩
  by_cases hbe : b = e
  · subst hbe; exact heo
  · exact ⟨u, k b u hbe q⟩
end
noncomputable def trk (h : Heap) (H : Hp) : List Addr := (List.range h.objs.size).filter fun a => (H a).isSome
noncomputable def hidT (h : Heap) (H : Hp) : Heap := PySem.W.hideAll h (trk h H)
theorem hidT_size (h : Heap) (H : Hp) : (hidT h H).objs.size = h.objs.size := PySem.W.hideAll_size _ _
theorem hidT_get {h : Heap} {H : Hp} {b : Addr} {o : Obj} (e : h.get? b = some o) (n : H b = none) : (hidT h H).get? b = some o :=
  PySem.W.hideAll_get _ e fun hm => by
    have q : (H b).isSome = true := (List.mem_filter.mp hm).2
    rw [n] at q; simp at q
theorem of_hidT {h : Heap} {H : Hp} {b : Addr} {o : Obj} (e : (hidT h H).get? b = some o) : h.get? b = some o ∧ H b = none := by
  have e' : h.get? b = some o := PySem.W.of_hideAll (trk h H) e
  refine ⟨e', ?_⟩
  cases q : H b with
  | none => rfl
  | some x =>
    have hm : b ∈ trk h H := List.mem_filter.mpr ⟨List.mem_range.mpr (Heap.lt_size e'), by simp [q]⟩
    have z : (hidT h H).get? b = none := PySem.W.hideAll_none (trk h H) hm
    rw [z] at e; cases e
end L2
namespace L2
open PySem PySem.Spec PyProof.Rows
structure Mod (K : PySem.W.Frag) (mg : Str → Option Value) (base : Heap) : Prop where
  kin : K.In base
  glob : base.Ns mainGlobals mg
  blt : ∃ mb, base.Ns builtinsNs mb ∧ ∀ x : Str, x ≠ "__name__" → mb x = bootBuiltins x
  nolimit : base.NoLimit
set_option genInjectivity false
set_option genSizeOfSpec false
structure Cx where
  prog : Program
  w : World
  K : PySem.W.Frag
  mg : Str → Option Value
  base : Heap
  A : Around
  N : List Str
  s₀ : Shared
  H₀ : Hp
  env : Env
  outer : List Env
  stack : List Env
  ex : List Addr
  fn : Str → Bool
  calm : Bool
  pn : List (Addr × Obj)
  xe : Value → Shared → Prop
noncomputable def frs (l : List Env) : List Addr := l.filterMap (·.frame)
noncomputable abbrev Cx.fs (X : Cx) : List Addr := frs X.outer
noncomputable def Vis (sc : Scope) (x : Str) : Prop := sc.names.lookup x = some .local ∨ sc.names.lookup x = some .cell ∨ sc.names.lookup x = some .free
noncomputable def Loc (sc : Scope) (x : Str) : Prop := sc.names.lookup x = some .local ∨ sc.names.lookup x = some .cell
noncomputable def Look (env : Env) (h : Heap) (m : Str → Option Value) (x : Str) (u : Value) : Prop :=
  (env.kindOf x = some .local ∧ m x = some u) ∨ ((env.kindOf x = some .cell ∨ env.kindOf x = some .free) ∧ ∃ c, env.cells.lookup x = some c ∧ h.IsCell c (some u))
structure Cx.Ok (X : Cx) : Prop where
  mod : Mod X.K X.mg X.base
  kind : X.env.scope.kind = .function
  glob : X.env.globals = mainGlobals
  blt : X.env.builtins = builtinsNs
  above : X.s₀.heap.objs.size ≤ X.env.locals
  inj : ∀ x y c, X.env.cells.lookup x = some c → X.env.cells.lookup y = some c → x = y
  has : ∀ x, (X.env.kindOf x = some .cell ∨ X.env.kindOf x = some .free) → ∃ c, X.env.cells.lookup x = some c
  cab : ∀ x c, X.fn x = true → X.env.cells.lookup x = some c → X.s₀.heap.objs.size ≤ c
  hd : X.calm = true → X.A.handled = none
  frames : X.A.frames = some X.stack
  stk : X.stack = X.outer ∨ (X.stack = X.env :: X.outer ∧ X.env.frame = some X.env.locals)
  exf : ∀ b ∈ X.ex, b ≠ X.env.locals ∧ ∀ x c, X.env.cells.lookup x = some c → c ≠ b
  bs : ∀ b o, X.base.get? b = some o → X.s₀.heap.get? b = some o ∧ X.H₀ b = none
  bsz : X.base.objs.size ≤ X.s₀.heap.objs.size
  noex : ∀ b o, X.base.get? b = some o → b ∉ X.ex
  exfs : ∀ b ∈ X.ex, b ∉ X.fs
  funs : X.s₀.heap.FunFrames X.base X.outer
  frf : ∀ b ∈ X.fs, X.H₀ b = none
structure Inv (X : Cx) (pins : List (Addr × Obj)) (σ : List (Option V)) (H : Hp) (s : Shared) : Prop where
  ok : X.Ok
  os : s.os = X.s₀.os
  bare : AllBare s.gens
  base : Un X.fs X.ex X.H₀ H X.s₀.heap s.heap
  loc : ∃ m, s.heap.Ns X.env.locals m ∧ ∀ (i : Nat) (x : Str) (v : V), X.N[i]? = some x → σ[i]? = some (some v) → Vis X.env.scope x → ∃ u, RelV v u ∧ Look X.env s.heap m x u
  cell : ∀ x c, X.env.cells.lookup x = some c → ∃ v, s.heap.IsCell c v
  free : H X.env.locals = none
  freeC : ∀ x c, X.env.cells.lookup x = some c → H c = none
  pin : ∀ p ∈ X.pn ++ pins, s.heap.get? p.1 = some p.2 ∧ H p.1 = none ∧ p.1 ≠ X.env.locals ∧ p.1 ∉ X.fs ∧ ∀ v, p.2.data ≠ .cell v
  hok : HOk X.prog X.w H s.heap
  len : σ.length = X.N.length
section
variable {X : Cx} {pins : List (Addr × Obj)} {σ : List (Option V)} {H H' : Hp} {s : Shared} {h' : Heap}
theorem Cx.Ok.nofr (ok : X.Ok) {b : Addr} {o : Obj} (e : X.base.get? b = some o) : b ∉ X.fs := fun hb => by
  have := (ok.funs.mem hb).1
  rw [e] at this; cases this
theorem Inv.bs (I : Inv X pins σ H s) : ∀ b o, X.base.get? b = some o → s.heap.get? b = some o ∧ H b = none := fun b o e =>
  ⟨I.base.keep b o (I.ok.bs b o e).1 (I.ok.bs b o e).2 (I.ok.nofr e) (I.ok.noex b o e), I.base.free b o (I.ok.bs b o e).1 (I.ok.bs b o e).2 (I.ok.noex b o e)⟩
theorem Inv.bk (I : Inv X pins σ H s) : ∀ b o, X.base.get? b = some o → s.heap.get? b = some o := fun b o e => (I.bs b o e).1
theorem Inv.mod (I : Inv X pins σ H s) : Mod X.K X.mg X.base := I.ok.mod
theorem Inv.kIn (I : Inv X pins σ H s) : X.K.In s.heap := I.ok.mod.kin.keeps I.bk
theorem Inv.fr (I : Inv X pins σ H s) : ∃ m, Fr X.base X.env.locals s.heap m :=
  let ⟨m, hn, _⟩ := I.loc
  ⟨m, hn, I.bk, Nat.le_trans I.ok.bsz I.ok.above⟩
theorem Inv.lt (I : Inv X pins σ H s) : X.env.locals < s.heap.objs.size := let ⟨_, hn, _⟩ := I.loc; hn.lt
theorem Inv.sz (I : Inv X pins σ H s) : X.s₀.heap.objs.size ≤ s.heap.objs.size := Nat.le_trans I.ok.above (Nat.le_of_lt I.lt)
theorem Inv.nofs (I : Inv X pins σ H s) {a : Addr} (h : s.heap.objs.size ≤ a) : a ∉ X.fs := fun hb => by
  obtain ⟨_, o, ho, _⟩ := I.ok.funs.mem hb
  exact absurd (Nat.lt_of_lt_of_le (Heap.lt_size ho) (Nat.le_trans I.sz h)) (Nat.lt_irrefl _)
theorem Inv.cne (I : Inv X pins σ H s) : ∀ x c, X.env.cells.lookup x = some c → c ≠ X.env.locals := fun x c e z => by
  obtain ⟨v, o, ho, hd⟩ := I.cell x c e
  obtain ⟨m, ⟨o', es, ep, ho', hd', _⟩, _⟩ := I.loc
  rw [z, ho'] at ho; cases ho; rw [hd'] at hd; cases hd
theorem Inv.funs (I : Inv X pins σ H s) : s.heap.FunFrames X.base X.outer := by
  have all : ∀ (l : List Env), (∀ b ∈ frs l, b ∈ X.fs) → X.s₀.heap.FunFrames X.base l → s.heap.FunFrames X.base l := by
    intro l
    induction l with
    | nil => intro _ _; trivial
    | cons env r ih =>
      intro hs hl
      obtain ⟨hk, ⟨L, o, hf, hn, ho, hd⟩, hr⟩ := hl
      have hL : L ∈ X.fs := hs L (by unfold frs; rw [List.filterMap_cons, hf]; exact List.mem_cons_self)
      obtain ⟨sl, e⟩ := I.base.slot L o ho (I.ok.frf L hL) hL fun z => I.ok.exfs L z hL
      exact ⟨hk, ⟨L, _, hf, hn, e, hd⟩, ih (fun b hb => hs b (by unfold frs; rw [List.filterMap_cons, hf]; exact List.mem_cons_of_mem _ hb)) hr⟩
  exact all X.outer (fun _ hb => hb) I.ok.funs
theorem Inv.stack (I : Inv X pins σ H s) : s.heap.FunFrames X.base X.stack := by
  rcases I.ok.stk with e | ⟨e, hf⟩
  · rw [e]; exact I.funs
  · rw [e]
    obtain ⟨m, hn, _⟩ := I.loc
    refine .cons (by rw [I.ok.kind]; decide) hf hn ?_ I.funs
    exact Heap.get?_none_of_le (Nat.le_trans I.ok.bsz I.ok.above)
theorem Inv.stkSub (I : Inv X pins σ H s) : ∀ b ∈ frs X.stack, b ∈ X.env.locals :: X.fs := fun b hb => by
  rcases I.ok.stk with e | ⟨e, hf⟩
  · rw [e] at hb; exact List.mem_cons_of_mem _ hb
  · rw [e] at hb
    unfold frs at hb
    rw [List.filterMap_cons, hf] at hb
    exact hb
theorem Inv.stkFree (I : Inv X pins σ H s) : ∀ b ∈ frs X.stack, H b = none := fun b hb => by
  rcases List.mem_cons.mp (I.stkSub b hb) with e | hb
  · rw [e]; exact I.free
  · obtain ⟨_, o, ho, _⟩ := I.ok.funs.mem hb
    exact I.base.free b o ho (I.ok.frf b hb) fun z => I.ok.exfs b z hb
theorem Inv.step {g' : Array GenState} {t' : Nat} {d' : Drawn} {ch : List Addr} (I : Inv X pins σ H s)
    (hch : ∀ b ∈ ch, (b ∈ X.ex ∨ X.s₀.heap.objs.size ≤ b) ∧ b ≠ X.env.locals ∧ (∀ x c, X.env.cells.lookup x = some c → c ≠ b) ∧ ∀ p ∈ X.pn ++ pins, p.1 ≠ b)
    (keep : ∀ b o, b ≠ X.env.locals → b ∉ X.fs → b ∉ ch → s.heap.get? b = some o → H b = none → h'.get? b = some o)
    (slot : ∀ b o, b ≠ X.env.locals → b ∈ X.fs → b ∉ ch → s.heap.get? b = some o → H b = none → ∃ sl, h'.get? b = some { o with slots := sl }) (free : ∀ b o, b ∉ ch → s.heap.get? b = some o → H b = none → H' b = none)
    (there : ∀ b o, b ∉ ch → s.heap.get? b = some o → ∃ o', h'.get? b = some o')
    (tups : ∀ b xs, H b = some (.tup xs) → H' b = some (.tup xs)) (frzs : ∀ b o u, H b = some (.frz o u) → H' b = some (.frz o u)) (tbls : ∀ b ps, H b = some (.tbl ps) → ∃ more, H' b = some (.tbl (ps ++ more)))
    (ns : ∀ m, s.heap.Ns X.env.locals m → h'.Ns X.env.locals m) (hok : HOk X.prog X.w H' h') (hg : AllBare g') :
    Inv X pins σ H' { s with heap := h', gens := g', drawn := d', toks := t' } := by
  have neL : ∀ b o, X.s₀.heap.get? b = some o → b ≠ X.env.locals := fun b o e => Nat.ne_of_lt (Nat.lt_of_lt_of_le (Heap.lt_size e) I.ok.above)
  have neC : ∀ b o, X.s₀.heap.get? b = some o → b ∉ X.ex → b ∉ ch := fun b o e hx hb => by
    rcases (hch b hb).1 with z | z
    · exact hx z
    · exact absurd (Nat.lt_of_lt_of_le (Heap.lt_size e) z) (Nat.lt_irrefl _)
  have cellK : ∀ x c, X.env.cells.lookup x = some c → ∀ v, s.heap.IsCell c v → h'.IsCell c v := fun x c e v ⟨o, ho, hd⟩ => by
    have nch : c ∉ ch := fun z => (hch c z).2.2.1 x c e rfl
    by_cases hc : c ∈ X.fs
    · obtain ⟨sl, q⟩ := slot c o (I.cne x c e) hc nch ho (I.freeC x c e)
      exact ⟨_, q, hd⟩
    · exact ⟨o, keep c o (I.cne x c e) hc nch ho (I.freeC x c e), hd⟩
  refine ⟨I.ok, I.os, hg, ⟨fun b o e n hb hx => ?_, fun b o e n hb hx => ?_, fun b o e n hx => ?_, fun b o e hx => ?_, fun b xs e => tups b xs (I.base.tups b xs e), fun b o xs e => frzs b o xs (I.base.frzs b o xs e), fun b ps e => ?_⟩, ?_, fun x c e => ?_, ?_, fun x c e => ?_, fun p hp => ?_, hok, I.len⟩
  · exact keep b o (neL b o e) hb (neC b o e hx) (I.base.keep b o e n hb hx) (I.base.free b o e n hx)
  · obtain ⟨sl, e1⟩ := I.base.slot b o e n hb hx
    obtain ⟨sl', e2⟩ := slot b _ (neL b o e) hb (neC b o e hx) e1 (I.base.free b o e n hx)
    exact ⟨sl', e2⟩
  · obtain ⟨o', e1⟩ := I.base.there b o e hx
    exact free b o' (neC b o e hx) e1 (I.base.free b o e n hx)
  · obtain ⟨o', e1⟩ := I.base.there b o e hx
    exact there b o' (neC b o e hx) e1
  · obtain ⟨m1, e1⟩ := I.base.tbls b ps e
    obtain ⟨m2, e2⟩ := tbls b _ e1
    exact ⟨m1 ++ m2, by rw [e2, Array.append_assoc]⟩
  · obtain ⟨m, hn, hl⟩ := I.loc
    refine ⟨m, ns m hn, fun i x v e1 e2 e3 => ?_⟩
    obtain ⟨u, r, l⟩ := hl i x v e1 e2 e3
    refine ⟨u, r, ?_⟩
    rcases l with l | ⟨k, c, e, z⟩
    · exact .inl l
    · exact .inr ⟨k, c, e, cellK x c e _ z⟩
  · obtain ⟨v, z⟩ := I.cell x c e
    exact ⟨v, cellK x c e v z⟩
  · obtain ⟨m, ⟨o, _, _, ho, _⟩, _⟩ := I.loc
    exact free _ o (fun z => (hch _ z).2.1 rfl) ho I.free
  · obtain ⟨v, o, ho, hd⟩ := I.cell x c e
    exact free c o (fun z => (hch c z).2.2.1 x c e rfl) ho (I.freeC x c e)
  · obtain ⟨e, n, ne, nf, d⟩ := I.pin p hp
    have nch : p.1 ∉ ch := fun z => (hch p.1 z).2.2.2 p hp rfl
    exact ⟨keep p.1 p.2 ne nf nch e n, free p.1 p.2 nch e n, ne, nf, d⟩
theorem Inv.un {t' : Nat} (I : Inv X pins σ H s) (u : Un X.fs [] H H' s.heap h') (hok : HOk X.prog X.w H' h') : Inv X pins σ H' { s with heap := h', toks := t' } := by
  obtain ⟨m, ⟨o, es, ep, ho, r⟩, _⟩ := id I.loc
  obtain ⟨sl, hL⟩ := u.any ho I.free (by simp)
  exact I.step (g' := s.gens) (d' := s.drawn) (ch := []) (fun _ z => nomatch z) (fun b o _ hb _ e n => u.keep b o e n hb (by simp)) (fun b o _ hb _ e n => u.slot b o e n hb (by simp)) (fun b o _ e n => u.free b o e n (by simp)) (fun b o _ e => u.there b o e (by simp)) u.tups u.frzs u.tbls (fun m' hm => by
    obtain ⟨o', es', ep', ho', r'⟩ := hm
    rw [ho] at ho'; cases ho'
    exact ⟨_, es', ep', hL, r'⟩) hok I.bare
theorem Inv.call {g' : Array GenState} {t' : Nat} {d' : Drawn} {ch : List Addr} (I : Inv X pins σ H s) (u : Un (frs X.stack) ch H H' s.heap h') (hok : HOk X.prog X.w H' h') (hg : AllBare g')
    (hch : ∀ b ∈ ch, (b ∈ X.ex ∨ X.s₀.heap.objs.size ≤ b) ∧ b ≠ X.env.locals ∧ (∀ x c, X.env.cells.lookup x = some c → c ≠ b) ∧ ∀ p ∈ X.pn ++ pins, p.1 ≠ b) :
    Inv X pins σ H' { s with heap := h', gens := g', drawn := d', toks := t' } := by
  obtain ⟨m, ⟨o, es, ep, ho, r⟩, _⟩ := id I.loc
  obtain ⟨sl, hL⟩ := u.any ho I.free fun z => (hch _ z).2.1 rfl
  exact I.step (ch := ch) hch (fun b o hL hb hc e n => u.keep b o e n (fun z => (List.mem_cons.mp (I.stkSub b z)).elim hL hb) hc) (fun b o _ _ hc e n => u.any e n hc) (fun b o hc e n => u.free b o e n hc) (fun b o hc e => u.there b o e hc) u.tups u.frzs u.tbls (fun m' hm => by
    obtain ⟨o', es', ep', ho', r'⟩ := hm
    rw [ho] at ho'; cases ho'
    exact ⟨_, es', ep', hL, r'⟩) hok hg
theorem Inv.turned {t' : Nat} {it : Addr} (I : Inv X pins σ H s) (k : ∀ b o, b ≠ it → s.heap.get? b = some o → h'.get? b = some o) (hn : H it = none) (hL : it ≠ X.env.locals)
    (h1 : it ∈ X.ex ∨ X.s₀.heap.objs.size ≤ it) (h2 : ∀ x c, X.env.cells.lookup x = some c → c ≠ it) (h3 : ∀ p ∈ X.pn ++ pins, p.1 ≠ it) : Inv X pins σ H { s with heap := h', toks := t' } := by
  have nit : ∀ b u, H b = some u → b ≠ it := fun b u e z => by rw [z, hn] at e; cases e
  refine I.step (g' := s.gens) (d' := s.drawn) (ch := [it]) (fun b hb => ?_) (fun b o _ _ hc e _ => k b o (fun z => hc (by simp [z])) e) (fun b o _ _ hc e _ => ⟨o.slots, k b o (fun z => hc (by simp [z])) e⟩) (fun _ _ _ _ n => n)
    (fun b o hc e => ⟨o, k b o (fun z => hc (by simp [z])) e⟩) (fun _ _ e => e) (fun _ _ _ e => e) (fun b ps e => ⟨#[], by rw [e]; simp⟩) (fun m hm => ?_) (fun b u e => ?_) I.bare
  · have e : b = it := by simpa using hb
    subst e
    exact ⟨h1, hL, h2, h3⟩
  · obtain ⟨o, es, ep, ho, r⟩ := hm
    exact ⟨o, es, ep, k _ o (Ne.symm hL) ho, r⟩
  · refine (I.hok b u e).stay (fun c v hc q => k c v ?_ q) (fun _ q => q) fun _ _ q => q
    rcases hc with z | z
    · rw [z]; exact nit b u e
    · exact nit c _ z
theorem Inv.tok (I : Inv X pins σ H s) (t : Nat) : Inv X pins σ H { s with toks := t } := I.un (h' := s.heap) (t' := t) Un.refl I.hok
theorem Inv.kept {t' : Nat} (I : Inv X pins σ H s) (k : ∀ b u, s.heap.get? b = some u → h'.get? b = some u) : Inv X pins σ H { s with heap := h', toks := t' } := I.un (Un.kept k) (I.hok.kept k)
theorem Inv.laid {a : Addr} {o : HO} {t' : Nat} (I : Inv X pins σ H s) (k : ∀ b u, s.heap.get? b = some u → h'.get? b = some u) (hp : s.heap.objs.size ≤ a) (new : ObjOk X.prog X.w (upd H a o) h' a o) :
    Inv X pins σ (upd H a o) { s with heap := h', toks := t' } := I.un (Un.laid k hp (I.hok.fresh hp)) (I.hok.laid k hp new)
theorem Inv.write {x e : Addr} {o : HO} {t' : Nat} (I : Inv X pins σ H s) (mu : Mut (H x)) (he : e = x ∨ H e = some (.own x)) (k : ∀ b u, b ≠ e → s.heap.get? b = some u → h'.get? b = some u) (heo : ∃ u, h'.get? e = some u)
    (new : ObjOk X.prog X.w (upd H x o) h' x o) : Inv X pins σ (upd H x o) { s with heap := h', toks := t' } := I.un (Un.write mu he k heo) (I.hok.write mu he k heo new)
theorem Inv.weak {σ' : List (Option V)} (I : Inv X pins σ H s) (hl : σ'.length = σ.length) (w : ∀ (i : Nat) v, σ'[i]? = some (some v) → σ[i]? = some (some v)) : Inv X pins σ' H s :=
  ⟨I.ok, I.os, I.bare, I.base, let ⟨m, hn, hl'⟩ := I.loc; ⟨m, hn, fun i x v e1 e2 e3 => hl' i x v e1 (w i v e2) e3⟩, I.cell, I.free, I.freeC, I.pin, I.hok, hl.trans I.len⟩
theorem Inv.pins_of {pins' : List (Addr × Obj)} (I : Inv X pins σ H s) (h : ∀ p ∈ pins', s.heap.get? p.1 = some p.2 ∧ H p.1 = none ∧ p.1 ≠ X.env.locals ∧ p.1 ∉ X.fs ∧ ∀ v, p.2.data ≠ .cell v) : Inv X pins' σ H s :=
  ⟨I.ok, I.os, I.bare, I.base, I.loc, I.cell, I.free, I.freeC, fun p hp => (List.mem_append.mp hp).elim (fun z => I.pin p (List.mem_append_left _ z)) (h p), I.hok, I.len⟩
theorem nodup_ix {N : List Str} (hN : N.Nodup) {i j : Nat} {x : Str} (a : N[i]? = some x) (b : N[j]? = some x) : i = j := by
  obtain ⟨h1, e1⟩ := List.getElem?_eq_some_iff.mp a
  obtain ⟨h2, e2⟩ := List.getElem?_eq_some_iff.mp b
  exact (List.getElem_inj hN).mp (e1.trans e2.symm)
theorem store_ok2 {M : Model} {A : Around} {E : Value → Shared → Prop} {i : Nat} {x : Str} {v : V} {u : Value} {Q : Unit → Shared → Prop} (I : Inv X pins σ H s) (hN : X.N.Nodup) (hi : X.N[i]? = some x) (hx : Loc X.env.scope x) (r : RelV v u)
    (h : ∀ s', Inv X pins (σ.set i (some v)) H s' → (∃ a, Heap.SameBut a s.heap s'.heap ∧ (a = X.env.locals ∨ X.env.cells.lookup x = some a)) → Q () s') (hf : X.fn x = true ∨ X.env.scope.names.lookup x = some .local := by first | exact .inl rfl | exact .inr rfl | assumption) : wpAny M A (storeName X.env x u) Q E s := by
  obtain ⟨m, hn, hl⟩ := id I.loc
  have hcls : (X.env.scope.kind == .class || (X.env.scope.kind == .module && X.env.locals != X.env.globals)) = false := by rw [I.ok.kind]; rfl
  have hiσ : i < σ.length := by rw [I.len]; exact (List.getElem?_eq_some_iff.mp hi).1
  have cne := I.cne
  have tracked : ∀ {a : Addr} {h' : Heap}, (∃ o, s.heap.get? a = some o ∧ H a = none) → Heap.SameBut a s.heap h' → HOk X.prog X.w H h' := fun {a h'} ha hs b ob e => by
    obtain ⟨_, _, hfree⟩ := ha
    refine (I.hok b ob e).stay (fun c w' hc q => (hs.2 c ?_).trans q) (fun _ q => q) fun _ _ q => q
    rintro rfl
    rcases hc with rfl | hc
    · rw [hfree] at e; cases e
    · rw [hfree] at hc; cases hc
  rcases hx with hk | hk
  · refine wpAny_storeName_local hk hn (fun h' hn' hs => ?_) hcls
    obtain ⟨oL, _, _, hoL, _⟩ := id hn
    refine h _ ⟨I.ok, I.os, I.bare, ⟨fun b o e n hb hx => ?_, fun b o e n hb hx => ?_, I.base.free, fun b o e hx => ?_, I.base.tups, I.base.frzs, I.base.tbls⟩, ⟨_, hn', fun j y v' e1 e2 e3 => ?_⟩, fun y c e => ?_, I.free, I.freeC, fun p hp => ?_, tracked ⟨oL, hoL, I.free⟩ hs, by simpa using I.len⟩ ⟨_, hs, .inl rfl⟩
    · exact (hs.2 b (Nat.ne_of_lt (Nat.lt_of_lt_of_le (Heap.lt_size e) I.ok.above))).trans (I.base.keep b o e n hb hx)
    · obtain ⟨sl, e1⟩ := I.base.slot b o e n hb hx
      exact ⟨sl, (hs.2 b (Nat.ne_of_lt (Nat.lt_of_lt_of_le (Heap.lt_size e) I.ok.above))).trans e1⟩
    · obtain ⟨o', e1⟩ := I.base.there b o e hx
      exact ⟨o', (hs.2 b (Nat.ne_of_lt (Nat.lt_of_lt_of_le (Heap.lt_size e) I.ok.above))).trans e1⟩
    · by_cases hj : j = i
      · subst hj
        rw [hi] at e1; cases e1
        rw [List.getElem?_set_self hiσ] at e2
        cases e2
        exact ⟨u, r, .inl ⟨hk, by simp⟩⟩
      · rw [List.getElem?_set_ne (Ne.symm hj)] at e2
        obtain ⟨u', r', q⟩ := hl j y v' e1 e2 e3
        refine ⟨u', r', ?_⟩
        rcases q with ⟨k, e⟩ | ⟨k, c, e, z⟩
        · refine .inl ⟨k, ?_⟩
          have : y ≠ x := fun e => hj (nodup_ix hN e1 (e ▸ hi))
          simp [this, e]
        · exact .inr ⟨k, c, e, z.sameBut hs (cne y c e)⟩
    · obtain ⟨w', z⟩ := I.cell y c e
      exact ⟨w', z.sameBut hs (cne y c e)⟩
    · obtain ⟨e, n, ne, nf, d⟩ := I.pin p hp
      exact ⟨(hs.2 p.1 ne).trans e, n, ne, nf, d⟩
  · have hfn : X.fn x = true := by
      rcases hf with z | z
      · exact z
      · rw [z] at hk; cases hk
    obtain ⟨c, hc⟩ := I.ok.has x (.inl hk)
    obtain ⟨w', z⟩ := I.cell x c hc
    refine wpAny_storeName_cell I.ok.kind hk hc z (fun h' hc' hs => ?_)
    obtain ⟨oc, hoc, hocd⟩ := id z
    refine h { s with heap := h' } ⟨I.ok, I.os, I.bare, ⟨fun b o e n hb hx => ?_, fun b o e n hb hx => ?_, I.base.free, fun b o e hx => ?_, I.base.tups, I.base.frzs, I.base.tbls⟩, ⟨m, hn.sameBut hs (Ne.symm (cne x c hc)), fun j y v' e1 e2 e3 => ?_⟩, fun y c' e => ?_, I.free, I.freeC, fun p hp => ?_, tracked ⟨oc, hoc, I.freeC x c hc⟩ hs, by simpa using I.len⟩ ⟨c, hs, .inr hc⟩
    · exact (hs.2 b (Nat.ne_of_lt (Nat.lt_of_lt_of_le (Heap.lt_size e) (I.ok.cab x c hfn hc)))).trans (I.base.keep b o e n hb hx)
    · obtain ⟨sl, e1⟩ := I.base.slot b o e n hb hx
      exact ⟨sl, (hs.2 b (Nat.ne_of_lt (Nat.lt_of_lt_of_le (Heap.lt_size e) (I.ok.cab x c hfn hc)))).trans e1⟩
    · obtain ⟨o', e1⟩ := I.base.there b o e hx
      exact ⟨o', (hs.2 b (Nat.ne_of_lt (Nat.lt_of_lt_of_le (Heap.lt_size e) (I.ok.cab x c hfn hc)))).trans e1⟩
    · by_cases hj : j = i
      · subst hj
        rw [hi] at e1; cases e1
        rw [List.getElem?_set_self hiσ] at e2
        cases e2
        exact ⟨u, r, .inr ⟨.inl hk, c, hc, hc'⟩⟩
      · rw [List.getElem?_set_ne (Ne.symm hj)] at e2
        obtain ⟨u', r', q⟩ := hl j y v' e1 e2 e3
        refine ⟨u', r', ?_⟩
        rcases q with q | ⟨k, c', e, z'⟩
        · exact .inl q
        · refine .inr ⟨k, c', e, z'.sameBut hs ?_⟩
          rintro rfl
          exact hj (nodup_ix hN e1 (I.ok.inj _ _ _ e hc ▸ hi))
    · by_cases hcc : c' = c
      · subst hcc; exact ⟨_, hc'⟩
      · obtain ⟨w2, z2⟩ := I.cell y c' e
        exact ⟨w2, z2.sameBut hs hcc⟩
    · obtain ⟨e, n, ne, nf, d⟩ := I.pin p hp
      refine ⟨(hs.2 p.1 ?_).trans e, n, ne, nf, d⟩
      intro q
      rw [q, hoc] at e
      have q' : oc = p.2 := Option.some.inj e
      exact d w' (by rw [← q']; exact hocd)
theorem store_ok {M : Model} {A : Around} {E : Value → Shared → Prop} {i : Nat} {x : Str} {v : V} {u : Value} {Q : Unit → Shared → Prop} (I : Inv X pins σ H s) (hN : X.N.Nodup) (hi : X.N[i]? = some x) (hx : Loc X.env.scope x) (r : RelV v u)
    (h : ∀ s', Inv X pins (σ.set i (some v)) H s' → Q () s') (hf : X.fn x = true ∨ X.env.scope.names.lookup x = some .local := by first | exact .inl rfl | exact .inr rfl | assumption) : wpAny M A (storeName X.env x u) Q E s :=
  store_ok2 I hN hi hx r (fun s' I' _ => h s' I') hf
theorem Inv.call' {s' : Shared} {ch : List Addr} (I : Inv X pins σ H s) (ho : s'.os = s.os) (u : Un (frs X.stack) ch H H' s.heap s'.heap) (hok : HOk X.prog X.w H' s'.heap) (hg : AllBare s'.gens)
    (hch : ∀ b ∈ ch, (b ∈ X.ex ∨ X.s₀.heap.objs.size ≤ b) ∧ b ≠ X.env.locals ∧ (∀ x c, X.env.cells.lookup x = some c → c ≠ b) ∧ ∀ p ∈ X.pn ++ pins, p.1 ≠ b) : Inv X pins σ H' s' := by
  obtain ⟨h', g', d', t', o'⟩ := s'
  have e : o' = s.os := ho
  subst e
  exact I.call (g' := g') (t' := t') (d' := d') u hok hg hch
end
noncomputable abbrev XK := Value → Option Addr → Hp → Prop
noncomputable abbrev St := List (Option V)
noncomputable abbrev VK := V → Hp → Prop
noncomputable abbrev TE := St → Hp → VK → Prop
noncomputable abbrev TT := St → Hp → (Bool → Hp → Prop) → Prop
noncomputable abbrev TA := St → Hp → (List V → Hp → Prop) → Prop
structure Ends where
  nx : St → Hp → Prop
  rt : VK
  bk : St → Hp → Prop := fun _ _ => False
  ct : St → Hp → Prop := fun _ _ => False
noncomputable abbrev TS := Ends → St → Hp → Prop
noncomputable def EP (X : Cx) (pins : List (Addr × Obj)) (σ : St) (Q : VK) (u : Value) (s' : Shared) : Prop := ∃ v H', Inv X pins σ H' s' ∧ RelV v u ∧ Q v H'
noncomputable def TP (X : Cx) (pins : List (Addr × Obj)) (σ : St) (Q : Bool → Hp → Prop) (b : Bool) (s' : Shared) : Prop := ∃ H', Inv X pins σ H' s' ∧ Q b H'
noncomputable def AP (X : Cx) (pins : List (Addr × Obj)) (σ : St) (Q : List V → Hp → Prop) (us : List Value) (s' : Shared) : Prop := ∃ vs H', Inv X pins σ H' s' ∧ Vals vs us ∧ Q vs H'
noncomputable def SP (X : Cx) (pins : List (Addr × Obj)) (D : Ends) (f : Flow) (s' : Shared) : Prop :=
  match f with
  | .next => ∃ σ' H', Inv X pins σ' H' s' ∧ D.nx σ' H'
  | .brk => ∃ σ' H', Inv X pins σ' H' s' ∧ D.bk σ' H'
  | .cont => ∃ σ' H', Inv X pins σ' H' s' ∧ D.ct σ' H'
  | .ret u => ∃ v σ' H', Inv X pins σ' H' s' ∧ RelV v u ∧ D.rt v H'
noncomputable def PE (X : Cx) (e : Expr) (t : TE) : Prop :=
  ∀ (pins : List (Addr × Obj)) (s : Shared) (σ : St) (H : Hp) (Q : VK), Inv X pins σ H s → t σ H Q → wpAny (model X.prog X.w) X.A (eval e X.env) (EP X pins σ Q) X.xe s
noncomputable def PT (X : Cx) (e : Expr) (t : TT) : Prop :=
  ∀ (pins : List (Addr × Obj)) (s : Shared) (σ : St) (H : Hp) (Q : Bool → Hp → Prop), Inv X pins σ H s → t σ H Q → wpAny (model X.prog X.w) X.A (isTrue e X.env (eval e X.env)) (TP X pins σ Q) X.xe s
noncomputable def PW (X : Cx) (e : Expr) (t : TT) : Prop :=
  ∀ (whole : Sem Value) (pins : List (Addr × Obj)) (s : Shared) (σ : St) (H : Hp) (Q : Bool → Hp → Prop), Inv X pins σ H s → t σ H Q → wpAny (model X.prog X.w) X.A (isTrue e X.env whole) (TP X pins σ Q) X.xe s
theorem PW.pt {X : Cx} {e : Expr} {t : TT} (h : PW X e t) : PT X e t := h _
noncomputable def PA (X : Cx) (es : List Expr) (t : TA) : Prop :=
  ∀ (pos : Pos) (pins : List (Addr × Obj)) (s : Shared) (σ : St) (H : Hp) (Q : List V → Hp → Prop), Inv X pins σ H s → t σ H Q → wpAny (model X.prog X.w) X.A (spliced (backTo pos (starEach es X.env))) (AP X pins σ Q) X.xe s
noncomputable def PS (X : Cx) (st : Stmt) (t : TS) : Prop :=
  ∀ (pins : List (Addr × Obj)) (s : Shared) (σ : St) (H : Hp) (D : Ends), Inv X pins σ H s → t D σ H → wpAny (model X.prog X.w) X.A (exec st X.env) (SP X pins D) X.xe s
noncomputable def PSs (X : Cx) (st : List Stmt) (t : TS) : Prop :=
  ∀ (pins : List (Addr × Obj)) (s : Shared) (σ : St) (H : Hp) (D : Ends), Inv X pins σ H s → t D σ H → wpAny (model X.prog X.w) X.A (execs st X.env) (SP X pins D) X.xe s
theorem thn {α : Type} {t : Sem α} {Q Q' : α → Shared → Prop} {M : Model} {A : Around} {E : Value → Shared → Prop} {s : Shared} (h : wpAny M A t Q E s) (hQ : ∀ a s, Q a s → Q' a s) : wpAny M A t Q' E s := wpAny_mono h hQ fun _ _ x => x
end L2
namespace L2
open PySem PySem.Spec PyProof.Rows
section
variable {X : Cx}
inductive tVar (i : Nat) (σ : St) (H : Hp) (Q : VK) : Prop
  | mk (v : _) : (σ[i]? = some (some v)) → (Q v H) → tVar i σ H Q
noncomputable def tC (v : V) : TE := fun _ H Q => Q v H
theorem pe_var {i : Nat} {x : Str} {pos : Pos} (hN : X.N[i]? = some x) (hv : Vis X.env.scope x) (hd : (x == ("__debug__" : Str)) = false := by decide) (hcd : (x == ("__classdict__" : Str)) = false := by decide) : PE X (.Name x pos) (tVar i) := by
  intro pins s σ H Q I h
  obtain ⟨v, e, h⟩ := h
  obtain ⟨m, hn, hl⟩ := I.loc
  obtain ⟨u, r, l⟩ := hl i x v hN e hv
  have fin : EP X pins σ Q u s := ⟨v, H, I, r, h⟩
  rcases l with ⟨hk, hm⟩ | ⟨hk, c, hc, hcell⟩
  · exact wpAny_Name (wpAny_loadName_local I.ok.kind hk hn hm fin) hd
  · rcases hk with hk | hk
    · exact wpAny_Name (wpAny_loadName_cell I.ok.kind hk hc hcell fin) hd
    · exact wpAny_Name (wpAny_loadName_free I.ok.kind hk hc hcell fin hcd) hd
theorem pe_int {i j pos} : PE X (.Constant (.int i) j pos) (tC (.int i)) := fun _ _ _ H _ I h => wpAny_Constant_int ⟨.int i, H, I.tok _, ⟨_, rfl⟩, h⟩
theorem pe_bl {b j pos} : PE X (.Constant (.bool b) j pos) (tC (.bl b)) := fun _ _ _ H _ I h => Constant_bool ⟨.bl b, H, I, rfl, h⟩
noncomputable def Gl (X : Cx) (x : Str) : Prop := X.env.kindOf x = some .globalImplicit
theorem ld_glob {E : Value → Shared → Prop} {pins : List (Addr × Obj)} {s : Shared} {σ : St} {H : Hp} {x : Str} {u : Value} {pos : Pos} {Q : Value → Shared → Prop} (I : Inv X pins σ H s) (hg : Gl X x) (hm : X.mg x = some u) (h : Q u s)
    (hd : (x == ("__debug__" : Str)) = false := by decide) : wpAny (model X.prog X.w) X.A (eval (.Name x pos) X.env) Q E s :=
  Calls.Name_function_global I.ok.kind hg (Calls.loadGlobal_global (by rw [I.ok.glob]; exact I.mod.glob.keeps I.bk) hm h) hd
theorem ld_blt {E : Value → Shared → Prop} {pins : List (Addr × Obj)} {s : Shared} {σ : St} {H : Hp} {x : Str} {u : Value} {pos : Pos} {Q : Value → Shared → Prop} (I : Inv X pins σ H s) (hg : Gl X x) (hm : X.mg x = none) (hv : bootBuiltins x = some u) (h : Q u s)
    (hn : x ≠ "__name__" := by decide) (hd : (x == ("__debug__" : Str)) = false := by decide) : wpAny (model X.prog X.w) X.A (eval (.Name x pos) X.env) Q E s := by
  obtain ⟨mb, h1, h2⟩ := I.mod.blt
  exact Calls.Name_function_global I.ok.kind hg (Calls.loadGlobal_builtin (by rw [I.ok.glob]; exact I.mod.glob.keeps I.bk) hm (by rw [I.ok.blt]; exact h1.keeps I.bk) ((h2 x hn).trans hv) h) hd
theorem pe_glob {x : Str} {v : V} {u : Value} {pos : Pos} (hg : Gl X x) (hm : X.mg x = some u) (r : RelV v u) (hd : (x == ("__debug__" : Str)) = false := by decide) : PE X (.Name x pos) (tC v) :=
  fun _ _ _ H _ I h => ld_glob I hg hm ⟨v, H, I, r, h⟩ hd
theorem pe_bltn {x : Str} {v : V} {u : Value} {pos : Pos} (hg : Gl X x) (hm : X.mg x = none) (hv : bootBuiltins x = some u) (r : RelV v u) (hn : x ≠ "__name__" := by decide) (hd : (x == ("__debug__" : Str)) = false := by decide) : PE X (.Name x pos) (tC v) :=
  fun _ _ _ H _ I h => ld_blt I hg hm hv ⟨v, H, I, r, h⟩ hn hd
variable {a b : Expr} {ta tb : TE} {pos : Pos}
inductive rB  (x : V) (H1 : Hp) (Q : Bool → Hp → Prop) : Prop
  | mk (c : _) : (x = .bl c) → (Q c H1) → rB x H1 Q
noncomputable def tB (t : TE) : TT := fun σ H Q => t σ H fun x H1 => rB x H1 Q
theorem pt_val {e : Expr} {t : TE} (h : PE X e t) (he : ∀ whole, isTrue e X.env whole = (do let v ← whole; standAt e.pos; holding [v] (truthy v)) := by intro _; rfl) : PT X e (tB t) := by
  intro pins s σ H Q I hw
  refine isTrue_plain (thn (h pins s σ H _ I hw) fun v s1 ⟨x, H1, I1, r1, q1⟩ => ?_) (he _)
  obtain ⟨d, rfl, q⟩ := q1
  cases r1
  exact wpAny_truthy_bool ⟨H1, I1, q⟩
variable {tA tB' : TT} {rest : List Expr}
noncomputable def tAnd (t u : TT) : TT := fun σ H Q => t σ H fun c H1 => if c = true then u σ H1 Q else Q false H1
noncomputable def tOr (t u : TT) : TT := fun σ H Q => t σ H fun c H1 => if c = true then Q true H1 else u σ H1 Q
noncomputable def tNot (t : TT) : TT := fun σ H Q => t σ H fun c H1 => Q (!c) H1
theorem pw_and1 (ha : PT X a tA) : PW X (.BoolOp .And [a] pos) tA := by
  intro wh pins s σ H Q I h
  refine isTrue_and (thn (ha pins s σ H Q I h) fun c s1 e => ?_)
  cases c with
  | true => exact isTrue_and_nil e
  | false => exact e
theorem pw_or1 (ha : PT X a tA) : PW X (.BoolOp .Or [a] pos) tA := by
  intro wh pins s σ H Q I h
  refine isTrue_or (thn (ha pins s σ H Q I h) fun c s1 e => ?_)
  cases c with
  | false => exact isTrue_or_nil e
  | true => exact e
theorem pw_and (ha : PT X a tA) (hb : PW X (.BoolOp .And (b :: rest) pos) tB') : PW X (.BoolOp .And (a :: b :: rest) pos) (tAnd tA tB') := by
  intro wh pins s σ H Q I h
  refine isTrue_and (thn (ha pins s σ H _ I h) fun c s1 ⟨H1, I1, q1⟩ => ?_)
  cases c with
  | true => exact hb wh pins s1 σ H1 Q I1 q1
  | false => exact ⟨H1, I1, q1⟩
theorem pw_or (ha : PT X a tA) (hb : PW X (.BoolOp .Or (b :: rest) pos) tB') : PW X (.BoolOp .Or (a :: b :: rest) pos) (tOr tA tB') := by
  intro wh pins s σ H Q I h
  refine isTrue_or (thn (ha pins s σ H _ I h) fun c s1 ⟨H1, I1, q1⟩ => ?_)
  cases c with
  | true => exact ⟨H1, I1, q1⟩
  | false => exact hb wh pins s1 σ H1 Q I1 q1
theorem pt_not (ha : PT X a tA) : PT X (.UnaryOp .Not a pos) (tNot tA) := by
  intro pins s σ H Q I h
  exact isTrue_not (ha pins s σ H (fun c H1 => Q (!c) H1) I h)
noncomputable def tAndV (ta tb : TE) : TE := fun σ H Q => ta σ H fun x H1 => rB x H1 fun c H2 => if c = true then tb σ H2 Q else Q (.bl false) H2
noncomputable def tOrV (ta tb : TE) : TE := fun σ H Q => ta σ H fun x H1 => rB x H1 fun c H2 => if c = true then Q (.bl true) H2 else tb σ H2 Q
theorem pe_one {op} {t : TE} (h : PE X a t) : PE X (.BoolOp op [a] pos) t := fun pins s σ H Q I hw => BoolOp_one (h pins s σ H Q I hw)
theorem pe_and (ha : PE X a ta) (hb : PE X (.BoolOp .And (b :: rest) pos) tb) : PE X (.BoolOp .And (a :: b :: rest) pos) (tAndV ta tb) := by
  intro pins s σ H Q I h
  refine BoolOp_and (thn (ha pins s σ H _ I h) fun v s1 ⟨x, H1, I1, r1, q1⟩ => ?_)
  obtain ⟨c, rfl, q1⟩ := q1
  cases r1
  refine wpAny_truthy_bool ?_
  cases c with
  | true => exact hb pins s1 σ H1 Q I1 q1
  | false => exact ⟨.bl false, H1, I1, rfl, q1⟩
theorem pe_or (ha : PE X a ta) (hb : PE X (.BoolOp .Or (b :: rest) pos) tb) : PE X (.BoolOp .Or (a :: b :: rest) pos) (tOrV ta tb) := by
  intro pins s σ H Q I h
  refine BoolOp_or (thn (ha pins s σ H _ I h) fun v s1 ⟨x, H1, I1, r1, q1⟩ => ?_)
  obtain ⟨c, rfl, q1⟩ := q1
  cases r1
  refine wpAny_truthy_bool ?_
  cases c with
  | false => exact hb pins s1 σ H1 Q I1 q1
  | true => exact ⟨.bl true, H1, I1, rfl, q1⟩
noncomputable def tIf (t : TT) (ta tb : TE) : TE := fun σ H Q => t σ H fun c H1 => if c = true then ta σ H1 Q else tb σ H1 Q
theorem pe_ifExp {c : Expr} (hc : PT X c tA) (ha : PE X a ta) (hb : PE X b tb) : PE X (.IfExp c a b pos) (tIf tA ta tb) := by
  intro pins s σ H Q I h
  refine wpAny_IfExp (thn (hc pins s σ H _ I h) fun d s1 ⟨H1, I1, q1⟩ => ?_)
  cases d with
  | true => exact ha pins s1 σ H1 Q I1 q1
  | false => exact hb pins s1 σ H1 Q I1 q1
end
end L2
namespace L2
open PySem PySem.Spec PyProof.Rows
noncomputable def SqL (K : PySem.W.Frag) (H : Hp) (a : Addr) (xs : List V) : Prop :=
  Rd H a (.lst xs) ∨
    ∃ (o : Obj) (its : Array Value) (n : Nat), K.lookup a = some o ∧ o.cls = .type "list" ∧ o.dict = none ∧ o.data = .seq its n ∧ its.size ≤ sizeLine ∧ Vals xs its.toList
noncomputable def SqT (K : PySem.W.Frag) (H : Hp) (a : Addr) (xs : List V) : Prop :=
  Rd H a (.tup xs) ∨
    ∃ (o : Obj) (its : Array Value) (n : Nat), K.lookup a = some o ∧ o.cls = .type "tuple" ∧ o.data = .seq its n ∧ its.size ≤ sizeLine ∧ Vals xs its.toList
noncomputable def absV : Value → Option V
  | .none => some .non
  | .bool b => some (.bl b)
  | .int i _ => some (.int i)
  | .str x _ => some (.str x)
  | .bytes b _ => some (.byt b)
  | .float b _ => some (.flt b)
  | .ref a => some (.ref a)
  | .type n => some (.ty n)
  | _ => none
theorem RelV.abs {x : V} {u : Value} (r : RelV x u) : absV u = some x := by
  cases x with
  | non => cases r; rfl
  | bl _ => cases r; rfl
  | int _ => obtain ⟨t, rfl⟩ := r; rfl
  | str _ => obtain ⟨t, rfl⟩ := r; rfl
  | byt _ => obtain ⟨t, rfl⟩ := r; rfl
  | flt _ => obtain ⟨t, rfl⟩ := r; rfl
  | ref _ => cases r; rfl
  | ty _ => cases r; rfl
theorem RelV.inj {x y : V} {u : Value} (r : RelV x u) (q : RelV y u) : x = y := Option.some.inj (r.abs.symm.trans q.abs)
theorem Vals.inj : ∀ {xs ys : List V} {us : List Value}, Vals xs us → Vals ys us → xs = ys
  | _, _, _, .nil, .nil => rfl
  | _, _, _, .cons r t, .cons r' t' => by rw [r.inj r', Vals.inj t t']
section
variable {X : Cx} {pins : List (Addr × Obj)} {σ : St} {H : Hp} {s : Shared} {a : Addr} {xs ys : List V}
theorem SqL.of {K : PySem.W.Frag} (h : H a = some (.lst xs)) : SqL K H a xs := .inl (.inl h)
theorem SqT.of {K : PySem.W.Frag} (h : H a = some (.tup xs)) : SqT K H a xs := .inl (.inl h)
theorem Inv.list (I : Inv X pins σ H s) (h : SqL X.K H a xs) : ∃ its : List Value, Vals xs its ∧ PlainL s.heap a its.toArray ∧ xs.length ≤ sizeLine := by
  rcases h with h | ⟨o, its, n, hk, hc, hd, hs, hz, r⟩
  · obtain ⟨z, its, n, r, e⟩ := h.ok I.hok
    exact ⟨its, r, ⟨_, n, e, rfl, rfl, rfl⟩, z⟩
  · refine ⟨its.toList, r, ⟨o, n, I.kIn a o hk, hc, hd, by simpa using hs⟩, ?_⟩
    have e := r.length
    simp only [Array.length_toList] at e
    (first | lia | omega)
theorem Inv.tuple (I : Inv X pins σ H s) (h : SqT X.K H a xs) : ∃ its : List Value, Vals xs its ∧ IsTup s.heap a its.toArray ∧ xs.length ≤ sizeLine := by
  rcases h with h | ⟨o, its, n, hk, hc, hs, hz, r⟩
  · obtain ⟨z, its, r, p⟩ := h.ok I.hok
    exact ⟨its, r, p, z⟩
  · refine ⟨its.toList, r, ⟨o, I.kIn a o hk, hc, n, by simpa using hs⟩, ?_⟩
    have e := r.length
    simp only [Array.length_toList] at e
    (first | lia | omega)
theorem Inv.list_inj (I : Inv X pins σ H s) (h : SqL X.K H a xs) (h' : SqL X.K H a ys) : xs = ys := by
  obtain ⟨its, r, ⟨o, n, e, _, _, d⟩, _⟩ := I.list h
  obtain ⟨its', r', ⟨o', n', e', _, _, d'⟩, _⟩ := I.list h'
  rw [e] at e'; cases e'
  rw [d] at d'
  injection d' with d1 _
  have : its = its' := by simpa using congrArg Array.toList d1
  subst this
  exact r.inj r'
theorem Inv.tuple_inj (I : Inv X pins σ H s) (h : SqT X.K H a xs) (h' : SqT X.K H a ys) : xs = ys := by
  obtain ⟨its, r, ⟨o, e, _, n, d⟩, _⟩ := I.tuple h
  obtain ⟨its', r', ⟨o', e', _, n', d'⟩, _⟩ := I.tuple h'
  rw [e] at e'; cases e'
  rw [d] at d'
  injection d' with d1 _
  have : its = its' := by simpa using congrArg Array.toList d1
  subst this
  exact r.inj r'
end
noncomputable abbrev Cx.wish (X : Cx) (E : Value → Shared → Prop) : Cx := { X with xe := E }
noncomputable abbrev Cx.nox (X : Cx) : Cx := X.wish fun _ _ => False
theorem Cx.Ok.wish {X : Cx} (ok : X.Ok) (E : Value → Shared → Prop) : (X.wish E).Ok :=
  ⟨ok.mod, ok.kind, ok.glob, ok.blt, ok.above, ok.inj, ok.has, ok.cab, ok.hd, ok.frames, ok.stk, ok.exf, ok.bs, ok.bsz, ok.noex, ok.exfs, ok.funs, ok.frf⟩
theorem Cx.Ok.unwish {X : Cx} {E : Value → Shared → Prop} (ok : (X.wish E).Ok) : X.Ok :=
  ⟨ok.mod, ok.kind, ok.glob, ok.blt, ok.above, ok.inj, ok.has, ok.cab, ok.hd, ok.frames, ok.stk, ok.exf, ok.bs, ok.bsz, ok.noex, ok.exfs, ok.funs, ok.frf⟩
section
variable {X : Cx} {pins : List (Addr × Obj)} {σ : St} {H : Hp} {s : Shared} {E : Value → Shared → Prop}
theorem Inv.wish (I : Inv X pins σ H s) (E : Value → Shared → Prop) : Inv (X.wish E) pins σ H s := ⟨I.ok.wish E, I.os, I.bare, I.base, I.loc, I.cell, I.free, I.freeC, I.pin, I.hok, I.len⟩
theorem Inv.unwish (I : Inv (X.wish E) pins σ H s) : Inv X pins σ H s := ⟨I.ok.unwish, I.os, I.bare, I.base, I.loc, I.cell, I.free, I.freeC, I.pin, I.hok, I.len⟩
theorem SP.unwish {D : Ends} {f : Flow} {s' : Shared} (h : SP (X.wish E) pins D f s') : SP X pins D f s' := by
  cases f with
  | next => obtain ⟨σ', H', I, q⟩ := h; exact ⟨σ', H', I.unwish, q⟩
  | brk => obtain ⟨σ', H', I, q⟩ := h; exact ⟨σ', H', I.unwish, q⟩
  | cont => obtain ⟨σ', H', I, q⟩ := h; exact ⟨σ', H', I.unwish, q⟩
  | ret u => obtain ⟨v, σ', H', I, r, q⟩ := h; exact ⟨v, σ', H', I.unwish, r, q⟩
theorem PSs.nox {st : List Stmt} {t : TS} (h : PSs X.nox st t) : PSs X st t := fun pins s σ H D I hw =>
  wpAny_mono (h pins s σ H D (I.wish _) hw) (fun _ _ q => q.unwish) fun _ _ z => False.elim z
end
section
variable {X : Cx} {st : Stmt} {rest : List Stmt} {t u : TS} {e : Expr} {te : TE} {pos : Pos}
noncomputable def tNext : TS := fun D σ H => D.nx σ H
noncomputable def tSeq (t u : TS) : TS := fun D σ H => t { D with nx := u D } σ H
theorem pss_nil : PSs X [] tNext := fun _ _ σ H _ I h => wpAny_execs_nil ⟨σ, H, I, h⟩
theorem pss_cons (h1 : PS X st t) (h2 : PSs X rest u) : PSs X (st :: rest) (tSeq t u) := by
  intro pins s σ H D I h
  refine wpAny_execs_cons (thn (h1 pins s σ H { D with nx := u D } I h) fun f s1 q => ?_)
  cases f with
  | next =>
    obtain ⟨σ', H', I', q⟩ := q
    exact h2 pins s1 σ' H' D I' q
  | ret v => exact q
  | brk => exact q
  | cont => exact q
theorem pss_one (h1 : PS X st t) : PSs X [st] t := by
  intro pins s σ H D I h
  refine wpAny_execs_cons (thn (h1 pins s σ H D I h) fun f s1 q => ?_)
  cases f with
  | next => exact wpAny_execs_nil q
  | ret v => exact q
  | brk => exact q
  | cont => exact q
theorem Inv.quiet {pins : List (Addr × Obj)} {σ : St} {H : Hp} {s : Shared} (I : Inv X pins σ H s) : interactive X.env = false := by simp [interactive, I.ok.kind]
noncomputable def tDrop (te : TE) : TS := fun D σ H => te σ H fun _ H1 => D.nx σ H1
theorem ps_expr (he : PE X e te) (hs : swapsWith e none pos.line X.env = pure false := by rfl) : PS X (.Expr e pos) (tDrop te) := by
  intro pins s σ H D I h
  exact wpAny_Expr_any (thn (he pins s σ H _ I h) fun v s1 ⟨x, H1, I1, r1, q1⟩ => ⟨σ, H1, I1, q1⟩) I.quiet hs
noncomputable def tRet (te : TE) : TS := fun D σ H => te σ H D.rt
theorem ps_ret (he : PE X e te) : PS X (.Return (some e) pos) (tRet te) := by
  intro pins s σ H D I h
  exact wpAny_Return_some (thn (he pins s σ H _ I h) fun v s1 ⟨x, H1, I1, r1, q1⟩ => ⟨x, σ, H1, I1, r1, q1⟩)
noncomputable def tIfS (c : TT) (t u : TS) : TS := fun D σ H => c σ H fun b H1 => if b = true then t D σ H1 else u D σ H1
theorem ps_if {c : Expr} {a b : List Stmt} {tc : TT} (hc : PT X c tc) (ha : PSs X a t) (hb : PSs X b u) : PS X (.If c a b pos) (tIfS tc t u) := by
  intro pins s σ H D I h
  refine wpAny_If (thn (hc pins s σ H _ I h) fun d s1 ⟨H1, I1, q1⟩ => ?_)
  cases d with
  | true => exact ha pins s1 σ H1 D I1 q1
  | false => exact hb pins s1 σ H1 D I1 q1
end
noncomputable abbrev TG := V → St → Hp → (St → Hp → Prop) → Prop
noncomputable abbrev TGs := List V → St → Hp → (St → Hp → Prop) → Prop
noncomputable def PG (X : Cx) (target : Expr) (t : TG) : Prop :=
  ∀ (pins : List (Addr × Obj)) (s : Shared) (σ : St) (H : Hp) (v : V) (u : Value) (Q : St → Hp → Prop), Inv X pins σ H s → RelV v u → t v σ H Q →
    wpAny (model X.prog X.w) X.A (assign target X.env u) (fun _ s' => ∃ σ' H', Inv X pins σ' H' s' ∧ Q σ' H') X.xe s
noncomputable def PGs (X : Cx) (ts : List Expr) (t : TGs) : Prop :=
  ∀ (pins : List (Addr × Obj)) (s : Shared) (σ : St) (H : Hp) (vs : List V) (us : List Value) (Q : St → Hp → Prop), Inv X pins σ H s → Vals vs us → t vs σ H Q →
    wpAny (model X.prog X.w) X.A (assignInOrder ((assignEach ts X.env).map (·.2)) us) (fun _ s' => ∃ σ' H', Inv X pins σ' H' s' ∧ Q σ' H') X.xe s
noncomputable abbrev TSet := V → V → V → Hp → (Hp → Prop) → Prop
noncomputable def PSet (X : Cx) (t : TSet) : Prop :=
  ∀ (pins : List (Addr × Obj)) (s : Shared) (σ : St) (H : Hp) (o i v : V) (ov iv u : Value) (Q : Hp → Prop), Inv X pins σ H s → RelV o ov → RelV i iv → RelV v u → t o i v H Q →
    wpAny (model X.prog X.w) X.A (setItem ov iv u) (fun _ s' => ∃ H', Inv X pins σ H' s' ∧ Q H') X.xe s
noncomputable abbrev TIp := V → V → Hp → VK → Prop
noncomputable def PIp (X : Cx) (op : Operator) (t : TIp) : Prop :=
  ∀ (pins : List (Addr × Obj)) (s : Shared) (σ : St) (H : Hp) (x y : V) (v u : Value) (Q : VK), Inv X pins σ H s → RelV x v → RelV y u → t x y H Q →
    wpAny (model X.prog X.w) X.A (inplaceOp op v u) (EP X pins σ Q) X.xe s
section
variable {X : Cx} {pos : Pos}
noncomputable def gName (i : Nat) : TG := fun v σ H Q => Q (σ.set i (some v)) H
theorem pg_name {i : Nat} {x : Str} (hN : X.N.Nodup) (hi : X.N[i]? = some x) (hx : Loc X.env.scope x) (hf : X.fn x = true ∨ X.env.scope.names.lookup x = some .local := by first | exact .inl rfl | exact .inr rfl | assumption) : PG X (.Name x pos) (gName i) := by
  intro pins s σ H v u Q I r h
  exact wpAny_assign_Name (store_ok I hN hi hx r (fun s' I' => ⟨_, H, I', h⟩) hf)
noncomputable def gNil : TGs := fun vs σ H Q => vs = [] ∧ Q σ H
inductive gCons (t : TG) (u : TGs) (vs : (List V)) (σ : St) (H : Hp) (Q : (St → Hp → Prop)) : Prop
  | mk (v r : _) : (vs = v :: r) → (t v σ H fun σ' H' => u r σ' H' Q) → gCons t u vs σ H Q
theorem pgs_nil : PGs X [] gNil := by
  intro pins s σ H vs us Q I r h
  obtain ⟨e, h⟩ := h
  subst e
  cases r
  exact assignInOrder_nil ⟨σ, H, I, h⟩
theorem pgs_cons {e : Expr} {es : List Expr} {t : TG} {u : TGs} (h1 : PG X e t) (h2 : PGs X es u)
    (hs : (assignEach (e :: es) X.env).map (·.2) = assign e X.env :: (assignEach es X.env).map (·.2) := by rfl) : PGs X (e :: es) (gCons t u) := by
  intro pins s σ H vs us Q I r h
  obtain ⟨v, vr, e1, h⟩ := h
  subst e1
  cases r with
  | cons r rr =>
    rw [hs]
    refine assignInOrder_cons (thn (h1 pins s σ H _ _ _ I r h) fun _ s1 ⟨σ1, H1, I1, q1⟩ => ?_)
    exact h2 pins s1 σ1 H1 _ _ Q I1 rr q1
inductive gTup (K : PySem.W.Frag) (n : Nat) (t : TGs) (v : V) (σ : St) (H : Hp) (Q : (St → Hp → Prop)) : Prop
  | mk (a xs : _) : (v = .ref a) → (SqT K H a xs) → (xs.length = n) → (t xs σ H Q) → gTup K n t v σ H Q
theorem pg_tup {es : List Expr} {k : Nat} {t : TGs} {n : Nat} (hc : X.calm = true) (h : PGs X es t)
    (hn : (assignEach es X.env).length = n := by rfl) (hst : (assignEach es X.env).findIdx? (·.1) = none := by rfl) : PG X (.Tuple es k pos) (gTup X.K n t) := by
  intro pins s σ H v u Q I r hw
  obtain ⟨a, xs, e1, hq, hl, hw⟩ := hw
  subst e1
  cases r
  obtain ⟨its, rv, ht, hz⟩ := I.tuple hq
  refine assign_Tuple_tuple (I.ok.hd hc) ht (by simp [hn, ← hl, rv.length]) hst fun h' hx => ?_
  have I1 : Inv X pins σ H { s with heap := h' } := I.kept (t' := s.toks) fun b o e => hx b o (Nat.ne_of_lt (Heap.lt_size e)) e
  exact h pins _ σ H xs _ Q I1 (by simpa using rv) hw
noncomputable def gSub (to ti : TE) (t : TSet) : TG := fun v σ H Q => to σ H fun o H1 => ti σ H1 fun i H2 => t o i v H2 fun H3 => Q σ H3
theorem pg_sub {o i : Expr} {to ti : TE} {t : TSet} (ho : PE X o to) (hi : PE X i ti) (hs : PSet X t)
    (ha : ∀ v, assign (.Subscript o i pos) X.env v = (do
      let ov ← holding [v] (eval o X.env)
      let iv ← holding [v, ov] (eval i X.env)
      standAt pos
      holding [v, ov, iv] (setItem ov iv v)
      release [v, ov, iv] []) := by intro _; rfl) : PG X (.Subscript o i pos) (gSub to ti t) := by
  intro pins s σ H v u Q I r h
  rw [ha]
  refine wpAny_bind (wpAny_holding (thn (ho pins s σ H _ I h) fun ov s1 ⟨x, H1, I1, r1, q1⟩ => ?_))
  refine wpAny_bind (wpAny_holding (thn (hi pins s1 σ H1 _ I1 q1) fun iv s2 ⟨y, H2, I2, r2, q2⟩ => ?_))
  refine wpAny_bind (wpAny_standAt (wpAny_bind (wpAny_holding (thn (hs pins s2 σ H2 x y v ov iv u _ I2 r1 r2 r q2) fun _ s3 ⟨H3, I3, q3⟩ => ?_))))
  exact wpAny_release ⟨σ, H3, I3, q3⟩
noncomputable def tAsg (te : TE) (g : TG) : TS := fun D σ H => te σ H fun x H1 => g x σ H1 D.nx
theorem ps_asg {tg e : Expr} {te : TE} {g : TG} (he : PE X e te) (hg : PG X tg g) (hs : swapsWithSole [tg] e pos.line X.env = pure false := by rfl) (hw : swappedStores [tg] e X.env = pure none := by rfl)
    (h1 : (assignEach [tg] X.env).map (·.2) = [assign tg X.env] := by rfl) : PS X (.Assign [tg] e pos) (tAsg te g) := by
  intro pins s σ H D I h
  refine wpAny_Assign_stores (thn (he pins s σ H _ I h) fun v s1 ⟨x, H1, I1, r1, q1⟩ => ?_) hs hw
  rw [h1]
  exact thn (hg pins s1 σ H1 x v _ I1 r1 q1) fun _ s2 q => q
theorem ps_set {i : Nat} {x : Str} {e : Expr} {te : TE} {pos' : Pos} (hN : X.N.Nodup) (hi : X.N[i]? = some x) (hx : Loc X.env.scope x) (he : PE X e te) (hs : swapsWith e (some (.Name x pos')) pos.line X.env = pure false := by rfl) (hf : X.fn x = true ∨ X.env.scope.names.lookup x = some .local := by first | exact .inl rfl | exact .inr rfl | assumption) :
    PS X (.Assign [.Name x pos'] e pos) (tAsg te (gName i)) := by
  intro pins s σ H D I h
  refine wpAny_Assign_Name (thn (he pins s σ H _ I h) fun v s1 ⟨y, H1, I1, r1, q1⟩ => ?_) hs
  exact store_ok I1 hN hi hx r1 (fun s2 I2 => ⟨_, H1, I2, q1⟩) hf
noncomputable def tAugS (to ti te : TE) (tget : V → V → Hp → VK → Prop) (tip : TIp) (tset : TSet) : TS := fun D σ H => to σ H fun o H1 => ti σ H1 fun i H2 => tget o i H2 fun x H3 => te σ H3 fun y H4 => tip x y H4 fun z H5 => tset o i z H5 fun H6 => D.nx σ H6
noncomputable def PGet (X : Cx) (t : V → V → Hp → VK → Prop) : Prop :=
  ∀ (pins : List (Addr × Obj)) (s : Shared) (σ : St) (H : Hp) (o i : V) (ov iv : Value) (Q : VK), Inv X pins σ H s → RelV o ov → RelV i iv → t o i H Q →
    wpAny (model X.prog X.w) X.A (getItem ov iv) (EP X pins σ Q) X.xe s
theorem ps_augS {o i e : Expr} {to ti te : TE} {tget : V → V → Hp → VK → Prop} {tip : TIp} {tset : TSet} {op : Operator} {tpos : Pos} (ho : PE X o to) (hi : PE X i ti) (hg : PGet X tget) (he : PE X e te) (hp : PIp X op tip) (hs : PSet X tset)
    (ha : ∀ ov iv new, augStore i ov iv new = (do holding [new, ov, iv] (setItem ov iv new); release [new, ov, iv] []; pure .next) := by intros; rfl) : PS X (.AugAssign (.Subscript o i tpos) op e pos) (tAugS to ti te tget tip tset) := by
  intro pins s σ H D I h
  refine wpAny_AugAssign_SubscriptAny (thn (ho pins s σ H _ I h) fun ov s1 ⟨x1, H1, I1, r1, q1⟩ => ?_) ha
  refine thn (hi pins s1 σ H1 _ I1 q1) fun iv s2 ⟨x2, H2, I2, r2, q2⟩ => ?_
  refine thn (hg pins s2 σ H2 x1 x2 ov iv _ I2 r1 r2 q2) fun old s3 ⟨x3, H3, I3, r3, q3⟩ => ?_
  refine thn (he pins s3 σ H3 _ I3 q3) fun v s4 ⟨x4, H4, I4, r4, q4⟩ => ?_
  refine thn (hp pins s4 σ H4 x3 x4 old v _ I4 r3 r4 q4) fun new s5 ⟨x5, H5, I5, r5, q5⟩ => ?_
  exact thn (hs pins s5 σ H5 x1 x2 x5 ov iv new _ I5 r1 r2 r5 q5) fun _ s6 ⟨H6, I6, q6⟩ => ⟨σ, H6, I6, q6⟩
inductive ipI (f : Int → Int → Int) (x : V) (y : V) (H : Hp) (Q : VK) : Prop
  | mk (i j : _) : (x = .int i) → (y = .int j) → (Q (.int (f i j)) H) → ipI f x y H Q
theorem ip_add : PIp X .Add (ipI fun i j => i + j) := by
  intro pins s σ H x y v u Q I r1 r2 h
  obtain ⟨i, j, e1, e2, q⟩ := h
  subst e1; subst e2
  obtain ⟨t, rfl⟩ := r1
  obtain ⟨t', rfl⟩ := r2
  exact iadd_int ⟨.int _, H, I.tok _, ⟨_, rfl⟩, q⟩
end
section
variable {X : Cx} {pos : Pos}
noncomputable def tWhile (c : TT) (tb : TS) : TS := fun D σ H => ∃ W : Nat → St → Hp → Prop, (∃ m, W m σ H) ∧ ∀ m σ H, W m σ H →
  c σ H fun b H1 => if b = true then ∃ N : St → Hp → Prop, (∀ σ' H', N σ' H' → ∃ m', m' < m ∧ W m' σ' H') ∧ tb { D with nx := N, ct := N, bk := D.nx } σ H1 else D.nx σ H1
theorem ps_while {c : Expr} {body : List Stmt} {tc : TT} {tb : TS} (hp : PassesOwn (model X.prog X.w) X.A X.env X.xe) (hc : PT X c tc) (hb : PSs X body tb) : PS X (.While c body [] pos) (tWhile tc tb) := by
  intro pins s σ H D I h
  obtain ⟨W, ⟨m0, w0⟩, turn⟩ := h
  refine wpAny_While (codeAny_whileLoop (fun n s' => ∃ σ' H', Inv X pins σ' H' s' ∧ W n σ' H') ?_ m0 ⟨σ, H, I, w0⟩)
  rintro n s1 ⟨σ1, H1, I1, w1⟩
  refine wpAny_passesOwn hp (thn (hc pins s1 σ1 H1 _ I1 (turn n σ1 H1 w1)) fun b s2 ⟨H2, I2, q2⟩ => ?_)
  cases b with
  | true =>
    obtain ⟨N, hN, q2⟩ := q2
    rw [if_pos rfl]
    refine wpAny_passesOwn hp (thn (hb pins s2 σ1 H2 _ I2 q2) fun f s3 q3 => ?_)
    cases f with
    | next =>
      obtain ⟨σ3, H3, I3, n3⟩ := q3
      obtain ⟨m', hm, w3⟩ := hN σ3 H3 n3
      exact ⟨m', hm, σ3, H3, I3, w3⟩
    | cont =>
      obtain ⟨σ3, H3, I3, n3⟩ := q3
      obtain ⟨m', hm, w3⟩ := hN σ3 H3 n3
      exact ⟨m', hm, σ3, H3, I3, w3⟩
    | brk => exact q3
    | ret v => exact q3
  | false =>
    rw [if_neg Bool.false_ne_true]
    exact wpAny_execs_nil ⟨σ1, H2, I2, q2⟩
end
structure It where
  go : Nat → Hp → Prop
  yld : Nat → Hp → V → Hp → Prop
  stop : Nat → Hp → Prop
noncomputable def FpOk (X : Cx) (pins : List (Addr × Obj)) (H : Hp) (b : Addr) : Prop :=
  H b = none ∧ b ≠ X.env.locals ∧ b ∉ X.fs ∧ (b ∈ X.ex ∨ X.s₀.heap.objs.size ≤ b) ∧ (∀ x c, X.env.cells.lookup x = some c → c ≠ b) ∧ ∀ p ∈ X.pn ++ pins, p.1 ≠ b
theorem Inv.fpOk {X : Cx} {pins : List (Addr × Obj)} {σ : St} {H H' : Hp} {s : Shared} {b : Addr} (I : Inv X pins σ H s) (hb : s.heap.objs.size ≤ b) (hn : H' b = none) : FpOk X pins H' b := by
  refine ⟨hn, Nat.ne_of_gt (Nat.lt_of_lt_of_le I.lt hb), I.nofs hb, .inr (Nat.le_trans I.sz hb), fun x c e z => ?_, fun p hp z => ?_⟩
  · obtain ⟨v, q⟩ := I.cell x c e
    exact absurd (Nat.lt_of_lt_of_le q.lt (by rw [z]; exact hb)) (Nat.lt_irrefl _)
  · exact absurd (Nat.lt_of_lt_of_le (Heap.lt_size (I.pin p hp).1) (by rw [z]; exact hb)) (Nat.lt_irrefl _)
structure Turn (P : Program) (w : World) (K : PySem.W.Frag) (tg : Expr) (J : It) (fp : List Addr) (it : Addr) (tn : Nat → Heap → Prop) : Prop where
  mem : it ∈ fp
  obj : ∀ i h, tn i h → ∀ b ∈ fp, ∃ o, h.get? b = some o ∧ ∀ v, o.data ≠ .cell v
  keep : ∀ i h h', tn i h → (∀ b ∈ fp, ∀ o, h.get? b = some o → h'.get? b = some o) → tn i h'
  item : ∀ (X : Cx), X.prog = P → X.w = w → X.K = K → X.calm = true → ∀ (i : Nat) (pins : List (Addr × Obj)) (s : Shared) (σ : St) (H : Hp) (E : Value → Shared → Prop), Inv X pins σ H s → (∀ b ∈ fp, FpOk X pins H b) → tn i s.heap → J.go i H →
    wpAny (model P w) X.A (pyNext (.ref it)) (fun r s1 => ∃ u, r = some u ∧
      wpAny (model P w) X.A (letOwnedTupleGo tg (.ref it) u) (fun _ s2 => ∃ x H', Inv X pins σ H' s2 ∧ RelV x u ∧ J.yld i H x H' ∧ tn (i + 1) s2.heap ∧ ∀ b ∈ fp, H' b = none) E s1) E s
  done : ∀ (X : Cx), X.prog = P → X.w = w → X.K = K → X.calm = true → ∀ (i : Nat) (pins : List (Addr × Obj)) (s : Shared) (σ : St) (H : Hp) (E : Value → Shared → Prop), Inv X pins σ H s → (∀ b ∈ fp, FpOk X pins H b) → tn i s.heap → J.stop i H →
    wpAny (model P w) X.A (pyNext (.ref it)) (fun r s1 => r = none ∧ Inv X pins σ H s1) E s
  self : ∀ (A : Around) (i : Nat) (s : Shared) (Q : Value → Shared → Prop) (E : Value → Shared → Prop), tn i s.heap → Q (.ref it) s → wpAny (model P w) A (pyIter (.ref it)) Q E s
noncomputable abbrev TI := St → Hp → (It → Hp → Prop) → Prop
noncomputable def PIE (X : Cx) (pins : List (Addr × Obj)) (σ : St) (tg : Expr) (R : It → Hp → Prop) (itv : Value) (s2 : Shared) : Prop :=
  ∃ (it : Addr) (fp : List Addr) (tn : Nat → Heap → Prop) (J : It) (H' : Hp), itv = .ref it ∧ Inv X pins σ H' s2 ∧ Turn X.prog X.w X.K tg J fp it tn ∧ tn 0 s2.heap ∧ (∀ b ∈ fp, FpOk X pins H' b) ∧ R J H'
noncomputable def PI (X : Cx) (tg iter : Expr) (wi : TI) : Prop :=
  ∀ (pins : List (Addr × Obj)) (s : Shared) (σ : St) (H : Hp) (R : It → Hp → Prop), Inv X pins σ H s → wi σ H R →
    wpAny (model X.prog X.w) X.A (eval iter X.env) (fun v s1 => wpAny (model X.prog X.w) X.A (pyIter v) (PIE X pins σ tg R) X.xe s1) X.xe s
theorem go_of {M : Model} {A : Around} {E : Value → Shared → Prop} {s : Shared} {tg : Expr} {it : Addr} {u : Value} {o : Obj} {n : String} {vs : Array Value} {Q : Unit → Shared → Prop} (ho : s.heap.get? it = some o) (hc : o.cls = .type n) (hd : o.data = .fields vs)
    (hn : ["enumerate", "zip", "dict_itemiterator", "dict_reverseitemiterator", "odict_iterator", "itertools.zip_longest", "itertools.pairwise"].contains n = false) (hQ : Q () s) : wpAny M A (letOwnedTupleGo tg (.ref it) u) Q E s := by
  unfold letOwnedTupleGo
  cases tg <;> first
    | exact wpAny_pure hQ
    | (cases u <;> first
        | exact wpAny_pure hQ
        | (refine wpAny_bind (wpAny_load ho ?_)
           rw [hc, hd]
           show wpAny M A (if (["enumerate", "zip", "dict_itemiterator", "dict_reverseitemiterator", "odict_iterator", "itertools.zip_longest", "itertools.pairwise"].contains n && vs[0]? == some (rawInt _)) = true then _ else _) Q E s
           rw [if_neg (by intro h; rw [hn, Bool.false_and] at h; cases h)]
           exact wpAny_pure hQ))
noncomputable def Itl (K : PySem.W.Frag) (a : Addr) : It :=
  ⟨fun i H => ∃ xs x, SqL K H a xs ∧ xs[i]? = some x, fun i H x H' => H' = H ∧ ∀ xs, SqL K H a xs → xs[i]? = some x, fun i H => ∃ xs, SqL K H a xs ∧ xs.length ≤ i⟩
noncomputable def Itr (lo : Int) (n : Nat) : It := ⟨fun i _ => i < n, fun i H x H' => H' = H ∧ x = .int (lo + i), fun i _ => n ≤ i⟩
theorem turn_list {P : Program} {w : World} {K : PySem.W.Frag} {tg : Expr} (a it : Addr) : Turn P w K tg (Itl K a) [it] it (fun i h => h.IsListIter it a i) where
  mem := by simp
  obj := fun i h st b hb => by
    have e : b = it := by simpa using hb
    subst e
    obtain ⟨o, e, c, d⟩ := st
    exact ⟨o, e, fun v z => by rw [d] at z; cases z⟩
  keep := fun i h h' st k => st.at fun o e => k it (by simp) o e
  item := by
    intro X hP hw hK hc i pins s σ H E I hf st hg
    subst hP hw hK
    obtain ⟨xs, x, hq, hx⟩ := hg
    obtain ⟨its, rv, p, hz⟩ := I.list hq
    obtain ⟨u, hu, ru⟩ := rv.get hx
    obtain ⟨f0, f1, f2, f3, f4, f5⟩ := hf it (by simp)
    refine wpAny_pyNext_list_item st p.isList (x := u) (by simpa using hu) fun h' st' sb => ?_
    have I1 : Inv X pins σ H { s with heap := h' } := I.turned (t' := s.toks) (fun b o hb e => (sb.2 b hb).trans e) f0 f1 f3 f4 f5
    obtain ⟨o, e, c, d⟩ := id st'
    exact ⟨u, rfl, go_of (s := { s with heap := h' }) e c d (by decide) ⟨x, H, I1, ru, ⟨rfl, fun ys hy => by rw [I.list_inj hy hq]; exact hx⟩, st', fun b hb => (hf b hb).1⟩⟩
  done := by
    intro X hP hw hK hc i pins s σ H E I hf st hg
    subst hP hw hK
    obtain ⟨xs, hq, hx⟩ := hg
    obtain ⟨its, rv, p, hz⟩ := I.list hq
    obtain ⟨f0, f1, f2, f3, f4, f5⟩ := hf it (by simp)
    have hl := rv.length
    exact wpAny_pyNext_list_end (I.ok.hd hc) st p.isList (by simp; (first | lia | omega)) fun h' eb => ⟨rfl, I.turned (t' := s.toks) (fun b o hb e => eb b o hb e) f0 f1 f3 f4 f5⟩
  self := fun _ _ _ _ _ st h => wpAny_pyIter_listiter st h
theorem turn_range {P : Program} {w : World} {K : PySem.W.Frag} {tg : Expr} (it : Addr) (lo : Int) (n : Nat) : Turn P w K tg (Itr lo n) [it] it (fun i h => IsRangeIter h it (lo + (i : Nat) * 1) ((n : Int) - (i : Nat)) 1) where
  mem := by simp
  obj := fun i h st b hb => by
    have e : b = it := by simpa using hb
    subst e
    exact ⟨_, st, fun v z => by
      have z' : Data.fields _ = Data.cell v := z
      cases z'⟩
  keep := fun i h h' st k => k it (by simp) _ st
  item := by
    intro X hP hw hK hc i pins s σ H E I hf st hg
    subst hP hw hK
    obtain ⟨f0, f1, f2, f3, f4, f5⟩ := hf it (by simp)
    have W := Walks.range (prog := X.prog) (w := X.w) (I.ok.hd hc) it lo 1 n
    refine W.item i s _ _ hg st fun v h' tk hv st' kk => ?_
    obtain ⟨t, rfl⟩ := hv
    have I1 : Inv X pins σ H { s with heap := h', toks := tk } := I.turned (fun b o hb e => kk b o (by simpa using hb) e) f0 f1 f3 f4 f5
    refine ⟨_, rfl, go_of (s := { s with heap := h', toks := tk }) (n := "range_iterator") st' rfl rfl (by decide) ⟨.int (lo + i), H, I1, ⟨t, ?_⟩, ⟨rfl, rfl⟩, st', fun b hb => (hf b hb).1⟩⟩
    rw [Int.mul_one]
  done := by
    intro X hP hw hK hc i pins s σ H E I hf st hg
    subst hP hw hK
    obtain ⟨f0, f1, f2, f3, f4, f5⟩ := hf it (by simp)
    exact wpAny_pyNext_range_end (I.ok.hd hc) st (by have : n ≤ i := hg; (first | lia | omega)) fun h' eb => ⟨rfl, I.turned (t' := s.toks) (fun b o hb e => eb b o hb e) f0 f1 f3 f4 f5⟩
  self := fun _ _ _ _ _ st h => wpAny_pyIter_rangeiter st h
end L2
namespace L2
open PySem PySem.Spec PyProof.Rows
section
variable {X : Cx} {tg : Expr}
inductive rLi (K : PySem.W.Frag) (x : V) (H1 : Hp) (R : It → Hp → Prop) : Prop
  | mk (a : _) : (x = .ref a) → ((∃ xs, SqL K H1 a xs)) → (R (Itl K a) H1) → rLi K x H1 R
noncomputable def iList (K : PySem.W.Frag) (tl : TE) : TI := fun σ H R => tl σ H fun x H1 => rLi K x H1 R
theorem pi_list {l : Expr} {tl : TE} (hl : PE X l tl) : PI X tg l (iList X.K tl) := by
  intro pins s σ H R I h
  refine thn (hl pins s σ H _ I h) fun v s1 ⟨x, H1, I1, r1, q1⟩ => ?_
  obtain ⟨a, e, ⟨xs, hq⟩, q⟩ := q1
  subst e
  cases r1
  obtain ⟨its, rv, p, hz⟩ := I1.list hq
  refine wpAny_pyIter_list p.isList ?_
  refine ⟨s1.heap.objs.size, [s1.heap.objs.size], _, _, H1, rfl, I1.kept (t' := s1.toks) fun b o e => Heap.get?_push_of_some _ e, turn_list a _, ⟨_, Heap.get?_push_size _ rfl, rfl, rfl⟩, fun b hb => ?_, q⟩
  have e : b = s1.heap.objs.size := by simpa using hb
  subst e
  exact I1.fpOk (Nat.le_refl _) (I1.hok.fresh (Nat.le_refl _))
theorem range_it {pins : List (Addr × Obj)} {σ : St} {H : Hp} {s : Shared} {R : It → Hp → Prop} {E : Value → Shared → Prop} {lo hi : Int} {t u v : Tok} {tk : Nat} (I : Inv X pins σ H s) (h1 : -(2 ^ 62) ≤ lo) (h2 : lo < 2 ^ 62) (h3 : -(2 ^ 62) ≤ hi) (h4 : hi < 2 ^ 62)
    (q : R (Itr lo (hi - lo).toNat) H) : wpAny (model X.prog X.w) X.A (pyIter (.ref s.heap.objs.size)) (PIE X pins σ tg R) E { s with heap := s.heap.push { cls := .type "range", data := .fields #[.int lo t, .int hi u, .int 1 v] }, toks := tk } := by
  refine wpAny_pyIter_range (IsRange.new ..) (small_one h1 h2 h3 h4) ?_
  have I1 : Inv X pins σ H { s with heap := s.heap.push { cls := .type "range", data := .fields #[.int lo t, .int hi u, .int 1 v] }, toks := tk } := I.kept fun b o e => Heap.get?_push_of_some _ e
  refine ⟨(s.heap.push { cls := .type "range", data := .fields #[.int lo t, .int hi u, .int 1 v] }).objs.size, [(s.heap.push { cls := .type "range", data := .fields #[.int lo t, .int hi u, .int 1 v] }).objs.size], _, _, H, rfl,
    I1.kept (t' := tk) fun b o e => Heap.get?_push_of_some _ e, turn_range _ lo (hi - lo).toNat, ?_, fun b hb => ?_, q⟩
  · have e1 : lo + ((0 : Nat) : Int) * 1 = lo := by simp
    have e2 : (((hi - lo).toNat : Nat) : Int) - ((0 : Nat) : Int) = Builtin.Range.rangeSize lo hi 1 := by rw [rangeSize_one]; split <;> (first | lia | omega)
    show IsRangeIter _ _ (lo + ((0 : Nat) : Int) * 1) ((((hi - lo).toNat : Nat) : Int) - ((0 : Nat) : Int)) 1
    rw [e1, e2]
    exact Heap.get?_push_size _ rfl
  · have e : b = (s.heap.push { cls := .type "range", data := .fields #[.int lo t, .int hi u, .int 1 v] }).objs.size := by simpa using hb
    subst e
    exact I1.fpOk (Nat.le_refl _) (I1.hok.fresh (Nat.le_refl _))
inductive rR1  (vs : List V) (H1 : Hp) (R : It → Hp → Prop) : Prop
  | mk (j : Int) : (vs = [.int j]) → (-(2 ^ 62) ≤ j) → (j < 2 ^ 62) → (R (Itr 0 j.toNat) H1) → rR1 vs H1 R
noncomputable def iRng1 (ta : TA) : TI := fun σ H R => ta σ H fun vs H1 => rR1 vs H1 R
inductive rR2  (vs : List V) (H1 : Hp) (R : It → Hp → Prop) : Prop
  | mk (i j : Int) : (vs = [.int i, .int j]) → ((-(2 ^ 62) ≤ i ∧ i < 2 ^ 62 ∧ -(2 ^ 62) ≤ j ∧ j < 2 ^ 62)) → (R (Itr i (j - i).toNat) H1) → rR2 vs H1 R
noncomputable def iRng2 (ta : TA) : TI := fun σ H R => ta σ H fun vs H1 => rR2 vs H1 R
theorem pi_range1 {a : Expr} {ta : TA} {p pos : Pos} (hg : Gl X "range") (hm : X.mg "range" = none) (ha : PA X [a] ta) (hs : starEach [a] X.env = [(false, eval a X.env)] := by rfl) : PI X tg (.Call (.Name "range" p) [a] [] pos) (iRng1 ta) := by
  intro pins s σ H R I h
  refine Call_ (ld_blt I hg hm boot_range (PyProof.Rows.callWith_type1 (thn (ha pos pins s σ H _ I h) fun us s1 ⟨vs, H1, I1, r1, q1⟩ => ?_) hs rfl))
  obtain ⟨j, e, q1, q2, q⟩ := q1
  subst e
  cases r1 with
  | cons r rr =>
    cases rr
    obtain ⟨t, rfl⟩ := r
    exact call_range_1 (range_it I1 (by (first | lia | omega)) (by (first | lia | omega)) q1 q2 (by simpa using q))
theorem pi_range2 {a b : Expr} {ta : TA} {p pos : Pos} (hg : Gl X "range") (hm : X.mg "range" = none) (ha : PA X [a, b] ta) (hs : starEach [a, b] X.env = [(false, eval a X.env), (false, eval b X.env)] := by rfl) (hs2 : starEach [b] X.env = [(false, eval b X.env)] := by rfl) :
    PI X tg (.Call (.Name "range" p) [a, b] [] pos) (iRng2 ta) := by
  intro pins s σ H R I h
  refine Call_ (ld_blt I hg hm boot_range (PyProof.Rows.callWith_type1 (thn (ha pos pins s σ H _ I h) fun us s1 ⟨vs, H1, I1, r1, q1⟩ => ?_) (by rw [hs, hs2]) (by rw [hs2]; rfl)))
  obtain ⟨i, j, e, ⟨q1, q2, q3, q4⟩, q⟩ := q1
  subst e
  cases r1 with
  | cons r rr =>
    cases rr with
    | cons r' rr =>
      cases rr
      obtain ⟨t, rfl⟩ := r
      obtain ⟨t', rfl⟩ := r'
      exact call_range_2 (range_it I1 q1 q2 q3 q4 q)
noncomputable def forW (g : TG) (tb : TS) (J : It) (D : Ends) (σ0 : St) (H0 : Hp) : Prop :=
  ∃ W : Nat → Nat → St → Hp → Prop, (∃ m, W 0 m σ0 H0) ∧ ∀ i m σ H, W i m σ H →
  (J.stop i H ∧ D.nx σ H) ∨ (J.go i H ∧ ∃ N : St → Hp → Prop, (∀ σ' H', N σ' H' → ∃ m', m' < m ∧ W (i + 1) m' σ' H') ∧ ∀ x H', J.yld i H x H' → g x σ H' fun σ2 H2 => tb { D with nx := N, ct := N, bk := D.nx } σ2 H2)
noncomputable def tFor (wi : TI) (g : TG) (tb : TS) : TS := fun D σ H => wi σ H fun J H1 => forW g tb J D σ H1
noncomputable def pinsAt (fp : List Addr) (h : Heap) : List (Addr × Obj) := fp.filterMap fun b => (h.get? b).map fun o => (b, o)
theorem mem_pinsAt {fp : List Addr} {h : Heap} {b : Addr} {o : Obj} (hb : b ∈ fp) (e : h.get? b = some o) : (b, o) ∈ pinsAt fp h := List.mem_filterMap.mpr ⟨b, hb, by rw [e]; rfl⟩
theorem of_pinsAt {fp : List Addr} {h : Heap} {p : Addr × Obj} (hp : p ∈ pinsAt fp h) : p.1 ∈ fp ∧ h.get? p.1 = some p.2 := by
  obtain ⟨b, hb, e⟩ := List.mem_filterMap.mp hp
  cases q : h.get? b with
  | none => rw [q] at e; cases e
  | some o =>
    rw [q] at e
    have e' : (b, o) = p := Option.some.inj e
    subst e'
    exact ⟨hb, q⟩
theorem Inv.pinned {pins : List (Addr × Obj)} {σ : St} {H : Hp} {s : Shared} {fp : List Addr} (I : Inv X pins σ H s) (hf : ∀ b ∈ fp, FpOk X pins H b) (ho : ∀ b ∈ fp, ∃ o, s.heap.get? b = some o ∧ ∀ v, o.data ≠ .cell v) : Inv X (pins ++ pinsAt fp s.heap) σ H s :=
  I.pins_of fun p hp => (List.mem_append.mp hp).elim (fun z => I.pin p (List.mem_append_right _ z)) fun z => by
    obtain ⟨hb, e⟩ := of_pinsAt z
    obtain ⟨f0, f1, f2, _⟩ := hf p.1 hb
    obtain ⟨o, e', d⟩ := ho p.1 hb
    rw [e] at e'; cases e'
    exact ⟨e, f0, f1, f2, d⟩
theorem Inv.unpinned {pins pl : List (Addr × Obj)} {σ : St} {H : Hp} {s : Shared} (I : Inv X (pins ++ pl) σ H s) : Inv X pins σ H s := I.pins_of fun p hp => I.pin p (List.mem_append_right _ (List.mem_append_left _ hp))
theorem ps_for {iter : Expr} {body : List Stmt} {wi : TI} {g : TG} {tb : TS} {pos : Pos} (hp : PassesOwn (model X.prog X.w) X.A X.env X.xe) (hc : X.calm = true) (hi : PI X tg iter wi) (hg : PG X tg g) (hb : PSs X body tb)
    (hs : ∀ x, foldedSetIterable iter X.env x = pure x := by intro _; rfl) : PS X (.For tg iter body [] pos) (tFor wi g tb) := by
  intro pins s σ H D I h
  refine wpAny_For (thn (hi pins s σ H _ I h) fun v s1 h1 => thn h1 fun itv s2 h2 => ?_) hs
  obtain ⟨it, fp, tn, J, H2, e, I2, T, st2, f2, W, ⟨m0, w0⟩, turn⟩ := h2
  subst e
  have stat : ∀ {H' : Hp}, (∀ b ∈ fp, H' b = none) → ∀ b ∈ fp, FpOk X pins H' b := fun hn b hb => ⟨hn b hb, (f2 b hb).2⟩
  refine codeAny_forLoop_any (fun n s' => ∃ i σ' H', Inv X pins σ' H' s' ∧ tn i s'.heap ∧ (∀ b ∈ fp, H' b = none) ∧ W i n σ' H') ?_ m0 ⟨0, σ, H2, I2, st2, fun b hb => (f2 b hb).1, w0⟩
  rintro n s3 ⟨i, σ3, H3, I3, st3, fr3, w3⟩
  rcases turn i n σ3 H3 w3 with ⟨stop, qn⟩ | ⟨go, N, hN, step⟩
  · refine wpAny_passesOwn hp (thn (T.done X rfl rfl rfl hc i pins s3 σ3 H3 X.xe I3 (stat fr3) st3 stop) fun r s4 ⟨hr, I4⟩ => ?_)
    subst hr
    exact wpAny_execs_nil ⟨σ3, H3, I4, qn⟩
  · refine wpAny_passesOwn hp (thn (T.item X rfl rfl rfl hc i pins s3 σ3 H3 X.xe I3 (stat fr3) st3 go) fun r s4 ⟨u, hr, h4⟩ => ?_)
    subst hr
    refine wpAny_passesOwn hp (thn h4 fun _ s5 ⟨x, H5, I5, r5, y5, st5, fr5⟩ => ?_)
    have I5' := I5.pinned (stat fr5) (T.obj _ _ st5)
    refine wpAny_passesOwn hp (thn (hg _ s5 σ3 H5 x u _ I5' r5 (step x H5 y5)) fun _ s6 ⟨σ6, H6, I6, q6⟩ => ?_)
    refine wpAny_passesOwn hp (thn (hb _ s6 σ6 H6 _ I6 q6) fun f s7 q7 => ?_)
    have again : ∀ {σ7 : St} {H7 : Hp}, Inv X (pins ++ pinsAt fp s5.heap) σ7 H7 s7 → N σ7 H7 → ∃ m, m < n ∧ ∃ i σ' H', Inv X pins σ' H' s7 ∧ tn i s7.heap ∧ (∀ b ∈ fp, H' b = none) ∧ W i m σ' H' := fun {σ7 H7} I7 n7 => by
      obtain ⟨m', hm, w7⟩ := hN σ7 H7 n7
      refine ⟨m', hm, i + 1, σ7, H7, I7.unpinned, T.keep _ _ _ st5 fun b hb o e => (I7.pin (b, o) (List.mem_append_right _ (List.mem_append_right _ (mem_pinsAt hb e)))).1, fun b hb => ?_, w7⟩
      obtain ⟨o, e, d⟩ := T.obj _ _ st5 b hb
      exact (I7.pin (b, o) (List.mem_append_right _ (List.mem_append_right _ (mem_pinsAt hb e)))).2.1
    cases f with
    | next => obtain ⟨σ7, H7, I7, n7⟩ := q7; exact again I7 n7
    | cont => obtain ⟨σ7, H7, I7, n7⟩ := q7; exact again I7 n7
    | brk => obtain ⟨σ7, H7, I7, q7⟩ := q7; exact ⟨σ7, H7, I7.unpinned, q7⟩
    | ret v => obtain ⟨x7, σ7, H7, I7, r7, q7⟩ := q7; exact ⟨x7, σ7, H7, I7.unpinned, r7, q7⟩
end
theorem for_list {K : PySem.W.Frag} {a : Addr} {xs : List V} {g : TG} {tb : TS} {D : Ends} {σ : St} {H : Hp} (Pv : Nat → St → Hp → Prop) (h0 : Pv 0 σ H) (hl : ∀ i σ H, i ≤ xs.length → Pv i σ H → SqL K H a xs)
    (hs : ∀ i x σ H, xs[i]? = some x → Pv i σ H → g x σ H fun σ2 H2 => tb { D with nx := Pv (i + 1), ct := Pv (i + 1), bk := D.nx } σ2 H2) (hd : ∀ σ H, Pv xs.length σ H → D.nx σ H) :
    forW g tb (Itl K a) D σ H := by
  refine ⟨fun i m σ H => m = xs.length - i ∧ i ≤ xs.length ∧ Pv i σ H, ⟨xs.length, by simp, Nat.zero_le _, h0⟩, ?_⟩
  rintro i m σ H ⟨rfl, hi, p⟩
  have q := hl i σ H hi p
  by_cases hlt : i < xs.length
  · refine .inr ⟨⟨xs, xs[i], q, by simp [hlt]⟩, Pv (i + 1), fun σ' H' p' => ⟨xs.length - (i + 1), by (first | lia | omega), rfl, hlt, p'⟩, fun x H' y => ?_⟩
    obtain ⟨e, y⟩ := y
    subst e
    exact hs i x σ _ (y xs q) p
  · have e : i = xs.length := by (first | lia | omega)
    subst e
    exact .inl ⟨⟨xs, q, Nat.le_refl _⟩, hd σ H p⟩
theorem for_range {lo : Int} {n : Nat} {g : TG} {tb : TS} {D : Ends} {σ : St} {H : Hp} (Pv : Nat → St → Hp → Prop) (h0 : Pv 0 σ H)
    (hs : ∀ i σ H, i < n → Pv i σ H → g (.int (lo + i)) σ H fun σ2 H2 => tb { D with nx := Pv (i + 1), ct := Pv (i + 1), bk := D.nx } σ2 H2) (hd : ∀ σ H, Pv n σ H → D.nx σ H) :
    forW g tb (Itr lo n) D σ H := by
  refine ⟨fun i m σ H => m = n - i ∧ i ≤ n ∧ Pv i σ H, ⟨n, by simp, Nat.zero_le _, h0⟩, ?_⟩
  rintro i m σ H ⟨rfl, hi, p⟩
  by_cases hlt : i < n
  · refine .inr ⟨hlt, Pv (i + 1), fun σ' H' p' => ⟨n - (i + 1), by (first | lia | omega), rfl, hlt, p'⟩, fun x H' y => ?_⟩
    obtain ⟨e, y⟩ := y
    subst e y
    exact hs i σ _ hlt p
  · have e : i = n := by (first | lia | omega)
    subst e
    exact .inl ⟨Nat.le_refl _, hd σ H p⟩
theorem while_by {c : TT} {tb : TS} {D : Ends} {σ : St} {H : Hp} (Pv : St → Hp → Prop) (μ : St → Hp → Nat) (h0 : Pv σ H)
    (hs : ∀ σ H, Pv σ H → c σ H fun b H1 => if b = true then tb { D with nx := fun σ' H' => Pv σ' H' ∧ μ σ' H' < μ σ H, ct := fun σ' H' => Pv σ' H' ∧ μ σ' H' < μ σ H, bk := D.nx } σ H1 else D.nx σ H1)
    (mono : ∀ σ H Q Q', (∀ b H1, Q b H1 → Q' b H1) → c σ H Q → c σ H Q') : tWhile c tb D σ H := by
  refine ⟨fun m σ H => m = μ σ H ∧ Pv σ H, ⟨_, rfl, h0⟩, ?_⟩
  rintro m σ H ⟨rfl, p⟩
  refine mono σ H _ _ (fun b H1 q => ?_) (hs σ H p)
  cases b with
  | true => exact ⟨_, fun σ' H' ⟨p', l⟩ => ⟨_, l, rfl, p'⟩, q⟩
  | false => exact q
end L2
namespace L2
open PySem PySem.Spec PyProof.Rows
noncomputable abbrev R2 := V → V → Hp → VK → Prop
noncomputable def OpR (X : Cx) (f : Value → Value → Sem Value) (r : R2) : Prop :=
  ∀ (pins : List (Addr × Obj)) (s : Shared) (σ : St) (H : Hp) (x y : V) (v u : Value) (Q : VK), Inv X pins σ H s → RelV x v → RelV y u → r x y H Q →
    wpAny (model X.prog X.w) X.A (f v u) (EP X pins σ Q) X.xe s
noncomputable def UnR (X : Cx) (f : Value → Sem Value) (r : V → Hp → VK → Prop) : Prop :=
  ∀ (pins : List (Addr × Obj)) (s : Shared) (σ : St) (H : Hp) (x : V) (v : Value) (Q : VK), Inv X pins σ H s → RelV x v → r x H Q →
    wpAny (model X.prog X.w) X.A (f v) (EP X pins σ Q) X.xe s
noncomputable def CallR (X : Cx) (f : Value) (r : List V → Hp → VK → Prop) : Prop :=
  ∀ (pins : List (Addr × Obj)) (s : Shared) (σ : St) (H : Hp) (xs : List V) (us : List Value) (Q : VK), Inv X pins σ H s → Vals xs us → r xs H Q →
    wpAny (model X.prog X.w) X.A (call f us) (EP X pins σ Q) X.xe s
noncomputable def TruR (X : Cx) (r : V → Hp → (Bool → Hp → Prop) → Prop) : Prop :=
  ∀ (pins : List (Addr × Obj)) (s : Shared) (σ : St) (H : Hp) (x : V) (v : Value) (Q : Bool → Hp → Prop), Inv X pins σ H s → RelV x v → r x H Q →
    wpAny (model X.prog X.w) X.A (truthy v) (TP X pins σ Q) X.xe s
noncomputable def tOp (r : R2) (ta tb : TE) : TE := fun σ H Q => ta σ H fun x H1 => tb σ H1 fun y H2 => r x y H2 Q
noncomputable def tUn (r : V → Hp → VK → Prop) (ta : TE) : TE := fun σ H Q => ta σ H fun x H1 => r x H1 Q
inductive rI (C : Int → Int → Prop) (g : Int → Int → V) (x : V) (y : V) (H : Hp) (Q : VK) : Prop
  | mk (i j : _) : (x = .int i) → (y = .int j) → (C i j) → (Q (g i j) H) → rI C g x y H Q
inductive rI0 (g : Int → Int → V) (x : V) (y : V) (H : Hp) (Q : VK) : Prop
  | mk (i j : _) : (x = .int i) → (y = .int j) → (Q (g i j) H) → rI0 g x y H Q
inductive rU (g : Int → V) (x : V) (H : Hp) (Q : VK) : Prop
  | mk (i : _) : (x = .int i) → (Q (g i) H) → rU g x H Q
section
variable {X : Cx} {a b c : Expr} {ta tb tc : TE} {pos : Pos}
theorem binT (ha : PE X a ta) (hb : PE X b tb) {pins : List (Addr × Obj)} {s : Shared} {σ : St} {H : Hp} {R : V → V → Hp → Prop} (I : Inv X pins σ H s)
    (h : ta σ H fun x H1 => tb σ H1 fun y H2 => R x y H2) {Q : Value → Shared → Prop} {f : Value → Value → Sem Value}
    (hf : ∀ v u s2 x y H2, Inv X pins σ H2 s2 → RelV x v → RelV y u → R x y H2 → wpAny (model X.prog X.w) X.A (f v u) Q X.xe s2) :
    wpAny (model X.prog X.w) X.A (eval a X.env) (fun v s₁ => wpAny (model X.prog X.w) X.A (eval b X.env) (fun u s₂ => wpAny (model X.prog X.w) X.A (f v u) Q X.xe s₂) X.xe s₁) X.xe s := by
  refine thn (ha pins s σ H _ I h) fun v s1 ⟨x, H1, I1, r1, q1⟩ => ?_
  refine thn (hb pins s1 σ H1 _ I1 q1) fun u s2 ⟨y, H2, I2, r2, q2⟩ => ?_
  exact hf v u s2 x y H2 I2 r1 r2 q2
theorem pe_op {op : Operator} {r : R2} (ho : OpR X (binaryOp op) r) (ha : PE X a ta) (hb : PE X b tb) : PE X (.BinOp a op b pos) (tOp r ta tb) := by
  intro pins s σ H Q I h
  exact wpAny_BinOp (binT ha hb I h fun v u s2 x y H2 I2 rx ry q => ho pins s2 σ H2 x y v u Q I2 rx ry q)
theorem pe_un {op : UnaryOp} {r : V → Hp → VK → Prop} (ho : UnR X (unaryOp op) r) (ha : PE X a ta) : PE X (.UnaryOp op a pos) (tUn r ta) := by
  intro pins s σ H Q I h
  exact UnaryOp_ (thn (ha pins s σ H _ I h) fun v s1 ⟨x, H1, I1, r1, q1⟩ => ho pins s1 σ H1 x v Q I1 r1 q1)
theorem opI {f : Value → Value → Sem Value} {C : Int → Int → Prop} {g : Int → Int → Int}
    (rule : ∀ (i j : Int) (t u : Tok) (s : Shared) (Q : Value → Shared → Prop) (E : Value → Shared → Prop), C i j → Q (.int (g i j) s.toks) { s with toks := s.toks + 1 } → wpAny (model X.prog X.w) X.A (f (.int i t) (.int j u)) Q E s) :
    OpR X f (rI C fun i j => .int (g i j)) := by
  intro pins s σ H x y v u Q I rx ry h
  obtain ⟨i, j, rfl, rfl, hc, q⟩ := h
  obtain ⟨t, rfl⟩ := rx
  obtain ⟨t', rfl⟩ := ry
  exact rule i j t t' s _ _ hc ⟨.int (g i j), H, I.tok _, ⟨_, rfl⟩, q⟩
theorem opI0 {f : Value → Value → Sem Value} {g : Int → Int → Int}
    (rule : ∀ (i j : Int) (t u : Tok) (s : Shared) (Q : Value → Shared → Prop) (E : Value → Shared → Prop), Q (.int (g i j) s.toks) { s with toks := s.toks + 1 } → wpAny (model X.prog X.w) X.A (f (.int i t) (.int j u)) Q E s) :
    OpR X f (rI0 fun i j => .int (g i j)) := by
  intro pins s σ H x y v u Q I rx ry h
  obtain ⟨i, j, rfl, rfl, q⟩ := h
  obtain ⟨t, rfl⟩ := rx
  obtain ⟨t', rfl⟩ := ry
  exact rule i j t t' s _ _ ⟨.int (g i j), H, I.tok _, ⟨_, rfl⟩, q⟩
theorem opB0 {f : Value → Value → Sem Value} {g : Int → Int → Bool}
    (rule : ∀ (i j : Int) (t u : Tok) (s : Shared) (Q : Value → Shared → Prop) (E : Value → Shared → Prop), Q (.bool (g i j)) s → wpAny (model X.prog X.w) X.A (f (.int i t) (.int j u)) Q E s) :
    OpR X f (rI0 fun i j => .bl (g i j)) := by
  intro pins s σ H x y v u Q I rx ry h
  obtain ⟨i, j, rfl, rfl, q⟩ := h
  obtain ⟨t, rfl⟩ := rx
  obtain ⟨t', rfl⟩ := ry
  exact rule i j t t' s _ _ ⟨.bl (g i j), H, I, rfl, q⟩
noncomputable def CPow (i j : Int) : Prop := 0 ≤ j ∧ j ≤ 1000000 ∧ i.natAbs < 2 ^ 64
theorem op_add : OpR X (binaryOp .Add) (rI0 fun i j => .int (i + j)) := opI0 fun _ _ _ _ _ _ _ q => add_int q
theorem op_sub : OpR X (binaryOp .Sub) (rI0 fun i j => .int (i - j)) := opI0 fun _ _ _ _ _ _ _ q => sub_int q
theorem op_mod : OpR X (binaryOp .Mod) (rI (fun _ j => 0 < j) fun i j => .int (i % j)) := opI fun i j _ _ _ _ _ hc q => by
  have h1 : (0 : Int) < j := hc
  exact mod_int' (by (first | lia | omega)) (by rw [Int.fmod_eq_emod_of_nonneg i (by (first | lia | omega))]; exact q)
theorem op_pow : OpR X (binaryOp .Pow) (rI CPow fun i j => .int (i ^ j.toNat)) := opI fun _ _ _ _ _ _ _ hc q => pow_int_small hc.1 hc.2.1 hc.2.2 q
theorem unI {f : Value → Sem Value} {g : Int → Int}
    (rule : ∀ (i : Int) (t : Tok) (s : Shared) (Q : Value → Shared → Prop) (E : Value → Shared → Prop), Q (.int (g i) s.toks) { s with toks := s.toks + 1 } → wpAny (model X.prog X.w) X.A (f (.int i t)) Q E s) :
    UnR X f (rU fun i => .int (g i)) := by
  intro pins s σ H x v Q I rx h
  obtain ⟨i, rfl, q⟩ := h
  obtain ⟨t, rfl⟩ := rx
  exact rule i t s _ _ ⟨.int (g i), H, I.tok _, ⟨_, rfl⟩, q⟩
theorem un_neg : UnR X (unaryOp .USub) (rU fun i => .int (-i)) := unI fun _ _ _ _ _ q => neg_int q
end
noncomputable def scal : V → V → Bool
  | .non, .non => true | .non, .int _ => true | .int _, .non => true | .non, .bl _ => true | .bl _, .non => true | .non, .str _ => true | .str _, .non => true
  | .int _, .int _ => true | .bl _, .bl _ => true | .str _, .str _ => true | .byt _, .byt _ => true
  | .int _, .str _ => true | .str _, .int _ => true | .bl _, .str _ => true | .str _, .bl _ => true
  | _, _ => false
inductive rEq  (x y : V) (H : Hp) (Q : VK) : Prop
  | mk  : (scal x y = true) → (Q (.bl (decide (x = y))) H) → rEq x y H Q
inductive rNe  (x y : V) (H : Hp) (Q : VK) : Prop
  | mk  : (scal x y = true) → (Q (.bl (!decide (x = y))) H) → rNe x y H Q
theorem dec_int {i j : Int} : decide (V.int i = V.int j) = (i == j) := by
  rw [Bool.eq_iff_iff]
  simp
theorem dec_bl {i j : Bool} : decide (V.bl i = V.bl j) = (i == j) := by
  rw [Bool.eq_iff_iff]
  simp
theorem dec_str {i j : Str} : decide (V.str i = V.str j) = (i == j) := by
  rw [Bool.eq_iff_iff]
  simp
theorem dec_byt {i j : Array UInt8} : decide (V.byt i = V.byt j) = (i.toList == j.toList) := by
  rw [Bool.eq_iff_iff]
  cases i
  cases j
  simp
section
variable {X : Cx} {a b c : Expr} {ta tb tc : TE} {pos : Pos}
theorem fin_bl {pins : List (Addr × Obj)} {σ : St} {H : Hp} {s : Shared} {Q : VK} {k k' : Bool} (I : Inv X pins σ H s) (q : Q (.bl k) H) (e : k = k') : EP X pins σ Q (.bool k') s := by
  subst e
  exact ⟨.bl k, H, I, rfl, q⟩
theorem op_eq : OpR X (compareOp .Eq) rEq := by
  intro pins s σ H x y v u Q I rx ry h
  obtain ⟨hs, q⟩ := h
  cases x with
  | non =>
    cases rx
    cases y with
    | non => cases ry; exact PySem.EqNone.eq_none_none (fin_bl I q (by simp))
    | bl j => cases ry; exact PySem.EqNone.eq_none_bool (fin_bl I q (by simp))
    | int j => obtain ⟨t', rfl⟩ := ry; exact PySem.EqNone.eq_none_int (fin_bl I q (by simp))
    | str j => obtain ⟨t', rfl⟩ := ry; exact PySem.EqNone.eq_none_str (fin_bl I q (by simp))
    | _ => exact absurd (show false = true from hs) Bool.false_ne_true
  | bl i =>
    cases rx
    cases y with
    | non => cases ry; exact PySem.EqNone.eq_bool_none (fin_bl I q (by simp))
    | bl j => cases ry; exact eq_bool (fin_bl I q dec_bl)
    | str j => obtain ⟨t', rfl⟩ := ry; exact PySem.EqMixed.eq_bool_str (fin_bl I q (by simp))
    | _ => exact absurd (show false = true from hs) Bool.false_ne_true
  | int i =>
    obtain ⟨t, rfl⟩ := rx
    cases y with
    | non => cases ry; exact PySem.EqNone.eq_int_none (fin_bl I q (by simp))
    | int j => obtain ⟨t', rfl⟩ := ry; exact eq_int (fin_bl I q dec_int)
    | str j => obtain ⟨t', rfl⟩ := ry; exact PySem.EqMixed.eq_int_str (fin_bl I q (by simp))
    | _ => exact absurd (show false = true from hs) Bool.false_ne_true
  | str i =>
    obtain ⟨t, rfl⟩ := rx
    cases y with
    | non => cases ry; exact PySem.EqNone.eq_str_none (fin_bl I q (by simp))
    | bl j => cases ry; exact PySem.EqMixed.eq_str_bool (fin_bl I q (by simp))
    | int j => obtain ⟨t', rfl⟩ := ry; exact PySem.EqMixed.eq_str_int (fin_bl I q (by simp))
    | str j => obtain ⟨t', rfl⟩ := ry; exact eq_str (fin_bl I q dec_str)
    | _ => exact absurd (show false = true from hs) Bool.false_ne_true
  | byt i =>
    obtain ⟨t, rfl⟩ := rx
    cases y with
    | byt j => obtain ⟨t', rfl⟩ := ry; exact PySem.W.eq_bytes (fin_bl I q dec_byt)
    | _ => exact absurd (show false = true from hs) Bool.false_ne_true
  | _ => cases y <;> exact absurd (show false = true from hs) Bool.false_ne_true
theorem op_ne : OpR X (compareOp .NotEq) rNe := by
  intro pins s σ H x y v u Q I rx ry h
  obtain ⟨hs, q⟩ := h
  cases x with
  | non =>
    cases rx
    cases y with
    | non => cases ry; exact PySem.EqNone.ne_none_none (fin_bl I q (by simp))
    | bl j => cases ry; exact PySem.EqNone.ne_none_bool (fin_bl I q (by simp))
    | int j => obtain ⟨t', rfl⟩ := ry; exact PySem.EqNone.ne_none_int (fin_bl I q (by simp))
    | str j => obtain ⟨t', rfl⟩ := ry; exact PySem.EqNone.ne_none_str (fin_bl I q (by simp))
    | _ => exact absurd (show false = true from hs) Bool.false_ne_true
  | bl i =>
    cases rx
    cases y with
    | non => cases ry; exact PySem.EqNone.ne_bool_none (fin_bl I q (by simp))
    | bl j => cases ry; exact ne_bool (fin_bl I q (congrArg not dec_bl))
    | str j => obtain ⟨t', rfl⟩ := ry; exact PySem.EqMixed.ne_bool_str (fin_bl I q (by simp))
    | _ => exact absurd (show false = true from hs) Bool.false_ne_true
  | int i =>
    obtain ⟨t, rfl⟩ := rx
    cases y with
    | non => cases ry; exact PySem.EqNone.ne_int_none (fin_bl I q (by simp))
    | int j => obtain ⟨t', rfl⟩ := ry; exact ne_int (fin_bl I q (congrArg not dec_int))
    | str j => obtain ⟨t', rfl⟩ := ry; exact PySem.EqMixed.ne_int_str (fin_bl I q (by simp))
    | _ => exact absurd (show false = true from hs) Bool.false_ne_true
  | str i =>
    obtain ⟨t, rfl⟩ := rx
    cases y with
    | non => cases ry; exact PySem.EqNone.ne_str_none (fin_bl I q (by simp))
    | bl j => cases ry; exact PySem.EqMixed.ne_str_bool (fin_bl I q (by simp))
    | int j => obtain ⟨t', rfl⟩ := ry; exact PySem.EqMixed.ne_str_int (fin_bl I q (by simp))
    | str j => obtain ⟨t', rfl⟩ := ry; exact ne_str (fin_bl I q (congrArg not dec_str))
    | _ => exact absurd (show false = true from hs) Bool.false_ne_true
  | byt i =>
    obtain ⟨t, rfl⟩ := rx
    cases y with
    | byt j => obtain ⟨t', rfl⟩ := ry; exact PySem.W.ne_bytes (fin_bl I q (congrArg not dec_byt))
    | _ => exact absurd (show false = true from hs) Bool.false_ne_true
  | _ => cases y <;> exact absurd (show false = true from hs) Bool.false_ne_true
theorem op_lt : OpR X (compareOp .Lt) (rI0 fun i j => .bl (decide (i < j))) := opB0 fun _ _ _ _ _ _ _ q => lt_int q
theorem op_le : OpR X (compareOp .LtE) (rI0 fun i j => .bl (decide (i ≤ j))) := opB0 fun _ _ _ _ _ _ _ q => le_int q
theorem op_gt : OpR X (compareOp .Gt) (rI0 fun i j => .bl (decide (j < i))) := opB0 fun _ _ _ _ _ _ _ q => gt_int q
theorem nomark (b : Expr) {op : CmpOp} (h : op ≠ .In := by decide) (h2 : op ≠ .NotIn := by decide) : behindInMarks op b = false := by
  have e1 : (op == CmpOp.In) = false := by cases op <;> first | rfl | exact absurd rfl h
  have e2 : (op == CmpOp.NotIn) = false := by cases op <;> first | rfl | exact absurd rfl h2
  cases b <;> simp [behindInMarks, e1, e2]
theorem pe_cmpR {op : CmpOp} {r : R2} (ho : OpR X (compareOp op) r) (ha : PE X a ta) (hb : PE X b tb) (hm : behindInMarks op b = false) : PE X (.Compare a [op] [b] pos) (tOp r ta tb) := by
  intro pins s σ H Q I h
  exact wpAny_Compare1 (binT ha hb I h fun v u s2 x y H2 I2 rx ry q => ho pins s2 σ H2 x y v u Q I2 rx ry q) hm
noncomputable def tTest (t : TE) : TT := fun σ H Q => t σ H fun x H' => rB x H' Q
theorem pt_cmpR {op : CmpOp} {r : R2} (ho : OpR X (compareOp op) r) (ha : PE X a ta) (hb : PE X b tb) (hm : behindInMarks op b = false) : PT X (.Compare a [op] [b] pos) (tTest (tOp r ta tb)) := by
  intro pins s σ H Q I h
  refine wpAny_isTrue_Compare1 (thn (ha pins s σ H _ I h) fun v s1 ⟨x, H1, I1, r1, q1⟩ => thn (hb pins s1 σ H1 _ I1 q1) fun u s2 ⟨y, H2, I2, r2, q2⟩ =>
    thn (ho pins s2 σ H2 x y v u _ I2 r1 r2 q2) fun c s3 ⟨z, H3, I3, r3, k, e, q3⟩ => ?_) hm
  subst e
  cases r3
  exact wpAny_truthy_bool ⟨H3, I3, q3⟩
noncomputable def tChain (r r' : R2) (ta tb tc : TE) : TE := fun σ H Q => ta σ H fun x H1 => tb σ H1 fun y H2 => r x y H2 fun z H3 => rB z H3 fun k H5 => if k = true then tc σ H5 fun w' H4 => r' y w' H4 Q else Q (.bl false) H5
theorem pt_chain {op op' : CmpOp} {r r' : R2} (ho : OpR X (compareOp op) r) (ho' : OpR X (compareOp op') r') (ha : PE X a ta) (hb : PE X b tb) (hc : PE X c tc)
    (hm : lastMarks [op, op'] [b, c] = false := by with_unfolding_all rfl) : PT X (.Compare a [op, op'] [b, c] pos) (tTest (tChain r r' ta tb tc)) := by
  intro pins s σ H Q I h
  refine isTrue_chain (thn (ha pins s σ H _ I h) fun v s1 ⟨x, H1, I1, r1, q1⟩ => test_link (thn (hb pins s1 σ H1 _ I1 q1) fun u s2 ⟨y, H2, I2, r2, q2⟩ =>
    thn (ho pins s2 σ H2 x y v u _ I2 r1 r2 q2) fun d s3 ⟨z, H3, I3, r3, k, e, q3⟩ => ?_)) hm
  subst e
  cases r3
  refine wpAny_truthy_bool ?_
  cases k with
  | false =>
    obtain ⟨k', e', q'⟩ := q3
    cases e'
    exact ite_ff ⟨H3, I3, q'⟩
  | true =>
    refine ite_tt (test_last (thn (hc pins s3 σ H3 _ I3 q3) fun w' s4 ⟨z', H4, I4, r4, q4⟩ => thn (ho' pins s4 σ H4 y z' u w' _ I4 r2 r4 q4) fun d' s5 ⟨z2, H5, I5, r5, k2, e2, q5⟩ => ?_))
    subst e2
    cases r5
    exact wpAny_truthy_bool ⟨H5, I5, q5⟩
noncomputable def TruV (K : PySem.W.Frag) (x : V) (H : Hp) (k : Bool) : Prop :=
  match x with
  | .non => k = false
  | .bl b => k = b
  | .int i => k = (i != 0)
  | .str y => y.length ≤ sizeLine ∧ k = ((y.length : Int) != 0)
  | .byt y => y.size ≤ sizeLine ∧ k = ((y.size : Int) != 0)
  | .ref p => (∃ xs, SqL K H p xs ∧ k = !xs.isEmpty) ∨ (∃ xs, SqT K H p xs ∧ k = !xs.isEmpty) ∨ ∃ kvs, H p = some (.dK kvs) ∧ k = !kvs.isEmpty
  | _ => False
theorem isEmpty_kv {κ : Type} {kvs : List (κ × V)} {vs : List (κ × Value)} (r : KV kvs vs) : (!vs.isEmpty) = !kvs.isEmpty := by
  cases r <;> rfl
theorem isEmpty_of {xs : List V} {its : List Value} (r : Vals xs its) : (!its.toArray.isEmpty) = !xs.isEmpty := by
  cases r <;> simp
theorem line63 : (sizeLine : Nat) < 2 ^ 63 := by rw [sizeLine_eq]; decide
theorem tru_ok : TruR X (fun x H Q => ∃ k, TruV X.K x H k ∧ Q k H) := by
  intro pins s σ H x v Q I rx h
  obtain ⟨k, e, q⟩ := h
  have hl := line63
  have hs : sizeLine = 16777216 := sizeLine_eq
  cases x with
  | non =>
    cases rx
    have e' : k = false := e
    subst e'
    exact truthy_none ⟨H, I, q⟩
  | bl b =>
    cases rx
    have e' : k = b := e
    subst e'
    exact wpAny_truthy_bool ⟨H, I, q⟩
  | int i =>
    obtain ⟨t, rfl⟩ := rx
    have e' : k = (i != 0) := e
    subst e'
    exact PySem.P.truthy_int ⟨H, I, q⟩
  | str y =>
    obtain ⟨t, rfl⟩ := rx
    obtain ⟨hy, e'⟩ : y.length ≤ sizeLine ∧ k = ((y.length : Int) != 0) := e
    subst e'
    exact PySem.P.truthy_str (by (first | lia | omega)) ⟨H, I.tok _, q⟩
  | byt y =>
    obtain ⟨t, rfl⟩ := rx
    obtain ⟨hy, e'⟩ : y.size ≤ sizeLine ∧ k = ((y.size : Int) != 0) := e
    subst e'
    exact PySem.W.truthy_bytes (by (first | lia | omega)) ⟨H, I.tok _, q⟩
  | ref p =>
    cases rx
    have e' : (∃ xs, SqL X.K H p xs ∧ k = !xs.isEmpty) ∨ (∃ xs, SqT X.K H p xs ∧ k = !xs.isEmpty) ∨ ∃ kvs, H p = some (.dK kvs) ∧ k = !kvs.isEmpty := e
    rcases e' with ⟨xs, hx, e'⟩ | ⟨xs, hx, e'⟩ | ⟨kvs, hx, e'⟩
    · subst e'
      obtain ⟨its, r, pl, hz⟩ := I.list hx
      have hlen := r.length
      exact wpAny_truthy_list pl.isList (by simp only [List.size_toArray]; omega) ⟨H, I.tok _, by rw [isEmpty_of r]; exact q⟩
    · subst e'
      obtain ⟨its, r, pl, hz⟩ := I.tuple hx
      have hlen := r.length
      exact truthy_tuple pl (by simp only [List.size_toArray]; omega) ⟨H, I.tok _, by rw [isEmpty_of r]; exact q⟩
    · subst e'
      obtain ⟨hz, hS, vs, r, m⟩ : kvs.length ≤ sizeLine ∧ (p == sysModules) = false ∧ ∃ vs, KV kvs vs ∧ s.heap.DictOf (mixKind X.prog X.w) p vs := I.hok p _ hx
      have hlen : kvs.length = vs.length := Paired.length r
      exact wpAny_truthy_dict hS m (by omega) ⟨H, I.tok _, by rw [isEmpty_kv r]; exact q⟩
  | _ => exact (show False from e).elim
theorem pt_truth (ha : PE X a ta) (he : ∀ whole, isTrue a X.env whole = (do let v ← whole; standAt a.pos; holding [v] (truthy v))) :
    PT X a (fun σ H Q => ta σ H fun x H' => ∃ k, TruV X.K x H' k ∧ Q k H') := by
  intro pins s σ H Q I h
  exact isTrue_plain (thn (ha pins s σ H _ I h) fun v s1 ⟨x, H1, I1, r1, q1⟩ => tru_ok pins s1 σ H1 x v Q I1 r1 q1) (he _)
theorem vals1 {x : V} {us : List Value} (r : Vals [x] us) : ∃ u, us = [u] ∧ RelV x u := by
  cases r with
  | cons r1 r2 => cases r2; exact ⟨_, rfl, r1⟩
theorem vals2 {x y : V} {us : List Value} (r : Vals [x, y] us) : ∃ u w', us = [u, w'] ∧ RelV x u ∧ RelV y w' := by
  cases r with
  | cons r1 r2 =>
    cases r2 with
    | cons r3 r4 => cases r4; exact ⟨_, _, rfl, r1, r3⟩
inductive rAbs  (xs : List V) (H : Hp) (Q : VK) : Prop
  | mk (i : _) : (xs = [.int i]) → (Q (.int (if i < 0 then -i else i)) H) → rAbs xs H Q
theorem call_abs : CallR X (.builtin "abs") rAbs := by
  intro pins s σ H xs us Q I r h
  obtain ⟨i, rfl, q⟩ := h
  obtain ⟨u, rfl, t, rfl⟩ := vals1 r
  exact call_abs_int fun u tk => ⟨.int (if i < 0 then -i else i), H, I.tok _, ⟨_, rfl⟩, q⟩
inductive rMx  (xs : List V) (H : Hp) (Q : VK) : Prop
  | mk (i j : _) : (xs = [.int i, .int j]) → (Q (.int (if j > i then j else i)) H) → rMx xs H Q
theorem call_max2 (hc : X.calm = true) : CallR X (.builtin "max") rMx := by
  intro pins s σ H xs us Q I r h
  obtain ⟨i, j, rfl, q⟩ := h
  obtain ⟨u, w', rfl, ⟨t, rfl⟩, ⟨t', rfl⟩⟩ := vals2 r
  refine max_two_ints (I.ok.hd hc) fun h' tk k => ⟨_, H, I.kept k, ?_, q⟩
  by_cases hj : j > i
  · rw [if_pos hj, if_pos hj]; exact ⟨_, rfl⟩
  · rw [if_neg hj, if_neg hj]; exact ⟨_, rfl⟩
end
end L2
namespace L2
open PySem PySem.Spec PyProof.Rows
structure ObjM (h : Heap) (x dx C : Addr) (mA : Str → Option Value) : Prop where
  obj : h.get? x = some (PySem.W.instObj C dx)
  ns : h.Ns1 dx mA
  ne : dx ≠ x
theorem lookIn_ns {h : Heap} {dx : Addr} {mA : Str → Option Value} (n : h.Ns1 dx mA) : ∃ od, h.get? dx = some od ∧ ∀ name, PySem.W.lookIn name od = some (mA name) := by
  obtain ⟨o, es, ep, ho, hd, hk, _, hm⟩ := n
  refine ⟨o, ho, fun name => ?_⟩
  have e := hm name
  unfold nsFind findBy at e
  rw [← Array.find?_toList] at e
  unfold PySem.W.lookIn
  rw [hd]
  dsimp only
  split
  · rename_i y q
    rw [q] at e
    exact congrArg some e
  · rename_i q
    rw [q] at e
    have a : es.toList.any (·.refKey) = false := by
      rw [List.any_eq_false]
      intro y hy
      obtain ⟨z, t, hkey⟩ := hk y (Array.mem_toList_iff.mp hy)
      simp [DictEntry.refKey, hkey]
    have a' : ¬ es.toList.any (·.refKey) = true := by rw [a]; exact Bool.false_ne_true
    rw [if_neg a']
    exact congrArg some e
theorem ObjM.look {h : Heap} {x dx C : Addr} {mA : Str → Option Value} (I : ObjM h x dx C mA) : ∃ od, PySem.W.InstAt h x (PySem.W.instObj C dx) C (some od) ∧ ∀ name, PySem.W.lookIn name od = some (mA name) :=
  let ⟨od, ho, hl⟩ := lookIn_ns I.ns
  ⟨od, ⟨I.obj, rfl, rfl, ho⟩, hl⟩
section
variable {prog : Program} {w : World} {A : Around} {E : Value → Shared → Prop} {s : Shared} {K : PySem.W.Frag} {x dx C f : Addr} {mA : Str → Option Value} {name : Str} {v : Value}
theorem get_map {expr : Bool} {Q : Value → Shared → Prop} (X : K.In s.heap) (I : ObjM s.heap x dx C mA) (hg : PySem.W.plainGet K C name = true) (hh : PySem.W.hasDictIn K C = true)
    (ha : PySem.W.findIn K (.ref C) name = some none) (hv : mA name = some v) (hv' : PySem.W.handedIn v = true) (h : Q v { s with toks := s.toks + 1 }) :
    wpAny (model prog w) A (getAttr (.ref x) name expr) Q E s := by
  obtain ⟨od, J, hl⟩ := I.look
  exact PySem.W.get_value X J (PySem.W.plainGet_of hg).1 (PySem.W.findObj_own hh ha rfl (by rw [hl, hv])) hv' h
theorem get_meth {pl : Sem Bool} {Q : Value × List Value → Shared → Prop} (X : K.In s.heap) (I : ObjM s.heap x dx C mA) (hg : PySem.W.plainGet K C name = true)
    (hf : PySem.W.findIn K (.ref C) name = some (some (.ref f))) (ht : PySem.W.isFn K (.ref f) = true) (hv : mA name = none) (h : Q (.ref f, [.ref x]) s) :
    wpAny (model prog w) A (getMethod (.ref x) name pl) Q E s := by
  obtain ⟨od, J, hl⟩ := I.look
  exact PySem.W.method_fn X J (PySem.W.plainGet_of hg).1 (PySem.W.plainGet_of hg).2 hf (beq_iff_eq.mp ht) (by show (PySem.W.lookIn name od).map (·.isSome) = some false; rw [hl, hv]; rfl) h
theorem set_map {ns : List Str} {Q : Unit → Shared → Prop} (X : K.In s.heap) (I : ObjM s.heap x dx C mA)
    (hs : PySem.W.findIn K (.ref C) "__setattr__" = some (some (.builtin "object.__setattr__"))) (hp : PySem.W.plainOver K C = true) (ht : PySem.W.takerIn K C name = some none) (hh : PySem.W.hasDictIn K C = true)
    (hw : PySem.Within mA ns) (hsz : ns.length ≤ sizeLine)
    (h : ∀ h', ObjM h' x dx C (fun y => if y = name then some v else mA y) → Heap.SameBut dx s.heap h' → Q () { s with heap := h', toks := s.toks + 2 }) :
    wpAny (model prog w) A (setAttr (.ref x) name v) Q E s := by
  obtain ⟨od, J, hl⟩ := I.look
  refine PySem.W.set_plain X J hs (PySem.W.osa_open (s := { s with toks := s.toks + 1 }) (r := none) X J hp ht fun b => ?_)
  obtain ⟨cd, hc, hd'⟩ := PySem.W.any_some hh
  have hx : s.heap.get? x = some ⟨.ref C, some dx, .plain, #[]⟩ := I.obj
  refine wpAny_bind (wpAny_pure (wpAny_bind (wpAny_bind (wpAny_loadPart hx (wpAny_bind (PySem.W.Looks.here (s := { s with toks := s.toks + 1 }) (PySem.W.looks_clsIn X hc) ?_))))))
  rw [hd']
  refine wpAny_pure (a := some dx) (wpAny_bind (wpAny_pure (wpAny_bind ?_)))
  refine wpAny_nsSet1 (s := { s with toks := s.toks + 1 }) I.ns fun h' hn2 hs2 => ?_
  obtain ⟨oD, esD, epD, hoD, hdD, hcD⟩ := hn2.count (PySem.Within.cons name v hw)
  refine wpAny_bind (wpAny_lookBehind hoD (by rw [hdD]; exact pastItsLine_dict (Nat.le_trans hcD (by rw [List.length_cons]; (first | lia | omega)))) ?_)
  exact wpAny_pure (h _ ⟨(hs2.2 _ (Ne.symm I.ne)).trans I.obj, hn2, I.ne⟩ hs2)
theorem make_map {R : Result → Shared → Prop} {vs : List Value} {kw : List (Str × Value)} (X : K.In s.heap) (hm : PySem.W.makesIn K C = true)
    (hi : PySem.W.findIn K (.ref C) "__init__" = some (some (.ref f))) (hf : PySem.W.typeIn K (.ref f) = some (.type "function"))
    (h : codeAny (model prog w) (A.under (.builtin "type.__call__" ⟨.ref C :: vs, kw⟩)) (.call (.ref f) ⟨.ref (s.heap.objs.size + 1) :: vs, kw⟩) (PySem.W.InitBack (s.heap.objs.size + 1) R)
      { s with heap := (s.heap.push PySem.W.emptyDict).push (PySem.W.instObj C s.heap.objs.size) }) :
    codeAny (model prog w) A (.call (.ref C) ⟨vs, kw⟩) R s := by
  obtain ⟨hh, g, d, t, os⟩ := s
  exact PySem.W.make_core (PySem.W.makes_of X hm) (PySem.W.looks_findIn X hi) (fun self => PySem.W.bind_fn X self hf) (.inl rfl) h
end
noncomputable def putF (f : Str) (v : V) : List (Str × V) → List (Str × V)
  | [] => [(f, v)]
  | (g, x) :: r => if g = f then (g, v) :: r else (g, x) :: putF f v r
theorem lookup_putF (f g : Str) (v : V) : ∀ fs : List (Str × V), (putF f v fs).lookup g = if g = f then some v else fs.lookup g
  | [] => by
    show List.lookup g [(f, v)] = _
    by_cases h : g = f
    · have hb : (g == f) = true := beq_iff_eq.mpr h
      simp only [List.lookup, hb, if_pos h]
    · have hb : (g == f) = false := beq_eq_false_iff_ne.mpr h
      simp only [List.lookup, hb, if_neg h]
  | (k, x) :: r => by
    have ih := lookup_putF f g v r
    rw [show putF f v ((k, x) :: r) = (if k = f then (k, v) :: r else (k, x) :: putF f v r) from rfl]
    by_cases hk : k = f
    · rw [if_pos hk]
      by_cases h : g = k
      · have hb : (g == k) = true := beq_iff_eq.mpr h
        simp only [List.lookup, hb, if_pos (h.trans hk)]
      · have hb : (g == k) = false := beq_eq_false_iff_ne.mpr h
        simp only [List.lookup, hb, if_neg (fun e : g = f => h (e.trans hk.symm))]
    · rw [if_neg hk]
      by_cases h : g = k
      · have hb : (g == k) = true := beq_iff_eq.mpr h
        simp only [List.lookup, hb, if_neg (fun e : g = f => hk (h.symm.trans e))]
      · have hb : (g == k) = false := beq_eq_false_iff_ne.mpr h
        simp only [List.lookup, hb]
        exact ih
theorem keys_putF (f : Str) (v : V) : ∀ fs : List (Str × V), f ∈ (putF f v fs).map (·.1) ∧ ∀ g, g ∈ fs.map (·.1) → g ∈ (putF f v fs).map (·.1)
  | [] => ⟨by simp [putF], fun g h => by simp at h⟩
  | (k, x) :: r => by
    obtain ⟨i1, i2⟩ := keys_putF f v r
    rw [show putF f v ((k, x) :: r) = (if k = f then (k, v) :: r else (k, x) :: putF f v r) from rfl]
    by_cases hk : k = f
    · rw [if_pos hk]
      subst hk
      exact ⟨by simp, fun g h => by simpa using h⟩
    · rw [if_neg hk]
      refine ⟨?_, fun g h => ?_⟩
      · rw [List.map_cons]
        exact List.mem_cons_of_mem _ i1
      · rw [List.map_cons] at h ⊢
        rcases List.mem_cons.mp h with e | e
        · exact List.mem_cons.mpr (.inl e)
        · exact List.mem_cons_of_mem _ (i2 g e)
theorem length_putF (f : Str) (v : V) : ∀ fs : List (Str × V), (putF f v fs).length ≤ fs.length + 1
  | [] => by simp [putF]
  | (k, x) :: r => by
    have ih := length_putF f v r
    rw [show putF f v ((k, x) :: r) = (if k = f then (k, v) :: r else (k, x) :: putF f v r) from rfl]
    by_cases hk : k = f
    · rw [if_pos hk, List.length_cons, List.length_cons]; (first | lia | omega)
    · rw [if_neg hk, List.length_cons, List.length_cons]; (first | lia | omega)
theorem RelO.some_of {v : V} {o : Option Value} (r : RelO (some v) o) : ∃ u, o = some u ∧ RelV v u := by
  cases o with
  | none => exact (show False from r).elim
  | some u => exact ⟨u, rfl, r⟩
theorem RelO.none_of {o : Option Value} (r : RelO none o) : o = none := by
  cases o with
  | none => rfl
  | some u => exact (show False from r).elim
theorem handed_of {v : V} {u : Value} (r : RelV v u) : PySem.W.handedIn u = true := by
  cases v with
  | non => cases (show u = Value.none from r); rfl
  | bl b => cases (show u = Value.bool b from r); rfl
  | int i => obtain ⟨t, e⟩ := (show ∃ t, u = Value.int i t from r); cases e; rfl
  | str x => obtain ⟨t, e⟩ := (show ∃ t, u = Value.str x t from r); cases e; rfl
  | byt b => obtain ⟨t, e⟩ := (show ∃ t, u = Value.bytes b t from r); cases e; rfl
  | flt b => obtain ⟨t, e⟩ := (show ∃ t, u = Value.float b t from r); cases e; rfl
  | ref a => cases (show u = Value.ref a from r); rfl
  | ty n => cases (show u = Value.type n from r); rfl
section
variable {P : Program} {w : World} {H H' : Hp} {h h' : Heap} {a C dx : Addr} {fs fs' : List (Str × V)}
theorem ins_get (hok : HOk P w H h) (e : H a = some (.ins C dx fs)) : ∃ mA, ObjM h a dx C mA ∧ (∀ f, RelO (fs.lookup f) (mA f)) ∧ PySem.Within mA (fs.map (·.1)) ∧ fs.length ≤ 1000 ∧ H dx = some (.own a) := by
  obtain ⟨d, z, ne, ob, mA, n, r, q⟩ := (show ObjOk P w H h a (.ins C dx fs) from hok a _ e)
  exact ⟨mA, ⟨ob, n, ne⟩, r, q, z, d⟩
end
structure Cls (K : PySem.W.Frag) (C : Addr) : Prop where
  pg : PySem.W.plainGet K C Str.empty = true
  hd : PySem.W.hasDictIn K C = true
  po : PySem.W.plainOver K C = true
  sa : PySem.W.findIn K (.ref C) "__setattr__" = some (some (.builtin "object.__setattr__"))
theorem Cls.get {K : PySem.W.Frag} {C : Addr} (c : Cls K C) (f : Str) : PySem.W.plainGet K C f = true := c.pg
noncomputable def NoAttr (K : PySem.W.Frag) (C : Addr) (f : Str) : Prop := PySem.W.findIn K (.ref C) f = some none
theorem NoAttr.taker {K : PySem.W.Frag} {C : Addr} {f : Str} (n : NoAttr K C f) : PySem.W.takerIn K C f = some none := by
  unfold PySem.W.takerIn
  rw [show PySem.W.findIn K (.ref C) f = some none from n]
  rfl
structure Meth (K : PySem.W.Frag) (C : Addr) (m : Str) (f : Addr) : Prop where
  at_ : PySem.W.findIn K (.ref C) m = some (some (.ref f))
  fn : PySem.W.isFn K (.ref f) = true
  kp : PySem.W.keepIn K (.ref f) = true
section
variable {X : Cx} {pins : List (Addr × Obj)} {σ : St} {H : Hp} {s : Shared} {a C dx : Addr} {fs : List (Str × V)} {f : Str} {v : V} {A : Around} {E : Value → Shared → Prop}
theorem getattr_ok {b : Bool} {Q : Value → Shared → Prop} (I : Inv X pins σ H s) (e : H a = some (.ins C dx fs)) (c : Cls X.K C) (n : NoAttr X.K C f) (l : fs.lookup f = some v)
    (h : ∀ u s', Inv X pins σ H s' → RelV v u → Q u s') : wpAny (model X.prog X.w) A (getAttr (.ref a) f b) Q E s := by
  obtain ⟨mA, O, r, _, _, _⟩ := ins_get I.hok e
  obtain ⟨u, hu, ru⟩ := RelO.some_of (v := v) (o := mA f) (by rw [← l]; exact r f)
  exact get_map I.kIn O (c.get f) c.hd n hu (handed_of ru) (h u _ (I.tok _) ru)
theorem getmeth_ok {m : Str} {g : Addr} {pl : Sem Bool} {Q : Value × List Value → Shared → Prop} (I : Inv X pins σ H s) (e : H a = some (.ins C dx fs)) (c : Cls X.K C) (k : Meth X.K C m g) (l : fs.lookup m = none)
    (h : Q (.ref g, [.ref a]) s) : wpAny (model X.prog X.w) A (getMethod (.ref a) m pl) Q E s := by
  obtain ⟨mA, O, r, _, _, _⟩ := ins_get I.hok e
  have hn : mA m = none := RelO.none_of (by rw [← l]; exact r m)
  exact get_meth I.kIn O (c.get m) k.at_ k.fn hn h
theorem setattr_ok {y : V} {u : Value} {Q : Unit → Shared → Prop} (I : Inv X pins σ H s) (e : H a = some (.ins C dx fs)) (c : Cls X.K C) (n : NoAttr X.K C f) (hl : fs.length < 1000) (ry : RelV y u)
    (h : ∀ s', Inv X pins σ (upd H a (.ins C dx (putF f y fs))) s' → Q () s') : wpAny (model X.prog X.w) A (setAttr (.ref a) f u) Q E s := by
  obtain ⟨mA, O, r, wi, _, ho⟩ := ins_get I.hok e
  have hz : (fs.map (·.1)).length ≤ sizeLine := by rw [List.length_map, sizeLine_eq]; (first | lia | omega)
  refine set_map I.kIn O c.sa c.po n.taker c.hd wi hz fun h' O' sb => h _ ?_
  have hd : ∃ o, h'.get? dx = some o := let ⟨o, _, _, e', _⟩ := O'.ns; ⟨o, e'⟩
  refine I.write (x := a) (e := dx) (by rw [e]; exact True.intro) (.inr ho) (fun b q hb z => (sb.2 b hb).trans z) hd ?_
  refine ⟨by rw [upd_ne O.ne]; exact ho, ?_, O.ne, O'.obj, _, O'.ns, fun g => ?_, fun g hg => ?_⟩
  · have := length_putF f y fs; (first | lia | omega)
  · show RelO ((putF f y fs).lookup g) (if g = f then some u else mA g)
    rw [lookup_putF]
    by_cases q : g = f
    · rw [if_pos q, if_pos q]; exact ry
    · rw [if_neg q, if_neg q]; exact r g
  · by_cases q : g = f
    · rw [q]; exact (keys_putF f y fs).1
    · refine (keys_putF f y fs).2 g (wi g fun z => hg ?_)
      show (if g = f then some u else mA g) = none
      rw [if_neg q]; exact z
theorem Inv.made (I : Inv X pins σ H s) : Inv X pins σ (upd (upd H s.heap.objs.size (.own (s.heap.objs.size + 1))) (s.heap.objs.size + 1) (.ins C s.heap.objs.size []))
    { s with heap := (s.heap.push PySem.W.emptyDict).push (PySem.W.instObj C s.heap.objs.size) } := by
  have e1 : (s.heap.push PySem.W.emptyDict).get? s.heap.objs.size = some PySem.W.emptyDict := Heap.get?_push_size s.heap rfl
  have e2 : ((s.heap.push PySem.W.emptyDict).push (PySem.W.instObj C s.heap.objs.size)).get? (s.heap.objs.size + 1) = some (PySem.W.instObj C s.heap.objs.size) := by
    have := Heap.get?_push_size (s.heap.push PySem.W.emptyDict) (o := PySem.W.instObj C s.heap.objs.size) rfl
    rwa [Heap.size_push] at this
  have e3 : (s.heap.push PySem.W.emptyDict).Ns s.heap.objs.size (fun _ => none) := ⟨PySem.W.emptyDict, #[], _, e1, rfl, (fun e he => absurd he (by simp)), fun _ => rfl⟩
  have I1 := I.laid (a := s.heap.objs.size) (o := .own (s.heap.objs.size + 1)) (h' := s.heap.push PySem.W.emptyDict) (t' := s.toks) (fun b u q => Heap.get?_push_of_some _ q) (Nat.le_refl _) ⟨_, e1⟩
  refine I1.laid (a := s.heap.objs.size + 1) (o := .ins C s.heap.objs.size []) (t' := s.toks) (fun b u q => Heap.get?_push_of_some _ q) (Nat.le_of_eq (Heap.size_push _ _)) ?_
  have ne : s.heap.objs.size ≠ s.heap.objs.size + 1 := Nat.ne_of_lt (Nat.lt_succ_self _)
  refine ⟨by rw [upd_ne ne, upd_same], Nat.zero_le _, ne, e2, fun _ => none, (Heap.Ns1.of_empty e3).at fun o q => Heap.get?_push_of_some _ q, fun _ => True.intro, fun y hy => absurd rfl hy⟩
theorem attr_of {prog : Program} {w : World} {env : Env} {e : Expr} {f : Str} {pos : Pos} {s : Shared} {Q : Value → Shared → Prop} (hb : attributeBase e f env (eval e env) = eval e env)
    (h : wpAny (model prog w) A (eval e env) (fun o s₁ => wpAny (model prog w) A (getAttr o f true) Q E s₁) E s) : wpAny (model prog w) A (eval (.Attribute e f pos) env) Q E s :=
  Attribute_any_ h (by rw [arm_eval_Attribute, hb])
end
inductive rFld (K : PySem.W.Frag) (f : Str) (x : V) (H1 : Hp) (Q : VK) : Prop
  | mk (a C dx fs v : _) : (x = .ref a) → (H1 a = some (.ins C dx fs)) → (Cls K C) → (NoAttr K C f) → (fs.lookup f = some v) → (Q v H1) → rFld K f x H1 Q
noncomputable def tFld (K : PySem.W.Frag) (ta : TE) (f : Str) : TE := fun σ H Q => ta σ H fun x H1 => rFld K f x H1 Q
noncomputable def sFld (K : PySem.W.Frag) (ta tv : TE) (f : Str) : TS := fun D σ H => tv σ H fun y H1 => ta σ H1 fun x H2 => ∃ a C dx fs, x = .ref a ∧ H2 a = some (.ins C dx fs) ∧ Cls K C ∧ NoAttr K C f ∧ fs.length < 1000 ∧
  D.nx σ (upd H2 a (.ins C dx (putF f y fs)))
section
variable {X : Cx} {o e value : Expr} {f : Str} {pos pos' tpos : Pos} {ta tv : TE}
theorem pe_fld (he : PE X e ta) (hb : attributeBase e f X.env (eval e X.env) = eval e X.env) : PE X (.Attribute e f pos) (tFld X.K ta f) := by
  intro pins s σ H Q I h
  refine attr_of hb (thn (he pins s σ H _ I h) fun u s1 ⟨x, H1, I1, rx, a, C, dx, fs, v, ex, ea, c, n, l, q⟩ => ?_)
  subst ex
  obtain rfl : u = Value.ref a := rx
  exact getattr_ok I1 ea c n l fun u' s2 I2 ru => ⟨v, H1, I2, ru, q⟩
theorem ps_fld (ha : PE X o ta) (hv : PE X value tv) (hs : swapsWith value (some (.Attribute o f pos')) pos.line X.env = pure false) : PS X (.Assign [.Attribute o f pos'] value pos) (sFld X.K ta tv f) := by
  intro pins s σ H D I h
  refine plainObj_wpAny_Assign_Attribute (thn (hv pins s σ H _ I h) fun u s1 ⟨y, H1, I1, ry, q⟩ => thn (ha pins s1 σ H1 _ I1 q) fun ov s2 ⟨x, H2, I2, rx, a, C, dx, fs, ex, ea, c, n, l, q2⟩ => ?_) hs
  subst ex
  obtain rfl : ov = Value.ref a := rx
  exact setattr_ok I2 ea c n l ry fun s3 I3 => ⟨σ, _, I3, q2⟩
end
section
variable {X : Cx} {pins : List (Addr × Obj)} {σ : St} {H : Hp} {s : Shared} {A : Around} {E : Value → Shared → Prop} {Q : Value → Shared → Prop} {c : Value} {b : Bool}
end
end L2
namespace L2
open PySem PySem.Spec PyProof.Rows
structure Room (k : Nat) (A : Around) : Prop where
  hd : A.handled = none
  dp : A.depth + 3 * k + 5 < recursionLimit
  un : A.units + 16 * k + 200 < cLine
theorem Room.mono {j k : Nat} {A : Around} (r : Room k A) (h : j ≤ k) : Room j A := ⟨r.hd, by have := r.dp; (first | lia | omega), by have := r.un; (first | lia | omega)⟩
theorem Room.deeper {k : Nat} {A : Around} (r : Room (k + 1) A) (env : Env) : Room k (A.deeper env) :=
  ⟨r.hd, by have := r.dp; show A.depth + 1 + 3 * k + 5 < _; (first | lia | omega), by have := r.un; show A.units + 3 + 16 * k + 200 < _; (first | lia | omega)⟩
theorem make_depth {A : Around} {C : Addr} {us : List Value} {kw : List (Str × Value)} : (A.under (.builtin "type.__call__" ⟨.ref C :: us, kw⟩)).depth = A.depth + 1 := by
  first | rfl | simp [Around.under, Code.weight, Code.isCreation, Code.isGuard, Code.isCaller, Code.frames, Code.isFrame, guardIds]
theorem make_units {A : Around} {C : Addr} {us : List Value} {kw : List (Str × Value)} : (A.under (.builtin "type.__call__" ⟨.ref C :: us, kw⟩)).units = A.units + 1 := by
  first | rfl | simp [Around.under, Code.cUnits, Code.frames, Code.isFrame]
theorem Room.make {k : Nat} {A : Around} (r : Room (k + 1) A) (C : Addr) (us : List Value) (kw : List (Str × Value)) : Room k (A.under (.builtin "type.__call__" ⟨.ref C :: us, kw⟩)) :=
  ⟨r.hd, by have := r.dp; rw [make_depth]; (first | lia | omega), by have := r.un; rw [make_units]; (first | lia | omega)⟩
theorem Room.depth {k : Nat} {A : Around} (r : Room k A) : A.depth < recursionLimit := by have := r.dp; (first | lia | omega)
theorem Room.units {k : Nat} {A : Around} (r : Room k A) : A.units + 64 < cLine := by have := r.un; (first | lia | omega)
noncomputable def tNil : TA := fun _ H Q => Q [] H
noncomputable def tCons (ta : TE) (tr : TA) : TA := fun σ H Q => ta σ H fun x H1 => tr σ H1 fun xs H2 => Q (x :: xs) H2
section
variable {X : Cx} {e : Expr} {es : List Expr} {te : TE} {t : TA} {pos : Pos}
theorem pa_nil : PA X [] tNil := fun _ _ _ _ H Q I h => Calls.spliced_nil ⟨[], H, I, .nil, h⟩
theorem pa_cons (ha : PE X e te) (hr : PA X es t) (hs : starEach (e :: es) X.env = (false, eval e X.env) :: starEach es X.env := by rfl) : PA X (e :: es) (tCons te t) := by
  intro pos pins s σ H Q I h
  rw [hs]
  show wpAny _ _ (spliced ((false, eval e X.env) :: backTo pos (starEach es X.env))) _ _ s
  refine Calls.spliced_cons (thn (ha pins s σ H _ I h) fun u s1 ⟨x, H1, I1, r1, q1⟩ => ?_)
  exact thn (hr pos pins s1 σ H1 _ I1 q1) fun us s2 ⟨xs, H2, I2, r2, q2⟩ => ⟨x :: xs, H2, I2, .cons r1 r2, q2⟩
inductive rTu  (xs : List V) (H1 : Hp) (Q : VK) : Prop
  | mk  : (xs.length ≤ sizeLine) → (∀ p, H1 p = none → Q (.ref p) (upd H1 p (.tup xs))) → rTu xs H1 Q
noncomputable def tTup (t : TA) : TE := fun σ H Q => t σ H fun xs H1 => rTu xs H1 Q
inductive rLt  (xs : List V) (H1 : Hp) (Q : VK) : Prop
  | mk  : (xs.length ≤ sizeLine) → (∀ p, H1 p = none → Q (.ref p) (upd H1 p (.lst xs))) → rLt xs H1 Q
noncomputable def tLst (t : TA) : TE := fun σ H Q => t σ H fun xs H1 => rLt xs H1 Q
theorem pe_tup {x1} (h : PA X es t) : PE X (.Tuple es x1 pos) (tTup t) := by
  intro pins s σ H Q I hq
  refine wpAny_Tuple_spliced (thn (h pos pins s σ H _ I hq) fun us s1 ⟨xs, H1, I1, r, z, q⟩ => ⟨by rw [← r.length]; exact z, ?_⟩)
  have hf : H1 s1.heap.objs.size = none := I1.hok.fresh (Nat.le_refl _)
  refine ⟨.ref s1.heap.objs.size, upd H1 s1.heap.objs.size (.tup xs), I1.laid (t' := s1.toks) (fun b u e => Heap.get?_push_of_some _ e) (Nat.le_refl _) ?_, rfl, q _ hf⟩
  exact ⟨z, us, r, ⟨_, Heap.get?_push_size _ rfl, rfl, _, rfl⟩⟩
theorem pe_lst (h : PA X es t) : PE X (.List es pos) (tLst t) := by
  intro pins s σ H Q I hq
  refine wpAny_List_spliced (thn (h pos pins s σ H _ I hq) fun us s1 ⟨xs, H1, I1, r, z, q⟩ => ⟨by rw [← r.length]; exact z, ?_⟩)
  have hf : H1 s1.heap.objs.size = none := I1.hok.fresh (Nat.le_refl _)
  refine ⟨.ref s1.heap.objs.size, upd H1 s1.heap.objs.size (.lst xs), I1.laid (t' := s1.toks) (fun b u e => Heap.get?_push_of_some _ e) (Nat.le_refl _) ?_, rfl, q _ hf⟩
  exact ⟨z, us, 0, r, Heap.get?_push_size _ rfl⟩
end
noncomputable abbrev Sp := List V → Hp → VK → XK → Prop
noncomputable abbrev CXT := List Env → Hp → Shared → XK → Value → Shared → Prop
structure Env0 (P : Program) (w : World) (K : PySem.W.Frag) (mg : Str → Option Value) (base : Heap) (A : Around) (outer : List Env) (s : Shared) (H : Hp) : Prop where
  frames : A.frames = some outer
  mod : Mod K mg base
  bs : ∀ b o, base.get? b = some o → s.heap.get? b = some o ∧ H b = none
  bsz : base.objs.size ≤ s.heap.objs.size
  funs : s.heap.FunFrames base outer
  frf : ∀ b ∈ frs outer, H b = none
  hok : HOk P w H s.heap
  bare : AllBare s.gens
noncomputable def CE (outer : List Env) (P : Program) (w : World) (H : Hp) (s : Shared) (Q : VK) (u : Value) (s' : Shared) : Prop :=
  ∃ v H', s'.os = s.os ∧ AllBare s'.gens ∧ Un (frs outer) [] H H' s.heap s'.heap ∧ HOk P w H' s'.heap ∧ RelV v u ∧ Q v H'
noncomputable def CR (CX : CXT) (outer : List Env) (P : Program) (w : World) (H : Hp) (s : Shared) (Q : VK) (E : XK) (r : Result) (s' : Shared) : Prop :=
  match r with
  | .ok (.ret u) => CE outer P w H s Q u s'
  | .ok _ => False
  | .error e => CX outer H s E e s'
structure FnOk (P : Program) (w : World) (K : PySem.W.Frag) (mg : Str → Option Value) (base : Heap) (CX : CXT) (k : Nat) (f : Addr) (fd : FuncData) (ps : List Str) (sp : Sp) : Prop where
  len : ∀ vs H Q E, sp vs H Q E → vs.length = ps.length
  run : ∀ (A : Around) (outer : List Env) (s : Shared) (H : Hp) (args : Args) (us : List Value) (vs : List V) (Q : VK) (E : XK), Room k A → Env0 P w K mg base A outer s H → BindsTo s fd args (ps.zip us) → Vals vs us → sp vs H Q E →
    codeAny (model P w) A (.call (.ref f) args) (CR CX outer P w H s Q E) s
theorem FnOk.mono {P : Program} {w : World} {K : PySem.W.Frag} {mg : Str → Option Value} {base : Heap} {CX : CXT} {j k : Nat} {f : Addr} {fd : FuncData} {ps : List Str} {sp : Sp} (F : FnOk P w K mg base CX j f fd ps sp) (h : j ≤ k) :
    FnOk P w K mg base CX k f fd ps sp := ⟨F.len, fun A outer s H args us vs Q E hr => F.run A outer s H args us vs Q E (hr.mono h)⟩
theorem Env0.make {P : Program} {w : World} {K : PySem.W.Frag} {mg : Str → Option Value} {base : Heap} {A : Around} {outer : List Env} {s : Shared} {H : Hp} (e : Env0 P w K mg base A outer s H) (C : Addr) (us : List Value) (kw : List (Str × Value)) :
    Env0 P w K mg base (A.under (.builtin "type.__call__" ⟨.ref C :: us, kw⟩)) outer s H := ⟨by first | exact e.frames | (simpa [Around.under, Code.envs, Code.isFrame, pushEnvs] using e.frames), e.mod, e.bs, e.bsz, e.funs, e.frf, e.hok, e.bare⟩
section
variable {X : Cx} {pins : List (Addr × Obj)} {σ : St} {H : Hp} {s s' : Shared}
theorem Inv.env0 (I : Inv X pins σ H s) : Env0 X.prog X.w X.K X.mg X.base X.A X.stack s H :=
  ⟨I.ok.frames, I.ok.mod, I.bs, Nat.le_trans I.ok.bsz I.sz, I.stack, I.stkFree, I.hok, I.bare⟩
theorem Inv.after {Q : VK} {u : Value} (I : Inv X pins σ H s) (h : CE X.stack X.prog X.w H s Q u s') : EP X pins σ Q u s' := by
  obtain ⟨v, H', os, bare, un, hok, r, q⟩ := h
  obtain ⟨hh, g, d, t, os'⟩ := s'
  obtain rfl : os' = s.os := os
  exact ⟨v, H', I.call (h' := hh) (g' := g) (d' := d) (t' := t) (ch := []) un hok bare (fun b z => absurd z (by simp)), r, q⟩
end
noncomputable def tCall (sp : Sp) (dvs : List V) (E : XK) (t : TA) : TE := fun σ H Q => t σ H fun vs H1 => sp (vs ++ dvs) H1 Q E
inductive rMe (C : Addr) (m : Str) (sp : Sp) (dvs : List V) (E : XK) (t : TA) (σ : St) (x : V) (H1 : Hp) (Q : VK) : Prop
  | mk (a dx fs : _) : (x = .ref a) → (H1 a = some (.ins C dx fs)) → (fs.lookup m = none) → (t σ H1 fun vs H2 => sp (x :: (vs ++ dvs)) H2 Q E) → rMe C m sp dvs E t σ x H1 Q
noncomputable def tMeth (C : Addr) (m : Str) (sp : Sp) (dvs : List V) (E : XK) (ta : TE) (t : TA) : TE := fun σ H Q => ta σ H fun x H1 => rMe C m sp dvs E t σ x H1 Q
noncomputable def tMake (C : Addr) (sp : Sp) (dvs : List V) (E : XK) (t : TA) : TE := fun σ H Q => t σ H fun vs H1 => ∀ x dx, H1 x = none → H1 dx = none → dx ≠ x →
  sp (.ref x :: (vs ++ dvs)) (upd (upd H1 dx (.own x)) x (.ins C dx [])) (fun v H2 => v = .non ∧ Q (.ref x) H2) E
noncomputable def Binds (K : PySem.W.Frag) (fd : FuncData) (ps : List Str) (ds : List Value) : Prop :=
  ∀ (s : Shared) (us : List Value), K.In s.heap → (us ++ ds).length = ps.length → BindsTo s fd ⟨us, []⟩ (ps.zip (us ++ ds))
theorem Binds.all {K : PySem.W.Frag} {fd : FuncData} {ps : List Str} (h : ∀ us : List Value, us.length = ps.length → bindArgs fd ⟨us, []⟩ = pure (ps.zip us)) : Binds K fd ps [] := fun s us _ hl => by
  rw [List.append_nil] at hl ⊢
  exact .of_eq (h us hl)
noncomputable def Passes (CX : CXT) (X : Cx) (E : XK) : Prop := ∀ (pins : List (Addr × Obj)) (σ : St) (H : Hp) (s : Shared) (e : Value) (s' : Shared), Inv X pins σ H s → CX X.stack H s E e s' → X.xe e s'
section
variable {X : Cx} {CX : CXT} {k : Nat} {f C : Addr} {fd : FuncData} {ps : List Str} {sp : Sp} {dvs : List V} {ds : List Value} {E : XK} {x m : Str} {p pos apos : Pos} {e o : Expr} {es : List Expr} {ta : TE} {t : TA}
theorem run_fn {pins : List (Addr × Obj)} {σ : St} {H : Hp} {s : Shared} {Q : VK} {us : List Value} {vs : List V} (F : FnOk X.prog X.w X.K X.mg X.base CX k f fd ps sp) (hr : Room k X.A) (hb : Binds X.K fd ps ds) (hd : Vals dvs ds) (hx : Passes CX X E)
    (I : Inv X pins σ H s) (r : Vals vs us) (h : sp (vs ++ dvs) H Q E) : wpAny (model X.prog X.w) X.A (call (.ref f) us) (EP X pins σ Q) X.xe s := by
  have r2 : Vals (vs ++ dvs) (us ++ ds) := r.append hd
  have hl : (us ++ ds).length = ps.length := by rw [← r2.length]; exact F.len _ _ _ _ h
  refine wpAny_call (codeAny_mono (F.run X.A X.stack s H ⟨us, []⟩ (us ++ ds) (vs ++ dvs) Q E hr I.env0 (hb s us I.kIn hl) r2 h) fun r s' hq => ?_)
  cases r with
  | error e => exact hx pins σ H s e s' I hq
  | ok fl =>
    cases fl with
    | ret u => exact I.after hq
    | next => exact False.elim hq
    | brk => exact False.elim hq
    | cont => exact False.elim hq
theorem pe_call (F : FnOk X.prog X.w X.K X.mg X.base CX k f fd ps sp) (hr : Room k X.A) (hg : Gl X x) (hm : X.mg x = some (.ref f)) (hk : PySem.W.keepIn X.K (.ref f) = true) (hb : Binds X.K fd ps ds) (hd : Vals dvs ds) (hx : Passes CX X E)
    (ha : PA X (e :: es) t) (hdb : (x == ("__debug__" : Str)) = false := by decide) (he : starEach (e :: es) X.env = (false, eval e X.env) :: starEach es X.env := by rfl) (hpl : (backTo pos (starEach es X.env)).any (·.1) = false := by rfl) :
    PE X (.Call (.Name x p) (e :: es) [] pos) (tCall sp dvs E t) := by
  intro pins s σ H Q I h
  refine wpAny_Call_Name_kw (ld_glob I hg hm ?_ hdb)
  refine PySem.W.callWith_K (h₀ := X.base) I.ok.mod.kin hk (thn (ha pos pins s σ H _ I h) fun us s1 ⟨vs, H1, I1, r, q⟩ => ⟨I1.kIn, ?_⟩) he hpl
  exact run_fn F hr hb hd hx I1 r q
theorem pe_meth0 {pl : Sem Bool} (he : PE X o ta) (c : Cls X.K C) (hm : Meth X.K C m f) (F : FnOk X.prog X.w X.K X.mg X.base CX k f fd ps sp) (hr : Room k X.A) (hb : Binds X.K fd ps ds) (hd : Vals dvs ds) (hx : Passes CX X E)
    (ht : eval (.Call (.Attribute o m apos) [] [] pos) X.env = (do
      let ov ← eval o X.env
      standAt apos.atName
      let (f, first) ← holding [ov] (getMethod ov m pl)
      callWith pos f first (backTo pos (starEach [] X.env)) (backToKw pos (keywordEach [] X.env))) := by rfl) :
    PE X (.Call (.Attribute o m apos) [] [] pos) (tMeth C m sp dvs E ta tNil) := by
  intro pins s σ H Q I h
  refine PySem.W.methodCall_KW (pl := pl) (thn (he pins s σ H _ I h) fun u s1 ⟨x, H1, I1, rx, a, dx, fs, ex, ea, l, q⟩ => ?_) ht
  subst ex
  obtain rfl : u = Value.ref a := rx
  refine getmeth_ok I1 ea c hm l ?_
  exact PySem.W.callWith_K0 (first := [.ref a]) I1.kIn hm.kp (run_fn (us := [.ref a]) (vs := [.ref a]) F hr hb hd hx I1 (.cons rfl .nil) q)
structure Mk (K : PySem.W.Frag) (C f : Addr) : Prop where
  makes : PySem.W.makesIn K C = true
  init : PySem.W.findIn K (.ref C) "__init__" = some (some (.ref f))
  fn : PySem.W.isFn K (.ref f) = true
  kp : PySem.W.keepIn K (.ref C) = true
theorem run_make {pins : List (Addr × Obj)} {σ : St} {H : Hp} {s : Shared} {Q : VK} {us : List Value} {vs : List V} (M : Mk X.K C f) (F : FnOk X.prog X.w X.K X.mg X.base CX k f fd ps sp) (hr : Room (k + 1) X.A) (hb : Binds X.K fd ps ds) (hd : Vals dvs ds)
    (hx : Passes CX X E) (I : Inv X pins σ H s) (r : Vals vs us)
    (h : ∀ x dx, H x = none → H dx = none → dx ≠ x → sp (.ref x :: (vs ++ dvs)) (upd (upd H dx (.own x)) x (.ins C dx [])) (fun v H2 => v = .non ∧ Q (.ref x) H2) E) :
    wpAny (model X.prog X.w) X.A (call (.ref C) us) (EP X pins σ Q) X.xe s := by
  have hq := h (s.heap.objs.size + 1) s.heap.objs.size (I.hok.fresh (Nat.le_succ _)) (I.hok.fresh (Nat.le_refl _)) (Nat.ne_of_lt (Nat.lt_succ_self _))
  have I2 := Inv.made (C := C) I
  have r2 : Vals (V.ref (s.heap.objs.size + 1) :: (vs ++ dvs)) (Value.ref (s.heap.objs.size + 1) :: (us ++ ds)) := .cons rfl (r.append hd)
  have hl : (Value.ref (s.heap.objs.size + 1) :: us ++ ds).length = ps.length := by
    have e := r2.length
    rw [F.len _ _ _ _ hq] at e
    exact e.symm
  refine wpAny_call (make_map (f := f) I.kIn M.makes M.init (beq_iff_eq.mp M.fn) (codeAny_mono (F.run _ X.stack _ _ ⟨Value.ref (s.heap.objs.size + 1) :: us, []⟩ (Value.ref (s.heap.objs.size + 1) :: (us ++ ds)) _ _ E (hr.make C us [])
    (I2.env0.make C us []) (hb _ (Value.ref (s.heap.objs.size + 1) :: us) I2.kIn hl) r2 hq) fun r s' hq' => ?_))
  cases r with
  | error e => exact hx pins σ _ _ e s' I2 hq'
  | ok fl =>
    cases fl with
    | ret u =>
      obtain ⟨v, H', I3, rv, ev, q3⟩ := I2.after hq'
      subst ev
      exact ⟨rv, ⟨V.ref (s.heap.objs.size + 1), H', I3, rfl, q3⟩⟩
    | next => exact False.elim hq'
    | brk => exact False.elim hq'
    | cont => exact False.elim hq'
theorem pe_make (M : Mk X.K C f) (F : FnOk X.prog X.w X.K X.mg X.base CX k f fd ps sp) (hr : Room (k + 1) X.A) (hg : Gl X x) (hm : X.mg x = some (.ref C)) (hb : Binds X.K fd ps ds) (hd : Vals dvs ds) (hx : Passes CX X E)
    (ha : PA X (e :: es) t) (hdb : (x == ("__debug__" : Str)) = false := by decide) (he : starEach (e :: es) X.env = (false, eval e X.env) :: starEach es X.env := by rfl) (hpl : (backTo pos (starEach es X.env)).any (·.1) = false := by rfl) :
    PE X (.Call (.Name x p) (e :: es) [] pos) (tMake C sp dvs E t) := by
  intro pins s σ H Q I h
  refine wpAny_Call_Name_kw (ld_glob I hg hm ?_ hdb)
  refine PySem.W.callWith_K (h₀ := X.base) I.ok.mod.kin M.kp (thn (ha pos pins s σ H _ I h) fun us s1 ⟨vs, H1, I1, r, q⟩ => ⟨I1.kIn, ?_⟩) he hpl
  exact run_make M F hr hb hd hx I1 r q
end
section
variable {X : Cx} {CX : CXT} {k : Nat} {f C : Addr} {fd : FuncData} {ps ks : List Str} {sp : Sp} {E : XK} {x m : Str} {p pos apos kpos : Pos} {e o : Expr} {es : List Expr} {kws : List Keyword} {te ta : TE} {t tk : TA} {nm : Option Str}
variable {g : List Value → List Value → List Value} {gV : List V → List V → List V}
end
structure FnScope (N P : List Str) (sc : Scope) : Prop where
  kind : sc.kind = .function
  co : sc.isCoroutine = false
  gen : sc.isGenerator = false
  nd : N.Nodup
  pre : N.take P.length = P
  par : ∀ x ∈ P, sc.names.lookup x = some .local ∨ sc.names.lookup x = some .cell
  nofree : ∀ y ∈ sc.names, y.2 ≠ .free
theorem bindL_out {kindOf : Str → Option NameKind} {x : Str} : ∀ {binds : List (Str × Value)} {m : Str → Option Value}, (∀ v, (x, v) ∉ binds) → bindL kindOf binds m x = m x
  | [], _, _ => rfl
  | (n, v) :: r, m, h => by
    unfold bindL
    rw [bindL_out fun w hw => h w (List.mem_cons_of_mem _ hw)]
    split
    · have : x ≠ n := by rintro rfl; exact h v List.mem_cons_self
      simp [this]
    · rfl
theorem bindC_out {kindOf : Str → Option NameKind} {x : Str} : ∀ {binds : List (Str × Value)} {m : Str → Option Value}, (∀ v, (x, v) ∉ binds) → bindC kindOf binds m x = m x
  | [], _, _ => rfl
  | (n, v) :: r, m, h => by
    unfold bindC
    rw [bindC_out fun w hw => h w (List.mem_cons_of_mem _ hw)]
    split
    · rfl
    · have : x ≠ n := by rintro rfl; exact h v List.mem_cons_self
      simp [this]
theorem bindL_get {kindOf : Str → Option NameKind} {x : Str} {v : Value} : ∀ {P : List Str} {vs : List Value} {i : Nat} {m : Str → Option Value}, P.Nodup → P[i]? = some x → vs[i]? = some v → kindOf x = some .local →
    bindL kindOf (P.zip vs) m x = some v
  | [], _, _, _, _, h, _, _ => by simp at h
  | _ :: _, [], _, _, _, _, h, _ => by simp at h
  | p :: P, w :: vs, 0, m, nd, h1, h2, hk => by
    simp at h1 h2; subst h1; subst h2
    show bindL kindOf ((p, w) :: P.zip vs) m p = _
    unfold bindL
    rw [bindL_out fun v hv => (List.nodup_cons.mp nd).1 (List.of_mem_zip hv).1, if_pos hk]
    simp
  | p :: P, w :: vs, i + 1, m, nd, h1, h2, hk => by
    show bindL kindOf ((p, w) :: P.zip vs) m x = _
    unfold bindL
    exact bindL_get (i := i) (List.nodup_cons.mp nd).2 (by simpa using h1) (by simpa using h2) hk
theorem bindC_get {kindOf : Str → Option NameKind} {x : Str} {v : Value} : ∀ {P : List Str} {vs : List Value} {i : Nat} {m : Str → Option Value}, P.Nodup → P[i]? = some x → vs[i]? = some v → kindOf x ≠ some .local →
    bindC kindOf (P.zip vs) m x = some v
  | [], _, _, _, _, h, _, _ => by simp at h
  | _ :: _, [], _, _, _, _, h, _ => by simp at h
  | p :: P, w :: vs, 0, m, nd, h1, h2, hk => by
    simp at h1 h2; subst h1; subst h2
    show bindC kindOf ((p, w) :: P.zip vs) m p = _
    unfold bindC
    rw [bindC_out fun v hv => (List.nodup_cons.mp nd).1 (List.of_mem_zip hv).1, if_neg hk]
    simp
  | p :: P, w :: vs, i + 1, m, nd, h1, h2, hk => by
    show bindC kindOf ((p, w) :: P.zip vs) m x = _
    unfold bindC
    exact bindC_get (i := i) (List.nodup_cons.mp nd).2 (by simpa using h1) (by simpa using h2) hk
noncomputable def start (N : List Str) (vs : List V) : St := vs.map some ++ List.replicate (N.length - vs.length) none
noncomputable def cxOf (CX : CXT) (P : Program) (w : World) (K : PySem.W.Frag) (mg : Str → Option Value) (base : Heap) (N : List Str) (qual : Str) (scope : Scope) (f : Addr) (cd : Value) (A : Around) (outer : List Env) (s : Shared) (H : Hp) (E : XK) : Cx where
  prog := P
  w := w
  K := K
  mg := mg
  base := base
  A := A.deeper (envOfC qual scope s.heap.objs.size f cd)
  N := N
  s₀ := s
  H₀ := H
  env := envOfC qual scope s.heap.objs.size f cd
  outer := outer
  stack := envOfC qual scope s.heap.objs.size f cd :: outer
  ex := []
  calm := true
  fn := fun _ => true
  pn := []
  xe := fun e s' => wpAny (model P w) (A.deeper (envOfC qual scope s.heap.objs.size f cd)) (leaving (envOfC qual scope s.heap.objs.size f cd) e) (fun _ s'' => CX outer H s E e s'') (fun e' s'' => CX outer H s E e' s'') s'
theorem cell_has {sc : Scope} {n : Nat} {x : Str} (h : sc.names.lookup x = some .cell) : ∃ c, (cellsFrom n sc.names []).lookup x = some c := by
  have q := PySem.W.cellsFrom_some sc.names n [] (.inl h)
  exact Option.isSome_iff_exists.mp q
theorem inv_start {CX : CXT} {P : Program} {w : World} {K : PySem.W.Frag} {mg : Str → Option Value} {base : Heap} {N ps : List Str} {qual : Str} {scope : Scope} {f : Addr} {cd : Value} {A : Around} {outer : List Env} {s s1 : Shared} {H : Hp} {E : XK} {us : List Value} {vs : List V}
    (S : FnScope N ps scope) (hd : A.handled = none) (e0 : Env0 P w K mg base A outer s H) (hl : vs.length = ps.length) (r : Vals vs us)
    (x : InCallC s s.heap.objs.size (bindL (envOfC qual scope s.heap.objs.size f cd).kindOf (ps.zip us) fun _ => none) (cellsFrom (s.heap.objs.size + 1) scope.names []) (bindC (envOfC qual scope s.heap.objs.size f cd).kindOf (ps.zip us) fun _ => none) s1) :
    Inv (cxOf CX P w K mg base N qual scope f cd A outer s H E) [] (start N vs) H s1 := by
  have hpl : ps.length ≤ N.length := by have := congrArg List.length S.pre; rw [List.length_take] at this; (first | lia | omega)
  obtain ⟨h1, tk, rfl, hk⟩ := x.done
  have noA : ∀ b : Addr, b ∉ (cxOf CX P w K mg base N qual scope f cd A outer s H E).ex := fun b z => absurd (show b ∈ ([] : List Addr) from z) (by simp)
  refine ⟨⟨e0.mod, S.kind, rfl, rfl, Nat.le_refl _, fun y z c h1 h2 => ?_, fun y hy => ?_, fun y c _ h => ?_, fun _ => hd, Around.frames_deeper e0.frames, .inr ⟨rfl, rfl⟩, fun b z => absurd z (noA b), e0.bs, e0.bsz, fun b _ _ => noA b, fun b z => absurd z (noA b), e0.funs, e0.frf⟩,
    rfl, e0.bare, Un.kept hk, ⟨_, x.toInCall.ns, fun i y v h1 h2 h3 => ?_⟩, fun y c h => ⟨_, x.cell y c h⟩, e0.hok.fresh (Nat.le_refl _), fun y c h => ?_, fun p hp => absurd (show p ∈ ([] : List (Addr × Obj)) from hp) (by simp), e0.hok.kept hk, ?_⟩
  · exact name_of_addr x.apart (PySem.mem_of_lookup h1) (PySem.mem_of_lookup h2)
  · have hy : scope.names.lookup y = some .cell ∨ scope.names.lookup y = some .free := hy
    rcases hy with hy | hy
    · exact cell_has hy
    · exact absurd rfl (S.nofree _ (PySem.mem_of_lookup hy))
  · exact Nat.le_of_lt (x.above y c (PySem.mem_of_lookup h))
  · have hi : i < vs.length := by
      unfold start at h2
      by_cases hi : i < vs.length
      · exact hi
      · rw [List.getElem?_append_right (by simpa using hi)] at h2
        rw [List.getElem?_replicate] at h2
        split at h2 <;> cases h2
    have ha : vs[i]? = some v := by
      unfold start at h2
      rw [List.getElem?_append_left (by simpa using hi), List.getElem?_map] at h2
      cases e : vs[i]? with
      | none => rw [e] at h2; cases h2
      | some a => rw [e] at h2; cases h2; rfl
    obtain ⟨u, hu, rv⟩ := r.get ha
    have hp : ps[i]? = some y := by
      rw [← S.pre, List.getElem?_take_of_lt (by (first | lia | omega))]; exact h1
    have ndP : ps.Nodup := by rw [← S.pre]; exact S.nd.sublist (List.take_sublist _ _)
    refine ⟨u, rv, ?_⟩
    rcases S.par y (List.mem_of_getElem? hp) with k | k
    · exact .inl ⟨k, bindL_get ndP hp hu k⟩
    · obtain ⟨c, e⟩ := cell_has (n := s.heap.objs.size + 1) k
      refine .inr ⟨.inl k, c, e, ?_⟩
      have q := x.cell y c e
      rw [bindC_get ndP hp hu (by show scope.names.lookup y ≠ _; rw [k]; decide)] at q
      exact q
  · exact e0.hok.fresh (Nat.le_of_lt (x.above y c (PySem.mem_of_lookup h)))
  · unfold start
    show _ = N.length
    rw [List.length_append, List.length_map, List.length_replicate]
    (first | lia | omega)
theorem fn_of {CX : CXT} {P : Program} {w : World} {K : PySem.W.Frag} {mg : Str → Option Value} {base : Heap} {k : Nat} {f : Addr} {name qual : Str} {params : Arguments} {body : List Stmt} {scope : Scope} {dV kV doc pm cdv ct oc : Value} {an od : Option Addr}
    {osl : Array (Option Value)} {N ps : List Str} {sp : Sp} (lk : K.lookup f = some ⟨oc, od, .func (PySem.W.fnOf name qual params body scope dV kV doc pm an cdv ct), osl⟩) (hcd : PySem.W.codeIn K cdv qual = true) (S : FnScope N ps scope)
    (len : ∀ vs H Q E, sp vs H Q E → vs.length = ps.length)
    (hbody : ∀ (A : Around) (outer : List Env) (s : Shared) (H : Hp) (vs : List V) (Q : VK) (E : XK), Room k (A.deeper (envOfC qual scope s.heap.objs.size f cdv)) → sp vs H Q E →
      ∃ t, PSs (cxOf CX P w K mg base N qual scope f cdv A outer s H E) body t ∧ t { nx := fun _ H' => Q .non H', rt := Q } (start N vs) H) :
    FnOk P w K mg base CX (k + 1) f (PySem.W.fnOf name qual params body scope dV kV doc pm an cdv ct) ps sp := by
  refine ⟨len, fun A outer s H args us vs Q E hr e0 hb r hsp => ?_⟩
  have hl := len _ _ _ _ hsp
  have KX : K.In s.heap := e0.mod.kin.keeps fun b o e => (e0.bs b o e).1
  have lim : s.heap.NoLimit := e0.mod.nolimit.keeps fun b o e => (e0.bs b o e).1
  have hkind : ∀ y ∈ ps.zip us, scope.names.lookup y.1 = some .local ∨ (scope.names.lookup y.1 = some .cell ∧ ((cellsFrom (s.heap.objs.size + 1) scope.names []).lookup y.1).isSome = true) := fun ⟨n, v⟩ hy => by
    rcases S.par n (List.of_mem_zip hy).1 with q | q
    · exact .inl q
    · exact .inr ⟨q, PySem.W.cellsFrom_some _ _ _ (.inl q)⟩
  refine codeAny_call_function hr.depth (KX _ _ lk) rfl S.co S.gen rfl (PySem.W.codeRec_of KX hcd) (hb _ _ _ _ ?_)
  refine wpAny_newFunctionEnv_cells S.kind hkind fun env he s1 x => ?_
  subst he
  refine ⟨lim.keeps x.toInCall.keep, codeAny_func ?_⟩
  obtain ⟨t, ht, hq⟩ := hbody A outer s H vs Q E (hr.deeper _) hsp
  have I : Inv (cxOf CX P w K mg base N qual scope f cdv A outer s H E) [] (start N vs) H s1 := inv_start S hr.hd e0 hl r x
  refine wpAny_mono (ht [] s1 (start N vs) H _ I hq) (fun fl s' hs => ?_) fun e s' hs => hs
  have fin : ∀ {σ' : St} {H' : Hp} {v : V} {u : Value}, Inv (cxOf CX P w K mg base N qual scope f cdv A outer s H E) [] σ' H' s' → RelV v u → Q v H' → CE outer P w H s Q u s' :=
    fun {σ' H' v u} J rv q => ⟨v, H', J.os, J.bare, J.base, J.hok, rv, q⟩
  cases fl with
  | ret u =>
    obtain ⟨v, σ', H', J, rv, q⟩ := hs
    exact fin J rv q
  | next =>
    obtain ⟨σ', H', J, q⟩ := hs
    exact fin (v := V.non) (u := Value.none) J rfl q
  | brk =>
    obtain ⟨_, _, _, q⟩ := hs
    exact False.elim q
  | cont =>
    obtain ⟨_, _, _, q⟩ := hs
    exact False.elim q
end L2
namespace L2
open PySem PySem.Spec PyProof.Rows
section
variable {X : Cx} {x : Str} {p pos : Pos} {e : Expr} {es : List Expr} {t : TA} {id T : String} {r : List V → Hp → VK → Prop}
noncomputable def tCB (r : List V → Hp → VK → Prop) (t : TA) : TE := fun σ H Q => t σ H fun vs H1 => r vs H1 Q
theorem pe_callB (hc : CallR X (.builtin id) r) (hg : Gl X x) (hm : X.mg x = none) (hv : bootBuiltins x = some (.builtin id)) (ha : PA X (e :: es) t) (hn : x ≠ "__name__" := by decide) (hdb : (x == ("__debug__" : Str)) = false := by decide)
    (he : starEach (e :: es) X.env = (false, eval e X.env) :: starEach es X.env := by rfl) (hpl : (backTo pos (starEach es X.env)).any (·.1) = false := by rfl) : PE X (.Call (.Name x p) (e :: es) [] pos) (tCB r t) := by
  intro pins s σ H Q I h
  refine wpAny_Call_Name_kw (ld_blt I hg hm hv ?_ hn hdb)
  exact PyProof.Rows.callWith_builtin1 (thn (ha pos pins s σ H _ I h) fun us s1 ⟨vs, H1, I1, r1, q1⟩ => hc pins s1 σ H1 vs us Q I1 r1 q1) he hpl
theorem pe_callTy (hc : CallR X (.type T) r) (hg : Gl X x) (hm : X.mg x = none) (hv : bootBuiltins x = some (.type T)) (ha : PA X (e :: es) t) (hn : x ≠ "__name__" := by decide) (hdb : (x == ("__debug__" : Str)) = false := by decide)
    (he : starEach (e :: es) X.env = (false, eval e X.env) :: starEach es X.env := by rfl) (hpl : (backTo pos (starEach es X.env)).any (·.1) = false := by rfl) : PE X (.Call (.Name x p) (e :: es) [] pos) (tCB r t) := by
  intro pins s σ H Q I h
  refine wpAny_Call_Name_kw (ld_blt I hg hm hv ?_ hn hdb)
  exact PyProof.Rows.callWith_type1 (thn (ha pos pins s σ H _ I h) fun us s1 ⟨vs, H1, I1, r1, q1⟩ => hc pins s1 σ H1 vs us Q I1 r1 q1) he hpl
end
end L2
namespace HT
open PySem PyProof.Rows
section
open PySem.SeqAt
open PySem.AutoSeq1 (wpAny_loadPart')
open PySem.MeetsSeq PySem.MeetsSeq2 PySem.MeetsSeq3
end
section
variable {prog : Program} {w : World} {A : Around} {E : Value → Shared → Prop} {s : Shared}
noncomputable def sIx (n d : Nat) : Option Int → Nat
  | none => d
  | some v => if v < 0 then (v + (n : Int)).toNat else min v.toNat n
theorem sIx_none (n d : Nat) : sIx n d none = d := rfl
theorem sIx_nat (n d k : Nat) : sIx n d (some (k : Int)) = min k n := by
  show (if (k : Int) < 0 then ((k : Int) + (n : Int)).toNat else min (k : Int).toNat n) = min k n
  rw [if_neg (by (first | lia | omega)), Int.toNat_natCast]
end
end HT
namespace L2
open PySem PySem.Spec PyProof.Rows
noncomputable abbrev TO := St → Hp → (Option Int → Hp → Prop) → Prop
noncomputable def PO (X : Cx) (e : Option Expr) (t : TO) : Prop :=
  ∀ (pins : List (Addr × Obj)) (s : Shared) (σ : St) (H : Hp) (Q : Option Int → Hp → Prop), Inv X pins σ H s → t σ H Q →
    wpAny (model X.prog X.w) X.A (evalPart e X.env) (fun u s' => ∃ o H', Inv X pins σ H' s' ∧ IsPart u o ∧ Q o H') X.xe s
noncomputable def tNoPart : TO := fun _ H Q => Q none H
inductive rPa  (x : V) (H1 : Hp) (Q : Option Int → Hp → Prop) : Prop
  | mk (i : _) : (x = .int i) → (Q (some i) H1) → rPa x H1 Q
noncomputable def tPart (t : TE) : TO := fun σ H Q => t σ H fun x H1 => rPa x H1 Q
theorem intsAre_of {ns : List Int} : ∀ {us : List Value}, Vals (ns.map V.int) us → IntsAre us ns := by
  induction ns with
  | nil => intro us r; rw [List.map_nil] at r; cases r; exact .nil
  | cons n ns ih =>
    intro us r
    rw [List.map_cons] at r
    cases r with
    | cons r1 r2 =>
      obtain ⟨t, e⟩ := r1
      subst e
      exact .cons n t (ih r2)
section
variable {X : Cx} {e : Expr} {te : TE} {lo hi : Option Expr} {tl th : TO} {pos p2 : Pos}
theorem po_none : PO X none tNoPart := by
  intro pins s σ H Q I h
  rw [evalPart_none]
  exact wpAny_pure ⟨none, H, I, .none, h⟩
theorem po_some (h : PE X e te) : PO X (some e) (tPart te) := by
  intro pins s σ H Q I hw
  rw [evalPart_some]
  refine thn (h pins s σ H _ I hw) fun u s1 ⟨x, H1, I1, r1, q1⟩ => ?_
  obtain ⟨i, rfl, q⟩ := q1
  obtain ⟨t, rfl⟩ := r1
  exact ⟨some i, H1, I1, .int i t, q⟩
noncomputable def SlR (X : Cx) (r : V → Option Int → Option Int → Hp → VK → Prop) : Prop :=
  ∀ (pins : List (Addr × Obj)) (s : Shared) (σ : St) (H : Hp) (x : V) (v vl vu : Value) (lo hi : Option Int) (sl : Addr) (Q : VK), Inv X pins σ H s → RelV x v → s.heap.IsSliceOf sl vl vu .none → IsPart vl lo → IsPart vu hi → r x lo hi H Q →
    ∃ T id, typeLookup (.type T) "__getitem__" = pure (some (.builtin id)) ∧ s.TypeIs v T ∧ wpAny (model X.prog X.w) X.A (getItem v (.ref sl)) (EP X pins σ Q) X.xe s
noncomputable def tSl (r : V → Option Int → Option Int → Hp → VK → Prop) (te : TE) (tl th : TO) : TE := fun σ H Q => te σ H fun x H1 => tl σ H1 fun l H2 => th σ H2 fun u H3 => r x l u H3 Q
theorem pe_slice {r : V → Option Int → Option Int → Hp → VK → Prop} (hr : SlR X r) (he : PE X e te) (hl : PO X lo tl) (hu : PO X hi th) : PE X (.Subscript e (.Slice lo hi none p2) pos) (tSl r te tl th) := by
  intro pins s σ H Q I h
  refine Subscript_ (thn (he pins s σ H _ I h) fun v s1 ⟨x, H1, I1, r1, q1⟩ => ?_)
  refine wpAny_Slice (thn (hl pins s1 σ H1 _ I1 q1) fun vl s2 ⟨l, H2, I2, pl, q2⟩ => thn (hu pins s2 σ H2 _ I2 q2) fun vu s3 ⟨u, H3, I3, pu, q3⟩ => ?_)
  rw [evalPart_none]
  refine wpAny_pure ?_
  have I4 : Inv X pins σ H3 { s3 with heap := s3.heap.push { cls := .type "slice", data := .fields #[vl, vu, .none] } } := I3.kept (t' := s3.toks) fun b ob q => Heap.get?_push_of_some _ q
  obtain ⟨T, id, hT, ht, hg⟩ := hr pins { s3 with heap := s3.heap.push { cls := .type "slice", data := .fields #[vl, vu, .none] } } σ H3 x v vl vu l u s3.heap.objs.size Q I4 r1 (Heap.IsSliceOf.new ..) pl pu q3
  show wpAny (model X.prog X.w) X.A (subscriptTail e (.Slice lo hi none p2) v (.ref s3.heap.objs.size)) (EP X pins σ Q) X.xe { s3 with heap := s3.heap.push { cls := .type "slice", data := .fields #[vl, vu, .none] } }
  exact tail_any (ops := [.ref s3.heap.objs.size, v]) ht hT hg (by with_unfolding_all rfl)
noncomputable def cutV (xs : List V) (lo hi : Option Int) : List V := (xs.drop (HT.sIx xs.length 0 lo)).take (HT.sIx xs.length xs.length hi - HT.sIx xs.length 0 lo)
theorem cutV_length (xs : List V) (lo hi : Option Int) : (cutV xs lo hi).length ≤ xs.length := by
  unfold cutV
  rw [List.length_take, List.length_drop]
  omega
end
end L2
namespace L2
open PySem PySem.Spec PyProof.Rows
noncomputable def ixN (n : Nat) (i : Int) : Option Nat := if 0 ≤ i then (if i < n then some i.toNat else none) else if -(n : Int) ≤ i then some (i + n).toNat else none
noncomputable def atI {α : Type} (xs : List α) (i : Int) : Option α := (ixN xs.length i).bind fun j => xs[j]?
theorem ixN_seq {n : Nat} {i : Int} {j : Nat} (h : ixN n i = some j) : seqIndex? i n = some j ∧ j < n ∧ -(n : Int) ≤ i ∧ i < n := by
  unfold ixN at h
  by_cases h0 : 0 ≤ i
  · rw [if_pos h0] at h
    by_cases h1 : i < n
    · rw [if_pos h1] at h
      have e : i.toNat = j := Option.some.inj h
      exact ⟨by rw [seqIndex_of h0 h1, e], by (first | lia | omega), by (first | lia | omega), h1⟩
    · rw [if_neg h1] at h; cases h
  · rw [if_neg h0] at h
    by_cases h1 : -(n : Int) ≤ i
    · rw [if_pos h1] at h
      have e : (i + n).toNat = j := Option.some.inj h
      exact ⟨by rw [seqIndex_neg (by (first | lia | omega)) h1, e], by (first | lia | omega), h1, by (first | lia | omega)⟩
    · rw [if_neg h1] at h; cases h
theorem atI_get {α : Type} {xs : List α} {i : Int} {v : α} (h : atI xs i = some v) : ∃ j, seqIndex? i xs.length = some j ∧ xs[j]? = some v ∧ j < xs.length ∧ -(xs.length : Int) ≤ i ∧ i < xs.length := by
  unfold atI at h
  cases e : ixN xs.length i with
  | none => rw [e] at h; cases h
  | some j =>
    rw [e] at h
    obtain ⟨h1, h2, h3, h4⟩ := ixN_seq e
    exact ⟨j, h1, h, h2, h3, h4⟩
theorem atI_nat {α : Type} {xs : List α} {j : Nat} {v : α} (h : xs[j]? = some v) : atI xs (j : Int) = some v := by
  have hj : j < xs.length := (List.getElem?_eq_some_iff.mp h).1
  have e : ixN xs.length (j : Int) = some j := by
    unfold ixN
    rw [if_pos (by (first | lia | omega)), if_pos (by (first | lia | omega))]; simp
  unfold atI; rw [e]; exact h
noncomputable def PlainIx (b : Expr) : Prop := ∀ o i, subscripted b false o i = operate [o, i] (getItem o i)
noncomputable def IxR (X : Cx) (r : R2) : Prop :=
  ∀ (value slice : Expr) (pins : List (Addr × Obj)) (s : Shared) (σ : St) (H : Hp) (x y : V) (v u : Value) (Q : VK), Inv X pins σ H s → RelV x v → RelV y u → r x y H Q →
    subscripted slice false v u = operate [v, u] (getItem v u) → wpAny (model X.prog X.w) X.A (subscriptTail value slice v u) (EP X pins σ Q) X.xe s
noncomputable def MtR (X : Cx) (id : String) (r : V → List V → Hp → VK → Prop) : Prop :=
  ∀ (pins : List (Addr × Obj)) (s : Shared) (σ : St) (H : Hp) (x : V) (xs : List V) (v : Value) (us : List Value) (Q : VK), Inv X pins σ H s → RelV x v → Vals xs us → r x xs H Q →
    wpAny (model X.prog X.w) X.A (call (.builtin id) (v :: us)) (EP X pins σ Q) X.xe s
section
variable {X : Cx} {a b : Expr} {ta tb : TE} {pos : Pos}
theorem pe_ix {r : R2} (hr : IxR X r) (ha : PE X a ta) (hb : PE X b tb) (hs : PlainIx b) : PE X (.Subscript a b pos) (tOp r ta tb) := by
  intro pins s σ H Q I h
  exact Subscript_ (binT ha hb I h fun v u s2 x y H2 I2 rx ry q => hr a b pins s2 σ H2 x y v u Q I2 rx ry q (hs _ _))
inductive rIxL (K : PySem.W.Frag) (x : V) (y : V) (H : Hp) (Q : VK) : Prop
  | mk (p xs i v : _) : (x = .ref p) → (y = .int i) → (SqL K H p xs) → (atI xs i = some v) → (Q v H) → rIxL K x y H Q
inductive rIxT (K : PySem.W.Frag) (x : V) (y : V) (H : Hp) (Q : VK) : Prop
  | mk (p xs i v : _) : (x = .ref p) → (y = .int i) → (SqT K H p xs) → (atI xs i = some v) → (Q v H) → rIxT K x y H Q
theorem ix_list : IxR X (rIxL X.K) := by
  intro value slice pins s σ H x y v u Q I rx ry h hs
  obtain ⟨p, xs, i, z, rfl, rfl, hq, he, q⟩ := h
  cases rx
  obtain ⟨t, rfl⟩ := ry
  obtain ⟨its, r, pl, hz⟩ := I.list hq
  obtain ⟨j, h1, h2, h3, h4, h5⟩ := atI_get he
  obtain ⟨w, ew, rw'⟩ := r.get h2
  have hl := r.length
  have hn := line63
  have fin : EP X pins σ Q w s := ⟨z, H, I, rw', q⟩
  by_cases h0 : 0 ≤ i
  · have hj : i.toNat = j := by
      rw [seqIndex_of h0 h5] at h1
      exact Option.some.inj h1
    exact item_listR pl.isList h0 (by (first | lia | omega)) (by rw [hj]; simpa using ew) fin hs
  · have hj : (i + (its.toArray.size : Int)).toNat = j := by
      rw [seqIndex_neg (by (first | lia | omega)) h4] at h1
      rw [List.size_toArray, ← hl]
      exact Option.some.inj h1
    exact subscriptTail_builtinR (x := w) pl.isList.typeIs slot_list_getitem.lookup
      (wpAny_getItem_list_neg (Q := fun r s' => r = w ∧ EP X pins σ Q r s') pl.isList (by (first | lia | omega)) (by rw [List.size_toArray] <;> (first | lia | omega)) (by (first | lia | omega)) (by rw [hj]; simpa using ew) ⟨rfl, fin⟩) hs
theorem ix_tup : IxR X (rIxT X.K) := by
  intro value slice pins s σ H x y v u Q I rx ry h hs
  obtain ⟨p, xs, i, z, rfl, rfl, hq, he, q⟩ := h
  cases rx
  obtain ⟨t, rfl⟩ := ry
  obtain ⟨its, r, pl, hz⟩ := I.tuple hq
  obtain ⟨j, h1, h2, h3, h4, h5⟩ := atI_get he
  obtain ⟨w, ew, rw'⟩ := r.get h2
  have hl := r.length
  have hn := line63
  have fin : EP X pins σ Q w s := ⟨z, H, I, rw', q⟩
  exact subscriptTail_builtinR (x := w) pl.typeIs slot_tuple_getitem.lookup
    (getItem_tuple (j := j) (Q := fun r s' => r = w ∧ EP X pins σ Q r s') pl (by (first | lia | omega)) (by (first | lia | omega)) (by rw [List.size_toArray, ← hl]; exact h1) (by simpa using ew) ⟨rfl, fin⟩) hs
theorem mapSeq_set (its : List Value) (n j : Nat) (u : Value) : Obj.mapSeq (·.setIfInBounds j u) { cls := .type "list", data := .seq its.toArray n } = { cls := .type "list", data := .seq (its.set j u).toArray n } := by
  simp [Obj.mapSeq]
theorem Inv.lst {pins : List (Addr × Obj)} {σ : St} {H : Hp} {s : Shared} {p : Addr} {xs : List V} (I : Inv X pins σ H s) (h : H p = some (.lst xs)) :
    ∃ (its : List Value) (n : Nat), Vals xs its ∧ s.heap.get? p = some { cls := .type "list", data := .seq its.toArray n } ∧ xs.length ≤ sizeLine := by
  obtain ⟨z, its, n, r, e⟩ := I.hok p _ h
  exact ⟨its, n, r, e, z⟩
theorem Inv.lstUpd {pins : List (Addr × Obj)} {σ : St} {H : Hp} {s : Shared} {p : Addr} {xs ys : List V} {its its' : List Value} {n n' : Nat} {f : Obj → Obj} (I : Inv X pins σ H s) (h : H p = some (.lst xs))
    (ho : s.heap.get? p = some { cls := .type "list", data := .seq its.toArray n }) (hf : f { cls := .type "list", data := .seq its.toArray n } = { cls := .type "list", data := .seq its'.toArray n' }) (r : Vals ys its') (hz : ys.length ≤ sizeLine) (t : Nat) :
    Inv X pins σ (upd H p (.lst ys)) { s with heap := s.heap.update p f, toks := t } := by
  have e : (s.heap.update p f).get? p = some { cls := .type "list", data := .seq its'.toArray n' } := by
    rw [Heap.get?_update_self f ho (by rw [hf] <;> rfl), hf]
  refine I.write (x := p) (e := p) (by rw [h]; trivial) (.inl rfl) (fun b u hb q => (Heap.get?_update_other _ _ (Ne.symm hb)).trans q) ⟨_, e⟩ ?_
  exact ⟨hz, its', n', r, e⟩
inductive rSetL (o : V) (i : V) (v : V) (H : Hp) (Q : (Hp → Prop)) : Prop
  | mk (p xs k j : _) : (o = .ref p) → (i = .int k) → (H p = some (.lst xs)) → (ixN xs.length k = some j) → (Q (upd H p (.lst (xs.set j v)))) → rSetL o i v H Q
theorem set_list : PSet X rSetL := by
  intro pins s σ H o i v ov iv u Q I ro ri rv h
  obtain ⟨p, xs, k, j, rfl, rfl, hp, hj, q⟩ := h
  cases ro
  obtain ⟨t, rfl⟩ := ri
  obtain ⟨its, n, r, ho, hz⟩ := I.lst hp
  obtain ⟨h1, h2, h3, h4⟩ := ixN_seq hj
  have hl := r.length
  have hn := line63
  have I' : Inv X pins σ (upd H p (.lst (xs.set j v))) { s with heap := s.heap.update p (Obj.mapSeq (·.setIfInBounds j u)) } :=
    I.lstUpd hp ho (mapSeq_set its n j u) (r.set rv j) (by rw [List.length_set]; exact hz) s.toks
  by_cases h0 : 0 ≤ k
  · have hk : k.toNat = j := by
      rw [seqIndex_of h0 h4] at h1
      exact Option.some.inj h1
    exact PySem.W.ki_setAt ho h0 (by (first | lia | omega)) (by rw [List.size_toArray, ← hl]; exact h4) (by rw [hk]; exact ⟨_, I', q⟩)
  · have hk : (k + (its.toArray.size : Int)).toNat = j := by
      rw [seqIndex_neg (by (first | lia | omega)) h3] at h1
      rw [List.size_toArray, ← hl]
      exact Option.some.inj h1
    exact PySem.W.ki_setBack ho (by (first | lia | omega)) (by rw [List.size_toArray, ← hl]; exact h3) (by (first | lia | omega)) (by rw [hk]; exact ⟨_, I', q⟩)
theorem slice_bounds (lo hi : Option Int) (n : Nat) : (sliceBounds lo hi none n).1 = ((HT.sIx n 0 lo : Nat) : Int) ∧ (sliceBounds lo hi none n).2.1 = ((HT.sIx n n hi : Nat) : Int) ∧ (sliceBounds lo hi none n).2.2 = 1 := by
  refine ⟨?_, ?_, rfl⟩
  · cases lo with
    | none => simp [sliceBounds, HT.sIx]
    | some i =>
      simp only [sliceBounds, HT.sIx, Option.getD_none, show (1 : Int) > 0 by decide, if_true]
      by_cases h : i < 0
      · simp only [h, if_true] <;> (first | lia | omega)
      · simp only [h, if_false] <;> (first | lia | omega)
  · cases hi with
    | none => simp [sliceBounds, HT.sIx]
    | some i =>
      simp only [sliceBounds, HT.sIx, Option.getD_none, show (1 : Int) > 0 by decide, if_true]
      by_cases h : i < 0
      · simp only [h, if_true] <;> (first | lia | omega)
      · simp only [h, if_false] <;> (first | lia | omega)
theorem slicePick_cut (its : List Value) (lo hi : Option Int) : slicePick its.toArray lo hi none = ((its.drop (HT.sIx its.length 0 lo)).take (HT.sIx its.length its.length hi - HT.sIx its.length 0 lo)).toArray := by
  obtain ⟨h1, h2, h3⟩ := slice_bounds lo hi its.toArray.size
  unfold slicePick
  rw [h1, h2, h3]
  simp only [sliceRange_one, pick_run, List.size_toArray] <;> rfl
inductive rSlL (K : PySem.W.Frag) (x : V) (lo : Option Int) (hi : Option Int) (H : Hp) (Q : VK) : Prop
  | mk (a xs : _) : (x = .ref a) → (SqL K H a xs) → (∀ p, H p = none → Q (.ref p) (upd H p (.lst (cutV xs lo hi)))) → rSlL K x lo hi H Q
theorem sl_list : SlR X (rSlL X.K) := by
  intro pins s σ H x v vl vu lo hi sl Q I rx hs pl pu h
  obtain ⟨a, xs, rfl, hx, q⟩ := h
  cases rx
  obtain ⟨its, r, ht, hz⟩ := I.list hx
  have hlen := r.length
  refine ⟨"list", _, slot_list_getitem.lookup, ht.isList.typeIs, ?_⟩
  refine wpAny_getItem_list_slice ht.isList hs pl pu .none (by simp) ?_ (by rw [List.size_toArray] <;> (first | lia | omega))
  rw [slicePick_cut, ← hlen]
  refine ⟨.ref s.heap.objs.size, _, I.laid (t' := s.toks) (o := .lst (cutV xs lo hi)) (fun b ob q => Heap.get?_push_of_some _ q) (Nat.le_refl _) ?_, rfl, q _ (I.hok.fresh (Nat.le_refl _))⟩
  exact ⟨Nat.le_trans (cutV_length xs lo hi) hz, _, 0, (r.drop (HT.sIx xs.length 0 lo)).take (HT.sIx xs.length xs.length hi - HT.sIx xs.length 0 lo), Heap.get?_push_size _ rfl⟩
noncomputable def flatV : V → Bool
  | .non => true
  | .bl _ => true
  | .int _ => true
  | .str _ => true
  | _ => false
noncomputable def eqV : V → V → Bool
  | .non, .non => true
  | .bl a, .bl b => a == b
  | .bl a, .int b => (if a then 1 else 0) == b
  | .int a, .bl b => a == (if b then 1 else 0)
  | .int a, .int b => a == b
  | .str a, .str b => a == b
  | _, _ => false
theorem eqAt_V {A : Around} {s : Shared} {y x : V} {u v : Value} (ry : RelV y u) (rx : RelV x v) (fy : flatV y = true) (fx : flatV x = true) : SeqAt.EqAt A s u v (eqV y x) := by
  cases y with
  | non =>
    cases ry
    cases x with
    | non => cases rx; exact SeqAt.EqAt.same _
    | bl b => cases rx; exact SeqAt.EqAt.none_bool b
    | int b => obtain ⟨t, rfl⟩ := rx; exact SeqAt.EqAt.none_int b t
    | str b => obtain ⟨t, rfl⟩ := rx; exact SeqAt.EqAt.none_str b t
    | _ => exact absurd (show false = true from fx) Bool.false_ne_true
  | bl a =>
    cases ry
    cases x with
    | non => cases rx; exact SeqAt.EqAt.bool_none a
    | bl b => cases rx; exact SeqAt.EqAt.bool_bool a b
    | int b => obtain ⟨t, rfl⟩ := rx; exact SeqAt.EqAt.bool_int a b t
    | str b => obtain ⟨t, rfl⟩ := rx; exact SeqAt.EqAt.bool_str a b t
    | _ => exact absurd (show false = true from fx) Bool.false_ne_true
  | int a =>
    obtain ⟨t', rfl⟩ := ry
    cases x with
    | non => cases rx; exact SeqAt.EqAt.int_none a t'
    | bl b => cases rx; exact SeqAt.EqAt.int_bool a t' b
    | int b => obtain ⟨t, rfl⟩ := rx; exact SeqAt.EqAt.int_int a t' b t
    | str b => obtain ⟨t, rfl⟩ := rx; exact SeqAt.EqAt.int_str a t' b t
    | _ => exact absurd (show false = true from fx) Bool.false_ne_true
  | str a =>
    obtain ⟨t', rfl⟩ := ry
    cases x with
    | non => cases rx; exact SeqAt.EqAt.str_none a t'
    | bl b => cases rx; exact SeqAt.EqAt.str_bool a t' b
    | int b => obtain ⟨t, rfl⟩ := rx; exact SeqAt.EqAt.str_int a t' b t
    | str b => obtain ⟨t, rfl⟩ := rx; exact SeqAt.EqAt.str_str a t' b t
    | _ => exact absurd (show false = true from fx) Bool.false_ne_true
  | _ => exact absurd (show false = true from fy) Bool.false_ne_true
noncomputable def eqU (x : V) (u : Value) : Bool := match u with
  | .none => eqV .non x
  | .bool b => eqV (.bl b) x
  | .int i _ => eqV (.int i) x
  | .str z _ => eqV (.str z) x
  | _ => false
theorem eqU_of {x y : V} {u : Value} (r : RelV y u) (f : flatV y = true) : eqU x u = eqV y x := by
  cases y with
  | non => cases r; rfl
  | bl b => cases r; rfl
  | int i => obtain ⟨t, rfl⟩ := r; rfl
  | str z => obtain ⟨t, rfl⟩ := r; rfl
  | _ => exact absurd (show false = true from f) Bool.false_ne_true
theorem any_eqU {x : V} : ∀ {xs : List V} {us : List Value}, Vals xs us → xs.all flatV = true → us.any (eqU x) = xs.any fun y => eqV y x
  | _, _, .nil, _ => rfl
  | y :: xs, u :: us, .cons r t, f => by
    rw [List.all_cons, Bool.and_eq_true] at f
    rw [List.any_cons, List.any_cons, eqU_of r f.1, any_eqU t f.2]
theorem mem_eqAt {A : Around} {s : Shared} {x : V} {v : Value} (rx : RelV x v) (fx : flatV x = true) : ∀ {xs : List V} {us : List Value}, Vals xs us → xs.all flatV = true → ∀ u ∈ us, SeqAt.EqAt A s u v (eqU x u)
  | _, _, .nil, _ => fun u hu => by cases hu
  | y :: xs, u :: us, .cons r t, f => fun u' hu => by
    rw [List.all_cons, Bool.and_eq_true] at f
    rcases List.mem_cons.mp hu with rfl | hu
    · rw [eqU_of r f.1]; exact eqAt_V r rx f.1 fx
    · exact mem_eqAt rx fx t f.2 u' hu
noncomputable def inV (x : V) (xs : List V) : Bool := xs.any fun y => eqV y x
inductive rIn (K : PySem.W.Frag) (neg : Bool) (x : V) (y : V) (H : Hp) (Q : VK) : Prop
  | mk (p xs : _) : (y = .ref p) → ((SqL K H p xs ∨ SqT K H p xs)) → (flatV x = true) → (xs.all flatV = true) → (Q (.bl (if neg then !inV x xs else inV x xs)) H) → rIn K neg x y H Q
theorem op_in_seq : OpR X (compareOp .In) (rIn X.K false) := by
  intro pins s σ H x y v u Q I rx ry h
  obtain ⟨p, xs, rfl, hq, fx, fs, q⟩ := h
  cases ry
  rcases hq with hq | hq
  · obtain ⟨its, r, pl, hz⟩ := I.list hq
    refine SeqAt.in_listAt (eqU x) pl.isList (fun w hw => mem_eqAt rx fx r fs w (by simpa using hw)) ⟨.bl _, H, I, rfl, ?_⟩
    rw [show its.toArray.any (eqU x) = its.any (eqU x) by simp, any_eqU r fs]
    exact q
  · obtain ⟨its, r, pl, hz⟩ := I.tuple hq
    refine SeqAt.in_tupleAt (eqU x) pl (fun w hw => mem_eqAt rx fx r fs w (by simpa using hw)) ⟨.bl _, H, I, rfl, ?_⟩
    rw [show its.toArray.any (eqU x) = its.any (eqU x) by simp, any_eqU r fs]
    exact q
theorem op_notIn_seq : OpR X (compareOp .NotIn) (rIn X.K true) := by
  intro pins s σ H x y v u Q I rx ry h
  obtain ⟨p, xs, rfl, hq, fx, fs, q⟩ := h
  cases ry
  rcases hq with hq | hq
  · obtain ⟨its, r, pl, hz⟩ := I.list hq
    refine SeqAt.notIn_listAt (eqU x) pl.isList (fun w hw => mem_eqAt rx fx r fs w (by simpa using hw)) ⟨.bl _, H, I, rfl, ?_⟩
    rw [show its.toArray.any (eqU x) = its.any (eqU x) by simp, any_eqU r fs]
    exact q
  · obtain ⟨its, r, pl, hz⟩ := I.tuple hq
    refine SeqAt.notIn_tupleAt (eqU x) pl (fun w hw => mem_eqAt rx fx r fs w (by simpa using hw)) ⟨.bl _, H, I, rfl, ?_⟩
    rw [show its.toArray.any (eqU x) = its.any (eqU x) by simp, any_eqU r fs]
    exact q
inductive rLen (K : PySem.W.Frag) (xs : List V) (H : Hp) (Q : VK) : Prop
  | mk (p ys : _) : (xs = [.ref p]) → ((SqL K H p ys ∨ SqT K H p ys)) → (Q (.int ys.length) H) → rLen K xs H Q
theorem call_len_seq : CallR X (.builtin "len") (rLen X.K) := by
  intro pins s σ H xs us Q I r h
  obtain ⟨p, ys, rfl, hq, q⟩ := h
  obtain ⟨u, rfl, rx⟩ := vals1 r
  cases rx
  have hn := line63
  rcases hq with hq | hq
  · obtain ⟨its, r', pl, hz⟩ := I.list hq
    have hlen := r'.length
    exact Calls.call_len_list pl.isList (by simp only [List.size_toArray] <;> omega) ⟨.int ys.length, H, I.tok _, ⟨s.toks + 1, by rw [List.size_toArray, hlen]⟩, q⟩
  · obtain ⟨its, r', pl, hz⟩ := I.tuple hq
    have hlen := r'.length
    exact len_tuple pl (by simp only [List.size_toArray] <;> omega) ⟨.int ys.length, H, I.tok _, ⟨s.toks + 1, by rw [List.size_toArray, hlen]⟩, q⟩
inductive rLs (K : PySem.W.Frag) (xs : List V) (H : Hp) (Q : VK) : Prop
  | mk (p ys : _) : (xs = [.ref p]) → ((SqL K H p ys ∨ SqT K H p ys)) → (∀ l, H l = none → Q (.ref l) (upd H l (.lst ys))) → rLs K xs H Q
theorem call_list_of : CallR X (.type "list") (rLs X.K) := by
  intro pins s σ H xs us Q I r h
  obtain ⟨p, ys, rfl, hq, q⟩ := h
  obtain ⟨u, rfl, rx⟩ := vals1 r
  cases rx
  have fin : ∀ (its : List Value), Vals ys its → ys.length ≤ sizeLine → ∀ (h' : Heap) (c' : Nat), (∀ b o', s.heap.get? b = some o' → h'.get? b = some o') →
      h'.get? s.heap.objs.size = some { cls := .type "list", dict := none, data := .seq its.toArray c', slots := #[] } → EP X pins σ Q (.ref s.heap.objs.size) { s with heap := h' } := fun its r' hz h' c' kp e =>
    ⟨.ref s.heap.objs.size, _, I.laid (t' := s.toks) kp (Nat.le_refl _) (show ObjOk X.prog X.w _ h' _ (.lst ys) from ⟨hz, its, c', r', e⟩), rfl, q _ (I.hok.fresh (Nat.le_refl _))⟩
  rcases hq with hq | hq
  · obtain ⟨its, r', pl, hz⟩ := I.list hq
    have hlen := r'.length
    obtain ⟨o, ho, hc, n, hd⟩ := pl.isList
    exact call_list_seq p (.inl rfl) ho hc hd (fun h' c' kp e => fin its r' hz h' c' kp e) (by simp only [List.size_toArray] <;> (first | lia | omega))
  · obtain ⟨its, r', pl, hz⟩ := I.tuple hq
    have hlen := r'.length
    obtain ⟨o, ho, hc, n, hd⟩ := pl
    exact call_list_seq p (.inr rfl) ho hc hd (fun h' c' kp e => fin its r' hz h' c' kp e) (by simp only [List.size_toArray] <;> (first | lia | omega))
noncomputable def tyV (K : PySem.W.Frag) (T : String) (x : V) (H : Hp) : Prop := match x with
  | .str _ => T = "str"
  | .int _ => T = "int"
  | .ref p => (T = "list" ∧ ∃ xs, SqL K H p xs) ∨ (T = "tuple" ∧ ∃ o, K.lookup p = some o ∧ o.cls = .type "tuple" ∧ o.dict = none) ∨
      (T = "dict" ∧ ((∃ kvs, H p = some (.dK kvs)) ∨ ∃ kvs, H p = some (.dT kvs))) ∨ (T = "set" ∧ ∃ S n, H p = some (.set S n))
  | _ => False
theorem tyV_is {pins : List (Addr × Obj)} {σ : St} {H : Hp} {s : Shared} {T : String} {x : V} {v : Value} (I : Inv X pins σ H s) (r : RelV x v) (ty : tyV X.K T x H) :
    s.TypeIs v T ∧ ∀ a, v = .ref a → ∃ ob, s.heap.get? a = some ob ∧ ob.dict = none := by
  cases x with
  | str z =>
    obtain ⟨t, rfl⟩ := r
    cases (show T = "str" from ty)
    exact ⟨typeIs_str s z t, fun _ e => nomatch e⟩
  | int i =>
    obtain ⟨t, rfl⟩ := r
    cases (show T = "int" from ty)
    exact ⟨typeIs_int s i t, fun _ e => nomatch e⟩
  | ref p =>
    cases r
    rcases ty with ⟨rfl, xs, hq⟩ | ⟨rfl, o, hk, hc, hd⟩ | ⟨rfl, hk⟩ | ⟨rfl, S, n, hk⟩
    · obtain ⟨its, _, pl, _⟩ := I.list hq
      refine ⟨pl.isList.typeIs, fun a e => ?_⟩
      cases e
      obtain ⟨o, n, e, c, hd, _⟩ := pl
      exact ⟨o, e, hd⟩
    · refine ⟨⟨o, I.kIn p o hk, hc⟩, fun a e => ?_⟩
      cases e
      exact ⟨o, I.kIn _ o hk, hd⟩
    · have z : ∃ o, s.heap.get? p = some o ∧ o.ExactDict := by
        rcases hk with ⟨kvs, hk⟩ | ⟨kvs, hk⟩
        · obtain ⟨_, _, _, _, o, _, _, e, ex, _⟩ := I.hok p _ hk
          exact ⟨o, e, ex⟩
        · obtain ⟨_, _, _, _, o, _, _, e, ex, _⟩ := I.hok p _ hk
          exact ⟨o, e, ex⟩
      obtain ⟨o, e, ex⟩ := z
      refine ⟨⟨o, e, ex.1⟩, fun a e2 => ?_⟩
      cases e2
      exact ⟨o, e, ex.2.1⟩
    · obtain ⟨o, _, _, _, e, ex, _⟩ := I.hok p _ hk
      refine ⟨⟨o, e, ex.1⟩, fun a e2 => ?_⟩
      cases e2
      exact ⟨o, e, ex.2.1⟩
  | _ => exact False.elim ty
noncomputable def tBM (K : PySem.W.Frag) (T : String) (r : V → List V → Hp → VK → Prop) (to : TE) (t : TA) : TE := fun σ H Q => to σ H fun x H1 => tyV K T x H1 ∧ t σ H1 fun xs H2 => r x xs H2 Q
variable {o e : Expr} {es : List Expr} {to : TE} {t : TA} {name : Str} {apos cpos : Pos} {T id : String} {r : V → List V → Hp → VK → Prop}
theorem pe_bm (pa : PlainAttrs T) (slot : Slot T name id) (hty : typeOf (.builtin id) = pure (.type "method_descriptor")) (hm : MtR X id r) (ho : PE X o to) (ha : PA X (e :: es) t)
    (hbase : attributeBase o name X.env (eval o X.env) = eval o X.env := by rfl)
    (hfew : ((backTo cpos (starEach (e :: es) X.env)).all (fun x => !x.1) && (backToKw cpos (keywordEach [] X.env)).all (fun x => x.1.isSome)
      && decide ((e :: es).length + ([] : List Keyword).length + (if ([] : List Keyword).isEmpty then 0 else 1) < 30)) = true := by rfl)
    (hline : (apos.endLine == cpos.line) = true := by rfl) (hs : starEach (e :: es) X.env = (false, eval e X.env) :: starEach es X.env := by rfl) (hplain : (backTo cpos (starEach es X.env)).any (·.1) = false := by rfl) :
    PE X (.Call (.Attribute o name apos) (e :: es) [] cpos) (tBM X.K T r to t) := by
  intro pins s σ H Q I h
  refine wpAny_Call_method_late hbase hfew hline rfl (thn (ho pins s σ H _ I h) fun v s1 ⟨x, H1, I1, r1, ty, q1⟩ => ?_)
  obtain ⟨h1, h2⟩ := tyV_is I1 r1 ty
  refine ⟨T, id, pa, slot, hty, h1, h2, ?_⟩
  have hA := ha cpos pins s1 σ H1 _ I1 q1
  rw [hs] at hA ⊢
  refine Calls.callWith_builtin (by show (false || (backTo cpos (starEach es X.env)).any (·.1)) = false; rw [hplain] <;> rfl) (Calls.evalArgs_plain ?_)
  exact thn hA fun us s2 ⟨vs, H2, I2, r2, q2⟩ => hm pins s2 σ H2 x vs v us Q I2 r1 r2 q2
end
end L2
namespace L2
open PySem PySem.Spec PyProof.Rows
noncomputable def MtM (X : Cx) (id : String) (r : V → List V → Hp → VK → Prop) : Prop :=
  ∀ (pins : List (Addr × Obj)) (s : Shared) (σ : St) (H : Hp) (x : V) (xs : List V) (v : Value) (us : List Value) (Q : VK), Inv X pins σ H s → RelV x v → Vals xs us → r x xs H Q →
    wpAny (model X.prog X.w) X.A (call (.builtin id) (v :: us)) (EP X pins σ Q) X.xe s
theorem Vals.one : ∀ {x : V} {us : List Value}, Vals [x] us → ∃ u, us = [u] ∧ RelV x u
  | _, _, .cons r .nil => ⟨_, rfl, r⟩
theorem Vals.rep {xs : List V} {us : List Value} (h : Vals xs us) : ∀ k : Nat, Vals (List.replicate k xs).flatten (List.replicate k us).flatten
  | 0 => .nil
  | k + 1 => by
    rw [List.replicate_succ, List.replicate_succ, List.flatten_cons, List.flatten_cons]
    exact Vals.append h (Vals.rep h k)
theorem foldl_rep (its : List Value) : ∀ (k : Nat) (acc : List Value),
    List.foldl (fun x1 x2 => x1 ++ x2) acc.toArray (List.replicate k its.toArray) = (acc ++ (List.replicate k its).flatten).toArray
  | 0, acc => by simp
  | k + 1, acc => by
    have e : acc.toArray ++ its.toArray = (acc ++ its).toArray := by simp
    have e2 : (acc ++ its) ++ (List.replicate k its).flatten = acc ++ (List.replicate (k + 1) its).flatten := by
      rw [List.replicate_succ, List.flatten_cons, List.append_assoc]
    rw [← e2, ← foldl_rep its k (acc ++ its), ← e, List.replicate_succ, List.foldl_cons]
section
variable {X : Cx} {pins : List (Addr × Obj)} {σ : St} {H : Hp} {s : Shared} {l b : Addr} {xs ys zs : List V}
theorem Inv.lset {its its' : List Value} {n : Nat} {f : Array Value → Array Value} {t' : Nat} (I : Inv X pins σ H s) (hH : H l = some (.lst xs))
    (e : s.heap.get? l = some { cls := .type "list", data := .seq its.toArray n }) (hf : f its.toArray = its'.toArray) (hv : Vals ys its') (hz : ys.length ≤ sizeLine) :
    Inv X pins σ (upd H l (.lst ys)) { s with heap := s.heap.update l (Obj.mapSeq f), toks := t' } := by
  have q := PySem.IsL.update e f
  rw [hf] at q
  refine I.write (x := l) (e := l) (by rw [hH]; exact trivial) (.inl rfl) (fun b' u hb hu => (Heap.get?_update_other s.heap (Obj.mapSeq f) (Ne.symm hb)).trans hu) ⟨_, q⟩ ?_
  exact ⟨hz, its', _, hv, q⟩
theorem Inv.lnew {its : List Value} {t' : Nat} (I : Inv X pins σ H s) (hv : Vals ys its) (hz : ys.length ≤ sizeLine) :
    Inv X pins σ (upd H s.heap.objs.size (.lst ys)) { s with heap := s.heap.push { cls := .type "list", data := .seq its.toArray }, toks := t' } :=
  I.laid (fun _ _ q => Heap.get?_push_of_some _ q) (Nat.le_refl _) ⟨hz, its, 0, hv, Heap.get?_push_size _ rfl⟩
theorem Inv.fresh (I : Inv X pins σ H s) : H s.heap.objs.size = none := I.hok.fresh (Nat.le_refl _)
theorem Inv.lstM (I : Inv X pins σ H s) (hH : H l = some (.lst xs)) : xs.length ≤ sizeLine ∧ ∃ (its : List Value) (n : Nat), Vals xs its ∧ xs.length = its.length ∧ s.heap.get? l = some { cls := .type "list", data := .seq its.toArray n } := by
  obtain ⟨z, its, n, r, e⟩ := I.hok l _ hH
  exact ⟨z, its, n, r, r.length, e⟩
theorem notLongL {n : Nat} (h : n ≤ sizeLine) : Builtin.List.listTooLong n = false := by
  unfold Builtin.List.listTooLong
  exact decide_eq_false (by (first | lia | omega))
end
section
variable {X : Cx}
inductive rAppend (x : V) (vs : List V) (H : Hp) (Q : VK) : Prop
  | mk (l xs y : _) : (x = .ref l) → (vs = [y]) → (H l = some (.lst xs)) → (xs.length < sizeLine) → (Q .non (upd H l (.lst (xs ++ [y])))) → rAppend x vs H Q
theorem mt_append : MtM X "list.append" rAppend := by
  intro pins s σ H x vs v us Q I rx rv h
  obtain ⟨l, xs, y, rfl, rfl, hH, hz, q⟩ := h
  cases rx
  obtain ⟨u, rfl, ru⟩ := rv.one
  obtain ⟨z, its, n, r, hl, e⟩ := I.lstM hH
  refine call_meets F.slot_list_append ⟨_, e, rfl⟩ F.entry_list_append (F.args_list_append_2 _ _) (PySem.list_append l its.toArray n u (by rw [List.size_toArray]; (first | lia | omega))) ⟨e, ?_⟩
  refine ⟨.non, _, I.lset (its' := its ++ [u]) hH e (by simp) (r.append (.cons ru .nil)) ?_, rfl, q⟩
  rw [List.length_append, List.length_singleton]
  omega
inductive rCat (x : V) (y : V) (H : Hp) (Q : VK) : Prop
  | mk (l b xs zs : _) : (x = .ref l) → (y = .ref b) → (H l = some (.lst xs)) → (H b = some (.lst zs)) → (xs.length + zs.length ≤ sizeLine) → (∀ p, H p = none → Q (.ref p) (upd H p (.lst (xs ++ zs)))) → rCat x y H Q
theorem op_cat : OpR X (binaryOp .Add) rCat := by
  intro pins s σ H x y v u Q I rx ry h
  obtain ⟨l, b, xs, zs, rfl, rfl, hH, hB, hz, q⟩ := h
  cases rx
  cases ry
  obtain ⟨z, its, n, r, hl, e⟩ := I.lstM hH
  obtain ⟨z2, its2, n2, r2, hl2, e2⟩ := I.lstM hB
  refine PySem.P.add_list e e2 ?_ (by rw [List.size_toArray, List.size_toArray]; (first | lia | omega))
  have ea : its.toArray ++ its2.toArray = (its ++ its2).toArray := by simp
  rw [ea]
  exact ⟨.ref _, _, I.lnew (t' := s.toks) (r.append r2) (by rw [List.length_append]; (first | lia | omega)), rfl, q _ I.fresh⟩
inductive rRep (x : V) (y : V) (H : Hp) (Q : VK) : Prop
  | mk (l k xs : _) : (x = .ref l) → (y = .int k) → (H l = some (.lst xs)) → (-(2 ^ 63) ≤ k) → (k < 2 ^ 63) → (xs.length * k.toNat ≤ sizeLine) → (∀ p, H p = none → Q (.ref p) (upd H p (.lst (List.replicate k.toNat xs).flatten))) → rRep x y H Q
theorem len_rep {α : Type} (xs : List α) (k : Nat) : (List.replicate k xs).flatten.length = k * xs.length := by
  induction k with
  | zero => simp
  | succ k ih => rw [List.replicate_succ, List.flatten_cons, List.length_append, ih, Nat.succ_mul, Nat.add_comm]
theorem op_rep : OpR X (binaryOp .Mult) rRep := by
  intro pins s σ H x y v u Q I rx ry h
  obtain ⟨l, k, xs, rfl, rfl, hH, h1, h2, hz, q⟩ := h
  cases rx
  obtain ⟨t, rfl⟩ := ry
  obtain ⟨z, its, n, r, hl, e⟩ := I.lstM hH
  have hlen : its.toArray.size * k.toNat ≤ sizeLine := by rw [List.size_toArray, ← hl]; exact hz
  have hcap : ¬ its.toArray.size * k.toNat > (2 ^ 63 - 1) / 8 := by
    have : (sizeLine : Nat) ≤ (2 ^ 63 - 1) / 8 := by decide
    (first | lia | omega)
  have hfit : ¬ (!Builtin.List.listFitsIndex k) = true := by
    rw [fitsIndex_both h1 h2]
    exact Bool.false_ne_true
  have hlong : ¬ Builtin.List.listTooLong (its.toArray.size * k.toNat) = true := by
    rw [notLongL hlen]
    exact Bool.false_ne_true
  have hnew : List.foldl (fun x1 x2 => x1 ++ x2) #[] (List.replicate (if its.toArray.isEmpty = true then 0 else k.toNat) its.toArray) = (List.replicate k.toNat its).flatten.toArray := by
    have f0 : ∀ m : Nat, List.foldl (fun x1 x2 => x1 ++ x2) #[] (List.replicate m its.toArray) = (List.replicate m its).flatten.toArray := fun m => by
      have := foldl_rep its m []
      rw [List.nil_append] at this
      exact this
    rw [f0]
    cases its with
    | nil => simp
    | cons a r' => rw [if_neg (by simp)]
  refine wpAny_binaryOp_repeat_ref (T := "list") (U := "int") (by decide) ⟨_, e, rfl⟩ (fun s' => typeIs_int s' k t) noFill_list_mul F.fills_int_mul F.slot_int_rmul repeat_list F.slot_int_index.lookup
    (call_meets F.slot_int_rmul (typeIs_int s k t) F.entry_int_rmul (F.args_int_rmul_2 _ _) (int___rmul___int_list k t l its.toArray n)
      ⟨e, rfl, ⟨_, e, rfl⟩, call_meets F.slot_list_mul ⟨_, e, rfl⟩ F.entry_list_mul (F.args_list_mul_2 _ _) (AutoListH.list___mul___list_int_3 l its.toArray n k t hfit hcap hlong) ⟨e, ?_⟩⟩)
  rw [hnew]
  exact ⟨.ref _, _, I.lnew (t' := s.toks) (r.rep k.toNat) (by rw [len_rep, Nat.mul_comm]; exact hz), rfl, q _ I.fresh⟩
end
section
variable {prog : Program} {w : World} {A : Around} {E : Value → Shared → Prop} {s : Shared}
set_option maxRecDepth 100000 in
end
section
variable {X : Cx}
end
end L2
namespace Att
open PySem PySem.W PySem.Calls PyProof.Rows
theorem ints_of_wellAll {P : Params} {h : Heap} : ∀ (ns : List Int) (vs : List Value), WellAll P h vs (ns.map WData.int) → IntsAre vs ns := by
  intro ns
  induction ns with
  | nil =>
    intro vs w
    rw [List.map_nil] at w
    cases w
    exact .nil
  | cons n ns ih =>
    intro vs w
    rw [List.map_cons] at w
    cases w with
    | cons a b =>
      cases a
      exact .cons _ _ (ih _ b)
theorem script_of {l : OpenLaw} {n : Nat} (hn : l.most = some n) {P : Params} {h : Heap} {args : List WData} {vals : List Value}
    (hpre : l.row.toRowW.claim.pre args = true) (hwl : WellAll P h vals args) :
    ∃ a vs ns, vals = [Value.ref a] ∧ args = [WData.list (ns.map WData.int)] ∧ h.get? a = some { cls := .type "list", data := .seq vs.toArray } ∧ IntsAre vs ns ∧ ns.length ≤ n := by
  have hsh : WShape.hasAll [] args [.list .int] = true := (pre_splitW hpre).1
  have hc : l.pre.holds [] { args := args } = true := (pre_splitW hpre).2
  obtain ⟨d, r, rfl, h1, h2⟩ := hasAllW_cons hsh
  obtain rfl := hasAllW_nil h2
  obtain ⟨xs, rfl, h3⟩ := hasW_list h1
  obtain ⟨ns, rfl⟩ := items_int h3
  have hlen : ns.length ≤ n := by
    unfold OpenLaw.pre at hc
    have h4 : (WTm.not (.lt (.lit (.int (n : Int))) (.len (.arg 0)))).holds [] { args := [.list (ns.map .int)] } = true := by
      have h4 := (holds_andW hc).1
      rw [hn] at h4
      exact h4
    have h5 := condW_of h4 (w_not (w_lt w_lit (w_len_list (w_arg rfl))))
    rw [List.length_map] at h5
    refine Nat.le_of_not_lt fun q => ?_
    have q' : (n : Int) < ((ns.length : Nat) : Int) := by (first | lia | omega)
    first
      | (rw [decide_eq_true q'] at h5; exact absurd h5 (by decide))
      | (simp at h5; (first | lia | omega))
  cases hwl with
  | cons w1 w2 =>
    cases w2
    cases w1 with
    | list ho hall => exact ⟨_, _, ns, rfl, rfl, ho, ints_of_wellAll ns _ hall, hlen⟩
theorem post_true (l : OpenLaw) (args : List WData) : l.row.toRowW.claim.post args (.bool true) args = true :=
  postW_of (r := l.row.toRowW) (X := (true == true))
    (show WShape.has [] (.bool true) .bool = true by first | rfl | decide | simp [WShape.has, WShape.arms, WShape.armsAll])
    (show (WTm.eq .res (.lit (.bool true))).value [] { args := args, res := some (.bool true), after := args } = some (.bool (true == true)) from w_eq_bool (w_res rfl) w_lit) rfl
theorem attach_call {l : OpenLaw} {n : Nat} {q : Program} {loose : List Str} {XP : (Str → Option Value) → Heap → Prop} {YP : World → Heap → Prop} {d : DefRec}
    (hn : l.most = some n) (hdf : d.params.defaults = [])
    (call : ∀ (w : World) (s₀ s₁ : Shared) (mg mb : Str → Option Value) (fa : Addr) (o : Obj) (pm cd doc : Value) (a : Addr) (vs : List Value) (ns : List Int),
      Ground q loose [] XP w s₀ mg mb s₁.heap → YP w s₁.heap →
      s₁.heap.get? fa = some o → o.data = .func (docDef d.name d.params d.body d.scope pm cd doc) → s₁.heap.CodeRec cd d.name → mg d.name = some (.ref fa) →
      s₁.heap.get? a = some { cls := .type "list", data := .seq vs.toArray } → IntsAre vs ns → ns.length ≤ n → s₁.gens = #[] →
      codeAny (model l.prog w) callerA (.call (.ref fa) ⟨[.ref a], []⟩) (fun r s' => r = .ok (.ret (.bool true)) ∧ OldK s₁.heap s'.heap ∧ s'.os = s₁.os ∧ AllBare s'.gens) s₁) :
    WalkO q loose XP YP l.row.toRowW d [] (fun f vs => PySem.call f vs) := by
  intro w s₀ s₁ mg mb G Y fa o pm cd doc dV kV ho hd hcd hD hmg hg args vals as hpre hlay hrd hwl hlo
  obtain rfl : dV = .none := Dflts.none hD hdf
  obtain rfl : kV = .none := Dflts.noKw hD
  obtain ⟨a, vs, ns, rfl, rfl, hobj, hints, hlen⟩ := script_of hn hpre hwl
  refine enter_call (codeAny_mono (call w s₀ s₁ mg mb fa o pm cd doc a vs ns G Y ho (fd_plain hd) hcd hmg hobj hints hlen hg) fun r s' hq => ?_)
  obtain ⟨rfl, h2, h3, h4⟩ := hq
  exact ⟨.inl ⟨.bool true, .bool true, [], rfl, fun _ => rfl, .bool true, post_true l _, fun _ => ⟨List.Pairwise.nil, fun _ hm => (nomatch hm)⟩⟩, h2, h3, h4⟩
section
variable {prog : Program} {w : World} {A : Around} {E : Value → Shared → Prop} {s : Shared} {K : Frag}
end
end Att
namespace L2
open PySem PySem.Spec PyProof.Rows
theorem vals_ints : ∀ {vs : List Value} {ns : List Int}, IntsAre vs ns → Vals (ns.map V.int) vs
  | _, _, .nil => .nil
  | _, _, .cons n t h => .cons ⟨t, rfl⟩ (vals_ints h)
noncomputable def Only (H : Hp) : Prop := ∀ b, H b = none ∨ ∃ o xs, H b = some (.frz o (.lst xs))
theorem law_call {P : Program} {w : World} {K : PySem.W.Frag} {mg mb : Str → Option Value} {CX : CXT} {k : Nat} {fa a : Addr} {fd : FuncData} {x : Str} {sp : Sp} {s₁ : Shared} {vs : List Value} {ns : List Int}
    (KX : K.In s₁.heap) (hns : s₁.heap.Ns mainGlobals mg) (hb : s₁.heap.Ns builtinsNs mb) (hbb : ∀ x : Str, x ≠ "__name__" → mb x = bootBuiltins x) (hlim : s₁.heap.NoLimit) (hg : s₁.gens = #[])
    (ha : s₁.heap.get? a = some { cls := .type "list", data := .seq vs.toArray }) (hi : IntsAre vs ns) (hl : ns.length ≤ sizeLine) (hr : Room k callerA)
    (F : ∀ base : Heap, K.In base → base.Ns mainGlobals mg → FnOk P w K mg base CX k fa fd [x] sp) (hbind : ∀ (s : Shared) (u : Value), BindsTo s fd ⟨[u], []⟩ [(x, u)])
    (hsp : ∀ H : Hp, Only H → SqL K H a (ns.map V.int) → sp [.ref a] H (fun v _ => v = .bl true) fun _ _ _ => False)
    (hCX : ∀ H e s', CX [] H s₁ (fun _ _ _ => False) e s' → False) :
    codeAny (model P w) callerA (.call (.ref fa) ⟨[.ref a], []⟩) (fun r s' => r = .ok (.ret (.bool true)) ∧ OldK s₁.heap s'.heap ∧ s'.os = s₁.os ∧ AllBare s'.gens) s₁ := by
  have rv := vals_ints hi
  have lenV := hi.length
  have core : ∀ H : Hp, Only H → SqL K H a (ns.map V.int) → HOk P w H s₁.heap → (∀ b, H b ≠ none → b = a) → (H a ≠ none → K.lookup a = none) →
      codeAny (model P w) callerA (.call (.ref fa) ⟨[.ref a], []⟩) (fun r s' => r = .ok (.ret (.bool true)) ∧ OldK s₁.heap s'.heap ∧ s'.os = s₁.os ∧ AllBare s'.gens) s₁ := by
    intro H hO hS hok hA hK
    have base_of : ∀ {b : Addr} {o : Obj}, s₁.heap.get? b = some o → H b = none → (hidT s₁.heap H).get? b = some o := fun e n => hidT_get e n
    have noA : ∀ {b : Addr} {o : Obj} {es : Array DictEntry} {ep : Nat}, s₁.heap.get? b = some o → o.data = .dict es ep → H b = none := fun {b o es ep} e d => by
      cases q : H b with
      | none => rfl
      | some u =>
        have e' : b = a := hA b (by rw [q]; simp)
        subst e'
        rw [ha] at e; cases e
        have d' : Data.seq vs.toArray _ = Data.dict es ep := d
        cases d'
    have nsK : ∀ {b : Addr} {m : Str → Option Value}, s₁.heap.Ns b m → (hidT s₁.heap H).Ns b m := fun {b m} ⟨o, es, ep, e, d, r⟩ => ⟨o, es, ep, base_of e (noA e d), d, r⟩
    have hKb : K.In (hidT s₁.heap H) := fun b o e => base_of (KX b o e) (by
      cases q : H b with
      | none => rfl
      | some u =>
        have e' : b = a := hA b (by rw [q]; simp)
        subst e'
        rw [hK (by rw [q]; simp)] at e; cases e)
    have hM : Mod K mg (hidT s₁.heap H) := ⟨hKb, nsK hns, ⟨mb, nsK hb, hbb⟩, let ⟨mc, h1, h2⟩ := hlim; ⟨mc, nsK h1, h2⟩⟩
    have e0 : Env0 P w K mg (hidT s₁.heap H) callerA [] s₁ H := ⟨rfl, hM, fun b o e => of_hidT e, Nat.le_of_eq (hidT_size _ _), trivial, fun b hb => absurd (show b ∈ ([] : List Addr) from hb) (by simp), hok, .of_eq hg⟩
    refine codeAny_mono ((F _ hKb (nsK hns)).run callerA [] s₁ H ⟨[.ref a], []⟩ [.ref a] [.ref a] _ _ hr e0 (hbind s₁ (.ref a)) (.cons rfl .nil) (hsp H hO hS)) fun r s' h => ?_
    cases r with
    | error e => exact (hCX H e s' h).elim
    | ok fl =>
      cases fl with
      | next => exact False.elim h
      | brk => exact False.elim h
      | cont => exact False.elim h
      | ret u =>
        obtain ⟨v, H', os, bare, un, hok', r', q⟩ := h
        have q' : v = .bl true := q
        subst q'
        obtain rfl : u = Value.bool true := r'
        refine ⟨rfl, OldK.of_keep fun b o e => ?_, os, bare⟩
        cases q : H b with
        | none => exact un.keep b o e q (by intro z; exact absurd (show b ∈ ([] : List Addr) from z) (by simp)) (by simp)
        | some u =>
          rcases hO b with z | ⟨ob, xs, z⟩
          · rw [q] at z; cases z
          · have z2 := un.frzs b ob _ z
            obtain ⟨e1, _⟩ := hok b _ z
            obtain ⟨e2, _⟩ := hok' b _ z2
            rw [e] at e1; cases e1
            exact e2
  cases hk : K.lookup a with
  | some o =>
    have e := KX a o hk
    rw [ha] at e
    cases e
    refine core (fun _ => none) (fun _ => .inl rfl) (.inr ⟨_, vs.toArray, _, hk, rfl, rfl, rfl, by rw [List.size_toArray, lenV]; exact hl, by simpa using rv⟩) (fun b u z => by have z' : (none : Option HO) = some u := z; cases z') (fun b z => absurd rfl z) fun z => absurd rfl z
  | none =>
    refine core (fun b => if b = a then some (.frz { cls := .type "list", data := .seq vs.toArray } (.lst (ns.map V.int))) else none) (fun b => ?_) (.inl (.inr ⟨{ cls := .type "list", data := .seq vs.toArray }, if_pos rfl⟩)) (fun b u z => ?_) (fun b z => ?_) fun _ => hk
    · by_cases hb : b = a
      · exact .inr ⟨_, _, if_pos hb⟩
      · exact .inl (if_neg hb)
    · by_cases hb : b = a
      · have z' := (if_pos hb).symm.trans z
        cases z'
        subst hb
        exact ⟨ha, by rw [List.length_map]; exact hl, vs, _, rv, ha⟩
      · have z' := (if_neg hb).symm.trans z
        cases z'
    · by_cases hb : b = a
      · exact hb
      · exact absurd (if_neg hb) z
end L2
namespace L2
open PySem PySem.Spec PyProof.Rows
theorem walk_of {l : PySem.W.OpenLaw} {n k : Nat} {q : Program} {loose : List Str} {XP : (Str → Option Value) → Heap → Prop} {YP : World → Heap → Prop} {d : DefRec} {K : Params → PySem.W.Frag} {CX : World → CXT} {sp : World → Sp} {x : Str}
    (hn : l.most = some n) (hn2 : n ≤ sizeLine) (hdf : d.params.defaults = []) (hr : Room k callerA)
    (hY : ∀ (w : World) (h : Heap), YP w h → (K w.params).In h)
    (F : ∀ (w : World) (mg : Str → Option Value) (fa : Addr) (h : Heap), (K w.params).In h → h.Ns mainGlobals mg → mg d.name = some (.ref fa) →
      ∃ fd : FuncData, (∀ (s : Shared) (u : Value), BindsTo s fd ⟨[u], []⟩ [(x, u)]) ∧
        ∀ base : Heap, (K w.params).In base → base.Ns mainGlobals mg → FnOk l.prog w (K w.params) mg base (CX w) k fa fd [x] (sp w))
    (hsp : ∀ (w : World) (H : Hp) (a : Addr) (ns : List Int), ns.length ≤ n → Only H → SqL (K w.params) H a (ns.map V.int) → sp w [.ref a] H (fun v _ => v = .bl true) fun _ _ _ => False)
    (hCX : ∀ (w : World) (H : Hp) (s : Shared) (e : Value) (s' : Shared), CX w [] H s (fun _ _ _ => False) e s' → False) :
    PySem.W.WalkO q loose XP YP l.row.toRowW d [] (fun f vs => PySem.call f vs) := by
  refine Att.attach_call hn hdf fun w s₀ s₁ mg mb fa o pm cd doc a vs ns G Y ho hd hcd hmg hobj hints hlen hg => ?_
  have KX := hY w _ Y
  obtain ⟨fd, hb, hF⟩ := F w mg fa _ KX G.T.g hmg
  exact law_call KX G.T.g G.T.b G.T.builtins G.T.nolimit hg hobj hints (Nat.le_trans hlen hn2) hr hF hb (fun H hO hS => hsp w H a ns hlen hO hS) fun H e s' => hCX w H s₁ e s'
end L2
namespace L2
open PySem PySem.Spec PyProof.Rows
noncomputable def inClass (s : Stmt) (j : Nat) : Stmt := match s with
  | .ClassDef _ _ _ body _ _ _ _ _ _ _ => body.getD j (.Pass ⟨0, 0, 0, 0⟩)
  | _ => .Pass ⟨0, 0, 0, 0⟩
noncomputable def defArgs (s : Stmt) : Arguments := match s with
  | .FunctionDef _ a _ _ _ _ _ _ _ _ => a
  | _ => { posonlyargs := [], args := [], vararg := none, kwonlyargs := [], kw_defaults := [], kwarg := none, defaults := [] }
noncomputable def defBody (s : Stmt) : List Stmt := match s with
  | .FunctionDef _ _ b _ _ _ _ _ _ _ => b
  | _ => []
noncomputable def defScope (s : Stmt) : Scope := match s with
  | .FunctionDef _ _ _ _ _ _ sc _ _ _ => sc
  | _ => { kind := .function, names := [], isGenerator := false, isCoroutine := false }
noncomputable abbrev E0 : XK := fun _ _ _ => False
structure Fun (K : PySem.W.Frag) (x qual : Str) (st : Stmt) (f : Addr) (fd : FuncData) : Prop where
  ex : ∃ (oc : Value) (od : Option Addr) (kV doc pm : Value) (an : Option Addr) (cdv ct : Value) (osl : Array (Option Value)),
    fd = PySem.W.fnOf x qual (defArgs st) (defBody st) (defScope st) .none kV doc pm an cdv ct ∧ K.lookup f = some ⟨oc, od, .func fd, osl⟩ ∧ PySem.W.codeIn K cdv qual = true
  kp : PySem.W.keepIn K (.ref f) = true
section
variable {P : Program} {w : World} {K : PySem.W.Frag} {mg : Str → Option Value} {base : Heap}
theorem Fun.binds {x qual : Str} {st : Stmt} {f : Addr} {fd : FuncData} {ps : List Str} (F : Fun K x qual st f fd)
    (h : ∀ (kV doc pm : Value) (an : Option Addr) (cdv ct : Value) (us : List Value), us.length = ps.length → bindArgs (PySem.W.fnOf x qual (defArgs st) (defBody st) (defScope st) .none kV doc pm an cdv ct) ⟨us, []⟩ = pure (ps.zip us)) : Binds K fd ps [] := by
  obtain ⟨oc, od, kV, doc, pm, an, cdv, ct, osl, rfl, lk, hcd⟩ := F.ex
  exact .all (h kV doc pm an cdv ct)
theorem fun_mk {x qual : Str} {st : Stmt} {f : Addr} {oc : Value} {od an : Option Addr} {osl : Array (Option Value)} {kV doc pm cdv ct : Value} (l : K.lookup f = some ⟨oc, od, .func (PySem.W.fnOf x qual (defArgs st) (defBody st) (defScope st) .none kV doc pm an cdv ct), osl⟩)
    (c : PySem.W.codeIn K cdv qual = true) (k : PySem.W.keepIn K (.ref f) = true) : Fun K x qual st f (PySem.W.fnOf x qual (defArgs st) (defBody st) (defScope st) .none kV doc pm an cdv ct) := ⟨⟨oc, od, kV, doc, pm, an, cdv, ct, osl, rfl, l, c⟩, k⟩
end
theorem hu_of {A : Around} {k : Nat} (hr : Room k A) : A.units + 1 < cLine := Nat.lt_of_le_of_lt (Nat.add_le_add_left (by decide : 1 ≤ 64) _) hr.units
theorem small1000 {n : Nat} (h : n ≤ 1000) : n < sizeLine := Nat.lt_of_le_of_lt h (by decide)
section
variable {X : Cx}
theorem pv (i : Nat) {x : Str} {pos : Pos} (hN : X.N[i]? = some x := by rfl) (hv : Vis X.env.scope x := by first | exact Or.inl rfl | exact Or.inr (Or.inl rfl) | exact Or.inr (Or.inr rfl)) (hd : (x == ("__debug__" : Str)) = false := by decide)
    (hcd : (x == ("__classdict__" : Str)) = false := by decide) : PE X (.Name x pos) (tVar i) := pe_var hN hv hd hcd
end
theorem iteF {A B : Prop} (h : B) : if false = true then A else B := by
  rw [if_neg Bool.false_ne_true]
  exact h
theorem iteT {A B : Prop} (h : A) : if true = true then A else B := by
  rw [if_pos rfl]
  exact h
theorem ite2 {c A B : Prop} [Decidable c] (h1 : c → A) (h2 : ¬ c → B) : if c then A else B := by
  by_cases h : c
  · rw [if_pos h]
    exact h1 h
  · rw [if_neg h]
    exact h2 h
noncomputable def Same (H H' : Hp) : Prop := ∀ b o, H b = some o → H' b = some o
theorem Same.refl (H : Hp) : Same H H := fun _ _ h => h
theorem Same.trans {H H1 H2 : Hp} (a : Same H H1) (b : Same H1 H2) : Same H H2 := fun c o h => b c o (a c o h)
theorem Same.free {H H' : Hp} (e : Same H H') {l : Addr} (h : H' l = Option.none) : H l = Option.none := by
  cases q : H l with
  | none => rfl
  | some o =>
    rw [e l o q] at h
    cases h
theorem Same.seq {K : PySem.W.Frag} {H H' : Hp} {a : Addr} {xs : List V} (e : Same H H') (h : SqL K H a xs) : SqL K H' a xs := by
  rcases h with (h | ⟨o, h⟩) | h
  · exact .inl (.inl (e _ _ h))
  · exact .inl (.inr ⟨o, e _ _ h⟩)
  · exact .inr h
end L2
namespace L2
open PySem
theorem comp_loop {prog : Program} {w : World} {A : Around} {R : Result → Shared → Prop} {s : Shared} {elt target iter : Expr} {ifs : List Expr} {scope : Scope} {pos : Pos} {it acc : Value} {env : Env} (I : Nat → Shared → Prop)
    (turn : ∀ n s, I n s → wpAny (model prog w) A (pyNext it) (fun r s₁ => match r with
      | none => R (.ok .next) s₁
      | some v => wpAny (model prog w) A (letOwnedTupleGo target it v) (fun _ s₁' => wpAny (model prog w) A (assign target env v) (fun _ s₂ =>
          wpAny (model prog w) A (forIn ifs true fun c r => if r = true then do let ok ← isTrue c env (eval c env); pure (ForInStep.yield ok) else pure (ForInStep.yield r)) (fun ok s₃ =>
            if ok = true then wpAny (model prog w) A (eval elt env) (fun x s₄ =>
              wpAny (model prog w) A (call (.builtin "list.append") [acc, x]) (fun _ s₅ => ∃ m, m < n ∧ I m s₅) (fun _ _ => False) s₄) (fun _ _ => False) s₃
            else ∃ m, m < n ∧ I m s₃) (fun _ _ => False) s₂) (fun _ _ => False) s₁') (fun _ _ => False) s₁) (fun _ _ => False) s)
    (n : Nat) (h : I n s) : codeAny (model prog w) A (.compLoop (.ListComp elt [⟨target, iter, ifs, 0⟩] scope pos) 0 it acc env) R s := by
  refine codeAny_loop rfl I (fun n s hI => ?_) n h
  show wpAny _ A ((compTurn (.ListComp elt [⟨target, iter, ifs, 0⟩] scope pos) 0 it acc env).onRaise (fun x => do noteFrame x env; theTreesLotGoes x)) _ _ s
  refine wpAny_noted ?_
  rw [compTurn_list]
  refine wpAny_bind (wpAny_standAt (wpAny_bind (wpAny_mono (turn n s hI) (fun r s₁ h₁ => ?_) fun _ _ h' => h'.elim)))
  cases r with
  | none => exact wpAny_pure h₁
  | some v =>
    refine wpAny_bind (wpAny_mono h₁ (fun _ s₁' h₁' => ?_) fun _ _ h' => h'.elim)
    refine wpAny_bind (wpAny_mono h₁' (fun _ s₂ h₂ => wpAny_bind (wpAny_mono h₂ (fun ok s₃ h₃ => ?_) fun _ _ h' => h'.elim)) fun _ _ h' => h'.elim)
    cases ok with
    | false => exact wpAny_pure ⟨rfl, h₃⟩
    | true =>
      exact wpAny_bind (wpAny_bind (wpAny_mono h₃ (fun x s₄ h₄ => wpAny_bind (wpAny_mono h₄ (fun _ s₅ h₅ => wpAny_pure (wpAny_pure ⟨rfl, h₅⟩)) fun _ _ h' => h'.elim)) fun _ _ h' => h'.elim))
noncomputable def closOf (cells : List (Str × Addr)) : List (Str × NameKind) → List (Str × Addr) → List (Str × Addr)
  | [], acc => acc
  | (n, k) :: r, acc => if k = .free then closOf cells r ((n, (cells.lookup n).getD 0) :: acc) else closOf cells r acc
theorem closureFor_eq {scope : Scope} {env : Env} (h : ∀ x ∈ scope.names, x.2 = .free → ∃ c, env.cells.lookup x.1 = some c) : closureFor scope env = pure (closOf env.cells scope.names []) := by
  simp only [closureFor]
  generalize scope.names = l at h
  generalize ([] : List (Str × Addr)) = acc
  induction l generalizing acc with
  | nil => rfl
  | cons x r ih =>
    obtain ⟨n, k⟩ := x
    have hr : ∀ x ∈ r, x.2 = .free → ∃ c, env.cells.lookup x.1 = some c := fun x hx => h x (List.mem_cons_of_mem _ hx)
    simp only [List.forIn_cons]
    by_cases hk : k = .free
    · subst hk
      obtain ⟨c, hc⟩ := h (n, .free) List.mem_cons_self rfl
      have hc' : env.cells.lookup n = some c := hc
      simp only [beq_self_eq_true, if_true, cellOf, hc', closOf, Option.getD_some]
      exact ih hr _
    · have hb : (k == NameKind.free) = false := by simpa using hk
      simp only [hb, Bool.false_eq_true, if_false, closOf, if_neg hk]
      exact ih hr _
theorem closOf_mem {cells : List (Str × Addr)} : ∀ {l : List (Str × NameKind)} {acc : List (Str × Addr)} {p : Str × Addr}, p ∈ closOf cells l acc → p ∈ acc ∨ (p.2 = (cells.lookup p.1).getD 0 ∧ (p.1, NameKind.free) ∈ l)
  | [], _, _, h => .inl h
  | (n, k) :: r, acc, p, h => by
    unfold closOf at h
    by_cases hk : k = .free
    · rw [if_pos hk] at h
      rcases closOf_mem h with q | ⟨q1, q2⟩
      · rcases List.mem_cons.mp q with rfl | q
        · exact .inr ⟨rfl, by rw [hk]; exact List.mem_cons_self⟩
        · exact .inl q
      · exact .inr ⟨q1, List.mem_cons_of_mem _ q2⟩
    · rw [if_neg hk] at h
      rcases closOf_mem h with q | ⟨q1, q2⟩
      · exact .inl q
      · exact .inr ⟨q1, List.mem_cons_of_mem _ q2⟩
theorem closOf_keeps {cells : List (Str × Addr)} : ∀ {l : List (Str × NameKind)} {acc : List (Str × Addr)} {p : Str × Addr}, p ∈ acc → p ∈ closOf cells l acc
  | [], _, _, h => h
  | (n, k) :: r, acc, p, h => by
    unfold closOf
    by_cases hk : k = .free
    · rw [if_pos hk]; exact closOf_keeps (List.mem_cons_of_mem _ h)
    · rw [if_neg hk]; exact closOf_keeps h
theorem closOf_has {cells : List (Str × Addr)} {n : Str} : ∀ {l : List (Str × NameKind)} {acc : List (Str × Addr)}, (n, NameKind.free) ∈ l → (n, (cells.lookup n).getD 0) ∈ closOf cells l acc
  | (n', k) :: r, acc, h => by
    unfold closOf
    rcases List.mem_cons.mp h with e | h
    · injection e with e1 e2
      rw [if_pos e2.symm, e1]
      exact closOf_keeps List.mem_cons_self
    · by_cases hk : k = .free
      · rw [if_pos hk]; exact closOf_has h
      · rw [if_neg hk]; exact closOf_has h
theorem closOf_lookup {cells : List (Str × Addr)} {l : List (Str × NameKind)} {x : Str} {c : Addr} (h : (closOf cells l []).lookup x = some c) (hh : ∀ y ∈ l, y.2 = .free → ∃ c, cells.lookup y.1 = some c) : cells.lookup x = some c := by
  rcases closOf_mem (PySem.mem_of_lookup h) with q | ⟨q1, q2⟩
  · cases q
  · obtain ⟨d, e⟩ := hh _ q2 rfl
    have e' : cells.lookup x = some d := e
    have q1' : c = (cells.lookup x).getD 0 := q1
    rw [e'] at q1' ⊢
    rw [q1']; rfl
theorem lookup_of_mem {α : Type} {l : List (Str × α)} {x : Str} {c : α} (h : (x, c) ∈ l) : ∃ d, l.lookup x = some d := by
  induction l with
  | nil => cases h
  | cons y r ih =>
    obtain ⟨n, d⟩ := y
    rw [List.lookup_cons]
    cases e : x == n with
    | true => exact ⟨d, rfl⟩
    | false =>
      rcases List.mem_cons.mp h with q | q
      · injection q with q1 q2
        rw [q1] at e; simp at e
      · exact ih q
theorem closOf_free {cells : List (Str × Addr)} {l : List (Str × NameKind)} {x : Str} {c : Addr} (hx : (x, NameKind.free) ∈ l) (hc : cells.lookup x = some c) (hh : ∀ y ∈ l, y.2 = .free → ∃ c, cells.lookup y.1 = some c) : (closOf cells l []).lookup x = some c := by
  obtain ⟨d, e⟩ := lookup_of_mem (closOf_has (cells := cells) (acc := []) hx)
  have q := closOf_lookup e hh
  rw [hc] at q
  rw [e, q]
end L2
namespace L2
open PySem PySem.Spec PyProof.Rows
noncomputable def capB (XN : List Str) (names : List (Str × NameKind)) : List Str → List (Option Nat) → Bool
  | [], [] => true
  | _ :: N, none :: r => capB XN names N r
  | x :: N, some i :: r => decide (XN[i]? = some x) && decide (names.lookup x = some .free) && capB XN names N r
  | _, _ => false
theorem capB_len {XN : List Str} {names : List (Str × NameKind)} : ∀ {N : List Str} {ix : List (Option Nat)}, capB XN names N ix = true → ix.length = N.length
  | [], [], _ => rfl
  | _ :: N, none :: r, h => by
    have q := capB_len (N := N) (ix := r) h
    rw [List.length_cons, List.length_cons, q]
  | x :: N, some i :: r, h => by
    unfold capB at h
    rw [Bool.and_eq_true] at h
    have q := capB_len (N := N) (ix := r) h.2
    rw [List.length_cons, List.length_cons, q]
  | [], _ :: _, h => by cases h
  | _ :: _, [], h => by cases h
theorem capB_get {XN : List Str} {names : List (Str × NameKind)} : ∀ {N : List Str} {ix : List (Option Nat)} {j i : Nat}, capB XN names N ix = true → ix[j]? = some (some i) → ∃ x, N[j]? = some x ∧ XN[i]? = some x ∧ names.lookup x = some .free
  | [], [], _, _, _, e => by simp at e
  | _ :: N, none :: r, 0, _, h, e => by simp at e
  | _ :: N, none :: r, j + 1, _, h, e => by
    obtain ⟨x, q⟩ := capB_get (N := N) (ix := r) (j := j) h (by simpa using e)
    exact ⟨x, by simpa using q⟩
  | x :: N, some i :: r, 0, i', h, e => by
    unfold capB at h
    rw [Bool.and_eq_true, Bool.and_eq_true] at h
    simp at e
    subst e
    exact ⟨x, rfl, of_decide_eq_true h.1.1, of_decide_eq_true h.1.2⟩
  | x :: N, some i :: r, j + 1, i', h, e => by
    unfold capB at h
    rw [Bool.and_eq_true] at h
    obtain ⟨y, q⟩ := capB_get (N := N) (ix := r) (j := j) h.2 (by simpa using e)
    exact ⟨y, by simpa using q⟩
  | [], _ :: _, _, _, h, _ => by cases h
  | _ :: _, [], _, _, h, _ => by cases h
noncomputable def capS (ix : List (Option Nat)) (σ : St) : St := ix.map fun o => match o with | none => none | some i => (σ[i]?).getD none
theorem relabel_lookup {scope : Scope} {env : Env} {x : Str} : scope.names.lookup x = some .free → ((relabel scope env).names.lookup x = some .cell ∨ (relabel scope env).names.lookup x = some .free) := by
  unfold relabel
  dsimp only
  generalize scope.names = l
  induction l with
  | nil => intro h; cases h
  | cons y r ih =>
    obtain ⟨n, k⟩ := y
    intro h
    rw [List.map_cons]
    dsimp only
    cases hx : x == n with
    | true =>
      simp only [List.lookup_cons, hx] at h
      cases h
      by_cases c : (NameKind.free == NameKind.free && env.scope.kind == .function && env.kindOf n == some .cell) = true
      · rw [if_pos c]; left; simp [List.lookup_cons, hx]
      · rw [if_neg c]; right; simp [List.lookup_cons, hx]
    | false =>
      simp only [List.lookup_cons, hx] at h
      by_cases c : (k == NameKind.free && env.scope.kind == .function && env.kindOf n == some .cell) = true
      · rw [if_pos c]; simp only [List.lookup_cons, hx]; exact ih h
      · rw [if_neg c]; simp only [List.lookup_cons, hx]; exact ih h
section
variable {X : Cx} {pins : List (Addr × Obj)} {σ : St} {H : Hp} {s : Shared} {N' : List Str} {ix : List (Option Nat)} {scope : Scope} {C : Addr} {fp : List Addr}
end
noncomputable def PIfs (X : Cx) (ifs : List Expr) (t : TT) : Prop :=
  ∀ (pins : List (Addr × Obj)) (s : Shared) (σ : St) (H : Hp) (Q : Bool → Hp → Prop), Inv X pins σ H s → t σ H Q →
    wpAny (model X.prog X.w) X.A (forIn ifs true fun c r => if r = true then do let ok ← isTrue c X.env (eval c X.env); pure (ForInStep.yield ok) else pure (ForInStep.yield r)) (TP X pins σ Q) X.xe s
noncomputable def tYes : TT := fun _ H Q => Q true H
theorem pif_nil {X : Cx} : PIfs X [] tYes := fun _ _ _ H _ I h => wpAny_tests_nil ⟨H, I, h⟩
theorem pif_one {X : Cx} {c : Expr} {t : TT} (h : PT X c t) : PIfs X [c] t := fun pins s σ H Q I hw => wpAny_tests_one (h pins s σ H Q I hw)
noncomputable def compW (g : TG) (tc : TT) (te : TE) (J : It) (σ0 : St) (H1 : Hp) (Fin : List V → Hp → Prop) : Prop :=
  ∃ W : Nat → Nat → List V → St → Hp → Prop, (∃ m, W 0 m [] σ0 H1) ∧ ∀ i m ys σ H, W i m ys σ H →
    (J.stop i H ∧ Fin ys H) ∨
    (J.go i H ∧ ys.length < sizeLine ∧ ∃ N : List V → St → Hp → Prop, (∀ zs σ' H', N zs σ' H' → ∃ m', m' < m ∧ W (i + 1) m' zs σ' H') ∧ ∀ x H2, J.yld i H x H2 → g x σ H2 fun σ2 H3 => tc σ2 H3 fun b H4 =>
      if b = true then te σ2 H4 fun y H5 => N (ys ++ [y]) σ2 H5 else N ys σ2 H4)
noncomputable def tComp (ix : List (Option Nat)) (wi : TI) (g : TG) (tc : TT) (te : TE) : TE := fun σ H Q => wi σ H fun J H1 =>
  compW g tc te J (capS ix σ) H1 fun ys H2 => ∀ p, H2 p = none → Q (.ref p) (upd H2 p (.lst ys))
noncomputable def tCompS (j : Nat) (ix : List (Option Nat)) (wi : TI) (g : TG) (tc : TT) (te : TE) : TS := fun D σ H => wi σ H fun J H1 =>
  compW g tc te J (capS ix σ) H1 fun ys H2 => ∀ p, H2 p = none → D.nx (σ.set j (some (.ref p))) (upd H2 p (.lst ys))
theorem comp_range {lo : Int} {n : Nat} {g : TG} {tc : TT} {te : TE} {σ0 : St} {H1 : Hp} {Fin : List V → Hp → Prop} (Pv : Nat → List V → St → Hp → Prop) (h0 : Pv 0 [] σ0 H1)
    (hs : ∀ i ys σ H, i < n → Pv i ys σ H → ys.length < sizeLine ∧ g (.int (lo + i)) σ H fun σ2 H3 => tc σ2 H3 fun b H4 => if b = true then te σ2 H4 fun y H5 => Pv (i + 1) (ys ++ [y]) σ2 H5 else Pv (i + 1) ys σ2 H4)
    (hd : ∀ ys σ H, Pv n ys σ H → Fin ys H) : compW g tc te (Itr lo n) σ0 H1 Fin := by
  refine ⟨fun i m ys σ H => m = n - i ∧ i ≤ n ∧ Pv i ys σ H, ⟨n, by simp, Nat.zero_le _, h0⟩, ?_⟩
  rintro i m ys σ H ⟨rfl, hi, p⟩
  by_cases hlt : i < n
  · obtain ⟨hz, q⟩ := hs i ys σ H hlt p
    refine .inr ⟨hlt, hz, Pv (i + 1), fun zs σ' H' p' => ⟨n - (i + 1), by (first | lia | omega), rfl, hlt, p'⟩, fun x H2 y => ?_⟩
    obtain ⟨e, y⟩ := y
    subst e y
    exact q
  · have e : i = n := by (first | lia | omega)
    subst e
    exact .inl ⟨Nat.le_refl _, hd ys σ H p⟩
theorem comp_list {K : PySem.W.Frag} {a : Addr} {xs : List V} {g : TG} {tc : TT} {te : TE} {σ0 : St} {H1 : Hp} {Fin : List V → Hp → Prop} (Pv : Nat → List V → St → Hp → Prop) (h0 : Pv 0 [] σ0 H1) (hl : ∀ i ys σ H, i ≤ xs.length → Pv i ys σ H → SqL K H a xs)
    (hs : ∀ i x ys σ H, xs[i]? = some x → Pv i ys σ H → ys.length < sizeLine ∧ g x σ H fun σ2 H3 => tc σ2 H3 fun b H4 => if b = true then te σ2 H4 fun y H5 => Pv (i + 1) (ys ++ [y]) σ2 H5 else Pv (i + 1) ys σ2 H4)
    (hd : ∀ ys σ H, Pv xs.length ys σ H → Fin ys H) : compW g tc te (Itl K a) σ0 H1 Fin := by
  refine ⟨fun i m ys σ H => m = xs.length - i ∧ i ≤ xs.length ∧ Pv i ys σ H, ⟨xs.length, by simp, Nat.zero_le _, h0⟩, ?_⟩
  rintro i m ys σ H ⟨rfl, hi, p⟩
  have q := hl i ys σ H hi p
  by_cases hlt : i < xs.length
  · obtain ⟨hz, q1⟩ := hs i xs[i] ys σ H (by simp [hlt]) p
    refine .inr ⟨⟨xs, xs[i], q, by simp [hlt]⟩, hz, Pv (i + 1), fun zs σ' H' p' => ⟨xs.length - (i + 1), by (first | lia | omega), rfl, hlt, p'⟩, fun x H2 y => ?_⟩
    obtain ⟨e, y⟩ := y
    subst e
    have ex : x = xs[i] := by
      have := y xs q
      rw [List.getElem?_eq_getElem hlt] at this
      exact (Option.some.inj this).symm
    subst ex
    exact q1
  · have e : i = xs.length := by (first | lia | omega)
    subst e
    exact .inl ⟨⟨xs, q, Nat.le_refl _⟩, hd ys σ H p⟩
end L2
namespace L2
open PySem PySem.Spec PyProof.Rows
theorem ObjOk.has {P : Program} {w : World} {H : Hp} {h : Heap} {a : Addr} {o : HO} (x : ObjOk P w H h a o) : ∃ u, h.get? a = some u := by
  cases o with
  | lst xs => obtain ⟨_, _, _, _, e⟩ := x; exact ⟨_, e⟩
  | tup xs => obtain ⟨_, _, _, p⟩ := x; obtain ⟨u, e, _⟩ := p; exact ⟨_, e⟩
  | dK kvs => obtain ⟨_, _, _, _, o, _, _, e, _⟩ := x; exact ⟨_, e⟩
  | dT kvs => obtain ⟨_, _, _, _, o, _, _, e, _⟩ := x; exact ⟨_, e⟩
  | set S n => obtain ⟨o, _, _, _, e, _⟩ := x; exact ⟨_, e⟩
  | ins C dx fs => obtain ⟨_, _, _, e, _⟩ := x; exact ⟨_, e⟩
  | own y => obtain ⟨_, e⟩ := x; exact ⟨_, e⟩
  | xd fs => obtain ⟨_, ⟨_, _, _, e, _⟩, _⟩ := x; exact ⟨_, e⟩
  | rng lo hi => obtain ⟨_, _, _, e⟩ := x; exact ⟨_, e⟩
  | frz ob u => obtain ⟨e, _⟩ := x; exact ⟨_, e⟩
  | tbl ps => exact ⟨_, (show h.get? a = some _ from x)⟩
  | met f y => exact ⟨_, (show h.get? a = some _ from x)⟩
  | ext φ => obtain ⟨_, ⟨_, e⟩, _⟩ := x; exact ⟨_, e⟩
noncomputable def Cov (fs : List Addr) (h : Heap) (H' : Hp) (h' B : Heap) : Prop := ∀ b o, h'.get? b = some o → b ∉ fs → ((∃ u, h.get? b = some u) ∨ (H' b).isSome = true) → B.get? b = some o
noncomputable def Flies (outer : List Env) (h : Heap) (H' : Hp) (a C : Addr) (h' : Heap) : Prop := ∃ B t, Heap.FlyingW B outer a (.ref C) (.ref t) h' ∧ Cov (frs outer) h H' h' B
noncomputable def CXR (P : Program) (w : World) : CXT := fun outer H s E e s' => ∃ (a C : Addr) (H' : Hp), e = .ref a ∧ s'.os = s.os ∧ AllBare s'.gens ∧ Un (frs outer) [] H H' s.heap s'.heap ∧ HOk P w H' s'.heap ∧ H' a = none ∧ s.heap.get? a = none ∧
  Flies outer s.heap H' a C s'.heap ∧ E (.ref C) none H'
theorem pass0R {P : Program} {w : World} {X : Cx} : Passes (CXR P w) X E0 := fun _ _ _ _ _ _ _ h => by
  obtain ⟨_, _, _, _, _, _, _, _, _, _, _, q⟩ := h
  exact q.elim
theorem cov_moves {P : Program} {w : World} {fs : List Addr} {H H' : Hp} {h h' h2 B : Heap} (u : Un fs [] H H' h h') (ok : HOk P w H' h') (fr : ∀ b ∈ fs, H' b = none ∧ ∃ o, h'.get? b = some o ∧ ∀ vs, o.data ≠ .fields vs) (cv : Cov fs h H' h' B) (st : B.StaysIn h2) (sm : h'.UpToSlots h2) :
    Un fs [] H H' h h2 ∧ HOk P w H' h2 ∧ Cov fs h H' h2 B := by
  have tr : ∀ b u, H' b = some u → ∀ o, h'.get? b = some o → h2.get? b = some o := fun b u e o q => st b o (cv b o q (fun hb => by rw [(fr b hb).1] at e; cases e) (.inr (by rw [e]; rfl)))
  refine ⟨⟨fun b o e n hb hx => st b o (cv b o (u.keep b o e n hb hx) hb (.inl ⟨o, e⟩)), fun b o e n hb hx => ?_, u.free, fun b o e hx => ?_, u.tups, u.frzs, u.tbls⟩, fun a o e => ?_, fun b o e hb z => ?_⟩
  · obtain ⟨sl, q⟩ := u.slot b o e n hb hx
    obtain ⟨_, o1, q1, nf⟩ := fr b hb
    rw [q] at q1
    cases q1
    obtain ⟨sl2, q2⟩ := sm b _ q nf
    exact ⟨sl2, q2⟩
  · obtain ⟨o1, q1⟩ := u.there b o e hx
    by_cases hb : b ∈ fs
    · obtain ⟨_, o2, q2, nf⟩ := fr b hb
      obtain ⟨sl2, q3⟩ := sm b _ q2 nf
      exact ⟨_, q3⟩
    · exact ⟨o1, st b o1 (cv b o1 q1 hb (.inl ⟨o, e⟩))⟩
  · refine (ok a o e).stay (fun b v hb q => ?_) (fun _ q => q) fun _ _ q => q
    rcases hb with hb | hb
    · subst hb; exact tr b _ e v q
    · exact tr b _ hb v q
  · have h1 : ∃ o1, h'.get? b = some o1 := by
      rcases z with ⟨o0, z⟩ | z
      · exact u.there b o0 z (by simp)
      · cases q : H' b with
        | none => rw [q] at z; cases z
        | some v => exact (ok b v q).has
    obtain ⟨o1, q1⟩ := h1
    have q2 := cv b o1 q1 hb z
    have q3 := st b o1 q2
    rw [e] at q3
    cases q3
    exact q2
section
variable {X : Cx} {E : XK}
noncomputable def Lets (X : Cx) (E : XK) : Prop := X.xe = fun e s' => wpAny (model X.prog X.w) X.A (leaving X.env e) (fun _ s'' => CXR X.prog X.w X.outer X.H₀ X.s₀ E e s'') (fun e' s'' => CXR X.prog X.w X.outer X.H₀ X.s₀ E e' s'') s'
structure Fnb (X : Cx) : Prop where
  st : X.stack = X.env :: X.outer
  fr : X.env.frame = some X.env.locals
  ex : X.ex = []
  cm : X.calm = true
theorem frs_stack (F : Fnb X) : frs X.stack = X.env.locals :: X.fs := by
  rw [F.st]
  unfold frs
  rw [List.filterMap_cons, F.fr]
  rfl
theorem fr_facts {P : Program} {w : World} {pins : List (Addr × Obj)} {σ : St} {H H' : Hp} {s : Shared} {h' : Heap} {B : Heap} {a : Addr} {cls a0 : Value} (I : Inv X pins σ H s) (u : Un (frs X.stack) [] H H' s.heap h') (ok : HOk P w H' h') (fl : Heap.FlyingW B X.stack a cls a0 h') :
    ∀ b ∈ frs X.stack, H' b = none ∧ ∃ o, h'.get? b = some o ∧ ∀ vs, o.data ≠ .fields vs := fun b hb => by
  obtain ⟨_, o, e, _⟩ := I.stack.mem hb
  exact ⟨u.free b o e (I.stkFree b hb) (by simp), (fl.2.2.1.mem hb).2⟩
theorem leave_tail {pins : List (Addr × Obj)} {σ : St} {H H' : Hp} {s s3 : Shared} {B : Heap} {a C t : Addr} (F : Fnb X) (I : Inv X pins σ H s) (h1 : s3.os = s.os) (h2 : AllBare s3.gens) (u3 : Un (frs X.stack) [] H H' s.heap s3.heap) (ok3 : HOk X.prog X.w H' s3.heap)
    (cv3 : Cov (frs X.stack) s.heap H' s3.heap B) (na : H' a = none) (nw : s.heap.get? a = none) (fl3 : Heap.FlyingW B X.outer a (.ref C) (.ref t) s3.heap) (q : E (.ref C) none H') : CXR X.prog X.w X.outer X.H₀ X.s₀ E (.ref a) s3 := by
  have nb : ∀ b o, X.s₀.heap.get? b = some o → b ≠ X.env.locals := fun b o e => Nat.ne_of_lt (Nat.lt_of_lt_of_le (Heap.lt_size e) I.ok.above)
  have hb := I.base
  rw [F.ex] at hb
  have nf : ∀ b o, X.s₀.heap.get? b = some o → b ∉ X.fs → b ∉ frs X.stack := fun b o e z z' => by
    rw [frs_stack F] at z'
    rcases List.mem_cons.mp z' with z' | z'
    · exact nb b o e z'
    · exact z z'
  have fL : H' X.env.locals = none := by
    obtain ⟨m, ⟨o, _, _, ho, _⟩, _⟩ := I.loc
    exact u3.free _ o ho I.free (by simp)
  refine ⟨a, C, H', rfl, h1.trans I.os, h2, ⟨fun b o e n z _ => ?_, fun b o e n z _ => ?_, fun b o e n _ => ?_, fun b o e _ => ?_, fun b xs e => u3.tups b xs (hb.tups b xs e), fun b o v e => u3.frzs b o v (hb.frzs b o v e), fun b ps e => ?_⟩, ok3, na, ?_, ⟨B, t, fl3, fun b o e z z1 => cv3 b o e ?_ ?_⟩, q⟩
  · exact u3.keep b o (hb.keep b o e n z (by simp)) (hb.free b o e n (by simp)) (nf b o e z) (by simp)
  · obtain ⟨sl, q1⟩ := hb.slot b o e n z (by simp)
    obtain ⟨sl2, q2⟩ := u3.any q1 (hb.free b o e n (by simp)) (by simp)
    exact ⟨sl2, q2⟩
  · obtain ⟨o1, q1⟩ := hb.there b o e (by simp)
    exact u3.free b o1 q1 (hb.free b o e n (by simp)) (by simp)
  · obtain ⟨o1, q1⟩ := hb.there b o e (by simp)
    exact u3.there b o1 q1 (by simp)
  · obtain ⟨m1, e1⟩ := hb.tbls b ps e
    obtain ⟨m2, e2⟩ := u3.tbls b _ e1
    exact ⟨m1 ++ m2, by rw [e2, Array.append_assoc]⟩
  · cases q1 : X.s₀.heap.get? a with
    | none => rfl
    | some o =>
      obtain ⟨o1, q2⟩ := hb.there a o q1 (by simp)
      rw [nw] at q2; cases q2
  · intro z'
    rw [frs_stack F] at z'
    rcases List.mem_cons.mp z' with z' | z'
    · subst z'
      rcases z1 with ⟨o0, z1⟩ | z1
      · exact nb _ o0 z1 rfl
      · rw [fL] at z1; cases z1
    · exact z z'
  · rcases z1 with ⟨o0, z1⟩ | z1
    · exact .inl (hb.there b o0 z1 (by simp))
    · exact .inr z1
theorem pass_up (F : Fnb X) (L : Lets X E) : Passes (CXR X.prog X.w) X E := by
  intro pins σ H s e s' I h
  obtain ⟨a, C, H', e1, h1, h2, u, ok, na, nw, ⟨B, t, fl, cv⟩, q⟩ := h
  subst e1
  rw [L]
  have fr := fr_facts I u ok fl
  have fl' := fl
  rw [F.st] at fl'
  refine wpAny_leaves_onW (by rw [I.ok.frames, F.st]) F.fr fl' fun h3 fl3 sm => ?_
  obtain ⟨u3, ok3, cv3⟩ := cov_moves u ok fr cv fl3.1 sm
  exact leave_tail (s3 := { s' with heap := h3 }) F I h1 h2 u3 ok3 cv3 na nw fl3 q
theorem exc_obj {K : PySem.W.Frag} {h : Heap} {C : Addr} {bmB : List Value} {newId : String} (KX : K.In h) (q : PySem.W.excIn K C bmB newId = true) :
    ∃ bm N nm qn bs hdct sn sub ab col dd k0 k1 k2 k3 k5 mN, h.get? C = some (excClassObj nm qn C N bs bm hdct sn sub ab col dd k0 k1 k2 k3 k5 newId) ∧ h.Ns N mN ∧ mN "__init__" = none ∧ OwnTail h bmB bm := by
  unfold PySem.W.excIn at q
  split at q
  case h_1 dd cd sl lk =>
    split at q
    case h_1 C' bm a0 a1 a2 a3 n a5 hm hs =>
      rw [Bool.and_eq_true, Bool.and_eq_true, Bool.and_eq_true, Bool.and_eq_true, Bool.and_eq_true] at q
      obtain ⟨⟨⟨⟨⟨q1, q2⟩, q3⟩, q4⟩, q5⟩, q6⟩ := q
      have e1 : C' = C := beq_iff_eq.mp q1
      have e2 : n = newId := beq_iff_eq.mp q2
      subst e1 e2
      obtain ⟨sl⟩ := sl
      have e3 : sl = [a0, a1, a2, a3, some (.builtin n), a5] := hs
      subst e3
      obtain ⟨c1, c2, c3, c4, c5, c6, c7, c8, c9, c10, c11⟩ := cd
      have e4 : c3 = .ref C' :: bm := hm
      have e5 : c11 = false := by simpa using q3
      subst e4 e5
      exact ⟨bm, c4, c1, c5, c2, c6, c7, c8, c9, c10, dd, a0, a1, a2, a3, a5, _, KX _ _ lk, .of_isNs (PySem.W.isNs_of_in KX q5), PySem.W.nsMap_none_of_in KX q5 (beq_iff_eq.mp q6), PySem.W.tail_of_in KX q4⟩
    case h_2 => cases q
  case h_2 => cases q
noncomputable abbrev veMro : List Value := [.type "ValueError", .type "Exception", .type "BaseException", .type "object"]
theorem ps_raise {x : Str} {C : Addr} {msg : Str} {j : Nat} {np p1 cpos pos : Pos} (F : Fnb X) (L : Lets X E) (hg : Gl X x) (hm : X.mg x = some (.ref C)) (hq : PySem.W.excIn X.K C veMro "ValueError.__new__" = true) (hd : (x == ("__debug__" : Str)) = false := by decide)
    (he : starEach [.Constant (.str msg) j p1] X.env = [(false, eval (.Constant (.str msg) j p1) X.env)] := by rfl) : PS X (.Raise (some (.Call (.Name x np) [.Constant (.str msg) j p1] [] cpos)) none pos) (fun _ _ H => E (.ref C) none H) := by
  intro pins s σ H D I h
  obtain ⟨bm, N, nm, qn, bs, hdct, sn, sub, ab, col, dd, k0, k1, k2, k3, k5, mN, hC, hN, hni, T⟩ := exc_obj I.kIn hq
  refine wpAny_Raise_call_subT (C := C) (nm := nm) (q := qn) (N := N) (bs := bs) (bm := bm) (hdct := hdct) (sn := sn) (sub := sub) (ab := ab) (col := col) (dd := dd) (k0 := k0) (k1 := k1) (k2 := k2) (k3 := k3) (k5 := k5)
    PySem.F.excBase_ValueError (mN := mN) (T.hasType PySem.F.excBase_ValueError.hasBase) (I.ok.hd F.cm) (by rw [he]; rfl) hni (ld_glob I hg hm ⟨rfl, ?_⟩ hd)
  rw [he]
  refine Calls.evalArgs_plain ?_
  show wpAny _ _ (spliced ((false, eval (.Constant (.str msg) j p1) X.env) :: backTo cpos [])) _ _ s
  refine Calls.spliced_cons (Calls.Constant_str (Calls.spliced_nil ⟨rfl, by show 1 ≤ sizeLine; decide, hC, hN, T, fun h' a mk => ?_⟩))
  rw [L]
  have hin : ∀ env ∈ X.stack, ∀ b, env.frame = some b → b ∈ frs X.stack := fun env hv b hb => List.mem_filterMap.mpr ⟨env, hv, hb⟩
  have ff : s.heap.FunFrames (PySem.W.hideAll s.heap (frs X.stack)) X.stack := PySem.W.funFrames_hide I.stack hin
  have ff' := ff
  rw [F.st] at ff'
  refine wpAny_leaves_madeW (base := PySem.W.hideAll s.heap (frs X.stack)) (h := s.heap) (by rw [I.ok.frames, F.st]) F.fr (fun b o z => PySem.W.of_hideAll _ z) (by rw [F.st]; exact ff') mk fun h3 t fl tp nt sm => ?_
  have u : Un (frs X.stack) [] H H s.heap h' := Un.kept mk.keeps
  have fr : ∀ b ∈ frs X.stack, H b = none ∧ ∃ o, h'.get? b = some o ∧ ∀ vs, o.data ≠ .fields vs := fun b hb => by
    obtain ⟨_, o, e, nf⟩ := I.stack.mem hb
    exact ⟨I.stkFree b hb, o, mk.keeps b o e, nf⟩
  have cv : Cov (frs X.stack) s.heap H h' (PySem.W.hideAll s.heap (frs X.stack)) := fun b o e nb z => by
    have z1 : ∃ u, s.heap.get? b = some u := by
      rcases z with z | z
      · exact z
      · cases q1 : H b with
        | none => rw [q1] at z; cases z
        | some v => exact (I.hok b v q1).has
    obtain ⟨v, z1⟩ := z1
    have z2 := mk.keeps b v z1
    rw [e] at z2
    cases z2
    exact PySem.W.hideAll_get _ z1 nb
  obtain ⟨u3, ok3, cv3⟩ := cov_moves u (I.hok.kept mk.keeps) fr cv fl.1 sm
  have na : H a = none := by
    cases q1 : H a with
    | none => rfl
    | some v =>
      obtain ⟨o, z⟩ := (I.hok a v q1).has
      rw [mk.new] at z; cases z
  exact leave_tail (s3 := { s with heap := h3, toks := s.toks + 1 }) F I rfl I.bare u3 ok3 cv3 na mk.new fl h
end
end L2
namespace L2
open PySem PySem.Spec PyProof.Rows
noncomputable def ExcAt (a C : Addr) : Heap → Prop := fun h => ∃ o vs, h.get? a = some o ∧ o.cls = .ref C ∧ o.data = .fields vs
noncomputable def excO (a C : Addr) : HO := .ext (ExcAt a C)
theorem ExcAt.st {a C : Addr} : ∀ h1 h2 : Heap, ExcAt a C h1 → (∀ o, h1.get? a = some o → h2.get? a = some o) → ExcAt a C h2 := fun _ _ ⟨o, vs, e, c, d⟩ k => ⟨o, vs, k o e, c, d⟩
noncomputable def Cx.like (X : Cx) (A' : Around) (cm : Bool) (pn' : List (Addr × Obj)) (xe' : Value → Shared → Prop) : Cx := { X with A := A', calm := cm, pn := pn', xe := xe' }
section
variable {X : Cx} {pins pins' : List (Addr × Obj)} {σ : St} {H : Hp} {s : Shared} {A' : Around} {cm : Bool} {pn' : List (Addr × Obj)} {xe' : Value → Shared → Prop}
theorem Inv.like (I : Inv X pins σ H s) (hf : A'.frames = X.A.frames) (hd : cm = true → A'.handled = none) (hp : ∀ p ∈ pn' ++ pins', p ∈ X.pn ++ pins) : Inv (X.like A' cm pn' xe') pins' σ H s :=
  ⟨⟨I.ok.mod, I.ok.kind, I.ok.glob, I.ok.blt, I.ok.above, I.ok.inj, I.ok.has, I.ok.cab, hd, hf.trans I.ok.frames, I.ok.stk, I.ok.exf, I.ok.bs, I.ok.bsz, I.ok.noex, I.ok.exfs, I.ok.funs, I.ok.frf⟩, I.os, I.bare, I.base, I.loc, I.cell, I.free, I.freeC, fun p h => I.pin p (hp p h), I.hok, I.len⟩
theorem Inv.unlike (ok : X.Ok) (I : Inv (X.like A' cm pn' xe') pins' σ H s) (hp : ∀ p ∈ X.pn ++ pins, p ∈ pn' ++ pins') : Inv X pins σ H s :=
  ⟨ok, I.os, I.bare, I.base, I.loc, I.cell, I.free, I.freeC, fun p h => I.pin p (hp p h), I.hok, I.len⟩
theorem Inv.track {σ0 : St} {H0 H' : Hp} {s0 s1 : Shared} {a : Addr} {o : HO} (hex : X.ex = []) (I0 : Inv X pins σ0 H0 s0) (nw : s0.heap.get? a = none) (J : Inv X pins σ H' s1) (na : H' a = none) (new : ObjOk X.prog X.w (upd H' a o) s1.heap a o) : Inv X pins σ (upd H' a o) s1 := by
  have ne : ∀ b u, s0.heap.get? b = some u → b ≠ a := fun b u e z => by rw [z, nw] at e; cases e
  have b0 := I0.base
  rw [hex] at b0
  have b1 := J.base
  refine ⟨J.ok, J.os, J.bare, ⟨b1.keep, b1.slot, fun b u e n z => ?_, b1.there, fun b xs e => ?_, fun b u v e => ?_, fun b ps e => ?_⟩, J.loc, J.cell, ?_, fun x c e => ?_, fun p hp => ?_, fun b u e => ?_, J.len⟩
  · obtain ⟨u1, e1⟩ := b0.there b u e (by simp)
    rw [upd_ne (ne b u1 e1)]; exact b1.free b u e n z
  · have q := b1.tups b xs e
    rw [upd_ne (ne_of_none q na)]; exact q
  · have q := b1.frzs b u v e
    rw [upd_ne (ne_of_none q na)]; exact q
  · obtain ⟨mr, q⟩ := b1.tbls b ps e
    exact ⟨mr, by rw [upd_ne (ne_of_none q na)]; exact q⟩
  · obtain ⟨m, ⟨oL, _, _, ho, _⟩, _⟩ := I0.loc
    rw [upd_ne (ne _ oL ho)]; exact J.free
  · obtain ⟨v, oc, ho, _⟩ := I0.cell x c e
    rw [upd_ne (ne _ oc ho)]; exact J.freeC x c e
  · obtain ⟨z1, z2, z3, z4, z5⟩ := J.pin p hp
    refine ⟨z1, ?_, z3, z4, z5⟩
    rw [upd_ne (ne _ _ (I0.pin p hp).1)]; exact z2
  · by_cases hb : b = a
    · subst hb; rw [upd_same] at e; cases e; exact new
    · rw [upd_ne hb] at e
      exact (J.hok b u e).stay (fun _ _ _ q => q) (fun c q => by rw [upd_ne (ne_of_none q na)]; exact q) fun c xs q => by rw [upd_ne (ne_of_none q na)]; exact q
theorem name_goes {M : Model} {A : Around} {E : Value → Shared → Prop} {j : Nat} {n : Str} {pos : Pos} (I : Inv X pins σ H s) (hN : X.N.Nodup) (hj : X.N[j]? = some n) (hn : X.env.scope.names.lookup n = some .local) :
    wpAny M A (do bindName X.env n .none; unbindBehindTheSuite X.env n pos) (fun _ s' => Inv X pins (σ.set j none) H s') E s := by
  obtain ⟨m, hns, hl⟩ := id I.loc
  have hcls : (X.env.scope.kind == .class || (X.env.scope.kind == .module && X.env.locals != X.env.globals)) = false := by rw [I.ok.kind]; rfl
  refine wpAny_nameGoes_keeps hn hns hcls fun h' v hn' sb => ?_
  have neL : ∀ b o, X.s₀.heap.get? b = some o → b ≠ X.env.locals := fun b o e => Nat.ne_of_lt (Nat.lt_of_lt_of_le (Heap.lt_size e) I.ok.above)
  obtain ⟨oL, _, _, hoL, _⟩ := id hns
  refine ⟨I.ok, I.os, I.bare, ⟨fun b o e z hb hx => ?_, fun b o e z hb hx => ?_, I.base.free, fun b o e hx => ?_, I.base.tups, I.base.frzs, I.base.tbls⟩, ⟨_, hn', fun i y v' e1 e2 e3 => ?_⟩, fun y c e => ?_, I.free, I.freeC, fun p hp => ?_, fun b ob e => ?_, by rw [List.length_set]; exact I.len⟩
  · exact (sb.2 b (neL b o e)).trans (I.base.keep b o e z hb hx)
  · obtain ⟨sl, q⟩ := I.base.slot b o e z hb hx
    exact ⟨sl, (sb.2 b (neL b o e)).trans q⟩
  · obtain ⟨o', q⟩ := I.base.there b o e hx
    exact ⟨o', (sb.2 b (neL b o e)).trans q⟩
  · have hij : i ≠ j := by
      intro z
      subst z
      rw [List.getElem?_set_self' ] at e2
      cases q : σ[i]? with
      | none => rw [q] at e2; cases e2
      | some u => rw [q] at e2; cases e2
    rw [List.getElem?_set_ne (Ne.symm hij)] at e2
    obtain ⟨u, r, l⟩ := hl i y v' e1 e2 e3
    refine ⟨u, r, ?_⟩
    rcases l with ⟨k, e⟩ | ⟨k, c, e, z⟩
    · refine .inl ⟨k, ?_⟩
      have : y ≠ n := fun z => hij (nodup_ix hN e1 (z ▸ hj))
      simp [this, e]
    · exact .inr ⟨k, c, e, z.sameBut sb (I.cne y c e)⟩
  · obtain ⟨w', z⟩ := I.cell y c e
    exact ⟨w', z.sameBut sb (I.cne y c e)⟩
  · obtain ⟨z1, z2, z3, z4, z5⟩ := I.pin p hp
    exact ⟨(sb.2 p.1 z3).trans z1, z2, z3, z4, z5⟩
  · refine (I.hok b ob e).stay (fun c w' hc q => (sb.2 c ?_).trans q) (fun _ q => q) fun _ _ q => q
    intro z
    rcases hc with hc | hc
    · rw [← hc, z, I.free] at e; cases e
    · rw [z, I.free] at hc; cases hc
end
noncomputable def Cx.tried (X : Cx) (pn : List (Addr × Obj)) (E : XK) : Cx := X.like X.A X.calm pn (fun e s' => ∃ pins σ H s, Inv (X.like X.A X.calm pn (fun _ _ => False)) pins σ H s ∧ CXR X.prog X.w X.stack H s E e s')
theorem pass_try {X : Cx} {pn : List (Addr × Obj)} {E : XK} : Passes (CXR X.prog X.w) (X.tried pn E) E := fun pins σ H s e s' I h =>
  ⟨pins, σ, H, s, ⟨⟨I.ok.mod, I.ok.kind, I.ok.glob, I.ok.blt, I.ok.above, I.ok.inj, I.ok.has, I.ok.cab, I.ok.hd, I.ok.frames, I.ok.stk, I.ok.exf, I.ok.bs, I.ok.bsz, I.ok.noex, I.ok.exfs, I.ok.funs, I.ok.frf⟩, I.os, I.bare, I.base, I.loc, I.cell, I.free, I.freeC, I.pin, I.hok, I.len⟩, h⟩
noncomputable def Cx.hand (X : Cx) (pn : List (Addr × Obj)) (a : Addr) : Cx := X.like (X.A.mark (some (.ref a))) false pn (fun _ _ => False)
inductive rTr (K : PySem.W.Frag) (R : Addr) (j : Nat) (th : TS) (D : Ends) (σ : St) (c : Value) (H' : Hp) : Prop
  | mk (C : Addr) : (c = .ref C) → (PySem.W.exmOne K (.ref C) (.ref R) = some true) → (∀ a, H' a = none → th { nx := fun σ' H2 => D.nx (σ'.set j none) H2, rt := D.rt, bk := fun σ' H2 => D.bk (σ'.set j none) H2, ct := fun σ' H2 => D.ct (σ'.set j none) H2 } ((σ.map fun _ => none).set j (some (.ref a))) (upd H' a (excO a C))) → rTr K R j th D σ c H'
noncomputable def tTry (K : PySem.W.Frag) (R : Addr) (j : Nat) (tb : XK → TS) (th : TS) : TS := fun D σ H => tb (fun c _ H' => rTr K R j th D σ c H') D σ H
theorem ps_try {X : Cx} {body : List Stmt} {b0 : Stmt} {suite : List Stmt} {x n : Str} {R : Addr} {j : Nat} {tb : XK → TS} {th : TS} {np hpos pos : Pos} (F : Fnb X) (hN : X.N.Nodup) (hj : X.N[j]? = some n) (hn : X.env.scope.names.lookup n = some .local) (hg : Gl X x) (hm : X.mg x = some (.ref R))
    (hb : ∀ pn E, PSs (X.tried pn E) body (tb E)) (hh : ∀ pn a, PSs (X.hand pn a) (b0 :: suite) th) (hd : (x == ("__debug__" : Str)) = false := by decide) :
    PS X (.Try body [.ExceptHandler (some (.Name x np)) (some n) (b0 :: suite) hpos] [] [] pos) (tTry X.K R j tb th) := by
  intro pins s σ H D I h
  refine wpAny_Try_except ?_
  refine wpAny_mono (hb (X.pn ++ pins) _ [] s σ H D (I.like rfl I.ok.hd (by simp)) h) (fun f s1 q => ?_) (fun e s1 q => ?_)
  · cases f with
    | next =>
      obtain ⟨σ', H', I', q⟩ := q
      exact wpAny_execs_nil ⟨σ', H', I'.unlike I.ok (by simp), q⟩
    | brk =>
      obtain ⟨σ', H', I', q⟩ := q
      exact ⟨σ', H', I'.unlike I.ok (by simp), q⟩
    | cont =>
      obtain ⟨σ', H', I', q⟩ := q
      exact ⟨σ', H', I'.unlike I.ok (by simp), q⟩
    | ret v =>
      obtain ⟨v', σ', H', I', r, q⟩ := q
      exact ⟨v', σ', H', I'.unlike I.ok (by simp), r, q⟩
  · obtain ⟨pins', σ1, H1, s0, I1, a, C, H', e1, h1, h2, u, ok, na, nw, ⟨B, t, fl, cv⟩, C', ec, hx, q⟩ := q
    subst e1
    cases ec
    have fr := fr_facts (X := X.like X.A X.calm (X.pn ++ pins) (fun _ _ => False)) I1 u ok fl
    have fl' := fl
    rw [F.st] at fl'
    refine wpAny_looks_onW (by rw [I.ok.frames, F.st]) F.fr fl' fun h4 held sm4 => ?_
    refine wpAny_landsW held fun h5 fl5 sm5 => ?_
    obtain ⟨u5, ok5, cv5⟩ := cov_moves u ok fr cv fl5.1 (sm4.trans sm5)
    have J5 : Inv (X.like X.A X.calm (X.pn ++ pins) (fun _ _ => False)) pins' σ1 H' { s1 with heap := h5 } := I1.call' (s' := { s1 with heap := h5 }) (ch := []) h1 u5 ok5 h2 (fun _ z => nomatch z)
    refine wpAny_handleBy_cons (codeAny_handlers_test ?_) (by intro z; cases z)
    refine Calls.Name_function_global J5.ok.kind hg (Calls.loadGlobal_global (by rw [show X.env.globals = mainGlobals from J5.ok.glob]; exact J5.mod.glob.keeps J5.bk) hm ?_) hd
    obtain ⟨ob, hob, hoc⟩ := fl5.there
    have LT : PySem.W.Looks (model X.prog X.w) h5 (typeOf (.ref a)) (.ref C) := hoc ▸ (PySem.W.Looks.ld hob).andThen .now
    refine PySem.W.exm_one J5.kIn LT hx _ _ _ _ (fun _ _ z => z) ?_
    refine codeAny_handlers_suite_as ?_
    refine lands_againW fl5 fun h6 fl6 sm6 => ?_
    have fl5' : Heap.FlyingW B X.stack a (.ref C) (.ref t) h5 := by rw [F.st]; exact fl5
    obtain ⟨u6, ok6, cv6⟩ := cov_moves u5 ok5 (fr_facts (X := X.like X.A X.calm (X.pn ++ pins) (fun _ _ => False)) I1 u5 ok5 fl5') cv5 fl6.1 sm6
    have J6 : Inv (X.like X.A X.calm (X.pn ++ pins) (fun _ _ => False)) pins' σ1 H' { s1 with heap := h6 } := I1.call' (s' := { s1 with heap := h6 }) (ch := []) h1 u6 ok6 h2 (fun _ z => nomatch z)
    obtain ⟨oe, ws, hoe, hoec, hoed, _⟩ := fl6.first
    have ex6 : ExcAt a C h6 := ⟨oe, ws, hoe, hoec, hoed⟩
    have J7 := Inv.track (X := X.like X.A X.calm (X.pn ++ pins) (fun _ _ => False)) (o := excO a C) (show X.ex = [] from F.ex) I1 nw J6 na (show ObjOk _ _ _ h6 a (.ext (ExcAt a C)) from ⟨ex6, ⟨oe, hoe⟩, ExcAt.st⟩)
    have J8 := J7.weak (σ' := σ.map fun _ => none) (by rw [List.length_map, I.len]; exact J7.len.symm) (fun i v z => by rw [List.getElem?_map] at z; cases q1 : σ[i]? with | none => rw [q1] at z; cases z | some u => rw [q1] at z; cases z)
    have J9 : Inv (X.hand (X.pn ++ pins) a) [] (σ.map fun _ => none) (upd H' a (excO a C)) { s1 with heap := h6 } := J8.like (A' := X.A.mark (some (.ref a))) (cm := false) (pn' := X.pn ++ pins) rfl (fun z => nomatch z) (fun p hp => List.mem_append_left _ (by rw [List.append_nil] at hp; exact hp))
    refine store_ok (X := X.hand (X.pn ++ pins) a) J9 hN hj (.inl hn) (show RelV (.ref a) (.ref a) from rfl) (fun s7 I7 => ?_) (.inr hn)
    refine wpAny_mono (hh (X.pn ++ pins) a [] s7 _ _ _ I7 (q a na)) (fun f s8 z => ?_) fun _ _ z => z.elim
    cases f with
    | next =>
      obtain ⟨σ', H2, I', z⟩ := z
      exact thn (name_goes (I'.unlike (X := X) (pins := pins) I.ok (by simp)) hN hj hn) fun _ s9 I9 => ⟨_, H2, I9, z⟩
    | brk =>
      obtain ⟨σ', H2, I', z⟩ := z
      exact thn (name_goes (I'.unlike (X := X) (pins := pins) I.ok (by simp)) hN hj hn) fun _ s9 I9 => ⟨_, H2, I9, z⟩
    | cont =>
      obtain ⟨σ', H2, I', z⟩ := z
      exact thn (name_goes (I'.unlike (X := X) (pins := pins) I.ok (by simp)) hN hj hn) fun _ s9 I9 => ⟨_, H2, I9, z⟩
    | ret v =>
      obtain ⟨v', σ', H2, I', r, z⟩ := z
      exact thn (name_goes (I'.unlike (X := X) (pins := pins) I.ok (by simp)) hN hj hn) fun _ s9 I9 => ⟨v', _, H2, I9, r, z⟩
end L2
namespace L2
open PySem PySem.Spec PyProof.Rows PySem.W PySem.Builtin PySem.Builtin.ObjectAttr PySem.Builtin.Getset_descriptor
structure ExcCls (K : Frag) (D : Addr) : Prop where
  ga : findIn K (.ref D) "__getattribute__" = some (some (.builtin "BaseException.__getattribute__"))
  gh : findIn K (.ref D) "__getattr__" = some none
  ca : findIn K (.ref D) "__class__" = some (some (.builtin "object.__class__"))
  sg : specialIn K (.builtin "object.__class__") "__get__" = some (some (.builtin "getset_descriptor.__get__"))
  tk : takesIn K (.builtin "object.__class__") = some true
  mo : mroIn K D (.type "object") = some true
  mb : mroIn K D (.type "BaseException") = some true
  cl : (clsIn K D).isSome = true
section
variable {K : Frag} {D x : Addr} {prog : Program} {w : World} {A : Around} {E : Value → Shared → Prop}
theorem exc_find {M : Model} {h : Heap} (KX : K.In h) (C : ExcCls K D) : Looks M h (find (.ref x) (.ref D) "__class__") (.bind (.builtin "getset_descriptor.__get__") (.builtin "object.__class__")) := by
  have L1 := looks_findIn (M := M) KX C.ca
  have L2 : Looks M h (getOf (some (.builtin "object.__class__"))) (some (.builtin "getset_descriptor.__get__")) := looks_specialIn KX C.sg
  have L3 := looks_takesIn (M := M) KX C.tk
  refine L1.andThen (L2.andThen ?_)
  exact (show Looks M h (dataDescriptor? (some (.builtin "object.__class__")) (some (.builtin "getset_descriptor.__get__"))) (some (.builtin "getset_descriptor.__get__", .builtin "object.__class__")) from L3.andThen .now).andThen (Looks.tag .now)
theorem exc_get {R : Result → Shared → Prop} {s : Shared} {tp : Value} (KX : K.In s.heap) (LT : Looks (model prog w) s.heap (typeOf (.ref x)) (.ref D)) (C : ExcCls K D) (h : R (.ok (.ret (.ref D))) s) :
    codeAny (model prog w) A (.call (.builtin "getset_descriptor.__get__") ⟨[.builtin "object.__class__", .ref x, tp], []⟩) R s := by
  obtain ⟨hh, g, dr, t, os⟩ := s
  have L1 := looks_mroIn (M := model prog w) KX C.mo
  refine codeAny_call_builtin KF.slot_gs.plain KF.entry_gs (KF.slot_gs.check _ _ _ _ _ _ _ _ KF.type_class (KF.args_gs _ _ _) ?_)
  unfold Builtin.«getset_descriptor.__get__» descrGet
  rw [dga_obj]
  refine wpAny_bind (wpAny_pure ?_)
  unfold descrGetter descrCheckInstance descrNameAndClass isInstance
  simp only [KF.owner_class]
  repeat lk
  refine ⟨Code.quiet_builtin _ (by decide +kernel), codeAny_builtin KF.entry_class ?_⟩
  unfold Builtin.«object.__class__» shownTypeOf
  repeat lk
  exact h
theorem exc_class {Q : Option Value → Shared → Prop} {s : Shared} (KX : K.In s.heap) (LT : Looks (model prog w) s.heap (typeOf (.ref x)) (.ref D)) (C : ExcCls K D) (h : Q (some (.ref D)) { s with toks := s.toks + 1 }) : wpAny (model prog w) A (getAttr? (.ref x) "__class__") Q E s := by
  obtain ⟨hh, g, d, t, os⟩ := s
  have L1 := looks_findIn (M := model prog w) KX C.ga
  have L2 := looks_findIn (M := model prog w) KX C.gh
  have LF := exc_find (x := x) (M := model prog w) KX C
  have LB : Looks (model prog w) hh (isInstance (.ref x) (.type "BaseException")) true := LT.andThen (looks_mroIn KX C.mb)
  unfold getAttr? getAttrBy? getAttrBy
  refine wpAny_bind (wpAny_mkText (wpAny_bind (wpAny_attempt (wpAny_holding (wpAny_bind (LT.at (wpAny_bind (L1.at ?_))))))))
  show wpAny _ _ (getAttrByItsOwn (.ref x) (.str "__class__" t) (.ref D) (.builtin "BaseException.__getattribute__") false false) _ _ _
  unfold getAttrByItsOwn hookBefore
  refine wpAny_bind (L2.at ?_)
  refine wpAny_bind (wpAny_attempt (wpAny_holding ?_))
  show wpAny _ _ (boundAndCalled (.builtin "BaseException.__getattribute__") (.ref x) (.str "__class__" t)) _ _ _
  unfold boundAndCalled
  have fb := PySem.F.excAttr_ValueError.ga.bind (.ref x)
  refine wpAny_bind (wpAny_of_eq fb ?_)
  refine wpAny_call (codeAny_call_builtin PySem.F.excAttr_ValueError.ga.plain PySem.F.entry_bexc_ga ?_)
  have hk : builtinKind "BaseException.__getattribute__" = some .slot := by decide +kernel
  have hsplit : splitId "BaseException.__getattribute__" = some ("BaseException", "__getattribute__") := by decide +kernel
  have ha := PySem.F.args_bexc_ga (.ref x) (.str "__class__" t)
  simp only [checkBuiltinCall, hk, hsplit]
  refine wpAny_bind (LB.at ?_)
  simp only [Bool.not_true, Bool.false_eq_true, if_false]
  refine wpAny_of_eq ha ?_
  refine wpAny_bind (wpAny_pure ?_)
  refine wpAny_bind (wpAny_pure ?_)
  refine wpAny_bind (LT.at (wpAny_bind (LF.at ?_)))
  show wpAny _ _ (bindTo (.builtin "getset_descriptor.__get__") (.builtin "object.__class__") (.ref x) (.ref D)) _ _ _
  show wpAny _ _ (holding [.builtin "object.__class__"] (call (.builtin "getset_descriptor.__get__") [.builtin "object.__class__", .ref x, .ref D]) >>= ret) _ _ _
  refine wpAny_bind (wpAny_holding (wpAny_call (exc_get (s := ⟨hh, g, d, t + 1, os⟩) KX LT C (wpAny_pure ?_))))
  exact wpAny_of_eq (handedOut_of (v := .ref D) rfl) (wpAny_pure h)
theorem kitx_exc (C : ExcCls K D) : KitX K (.ref x) (.ref D) (ExcAt x D) where
  ty := fun M h _ p => by
    obtain ⟨o, vs, e, c, _⟩ := p
    exact c ▸ (Looks.ld e).andThen .now
  it := fun M h KX _ => by
    obtain ⟨cd, hc⟩ := Option.isSome_iff_exists.mp C.cl
    unfold clsIn at hc
    split at hc
    · rename_i c' d' cd' sl' ho
      intro A' Q' E' s' k q
      unfold isType loadHead
      exact wpAny_bind (wpAny_loadPart (k _ _ (KX _ _ ho)) (wpAny_pure q))
    · cases hc
  ne := fun h tp dd its n sl KX htp => by
    obtain ⟨cd, hc⟩ := Option.isSome_iff_exists.mp C.cl
    refine Bool.eq_false_iff.mpr fun q => ?_
    have e : D = tp := Value.ref.inj (beq_iff_eq.mp q)
    subst e
    unfold clsIn at hc
    split at hc
    · rename_i c' d' cd' sl' ho
      have z := (KX _ _ ho).symm.trans htp
      cases z
    · cases hc
  ca := fun {prog w A E Q s} KX p k => by
    obtain ⟨o, vs, e, c, _⟩ := p
    exact exc_class KX (c ▸ (Looks.ld e).andThen .now) C k
end
inductive rIsX (K : Frag) (xs : List V) (H : Hp) (Q : VK) : Prop
  | mk (a c cu C b : _) : (xs = [.ref a, c]) → (RelV c cu) → ((∀ u, RelV c u → u = cu)) → (H a = some (excO a C)) → (ExcCls K C) → (kitOne K (.ref C) cu = some b) → (Q (.bl b) H) → rIsX K xs H Q
theorem call_isinstX {X : Cx} {K : Frag} (hK : X.K = K) : CallR X (.builtin "isinstance") (rIsX K) := by
  subst hK
  intro pins s σ H xs us Q I r h
  obtain ⟨a, c, cu, C, b, rfl, rc, inj, hH, ec, e, q⟩ := h
  obtain ⟨u, v, rfl, ru, rv⟩ := vals2 r
  have := inj v rv
  subst this
  cases ru
  obtain ⟨p, _, _⟩ := (show ObjOk X.prog X.w H s.heap a (.ext (ExcAt a C)) from I.hok a _ hH)
  exact kia_one (kitx_exc ec) I.kIn p e (fun z => nomatch z) fun tk => ⟨.bl b, H, I.tok tk, rfl, q⟩
end L2
namespace L2
open PySem PySem.Spec PyProof.Rows
section
variable {X : Cx}
noncomputable def Bits (i : Int) (k : Nat) : Prop := i.natAbs < 2 ^ k
theorem mulOk {i j : Int} {k : Nat} (hi : Bits i k) (hj : Bits j k) (hk : k ≤ 1000000) : IntMulOk i j := by
  have h1 := intBits_le hi
  have h2 := intBits_le hj
  unfold IntMulOk Builtin.Int.intTooBig
  intro h
  rw [Bool.and_eq_true] at h
  have h3 := of_decide_eq_true h.2
  have hl : (bitsLine : Int) = 134217728 := by decide
  omega
noncomputable def CMulB (i j : Int) : Prop := ∃ k, k ≤ 1000000 ∧ Bits i k ∧ Bits j k
theorem op_mulB : OpR X (binaryOp .Mult) (rI CMulB fun i j => .int (i * j)) := opI fun _ _ _ _ _ _ _ hc q => by
  obtain ⟨k, hk, h1, h2⟩ := hc
  exact mul_int q (mulOk h1 h2 hk)
theorem log2_lt' {n k : Nat} (h : n < 2 ^ k) (hk : 0 < k) : n.log2 < k := by
  rcases Nat.eq_zero_or_pos n with h0 | hp
  · subst h0; simpa using hk
  · exact (Nat.log2_lt (Nat.ne_of_gt hp)).mpr h
theorem op_fdivB : OpR X (binaryOp .FloorDiv) (rI (fun _ j => j ≠ 0 ∧ Bits j 8999) fun i j => .int (i.fdiv j)) := opI fun _ _ _ _ _ _ _ hc q =>
  floordiv_int hc.1 q (.inl (PyProof.noPylong_of_log2 (Nat.lt_succ_of_lt (log2_lt' hc.2 (by decide)))))
theorem ix_tupK {K : PySem.W.Frag} (hK : X.K = K) : IxR X (rIxT K) := by subst hK; exact ix_tup
theorem ix_listK {K : PySem.W.Frag} (hK : X.K = K) : IxR X (rIxL K) := by subst hK; exact ix_list
noncomputable abbrev intsV (zs : List Int) : List V := zs.map V.int
theorem eq_all : ∀ {zs ys : List Int} {us ws : List Value}, Vals (intsV zs) us → Vals (intsV ys) ws → zs.length = ys.length → ((List.range us.length).all fun j => decide (zs[j]? = ys[j]?)) = decide (zs = ys) := by
  intro zs ys us ws r1 r2 hl
  have h1 := r1.length
  rw [List.length_map] at h1
  rw [Bool.eq_iff_iff, List.all_eq_true, decide_eq_true_iff]
  constructor
  · intro h
    apply List.ext_getElem? 
    intro i
    by_cases hi : i < us.length
    · exact of_decide_eq_true (h i (List.mem_range.mpr hi))
    · rw [List.getElem?_eq_none (by (first | lia | omega)), List.getElem?_eq_none (by (first | lia | omega))]
  · intro h i _
    subst h
    exact decide_eq_true rfl
theorem vals_int {zs : List Int} {us : List Value} (r : Vals (intsV zs) us) {j : Nat} (h : j < us.length) : ∃ t, us[j] = .int (zs[j]'(by have := r.length; rw [List.length_map] at this; (first | lia | omega))) t := by
  have hl := r.length
  rw [List.length_map] at hl
  obtain ⟨u, e, q⟩ := r.get (i := j) (x := .int (zs[j]'(by (first | lia | omega)))) (by rw [List.getElem?_map, List.getElem?_eq_getElem (by (first | lia | omega))]; rfl)
  rw [List.getElem?_eq_getElem h] at e
  cases e
  exact q
theorem eqAt_ints {A : Around} {s : Shared} {zs ys : List Int} {us ws : List Value} (r1 : Vals (intsV zs) us) (r2 : Vals (intsV ys) ws) (j : Nat) (h1 : j < us.length) (h2 : j < ws.length) : SeqAt.EqAt A s us[j] ws[j] (decide (zs[j]? = ys[j]?)) := by
  obtain ⟨t, e1⟩ := vals_int r1 h1
  obtain ⟨u, e2⟩ := vals_int r2 h2
  rw [e1, e2]
  have l1 := r1.length
  have l2 := r2.length
  rw [List.length_map] at l1 l2
  rw [List.getElem?_eq_getElem (by (first | lia | omega)), List.getElem?_eq_getElem (by (first | lia | omega))]
  have e : decide (some (zs[j]'(by (first | lia | omega))) = some (ys[j]'(by (first | lia | omega)))) = ((zs[j]'(by (first | lia | omega))) == (ys[j]'(by (first | lia | omega)))) := by
    rw [Bool.eq_iff_iff]; simp
  rw [e]
  exact SeqAt.EqAt.int_int _ _ _ _
theorem tup_all {zs ys : List Int} {us ws : List Value} (r1 : Vals (intsV zs) us) (r2 : Vals (intsV ys) ws) : ((List.range (min us.length ws.length)).all (fun j => decide (zs[j]? = ys[j]?)) && us.length == ws.length) = decide (zs = ys) := by
  have l1 := r1.length
  have l2 := r2.length
  rw [List.length_map] at l1 l2
  by_cases h : us.length = ws.length
  · rw [← h, Nat.min_self, eq_all r1 r2 (by (first | lia | omega))]
    simp
  · have : ¬ zs = ys := fun e => h (by rw [← l1, ← l2, e])
    rw [decide_eq_false this]
    have hb : (us.length == ws.length) = false := by simpa using h
    rw [hb, Bool.and_false]
noncomputable def TupI (K : PySem.W.Frag) (H : Hp) (v : V) (zs : List Int) : Prop := ∃ a, v = .ref a ∧ SqT K H a (intsV zs)
theorem eqAt_tup {pins : List (Addr × Obj)} {σ : St} {H : Hp} {s : Shared} {A : Around} {v w' : V} {u u' : Value} {zs ys : List Int} (I : Inv X pins σ H s) (hu : A.units < cLine) (h1 : TupI X.K H v zs) (h2 : TupI X.K H w' ys) (r1 : RelV v u) (r2 : RelV w' u') : SeqAt.EqAt A s u u' (decide (zs = ys)) := by
  obtain ⟨a, rfl, q1⟩ := h1
  obtain ⟨b, rfl, q2⟩ := h2
  cases r1
  cases r2
  obtain ⟨us, x1, p1, _⟩ := I.tuple q1
  obtain ⟨ws, x2, p2, _⟩ := I.tuple q2
  by_cases hab : a = b
  · subst hab
    have e := I.tuple_inj q1 q2
    have e' : zs = ys := by
      have := congrArg (List.map fun v => match v with | V.int i => i | _ => 0) e
      simpa [intsV, List.map_map, Function.comp_def] using this
    rw [decide_eq_true e']
    exact SeqAt.EqAt.same _
  · rw [← tup_all x1 x2]
    have := SeqAt.EqAt.of_refs (k := ((List.range (min us.toArray.size ws.toArray.size)).all (fun j => decide (zs[j]? = ys[j]?)) && us.toArray.size == ws.toArray.size)) hab (SeqAt.RcAt.tuples p1 p2 hu fun j h1 h2 => by
      have e1 : us.toArray[j] = us[j]'(by simpa using h1) := by simp
      have e2 : ws.toArray[j] = ws[j]'(by simpa using h2) := by simp
      rw [e1, e2]
      exact eqAt_ints x1 x2 j (by simpa using h1) (by simpa using h2))
    simpa using this
theorem range_all {α : Type} [DecidableEq α] {zs ys : List α} {n : Nat} (h1 : zs.length = n) (h2 : ys.length = n) : ((List.range n).all fun j => decide (zs[j]? = ys[j]?)) = decide (zs = ys) := by
  rw [Bool.eq_iff_iff, List.all_eq_true, decide_eq_true_iff]
  constructor
  · intro h
    apply List.ext_getElem?
    intro i
    by_cases hi : i < n
    · exact of_decide_eq_true (h i (List.mem_range.mpr hi))
    · rw [List.getElem?_eq_none (by (first | lia | omega)), List.getElem?_eq_none (by (first | lia | omega))]
  · intro h i _
    subst h
    exact decide_eq_true rfl
theorem lists_eq {α : Type} [DecidableEq α] {pins : List (Addr × Obj)} {σ : St} {H : Hp} {s : Shared} {a b : Addr} {xs ys : List V} {zs ws : List α} (I : Inv X pins σ H s) (hu : X.A.units < cLine) (q1 : SqL X.K H a xs) (q2 : SqL X.K H b ys) (l1 : zs.length = xs.length) (l2 : ws.length = ys.length)
    (he : ∀ (j : Nat) (v w' : V) (u u' : Value), xs[j]? = some v → ys[j]? = some w' → RelV v u → RelV w' u' → SeqAt.EqAt X.A.in1 s u u' (decide (zs[j]? = ws[j]?))) :
    SeqAt.RcAt X.A s (.ref a) (.ref b) (decide (zs = ws)) ∧ SeqAt.RcNeAt X.A s (.ref a) (.ref b) (!decide (zs = ws)) := by
  obtain ⟨us, x1, p1, _⟩ := I.list q1
  obtain ⟨vs, x2, p2, _⟩ := I.list q2
  have m1 := x1.length
  have m2 := x2.length
  by_cases hs : us.length = vs.length
  · have he' : ∀ j (h1 : j < us.toArray.size) (h2 : j < vs.toArray.size), SeqAt.EqAt X.A.in1 s us.toArray[j] vs.toArray[j] (decide (zs[j]? = ws[j]?)) := fun j h1 h2 => by
      have h1' : j < us.length := by simpa using h1
      have h2' : j < vs.length := by simpa using h2
      obtain ⟨u, e1, r1⟩ := x1.get (i := j) (List.getElem?_eq_getElem (by (first | lia | omega) : j < xs.length))
      obtain ⟨u', e2, r2⟩ := x2.get (i := j) (List.getElem?_eq_getElem (by (first | lia | omega) : j < ys.length))
      rw [List.getElem?_eq_getElem h1'] at e1
      rw [List.getElem?_eq_getElem h2'] at e2
      cases e1
      cases e2
      have z1 : us.toArray[j] = us[j] := by simp
      have z2 : vs.toArray[j] = vs[j] := by simp
      rw [z1, z2]
      exact he j _ _ _ _ (List.getElem?_eq_getElem (by (first | lia | omega))) (List.getElem?_eq_getElem (by (first | lia | omega))) r1 r2
    have e := range_all (zs := zs) (ys := ws) (n := us.toArray.size) (by rw [List.size_toArray]; (first | lia | omega)) (by rw [List.size_toArray]; (first | lia | omega))
    refine ⟨?_, ?_⟩
    · have := SeqAt.RcAt.lists p1.isList p2.isList (by simpa using hs) hu he'
      rw [e] at this; exact this
    · have := SeqAt.RcNeAt.lists p1.isList p2.isList (by simpa using hs) hu he'
      rw [e] at this; exact this
  · have ne : ¬ zs = ws := fun z => hs (by rw [← m1, ← m2, ← l1, ← l2, z])
    have hb : (us.toArray.size != vs.toArray.size) = true := by simpa using hs
    rw [decide_eq_false ne]
    exact ⟨SeqAt.RcAt.lists_lengths p1.isList p2.isList hb hu, SeqAt.RcNeAt.lists_lengths p1.isList p2.isList hb hu⟩
theorem pg_tupK {K : PySem.W.Frag} {es : List Expr} {k : Nat} {t : TGs} (n : Nat) {pos : Pos} (hK : X.K = K) (hc : X.calm = true) (h : PGs X es t)
    (hn : (assignEach es X.env).length = n) (hst : (assignEach es X.env).findIdx? (·.1) = none) : PG X (.Tuple es k pos) (gTup K n t) := hK ▸ pg_tup hc h hn hst
noncomputable def LstT (K : PySem.W.Frag) (H : Hp) (xs : List V) (zss : List (List Int)) : Prop := Paired (TupI K H) xs zss
theorem paired_get {α β : Type} {F : α → β → Prop} : ∀ {l₁ : List α} {l₂ : List β} {i : Nat} {x : α}, Paired F l₁ l₂ → l₁[i]? = some x → ∃ y, l₂[i]? = some y ∧ F x y
  | _, _, _, _, .nil, e => by simp at e
  | _, _, 0, _, .cons r _, e => by simp at e; subst e; exact ⟨_, rfl, r⟩
  | _, _, i + 1, x, .cons _ t, e => by
    obtain ⟨y, h1, h2⟩ := paired_get (i := i) (x := x) t (by simpa using e)
    exact ⟨y, by simpa using h1, h2⟩
inductive rEqLT (K : PySem.W.Frag) (x : V) (y : V) (H : Hp) (Q : VK) : Prop
  | mk (a b xs ys zss yss : _) : (x = .ref a) → (y = .ref b) → (SqL K H a xs) → (SqL K H b ys) → (LstT K H xs zss) → (LstT K H ys yss) → (Q (.bl (decide (zss = yss))) H) → rEqLT K x y H Q
theorem tups_eq {pins : List (Addr × Obj)} {σ : St} {H : Hp} {s : Shared} {a b : Addr} {xs ys : List V} {zss yss : List (List Int)} (I : Inv X pins σ H s) (hu : X.A.units + 1 < cLine) (q1 : SqL X.K H a xs) (q2 : SqL X.K H b ys) (t1 : LstT X.K H xs zss) (t2 : LstT X.K H ys yss) :
    SeqAt.RcAt X.A s (.ref a) (.ref b) (decide (zss = yss)) ∧ SeqAt.RcNeAt X.A s (.ref a) (.ref b) (!decide (zss = yss)) :=
  lists_eq I (by (first | lia | omega)) q1 q2 (Paired.length t1).symm (Paired.length t2).symm fun j v w' u u' e1 e2 r1 r2 => by
    obtain ⟨zs, f1, g1⟩ := paired_get t1 e1
    obtain ⟨ws, f2, g2⟩ := paired_get t2 e2
    rw [f1, f2]
    have e : decide (some zs = some ws) = decide (zs = ws) := by rw [Bool.eq_iff_iff]; simp
    rw [e]
    exact eqAt_tup I (by show X.A.units + 1 < cLine; exact hu) g1 g2 r1 r2
theorem op_eqLT (hu : X.A.units + 1 < cLine) : OpR X (compareOp .Eq) (rEqLT X.K) := by
  intro pins s σ H x y v u Q I rx ry h
  obtain ⟨a, b, xs, ys, zs, ws, rfl, rfl, q1, q2, t1, t2, q⟩ := h
  cases rx
  cases ry
  exact (tups_eq I hu q1 q2 t1 t2).1 X.prog X.w X.xe _ ⟨.bl _, H, I, rfl, q⟩
end
end L2
namespace L2
open PySem PySem.Spec PyProof.Rows
noncomputable def Ite (K : PySem.W.Frag) (a : Addr) : It :=
  ⟨fun i H => ∃ xs x, SqL K H a xs ∧ xs[i]? = some x, fun i H x H' => ∃ p v, H p = none ∧ (∀ xs, SqL K H a xs → xs[i]? = some v) ∧ x = .ref p ∧ H' = upd H p (.tup [.int i, v]), fun i H => ∃ xs, SqL K H a xs ∧ xs.length ≤ i⟩
theorem turn_enum {P : Program} {w : World} {K : PySem.W.Frag} {es : List Expr} {k : Nat} {tp : Pos} (a e it : Addr) (hne : e ≠ it) : Turn P w K (.Tuple es k tp) (Ite K a) [e, it] e (fun i h => (∃ old, IsEnum h e it i old) ∧ h.IsListIter it a i) where
  mem := by simp
  obj := fun i h st b hb => by
    obtain ⟨⟨old, he⟩, o, ho, _, d⟩ := st
    rcases List.mem_cons.mp hb with z | z
    · subst z; exact ⟨_, he, fun v q => by cases q⟩
    · have z' : b = it := by simpa using z
      subst z'; exact ⟨o, ho, fun v q => by rw [d] at q; cases q⟩
  keep := fun i h h' st kk => by
    obtain ⟨⟨old, he⟩, hit⟩ := st
    exact ⟨⟨old, kk e (by simp) _ he⟩, hit.at fun o q => kk it (by simp) o q⟩
  item := by
    intro X hP hw hK hc i pins s σ H E I hf st hg
    subst hP hw hK
    obtain ⟨⟨old, he⟩, hit⟩ := st
    obtain ⟨xs, x, hq, hx⟩ := hg
    obtain ⟨its, rv, p, hz⟩ := I.list hq
    obtain ⟨u, hu, ru⟩ := rv.get hx
    obtain ⟨e0, e1, e2, e3, e4, e5⟩ := hf e (by simp)
    obtain ⟨i0, i1, i2, i3, i4, i5⟩ := hf it (by simp)
    refine wpAny_pyNext_enum_item he hit p.isList (x := u) (by simpa using hu) hne fun h' ho hit' hT hsz hk => ⟨_, rfl, ?_⟩
    refine wpAny_letOwnedTupleGo_enum (s := { s with heap := h', toks := s.toks + 1 }) ho fun h2 he2 hs2 => ?_
    have hs2' : Heap.SameBut e h' h2 := hs2
    have helt : e < s.heap.objs.size := Heap.lt_size he
    have hilt : it < s.heap.objs.size := by obtain ⟨_, q, _⟩ := hit; exact Heap.lt_size q
    have kp : ∀ b o, b ≠ e → b ≠ it → s.heap.get? b = some o → h2.get? b = some o := fun b o q1 q2 q => (hs2'.2 b q1).trans (hk b o q1 q2 q)
    have hT2 : h2.get? s.heap.objs.size = some { cls := .type "tuple", data := .seq #[.int i s.toks, u] } := (hs2'.2 _ (Nat.ne_of_gt helt)).trans hT
    have hn : H s.heap.objs.size = none := I.hok.fresh (Nat.le_refl _)
    have hit2 : h2.IsListIter it a (i + 1) := by
      obtain ⟨o, q1, q2⟩ := hit'
      exact ⟨o, (hs2'.2 it (Ne.symm hne)).trans q1, q2⟩
    have tr : ∀ b v, H b = some v → b ≠ e ∧ b ≠ it := fun b v q => ⟨(fun z => by rw [z, e0] at q; cases q), (fun z => by rw [z, i0] at q; cases q)⟩
    have Jv : Inv X pins σ (upd H s.heap.objs.size (.tup [.int i, x])) { s with heap := h2, gens := s.gens, drawn := s.drawn, toks := s.toks + 1 } := by
      refine I.step (ch := [e, it]) (fun b hb => ?_) (fun b o _ _ hb q _ => kp b o (fun z => hb (by simp [z])) (fun z => hb (by simp [z])) q) (fun b o _ _ hb q _ => ⟨o.slots, kp b o (fun z => hb (by simp [z])) (fun z => hb (by simp [z])) q⟩)
        (fun b o _ q n => by rw [upd_ne (Nat.ne_of_lt (Heap.lt_size q))]; exact n) (fun b o hb q => ⟨o, kp b o (fun z => hb (by simp [z])) (fun z => hb (by simp [z])) q⟩) (fun b ys q => by rw [upd_ne (ne_of_none q hn)]; exact q) (fun b o v q => by rw [upd_ne (ne_of_none q hn)]; exact q)
        (fun b ps q => ⟨#[], by rw [upd_ne (ne_of_none q hn), q]; simp⟩) (fun m hm => ?_) (fun b v q => ?_) I.bare
      · rcases List.mem_cons.mp hb with z | z
        · subst z; exact ⟨e3, e1, e4, e5⟩
        · have z' : b = it := by simpa using z
          subst z'; exact ⟨i3, i1, i4, i5⟩
      · obtain ⟨o, es', ep, ho', r⟩ := hm
        exact ⟨o, es', ep, kp _ o (Ne.symm e1) (Ne.symm i1) ho', r⟩
      · by_cases hb : b = s.heap.objs.size
        · subst hb
          rw [upd_same] at q
          cases q
          exact ⟨by show 2 ≤ sizeLine; decide, [.int i s.toks, u], .cons ⟨_, rfl⟩ (.cons ru .nil), ⟨_, hT2, rfl, _, rfl⟩⟩
        · rw [upd_ne hb] at q
          refine (I.hok b v q).stay (fun c ob hcc z => ?_) (fun c z => by rw [upd_ne (ne_of_none z hn)]; exact z) fun c ys z => by rw [upd_ne (ne_of_none z hn)]; exact z
          have q' : ∃ v, H c = some v := by
            rcases hcc with hcc | hcc
            · subst hcc; exact ⟨v, q⟩
            · exact ⟨_, hcc⟩
          obtain ⟨v', q'⟩ := q'
          exact kp c ob (tr c v' q').1 (tr c v' q').2 z
    refine ⟨.ref s.heap.objs.size, _, Jv, rfl, ⟨_, x, hn, fun ys hy => by rw [I.list_inj hy hq]; exact hx, rfl, rfl⟩, ⟨⟨_, he2⟩, hit2⟩, fun b hb => ?_⟩
    have hb' : b < s.heap.objs.size := by
      rcases List.mem_cons.mp hb with z | z
      · subst z; exact helt
      · have z' : b = it := by simpa using z
        subst z'; exact hilt
    rw [upd_ne (Nat.ne_of_lt hb')]
    exact (hf b hb).1
  done := by
    intro X hP hw hK hc i pins s σ H E I hf st hg
    subst hP hw hK
    obtain ⟨⟨old, he⟩, hit⟩ := st
    obtain ⟨xs, hq, hx⟩ := hg
    obtain ⟨its, rv, p, hz⟩ := I.list hq
    obtain ⟨i0, i1, i2, i3, i4, i5⟩ := hf it (by simp)
    have hl := rv.length
    exact wpAny_pyNext_enum_end (I.ok.hd hc) he hit p.isList (by simp; (first | lia | omega)) fun h' eb => ⟨rfl, I.turned (t' := s.toks) (fun b o hb q => eb b o hb q) i0 i1 i3 i4 i5⟩
  self := fun _ _ _ _ _ st h => by
    obtain ⟨⟨old, he⟩, _⟩ := st
    exact wpAny_pyIter_enum he h
inductive rEn (K : PySem.W.Frag) (vs : List V) (H : Hp) (R : It → Hp → Prop) : Prop
  | mk (a : Addr) : vs = [.ref a] → (∃ xs, SqL K H a xs) → R (Ite K a) H → rEn K vs H R
noncomputable def iEnum (K : PySem.W.Frag) (ta : TA) : TI := fun σ H R => ta σ H fun vs H1 => rEn K vs H1 R
theorem pi_enum {X : Cx} {es : List Expr} {k : Nat} {tp : Pos} {l : Expr} {ta : TA} {p pos : Pos} (hg : Gl X "enumerate") (hm : X.mg "enumerate" = none) (hv : bootBuiltins "enumerate" = some (.type "enumerate")) (ha : PA X [l] ta) (hs : starEach [l] X.env = [(false, eval l X.env)] := by rfl) :
    PI X (.Tuple es k tp) (.Call (.Name "enumerate" p) [l] [] pos) (iEnum X.K ta) := by
  intro pins s σ H R I h
  refine Call_ (ld_blt I hg hm hv (PyProof.Rows.callWith_type1 (thn (ha pos pins s σ H _ I h) fun us s1 ⟨vs, H1, I1, r1, q1⟩ => ?_) hs rfl))
  obtain ⟨a, e, ⟨xs, hq⟩, q⟩ := q1
  subst e
  obtain ⟨u, rfl, ru⟩ := vals1 r1
  cases ru
  obtain ⟨its, rv, pl, hz⟩ := I1.list hq
  refine call_enumerate_list pl.isList fun h' hE hI hsz hk => ?_
  refine wpAny_pyIter_enum hE ?_
  have I2 : Inv X pins σ H1 { s1 with heap := h' } := I1.kept (t' := s1.toks) hk
  refine ⟨s1.heap.objs.size + 1, [s1.heap.objs.size + 1, s1.heap.objs.size], _, _, H1, rfl, I2, turn_enum a _ _ (Nat.succ_ne_self _), ⟨⟨_, hE⟩, hI⟩, fun b hb => ?_, q⟩
  have hb' : s1.heap.objs.size ≤ b := by
    rcases List.mem_cons.mp hb with z | z
    · rw [z]; exact Nat.le_succ _
    · have z' : b = s1.heap.objs.size := by simpa using z
      rw [z']; exact Nat.le_refl _
  exact I1.fpOk hb' (I1.hok.fresh hb')
theorem bt_enumerate : bootBuiltins "enumerate" = some (.type "enumerate") := by decide +kernel
theorem comp_enum {K : PySem.W.Frag} {a : Addr} {xs : List V} {g : TG} {tc : TT} {te : TE} {σ0 : St} {H1 : Hp} {Fin : List V → Hp → Prop} (Pv : Nat → List V → St → Hp → Prop) (h0 : Pv 0 [] σ0 H1) (hl : ∀ i ys σ H, i ≤ xs.length → Pv i ys σ H → SqL K H a xs)
    (hs : ∀ i x ys σ H p, xs[i]? = some x → Pv i ys σ H → H p = none → ys.length < sizeLine ∧ g (.ref p) σ (upd H p (.tup [.int i, x])) fun σ2 H3 => tc σ2 H3 fun b H4 => if b = true then te σ2 H4 fun y H5 => Pv (i + 1) (ys ++ [y]) σ2 H5 else Pv (i + 1) ys σ2 H4)
    (hz : xs.length < sizeLine) (hy : ∀ i ys σ H, Pv i ys σ H → ys.length ≤ i) (hd : ∀ ys σ H, Pv xs.length ys σ H → Fin ys H) : compW g tc te (Ite K a) σ0 H1 Fin := by
  refine ⟨fun i m ys σ H => m = xs.length - i ∧ i ≤ xs.length ∧ Pv i ys σ H, ⟨xs.length, by simp, Nat.zero_le _, h0⟩, ?_⟩
  rintro i m ys σ H ⟨rfl, hi, p⟩
  have q := hl i ys σ H hi p
  by_cases hlt : i < xs.length
  · have hyl := hy i ys σ H p
    refine .inr ⟨⟨xs, xs[i], q, by simp [hlt]⟩, by (first | lia | omega), Pv (i + 1), fun zs σ' H' p' => ⟨xs.length - (i + 1), by (first | lia | omega), rfl, hlt, p'⟩, fun x H2 y => ?_⟩
    obtain ⟨p', v, hn, hv, ex, eh⟩ := y
    subst ex eh
    have ev := hv xs q
    exact (hs i v ys σ H p' ev p hn).2
  · have e : i = xs.length := by (first | lia | omega)
    subst e
    exact .inl ⟨⟨xs, q, Nat.le_refl _⟩, hd ys σ H p⟩
end L2
namespace L2
open PySem PySem.Spec PyProof.Rows
section
variable {P : Program} {w : World} {K : PySem.W.Frag} {mg : Str → Option Value} {base : Heap}
theorem Fun.okN {x qual : Str} {st : Stmt} {f : Addr} {fd : FuncData} {N ps : List Str} {k : Nat} {sp : Sp} (F : Fun K x qual st f fd) (S : FnScope N ps (defScope st)) (len : ∀ vs H Q E, sp vs H Q E → vs.length = ps.length)
    (hbody : ∀ (cdv : Value) (A : Around) (outer : List Env) (s : Shared) (H : Hp) (vs : List V) (Q : VK) (E : XK), Room k (A.deeper (envOfC qual (defScope st) s.heap.objs.size f cdv)) → sp vs H Q E →
      ∃ t, PSs (cxOf (CXR P w) P w K mg base N qual (defScope st) f cdv A outer s H E).nox (defBody st) t ∧ t { nx := fun _ H' => Q .non H', rt := Q } (start N vs) H) : FnOk P w K mg base (CXR P w) (k + 1) f fd ps sp := by
  obtain ⟨oc, od, kV, doc, pm, an, cdv, ct, osl, rfl, lk, hcd⟩ := F.ex
  refine fn_of lk hcd S len fun A outer s H vs Q E hr hsp => ?_
  obtain ⟨t, h, q⟩ := hbody cdv A outer s H vs Q E hr hsp
  exact ⟨t, h.nox, q⟩
theorem Fun.okX {x qual : Str} {st : Stmt} {f : Addr} {fd : FuncData} {N ps : List Str} {k : Nat} {sp : Sp} (F : Fun K x qual st f fd) (S : FnScope N ps (defScope st)) (len : ∀ vs H Q E, sp vs H Q E → vs.length = ps.length)
    (hbody : ∀ (cdv : Value) (A : Around) (outer : List Env) (s : Shared) (H : Hp) (vs : List V) (Q : VK) (E : XK), Room k (A.deeper (envOfC qual (defScope st) s.heap.objs.size f cdv)) → sp vs H Q E →
      ∃ t, PSs (cxOf (CXR P w) P w K mg base N qual (defScope st) f cdv A outer s H E) (defBody st) t ∧ t { nx := fun _ H' => Q .non H', rt := Q } (start N vs) H) : FnOk P w K mg base (CXR P w) (k + 1) f fd ps sp := by
  obtain ⟨oc, od, kV, doc, pm, an, cdv, ct, osl, rfl, lk, hcd⟩ := F.ex
  exact fn_of lk hcd S len fun A outer s H vs Q E hr hsp => hbody cdv A outer s H vs Q E hr hsp
theorem lets_of {N : List Str} {qual : Str} {scope : Scope} {f : Addr} {cd : Value} {A : Around} {outer : List Env} {s : Shared} {H : Hp} {E : XK} : Lets (cxOf (CXR P w) P w K mg base N qual scope f cd A outer s H E) E := rfl
theorem fnb_of {CX : CXT} {N : List Str} {qual : Str} {scope : Scope} {f : Addr} {cd : Value} {A : Around} {outer : List Env} {s : Shared} {H : Hp} {E : XK} : Fnb (cxOf CX P w K mg base N qual scope f cd A outer s H E) := ⟨rfl, rfl, rfl, rfl⟩
theorem fnb_nox {X : Cx} (F : Fnb X) : Fnb X.nox := ⟨F.st, F.fr, F.ex, F.cm⟩
end
section
variable {X : Cx}
end
end L2
namespace L2
open PySem PySem.Spec PyProof.Rows
inductive rSum (K : PySem.W.Frag) (xs : List V) (H : Hp) (Q : VK) : Prop
  | mk (p : Addr) (zs : List Int) : xs = [.ref p] → SqL K H p (intsV zs) → Q (.int zs.sum) H → rSum K xs H Q
theorem call_sum {X : Cx} {K : PySem.W.Frag} (hK : X.K = K) (hc : X.calm = true) : CallR X (.builtin "sum") (rSum K) := by
  intro pins s σ H xs us Q I r h
  subst hK
  obtain ⟨p, zs, rfl, hq, q⟩ := h
  obtain ⟨u, rfl, rx⟩ := vals1 r
  cases rx
  obtain ⟨its, r', pl, hz⟩ := I.list hq
  have hi := intsAre_of r'
  obtain ⟨ys, e⟩ := hi.allInts.items
  have hl := pl.isList
  rw [e] at hl
  have en : numsOf its.toArray.toList = zs := hi.numsOf
  rw [e, nums_intItems] at en
  refine sum_intListG (I.ok.hd hc) hl fun h' tk t' hk => ⟨.int zs.sum, H, I.kept hk, ⟨t', ?_⟩, q⟩
  rw [preSum_eq, List.take_of_length_le (by simp), en]
theorem Lets.own {X : Cx} {E : XK} (L : Lets X E) : PassesOwn (model X.prog X.w) X.A X.env X.xe := by
  rw [show X.xe = _ from L]
  exact PassesOwn.leaving
end L2
namespace L2
open PySem PySem.Spec PyProof.Rows
theorem op_notInK {X : Cx} {K : PySem.W.Frag} (hK : X.K = K) : OpR X (compareOp .NotIn) (rIn K true) := hK ▸ op_notIn_seq
theorem op_inK {X : Cx} {K : PySem.W.Frag} (hK : X.K = K) : OpR X (compareOp .In) (rIn K false) := hK ▸ op_in_seq
theorem inV_ints {z : Int} : ∀ {zs : List Int}, inV (.int z) (intsV zs) = decide (z ∈ zs)
  | [] => by simp [inV]
  | y :: zs => by
    have ih := inV_ints (z := z) (zs := zs)
    unfold inV at ih ⊢
    rw [intsV, List.map_cons, List.any_cons, show (List.map V.int zs) = intsV zs from rfl, ih, show eqV (.int y) (.int z) = (y == z) from rfl]
    by_cases e : z = y
    · subst e; simp
    · have : ¬ y = z := fun q => e q.symm
      simp [e, this]
theorem flat_ints : ∀ (zs : List Int), (intsV zs).all flatV = true
  | [] => rfl
  | _ :: zs => by rw [intsV, List.map_cons, List.all_cons, show (List.map V.int zs) = intsV zs from rfl, flat_ints zs]; rfl
theorem nameYes {i : Nat} {v : V} {σ : St} {H : Hp} {A B : St → Hp → Prop} (h : A (σ.set i (some v)) H) : gName i v σ H fun σ2 H3 => tYes σ2 H3 fun b H4 => if b = true then A σ2 H4 else B σ2 H4 := by
  show (if true = true then A (σ.set i (some v)) H else B (σ.set i (some v)) H)
  rw [if_pos rfl]
  exact h
end L2
namespace L2
open PySem PySem.Spec PyProof.Rows
section
variable {X : Cx} {K : PySem.W.Frag}
theorem call_lenK (hK : X.K = K) : CallR X (.builtin "len") (rLen K) := hK ▸ call_len_seq
theorem call_listK (hK : X.K = K) : CallR X (.type "list") (rLs K) := hK ▸ call_list_of
theorem sl_listK (hK : X.K = K) : SlR X (rSlL K) := hK ▸ sl_list
theorem pe_fldK (hK : X.K = K) {e : Expr} {f : Str} {pos : Pos} {ta : TE} (he : PE X e ta) (hb : attributeBase e f X.env (eval e X.env) = eval e X.env) : PE X (.Attribute e f pos) (tFld K ta f) := hK ▸ pe_fld he hb
theorem pi_listK (hK : X.K = K) {tg l : Expr} {tl : TE} (hl : PE X l tl) : PI X tg l (iList K tl) := hK ▸ pi_list hl
inductive rGet (K : PySem.W.Frag) (o i : V) (H : Hp) (Q : VK) : Prop
  | mk (p : Addr) (xs : List V) (k : Int) (v : V) : o = .ref p → i = .int k → SqL K H p xs → 0 ≤ k → atI xs k = some v → Q v H → rGet K o i H Q
theorem get_listK (hK : X.K = K) : PGet X (rGet K) := by
  subst hK
  intro pins s σ H x y v u Q I rx ry h
  obtain ⟨p, xs, i, z, rfl, rfl, hq, h0, he, q⟩ := h
  cases rx
  obtain ⟨t, rfl⟩ := ry
  obtain ⟨its, r, pl, hz⟩ := I.list hq
  obtain ⟨j, h1, h2, h3, h4, h5⟩ := atI_get he
  obtain ⟨w, ew, rw'⟩ := r.get h2
  have hl := r.length
  have hn := line63
  have hj : i.toNat = j := by
    rw [seqIndex_of h0 h5] at h1
    exact Option.some.inj h1
  exact wpAny_getItem_list pl.isList h0 (by (first | lia | omega)) (by rw [hj]; simpa using ew) ⟨z, H, I, rw', q⟩
theorem pe_bmK (hK : X.K = K) {o e : Expr} {es : List Expr} {to : TE} {t : TA} {name : Str} {apos cpos : Pos} {T id : String} {r : V → List V → Hp → VK → Prop} (pa : PlainAttrs T) (slot : Slot T name id) (hty : typeOf (.builtin id) = pure (.type "method_descriptor")) (hm : MtR X id r) (ho : PE X o to) (ha : PA X (e :: es) t)
    (hbase : attributeBase o name X.env (eval o X.env) = eval o X.env := by rfl)
    (hfew : ((backTo cpos (starEach (e :: es) X.env)).all (fun x => !x.1) && (backToKw cpos (keywordEach [] X.env)).all (fun x => x.1.isSome)
      && decide ((e :: es).length + ([] : List Keyword).length + (if ([] : List Keyword).isEmpty then 0 else 1) < 30)) = true := by rfl)
    (hline : (apos.endLine == cpos.line) = true := by rfl) (hs : starEach (e :: es) X.env = (false, eval e X.env) :: starEach es X.env := by rfl) (hplain : (backTo cpos (starEach es X.env)).any (·.1) = false := by rfl) :
    PE X (.Call (.Attribute o name apos) (e :: es) [] cpos) (tBM K T r to t) := by
  subst hK
  exact pe_bm pa slot hty hm ho ha hbase hfew hline hs hplain
end
inductive tCut (t u : TS) (D : Ends) (σ : St) (H : Hp) : Prop
  | mk (J : St → Hp → Prop) : (t { D with nx := J } σ H) → (∀ σ' H', J σ' H' → u D σ' H') → tCut t u D σ H
theorem pss_cut {X : Cx} {st : Stmt} {rest : List Stmt} {t u : TS} (h1 : PS X st t) (h2 : PSs X rest u) : PSs X (st :: rest) (tCut t u) := by
  intro pins s σ H D I h
  obtain ⟨J, h, hJ⟩ := h
  refine wpAny_execs_cons (thn (h1 pins s σ H { D with nx := J } I h) fun f s1 q => ?_)
  cases f with
  | next =>
    obtain ⟨σ', H', I', q⟩ := q
    exact h2 pins s1 σ' H' D I' (hJ _ _ q)
  | ret v => exact q
  | brk => exact q
  | cont => exact q
inductive tCutT (t : TT) (σ : St) (H : Hp) (Q : (Bool → Hp → Prop)) : Prop
  | mk (R : Bool → Hp → Prop) : (t σ H R) → (∀ b H', R b H' → Q b H') → tCutT t σ H Q
theorem pt_cut {X : Cx} {e : Expr} {t : TT} (h : PT X e t) : PT X e (tCutT t) := by
  intro pins s σ H Q I q
  obtain ⟨R, q, hR⟩ := q
  exact thn (h pins s σ H R I q) fun b s1 ⟨H', I', q'⟩ => ⟨H', I', hR _ _ q'⟩
structure Cal (P : Program) (w : World) (K : PySem.W.Frag) (mg : Str → Option Value) (base : Heap) (x : Str) (k : Nat) (f : Addr) (fd : FuncData) (ps : List Str) (sp : Sp) : Prop where
  ok : FnOk P w K mg base (CXR P w) k f fd ps sp
  b : Binds K fd ps []
  k : PySem.W.keepIn K (.ref f) = true
  m : mg x = some (.ref f)
theorem Cal.up {P : Program} {w : World} {K : PySem.W.Frag} {mg : Str → Option Value} {base : Heap} {x : Str} {k j : Nat} {f : Addr} {fd : FuncData} {ps : List Str} {sp : Sp} (c : Cal P w K mg base x k f fd ps sp) (h : k ≤ j) : FnOk P w K mg base (CXR P w) j f fd ps sp := c.ok.mono h
structure CalM (P : Program) (w : World) (K : PySem.W.Frag) (mg : Str → Option Value) (base : Heap) (C : Addr) (m : Str) (k : Nat) (f : Addr) (fd : FuncData) (ps : List Str) (sp : Sp) : Prop where
  ok : FnOk P w K mg base (CXR P w) k f fd ps sp
  b : Binds K fd ps []
  me : Meth K C m f
theorem CalM.up {P : Program} {w : World} {K : PySem.W.Frag} {mg : Str → Option Value} {base : Heap} {C : Addr} {x : Str} {k j : Nat} {f : Addr} {fd : FuncData} {ps : List Str} {sp : Sp} (c : CalM P w K mg base C x k f fd ps sp) (h : k ≤ j) : FnOk P w K mg base (CXR P w) j f fd ps sp := c.ok.mono h
structure CalK (P : Program) (w : World) (K : PySem.W.Frag) (mg : Str → Option Value) (base : Heap) (C : Addr) (x : Str) (k : Nat) (f : Addr) (fd : FuncData) (ps : List Str) (sp : Sp) : Prop where
  ok : FnOk P w K mg base (CXR P w) k f fd ps sp
  b : Binds K fd ps []
  km : Mk K C f
  m : mg x = some (.ref C)
theorem CalK.up {P : Program} {w : World} {K : PySem.W.Frag} {mg : Str → Option Value} {base : Heap} {C : Addr} {x : Str} {k j : Nat} {f : Addr} {fd : FuncData} {ps : List Str} {sp : Sp} (c : CalK P w K mg base C x k f fd ps sp) (h : k ≤ j) : FnOk P w K mg base (CXR P w) j f fd ps sp := c.ok.mono h
structure TB (mg : Str → Option Value) : Prop where
  abs : mg "abs" = none
  all : mg "all" = none
  bool : mg "bool" = none
  int : mg "int" = none
  isinstance : mg "isinstance" = none
  len : mg "len" = none
  list : mg "list" = none
  max : mg "max" = none
  min : mg "min" = none
  range : mg "range" = none
  sum : mg "sum" = none
  tuple : mg "tuple" = none
  zip : mg "zip" = none
  ValueError : mg "ValueError" = none
  enumerate : mg "enumerate" = none
structure TX (K : PySem.W.Frag) (mg : Str → Option Value) (n : Str) (c : Addr) : Prop where
  m : mg n = some (.ref c)
  x : PySem.W.excIn K c veMro "ValueError.__new__" = true
structure TN (mg : Str → Option Value) (n : Str) (c : Addr) : Prop where
  m : mg n = some (.ref c)
structure TEx (K : PySem.W.Frag) (c cR cF cI cH cN cT cU : Addr) (bF bI bH bN bT bU : Bool) : Prop where
  xR : PySem.W.exmOne K (.ref c) (.ref cR) = some true
  kV : PySem.W.kitOne K (.ref c) (.type "ValueError") = some true
  kF : PySem.W.kitOne K (.ref c) (.ref cF) = some bF
  kI : PySem.W.kitOne K (.ref c) (.ref cI) = some bI
  kH : PySem.W.kitOne K (.ref c) (.ref cH) = some bH
  kN : PySem.W.kitOne K (.ref c) (.ref cN) = some bN
  kT : PySem.W.kitOne K (.ref c) (.ref cT) = some bT
  kU : PySem.W.kitOne K (.ref c) (.ref cU) = some bU
  ec : ExcCls K c
theorem bt_sum : bootBuiltins "sum" = some (.builtin "sum") := by decide +kernel
theorem bt_max : bootBuiltins "max" = some (.builtin "max") := by decide +kernel
theorem bt_list : bootBuiltins "list" = some (.type "list") := by decide +kernel
theorem bt_len : bootBuiltins "len" = some (.builtin "len") := by decide +kernel
theorem bt_abs : bootBuiltins "abs" = some (.builtin "abs") := by decide +kernel
theorem bt_all : bootBuiltins "all" = some (.builtin "all") := by decide +kernel
theorem bt_isinstance : bootBuiltins "isinstance" = some (.builtin "isinstance") := by decide +kernel
theorem bt_zip : bootBuiltins "zip" = some (.type "zip") := by decide +kernel
theorem bt_ValueError : bootBuiltins "ValueError" = some (.type "ValueError") := by decide +kernel
theorem same_new {H : Hp} {p : Addr} (h : H p = none) (o : HO) : Same H (upd H p o) := fun b u q => by rw [upd_ne (ne_of_none q h)]; exact q
theorem ifT {c A B : Prop} [Decidable c] (hc : c) (h : A) : if decide c = true then A else B := by
  rw [decide_eq_true hc]; exact iteT h
theorem ifF {c A B : Prop} [Decidable c] (hc : ¬ c) (h : B) : if decide c = true then A else B := by
  rw [decide_eq_false hc]; exact iteF h
theorem ifNT {c A B : Prop} [Decidable c] (hc : ¬ c) (h : A) : if (!decide c) = true then A else B := by
  rw [decide_eq_false hc]; exact iteT h
theorem ifNF {c A B : Prop} [Decidable c] (hc : c) (h : B) : if (!decide c) = true then A else B := by
  rw [decide_eq_true hc]; exact iteF h
theorem ndT {c : Prop} [Decidable c] (h : (!decide c) = true) : ¬ c := fun z => by rw [decide_eq_true z] at h; cases h
theorem ndF {c : Prop} [Decidable c] (h : ¬ (!decide c) = true) : c := by
  by_cases z : c
  · exact z
  · rw [decide_eq_false z] at h; exact absurd rfl h
theorem dF {c : Prop} [Decidable c] (h : ¬ decide c = true) : ¬ c := fun z => h (decide_eq_true z)
theorem eqT {a b : Int} (h : decide (V.int a = V.int b) = true) : a = b := V.int.inj (of_decide_eq_true h)
theorem eqF {a b : Int} (h : ¬ decide (V.int a = V.int b) = true) : a ≠ b := fun z => h (decide_eq_true (congrArg V.int z))
theorem neT {a b : Int} (h : (!decide (V.int a = V.int b)) = true) : a ≠ b := fun z => ndT h (congrArg V.int z)
theorem neF {a b : Int} (h : ¬ (!decide (V.int a = V.int b)) = true) : a = b := V.int.inj (ndF h)
theorem ixN_in {n : Nat} {i : Int} (h0 : 0 ≤ i) (h1 : i < n) : ixN n i = some i.toNat := by
  unfold ixN
  rw [if_pos h0, if_pos h1]
theorem atI_at {α : Type} {xs : List α} {i : Int} {v : α} (h0 : 0 ≤ i) (h : xs[i.toNat]? = some v) : atI xs i = some v := by
  have := atI_nat h
  rw [show ((i.toNat : Nat) : Int) = i by (first | lia | omega)] at this
  exact this
theorem atI_ints {zs : List Int} {i : Int} (h0 : 0 ≤ i) (h1 : i < zs.length) : atI (intsV zs) i = some (.int ((zs[i.toNat]?).getD 0)) := by
  have hk : i.toNat < zs.length := by (first | lia | omega)
  refine atI_at h0 ?_
  rw [List.getElem?_map, List.getElem?_eq_getElem hk]
  rfl
theorem set_ints {zs : List Int} {j : Nat} {z : Int} : (intsV zs).set j (.int z) = intsV (zs.set j z) := by
  rw [intsV, intsV, List.map_set]
end L2
namespace L2
open PySem PySem.Spec PyProof.Rows
noncomputable abbrev blsV (bs : List Bool) : List V := bs.map V.bl
theorem call_allK {X : Cx} {K : PySem.W.Frag} (hK : X.K = K) (hc : X.calm = true) : CallR X (.builtin "all") (fun xs H Q => ∃ p bs, xs = [.ref p] ∧ SqL K H p (blsV bs) ∧ Q (.bl (bs.all id)) H) := by
  intro pins s σ H xs us Q I r h
  subst hK
  obtain ⟨p, bs, rfl, hq, q⟩ := h
  obtain ⟨u, rfl, rx⟩ := vals1 r
  cases rx
  obtain ⟨its, r', pl, hz⟩ := I.list hq
  have hl := pl.isList
  have hlen := r'.length
  rw [List.length_map] at hlen
  have hlt : p < s.heap.objs.size := by obtain ⟨_, e, _⟩ := hl; exact Heap.lt_size e
  refine call_all_walk (wpAny_pyIter_list hl ?_)
  refine ⟨s.heap.objs.size, [s.heap.objs.size, p], [s.heap.objs.size], its.toArray.size, _, _, fun i => (bs[i]?).getD true, rfl, Walks.list (A := X.A.in1) (I.ok.hd hc) _ p (Nat.ne_of_lt hlt) its.toArray,
    ⟨⟨_, Heap.get?_push_size _ rfl, rfl, rfl⟩, hl.push _⟩, fun i v s' Q' E' hP hQ => ?_, fun h' tk hk => ?_⟩
  · have e1 : its[i]? = some v := by simpa using hP
    have hi : i < its.length := (List.getElem?_eq_some_iff.mp e1).1
    obtain ⟨u, e2, ru⟩ := r'.get (i := i) (x := .bl (bs[i]'(by (first | lia | omega)))) (by rw [List.getElem?_map, List.getElem?_eq_getElem (by (first | lia | omega))]; rfl)
    rw [e1] at e2
    cases e2
    have ru' : v = .bool (bs[i]'(by (first | lia | omega))) := ru
    subst ru'
    simp only [List.getElem?_eq_getElem (show i < bs.length by (first | lia | omega)), Option.getD_some] at hQ
    exact wpAny_truthy_bool hQ
  · have e : ((List.range its.toArray.size).all fun i => (bs[i]?).getD true) = bs.all id := by
      rw [List.size_toArray, ← hlen]; exact LSm.range_all bs
    rw [e]
    exact ⟨.bl _, H, I.kept (t' := tk) (LSm.kept_iter hk), rfl, q⟩
theorem atI_bls {zs : List Bool} {i : Int} (h0 : 0 ≤ i) (h1 : i < zs.length) : atI (blsV zs) i = some (.bl ((zs[i.toNat]?).getD false)) := by
  have hk : i.toNat < zs.length := by (first | lia | omega)
  refine atI_at h0 ?_
  rw [List.getElem?_map, List.getElem?_eq_getElem hk]
  rfl
theorem set_bls {zs : List Bool} {j : Nat} {z : Bool} : (blsV zs).set j (.bl z) = blsV (zs.set j z) := by
  rw [blsV, blsV, List.map_set]
theorem cut_take {xs : List V} {i : Int} (h0 : 0 ≤ i) (h1 : i ≤ xs.length) : cutV xs none (some i) = xs.take i.toNat := by
  obtain ⟨k, rfl⟩ : ∃ k : Nat, i = (k : Int) := ⟨i.toNat, by (first | lia | omega)⟩
  unfold cutV
  rw [HT.sIx_nat, HT.sIx_none, List.drop_zero]
  congr 1
  omega
theorem cut_drop {xs : List V} {i : Int} (h0 : 0 ≤ i) (h1 : i ≤ xs.length) : cutV xs (some i) none = xs.drop i.toNat := by
  obtain ⟨k, rfl⟩ : ∃ k : Nat, i = (k : Int) := ⟨i.toNat, by (first | lia | omega)⟩
  unfold cutV
  rw [HT.sIx_nat, HT.sIx_none]
  have e : min k xs.length = ((k : Nat) : Int).toNat := by (first | lia | omega)
  rw [e, List.take_of_length_le (by rw [List.length_drop]; (first | lia | omega))]
end L2
set_option maxHeartbeats 4000000
namespace L2
open PySem PySem.Spec PyProof.Rows
theorem cellsFrom_app : ∀ (names : List (Str × NameKind)) (n : Nat) (acc : List (Str × Addr)), cellsFrom n names acc = cellsFrom n names [] ++ acc
  | [], _, _ => rfl
  | (x, k) :: r, n, acc => by
    unfold cellsFrom
    split
    · rw [cellsFrom_app r (n + 1) ((x, n) :: acc), cellsFrom_app r (n + 1) [(x, n)], List.append_assoc]
      rfl
    · exact cellsFrom_app r n acc
theorem cellsFrom_mem : ∀ {names : List (Str × NameKind)} {n : Nat} {acc : List (Str × Addr)} {p : Str × Addr}, p ∈ cellsFrom n names acc → p ∈ acc ∨ (p.1, NameKind.cell) ∈ names
  | [], _, _, _, h => .inl h
  | (x, k) :: r, n, acc, p, h => by
    unfold cellsFrom at h
    split at h
    · rename_i hk
      have hk' : k = .cell := by simpa using hk
      rcases cellsFrom_mem h with q | q
      · rcases List.mem_cons.mp q with e | q
        · rw [e, hk']; exact .inr List.mem_cons_self
        · exact .inl q
      · exact .inr (List.mem_cons_of_mem _ q)
    · rcases cellsFrom_mem h with q | q
      · exact .inl q
      · exact .inr (List.mem_cons_of_mem _ q)
theorem lookup_app {α : Type} {l1 l2 : List (Str × α)} {x : Str} : (l1 ++ l2).lookup x = (match l1.lookup x with | some c => some c | none => l2.lookup x) := by
  induction l1 with
  | nil => rfl
  | cons y r ih =>
    obtain ⟨n, d⟩ := y
    rw [List.cons_append, List.lookup_cons, List.lookup_cons]
    cases e : x == n with
    | true => rfl
    | false => exact ih
noncomputable def cellsC (scope : Scope) (C : Addr) (env : Env) : List (Str × Addr) := cellsFrom (C + 1) scope.names [] ++ closOf env.cells scope.names []
theorem cellsC_cases {scope : Scope} {C : Addr} {env : Env} {x : Str} {c : Addr} (h : (cellsC scope C env).lookup x = some c) : (cellsFrom (C + 1) scope.names []).lookup x = some c ∨ ((cellsFrom (C + 1) scope.names []).lookup x = none ∧ (closOf env.cells scope.names []).lookup x = some c) := by
  unfold cellsC at h
  rw [lookup_app] at h
  cases e : (cellsFrom (C + 1) scope.names []).lookup x with
  | some d => rw [e] at h; exact .inl h
  | none => rw [e] at h; exact .inr ⟨rfl, h⟩
theorem cells_ge : ∀ {names : List (Str × NameKind)} {n m : Nat} {acc : List (Str × Addr)}, (∀ p ∈ acc, m ≤ p.2) → m ≤ n → ∀ p ∈ cellsFrom n names acc, m ≤ p.2
  | [], _, _, _, h, _, p, hp => h p hp
  | (x, k) :: r, n, m, acc, h, hm, p, hp => by
    unfold cellsFrom at hp
    split at hp
    · refine cells_ge (names := r) (n := n + 1) (fun p hp => ?_) (by (first | lia | omega)) p hp
      rcases List.mem_cons.mp hp with e | e
      · rw [e]; exact hm
      · exact h p e
    · exact cells_ge (names := r) h hm p hp
theorem new_ge {scope : Scope} {C : Addr} {x : Str} {c : Addr} (h : (cellsFrom (C + 1) scope.names []).lookup x = some c) : C + 1 ≤ c := cells_ge (names := scope.names) (n := C + 1) (m := C + 1) (acc := []) (fun _ z => nomatch z) (Nat.le_refl _) (x, c) (PySem.mem_of_lookup h)
theorem new_lt {scope : Scope} {C : Addr} {x : Str} {c : Addr} {n : Nat} (h : (cellsFrom (C + 1) scope.names []).lookup x = some c) (hC : n ≤ C) : n < c := Nat.lt_of_le_of_lt hC (Nat.lt_of_succ_le (new_ge h))
noncomputable def Cx.compC (X : Cx) (N' : List Str) (scope : Scope) (C : Addr) (s : Shared) (H : Hp) (fp : List Addr) : Cx where
  prog := X.prog
  w := X.w
  K := X.K
  mg := X.mg
  base := X.base
  A := X.A
  N := N'
  s₀ := s
  H₀ := H
  env := compEnvC scope (cellsC scope C X.env) C X.env
  outer := X.stack
  stack := X.stack
  ex := fp
  fn := fun x => scope.names.lookup x == some .cell
  calm := X.calm
  pn := []
  xe := fun _ _ => False
structure CompSc2 (X : Cx) (N' : List Str) (ix : List (Option Nat)) (scope : Scope) : Prop where
  kind : scope.kind = .function
  apart : ∀ y ∈ scope.names, y.2 = .cell → scope.names.lookup y.1 = some .cell
  names : ∀ y ∈ scope.names, y.2 = .local → scope.names.lookup y.1 = some .local
  frees : ∀ y ∈ scope.names, y.2 = .free → scope.names.lookup y.1 = some .free
  free : ∀ y ∈ scope.names, y.2 = .free → (X.env.scope.names.lookup y.1 = some .cell ∨ X.env.scope.names.lookup y.1 = some .free)
  cap : capB X.N scope.names N' ix = true
structure CompP2 (XN : List Str) (en : List (Str × NameKind)) (N' : List Str) (ix : List (Option Nat)) (scope : Scope) : Prop where
  kind : scope.kind = .function
  apart : ∀ y ∈ scope.names, y.2 = .cell → scope.names.lookup y.1 = some .cell
  names : ∀ y ∈ scope.names, y.2 = .local → scope.names.lookup y.1 = some .local
  frees : ∀ y ∈ scope.names, y.2 = .free → scope.names.lookup y.1 = some .free
  free : ∀ y ∈ scope.names, y.2 = .free → (en.lookup y.1 = some .cell ∨ en.lookup y.1 = some .free)
  cap : capB XN scope.names N' ix = true
theorem CompP2.sc {X : Cx} {XN : List Str} {en : List (Str × NameKind)} {N' : List Str} {ix : List (Option Nat)} {scope : Scope} (c : CompP2 XN en N' ix scope) (h1 : X.N = XN) (h2 : X.env.scope.names = en) : CompSc2 X N' ix scope :=
  ⟨c.kind, c.apart, c.names, c.frees, fun y hy hf => by rw [h2]; exact c.free y hy hf, by rw [h1]; exact c.cap⟩
theorem relabel_cell {scope : Scope} {env : Env} {x : Str} : scope.names.lookup x = some .cell → (relabel scope env).names.lookup x = some .cell := by
  unfold relabel
  dsimp only
  generalize scope.names = l
  induction l with
  | nil => intro h; cases h
  | cons y r ih =>
    obtain ⟨n, k⟩ := y
    intro h
    rw [List.map_cons]
    dsimp only
    cases hx : x == n with
    | true =>
      simp only [List.lookup_cons, hx] at h
      cases h
      rw [if_neg (by simp)]
      simp [List.lookup_cons, hx]
    | false =>
      simp only [List.lookup_cons, hx] at h
      by_cases c : (k == NameKind.free && env.scope.kind == .function && env.kindOf n == some .cell) = true
      · rw [if_pos c]; simp only [List.lookup_cons, hx]; exact ih h
      · rw [if_neg c]; simp only [List.lookup_cons, hx]; exact ih h
theorem CompP2.scIn {X : Cx} {XN : List Str} {osc : Scope} {env : Env} {N' : List Str} {ix : List (Option Nat)} {scope : Scope} (c : CompP2 XN osc.names N' ix scope) (h1 : X.N = XN) (h2 : X.env.scope = relabel osc env) : CompSc2 X N' ix scope :=
  ⟨c.kind, c.apart, c.names, c.frees, fun y hy hf => by
    rw [h2]
    rcases c.free y hy hf with q | q
    · exact .inl (relabel_cell q)
    · exact relabel_lookup q, by rw [h1]; exact c.cap⟩
theorem relabel_free2 {scope : Scope} {env : Env} {x : Str} {k : NameKind} (h : (relabel scope env).names.lookup x = some k) (hk : k = .cell ∨ k = .free) : (x, NameKind.free) ∈ scope.names ∨ (x, NameKind.cell) ∈ scope.names := by
  have hm := PySem.mem_of_lookup h
  obtain ⟨⟨n, k0⟩, hn, e⟩ := List.mem_map.mp hm
  dsimp only at e
  by_cases c : (k0 == NameKind.free && env.scope.kind == .function && env.kindOf n == some .cell) = true
  · rw [if_pos c] at e
    rw [Bool.and_eq_true, Bool.and_eq_true] at c
    have e0 : k0 = .free := by simpa using c.1.1
    injection e with e1 e2
    rw [← e1, ← e0]; exact .inl hn
  · rw [if_neg c] at e
    injection e with e1 e2
    rcases hk with hk | hk
    · rw [← e1, ← hk, ← e2]; exact .inr hn
    · rw [← e1, ← hk, ← e2]; exact .inl hn
theorem cellsC_free {scope : Scope} {C : Addr} {env : Env} {x : Str} {c : Addr} (ap : ∀ y ∈ scope.names, y.2 = .cell → scope.names.lookup y.1 = some .cell) (hf : scope.names.lookup x = some .free) (h : (closOf env.cells scope.names []).lookup x = some c) : (cellsC scope C env).lookup x = some c := by
  unfold cellsC
  rw [lookup_app]
  cases e : (cellsFrom (C + 1) scope.names []).lookup x with
  | none => exact h
  | some d =>
    rcases cellsFrom_mem (PySem.mem_of_lookup e) with q | q
    · cases q
    · have := ap _ q rfl
      have this' : scope.names.lookup x = some .cell := this
      rw [hf] at this'; cases this'
theorem cellsC_own {scope : Scope} {C : Addr} {env : Env} {x : Str} (h : scope.names.lookup x = some .cell) : ∃ c, (cellsFrom (C + 1) scope.names []).lookup x = some c ∧ (cellsC scope C env).lookup x = some c := by
  obtain ⟨c, e⟩ := Option.isSome_iff_exists.mp (PySem.W.cellsFrom_some scope.names (C + 1) [] (.inl h))
  refine ⟨c, e, ?_⟩
  unfold cellsC
  rw [lookup_app, e]
theorem wpAny_newCells {M : Model} {A : Around} {E : Value → Shared → Prop} {s : Shared} {scope : Scope} {globals : Addr} {cl : List (Str × Addr)} {qual : Str} {env : Env} {Q : Env → Shared → Prop}
    (hQ : ∀ h1, h1.Ns s.heap.objs.size (fun _ => none) → (∀ b o, s.heap.get? b = some o → h1.get? b = some o) → CellsOk h1 (s.heap.objs.size + 1) (cellsFrom (s.heap.objs.size + 1) scope.names []) →
      Q { scope := scope, locals := s.heap.objs.size, globals := globals, cells := cellsFrom (s.heap.objs.size + 1) scope.names [] ++ cl, qual := qual, func := none, code := env.code, frame := env.frame, builtins := env.builtins } { s with heap := h1 }) :
    wpAny M A (newFunctionEnv scope globals cl [] qual none .none (some env)) Q E s := by
  simp only [newFunctionEnv, Option.isSome_some, if_true]
  refine wpAny_bind (wpAny_alloc ?_)
  refine wpAny_bind (wpAny_layCells _ (fun name kind cells => by cases hkc : kind == NameKind.cell <;> simp [hkc]) _ _ _ _ ?_)
  have ok := cellsFrom_ok scope.names (s.heap.push { cls := .type "dict", data := .dict #[] }) (s.heap.objs.size + 1) [] ⟨fun _ _ hm => (nomatch hm), List.Pairwise.nil⟩ (by rw [Heap.size_push]; exact Nat.le_refl _)
  rw [Heap.size_push] at ok
  rw [show ({ s with heap := s.heap.push { cls := .type "dict", data := .dict #[] } } : Shared).heap.objs.size = s.heap.objs.size + 1 from Heap.size_push .., cellsFrom_app]
  rw [List.forIn_nil]
  refine wpAny_bind (wpAny_pure (wpAny_pure ?_))
  exact hQ _ ((Heap.Ns.new s.heap (.type "dict")).keeps (pushCells_keeps _ _)) (fun b o e => pushCells_keeps _ _ b o (Heap.get?_push_of_some _ e)) ok
theorem cells_apart : ∀ {names : List (Str × NameKind)} {n : Nat} {acc : List (Str × Addr)}, (acc.Pairwise fun x y => x.2 ≠ y.2) → (∀ p ∈ acc, p.2 < n) → (cellsFrom n names acc).Pairwise fun x y => x.2 ≠ y.2
  | [], _, _, h, _ => h
  | (x, k) :: r, n, acc, h, hm => by
    unfold cellsFrom
    split
    · refine cells_apart (names := r) (List.pairwise_cons.mpr ⟨fun y hy e => ?_, h⟩) fun p hp => ?_
      · have := hm y hy
        have e' : n = y.2 := e
        exact absurd this (by rw [← e']; exact Nat.lt_irrefl _)
      · rcases List.mem_cons.mp hp with e | e
        · rw [e]; exact Nat.lt_succ_self n
        · exact Nat.lt_succ_of_lt (hm p e)
    · exact cells_apart (names := r) h hm
section
variable {X : Cx} {pins : List (Addr × Obj)} {σ : St} {H : Hp} {s : Shared} {N' : List Str} {ix : List (Option Nat)} {scope : Scope} {C : Addr} {fp : List Addr}
theorem CompSc2.cells (S : CompSc2 X N' ix scope) (I : Inv X pins σ H s) : ∀ y ∈ scope.names, y.2 = .free → ∃ c, X.env.cells.lookup y.1 = some c := fun y hy hf => I.ok.has y.1 (S.free y hy hf)
theorem CompSc2.old {x : Str} {c : Addr} (S : CompSc2 X N' ix scope) (I : Inv X pins σ H s) (h : (cellsC scope C X.env).lookup x = some c) : (cellsFrom (C + 1) scope.names []).lookup x = some c ∨ X.env.cells.lookup x = some c := by
  rcases cellsC_cases h with q | ⟨_, q⟩
  · exact .inl q
  · exact .inr (closOf_lookup q (S.cells I))
theorem comp_ok2 (S : CompSc2 X N' ix scope) (I : Inv X pins σ H s) (hC : s.heap.objs.size ≤ C) (hf : ∀ b ∈ fp, FpOk X pins H b) (hl : ∀ b ∈ fp, b < s.heap.objs.size) : (X.compC N' scope C s H fp).Ok where
  mod := I.ok.mod
  kind := S.kind
  glob := I.ok.glob
  blt := I.ok.blt
  above := hC
  inj := fun x y c hx hy => by
    rcases S.old I hx with a | a
    · rcases S.old I hy with b | b
      · exact name_of_addr (cells_apart (names := scope.names) (n := C + 1) (acc := []) List.Pairwise.nil fun _ z => nomatch z) (PySem.mem_of_lookup a) (PySem.mem_of_lookup b)
      · obtain ⟨_, z⟩ := I.cell y c b
        exact absurd z.lt (Nat.not_lt.mpr (Nat.le_of_lt (new_lt a hC)))
    · rcases S.old I hy with b | b
      · obtain ⟨_, z⟩ := I.cell x c a
        exact absurd z.lt (Nat.not_lt.mpr (Nat.le_of_lt (new_lt b hC)))
      · exact I.ok.inj x y c a b
  has := fun x hx => by
    have hx' : (relabel scope X.env).names.lookup x = some .cell ∨ (relabel scope X.env).names.lookup x = some .free := hx
    have hm : (x, NameKind.free) ∈ scope.names ∨ (x, NameKind.cell) ∈ scope.names := by
      rcases hx' with q | q
      · exact relabel_free2 q (.inl rfl)
      · exact relabel_free2 q (.inr rfl)
    rcases hm with hm | hm
    · obtain ⟨c, e⟩ := S.cells I _ hm rfl
      exact ⟨c, cellsC_free S.apart (S.frees _ hm rfl) (closOf_free hm e (S.cells I))⟩
    · obtain ⟨c, _, e⟩ := cellsC_own (C := C) (env := X.env) (S.apart _ hm rfl)
      exact ⟨c, e⟩
  cab := fun x c hf hx => by
    have hf1 : (scope.names.lookup x == some NameKind.cell) = true := hf
    have hf' : scope.names.lookup x = some .cell := by simpa using hf1
    obtain ⟨d, e1, e2⟩ := cellsC_own (C := C) (env := X.env) hf'
    have hx' : (cellsC scope C X.env).lookup x = some c := hx
    rw [e2] at hx'
    have e : d = c := Option.some.inj hx'
    subst e
    exact Nat.le_of_lt (new_lt e1 hC)
  hd := I.ok.hd
  frames := I.ok.frames
  stk := .inl rfl
  exf := fun b hb => ⟨Nat.ne_of_lt (Nat.lt_of_lt_of_le (hl b hb) hC), fun x c hx => by
    rcases S.old I hx with a | a
    · exact Nat.ne_of_gt (Nat.lt_trans (hl b hb) (new_lt a hC))
    · exact (hf b hb).2.2.2.2.1 x c a⟩
  bs := I.bs
  bsz := Nat.le_trans I.ok.bsz I.sz
  noex := fun b o e hb => by
    rcases (hf b hb).2.2.2.1 with q | q
    · exact I.ok.noex b o e q
    · exact absurd (Nat.lt_of_lt_of_le (Heap.lt_size e) (Nat.le_trans I.ok.bsz q)) (Nat.lt_irrefl _)
  exfs := fun b hb hb' => by
    rcases List.mem_cons.mp (I.stkSub b hb') with q | q
    · exact (hf b hb).2.1 q
    · exact (hf b hb).2.2.1 q
  funs := I.stack
  frf := I.stkFree
theorem comp_start2 {D : Addr} {h1 : Heap} {tk : Nat} {m1 : Str → Option Value} {oD : Obj} (S : CompSc2 X N' ix scope) (I : Inv X pins σ H s) (hC : s.heap.objs.size ≤ C) (hD : s.heap.objs.size ≤ D) (hDC : D ≠ C) (hf : ∀ b ∈ fp, FpOk X pins H b) (hl : ∀ b ∈ fp, b < s.heap.objs.size)
    (old : ∀ b o, s.heap.get? b = some o → h1.get? b = some o) (hn : h1.Ns C m1) (hcs : ∀ x c, (cellsFrom (C + 1) scope.names []).lookup x = some c → h1.IsCell c none) (eD : h1.get? D = some oD) (dD : ∀ v, oD.data ≠ .cell v) :
    Inv (X.compC N' scope C s H fp) [(D, oD)] (capS ix σ) H { s with heap := h1, toks := tk } where
  ok := comp_ok2 S I hC hf hl
  os := rfl
  bare := I.bare
  base := Un.kept old
  loc := by
    refine ⟨m1, hn, fun j x v e1 e2 e3 => ?_⟩
    have e1' : N'[j]? = some x := e1
    unfold capS at e2
    rw [List.getElem?_map] at e2
    cases q : ix[j]? with
    | none => rw [q] at e2; cases e2
    | some o =>
      rw [q] at e2
      cases o with
      | none => cases e2
      | some i =>
        have e2' : (σ[i]?).getD none = some v := Option.some.inj e2
        have e4 : σ[i]? = some (some v) := by
          cases z : σ[i]? with
          | none => rw [z] at e2'; cases e2'
          | some u => rw [z] at e2'; exact congrArg some e2'
        obtain ⟨y, c1, c2, c3⟩ := capB_get S.cap q
        rw [e1'] at c1
        cases c1
        obtain ⟨m0, _, hl0⟩ := I.loc
        have hm : (x, NameKind.free) ∈ scope.names := PySem.mem_of_lookup c3
        have vis : Vis X.env.scope x := by
          rcases S.free _ hm rfl with k | k
          · exact .inr (.inl k)
          · exact .inr (.inr k)
        obtain ⟨u, ru, lu⟩ := hl0 i x v c2 e4 vis
        refine ⟨u, ru, ?_⟩
        rcases lu with ⟨k, _⟩ | ⟨_, c, hc, hcell⟩
        · have k' : X.env.scope.names.lookup x = some .local := k
          rcases S.free _ hm rfl with z | z
          · have z' : X.env.scope.names.lookup x = some .cell := z
            rw [k'] at z'; cases z'
          · have z' : X.env.scope.names.lookup x = some .free := z
            rw [k'] at z'; cases z'
        · refine .inr ⟨relabel_lookup c3, c, cellsC_free S.apart c3 (closOf_free hm hc (S.cells I)), ?_⟩
          obtain ⟨o, ho, hd⟩ := hcell
          exact ⟨o, old c o ho, hd⟩
  cell := fun x c e => by
    rcases S.old I e with a | a
    · exact ⟨none, hcs x c a⟩
    · obtain ⟨v, o, ho, hd⟩ := I.cell x c a
      exact ⟨v, o, old c o ho, hd⟩
  free := I.hok.fresh hC
  freeC := fun x c e => by
    rcases S.old I e with a | a
    · exact I.hok.fresh (Nat.le_of_lt (new_lt a hC))
    · exact I.freeC x c a
  pin := fun p hp => by
    have hp' : p ∈ ([] : List (Addr × Obj)) ++ [(D, oD)] := hp
    have e : p = (D, oD) := by simpa using hp'
    subst e
    refine ⟨eD, I.hok.fresh hD, hDC, fun hb => ?_, dD⟩
    have hb' : D ∈ frs X.stack := hb
    rcases List.mem_cons.mp (I.stkSub D hb') with q | q
    · exact absurd (Nat.lt_of_lt_of_le I.lt hD) (by rw [q]; exact Nat.lt_irrefl _)
    · exact I.nofs hD q
  hok := I.hok.kept old
  len := by
    show (capS ix σ).length = N'.length
    unfold capS
    rw [List.length_map]
    exact capB_len S.cap
theorem comp_end2 {D : Addr} {its : List Value} {n : Nat} {ys : List V} {σ' : St} {H' : Hp} {s' : Shared} (I : Inv X pins σ H s) (hD : s.heap.objs.size ≤ D) (hf : ∀ b ∈ fp, FpOk X pins H b)
    (I' : Inv (X.compC N' scope C s H fp) [(D, { cls := .type "list", data := .seq its.toArray n })] σ' H' s') (rv : Vals ys its) (hz : ys.length ≤ sizeLine) : Inv X pins σ (upd H' D (.lst ys)) s' ∧ H' D = none := by
  obtain ⟨eD, nD, _, _, _⟩ := I'.pin (D, { cls := .type "list", data := .seq its.toArray n }) (by show _ ∈ ([] : List (Addr × Obj)) ++ _; simp)
  have b := I'.base
  refine ⟨I.call' (ch := fp) I'.os ⟨fun c o e z1 z2 z3 => b.keep c o e z1 z2 z3, fun c o e z1 z2 z3 => b.slot c o e z1 z2 z3, fun c o e z1 z3 => ?_, b.there, fun c xs e => ?_, fun c o u e => ?_, fun c ps e => ?_⟩ (fun c o e => ?_) I'.bare fun c hc => ?_, nD⟩
  · rw [upd_ne (Nat.ne_of_lt (Nat.lt_of_lt_of_le (Heap.lt_size e) hD))]; exact b.free c o e z1 z3
  · have q := b.tups c xs e
    rw [upd_ne (ne_of_none q nD)]; exact q
  · have q := b.frzs c o u e
    rw [upd_ne (ne_of_none q nD)]; exact q
  · obtain ⟨mr, q⟩ := b.tbls c ps e
    exact ⟨mr, by rw [upd_ne (ne_of_none q nD)]; exact q⟩
  · by_cases hc : c = D
    · subst hc
      rw [upd_same] at e
      cases e
      exact ⟨hz, its, n, rv, eD⟩
    · rw [upd_ne hc] at e
      exact (I'.hok c o e).stay (fun _ _ _ q => q) (fun d q => by rw [upd_ne (ne_of_none q nD)]; exact q) fun d xs q => by rw [upd_ne (ne_of_none q nD)]; exact q
  · obtain ⟨f0, f1, f2, f3, f4, f5⟩ := hf c hc
    exact ⟨f3, f1, f4, f5⟩
end
theorem comp_block2 {X : Cx} {pins : List (Addr × Obj)} {σ : St} {H : Hp} {s : Shared} {N' : List Str} {ix : List (Option Nat)} {scope : Scope} {tg elt iter : Expr} {ifs : List Expr} {g : TG} {tc : TT} {te : TE} {it : Addr} {fp : List Addr} {tn : Nat → Heap → Prop} {J : It} {pos : Pos}
    {Fin : List V → Hp → Prop} {RR : Value → Addr → Result → Shared → Prop} {E : Value → Shared → Prop} (hc : X.calm = true) (S : CompSc2 X N' ix scope)
    (hg : ∀ C s H fp, PG (X.compC N' scope C s H fp) tg g) (hi : ∀ C s H fp, PIfs (X.compC N' scope C s H fp) ifs tc) (he : ∀ C s H fp, PE (X.compC N' scope C s H fp) elt te)
    (I : Inv X pins σ H s) (T : Turn X.prog X.w X.K tg J fp it tn) (st : tn 0 s.heap) (f0 : ∀ b ∈ fp, FpOk X pins H b) (wh : compW g tc te J (capS ix σ) H Fin)
    (hRR : ∀ D C H' s' ys m', s.heap.objs.size ≤ D → s.heap.objs.size ≤ C → D ≠ C → Inv X pins σ (upd H' D (.lst ys)) s' → H' D = none → H' C = none → s'.heap.Ns C m' → Fin ys H' → RR (.ref D) C (.ok .next) s') :
    wpAny (model X.prog X.w) X.A (newList []) (fun acc s₃ => wpAny (model X.prog X.w) X.A (newFunctionEnv scope X.env.globals (closOf X.env.cells scope.names []) [] X.env.qual none .none (some X.env)) (fun cenv s₄ =>
      codeAny (model X.prog X.w) X.A (.compStart (.ListComp elt [⟨tg, iter, ifs, 0⟩] scope pos) 0 (.ref it) acc { cenv with scope := relabel scope X.env }) (RR acc cenv.locals) s₄) E s₃) E s := by
  have hlt : ∀ b ∈ fp, b < s.heap.objs.size := fun b hb => let ⟨_, e, _⟩ := T.obj _ _ st b hb; Heap.lt_size e
  refine wpAny_newObj_type (wpAny_newCells (fun h₁ hns₁ hsb₁ hco₁ => ?_))
  dsimp only at hns₁ hsb₁ hco₁ ⊢
  generalize hH2 : s.heap.push { cls := .type "list", dict := none, data := .seq ([] : List Value).toArray } = H2 at hns₁ hsb₁ hco₁ ⊢
  have hC : H2.objs.size = s.heap.objs.size + 1 := by rw [← hH2, Heap.size_push]
  have hDC : s.heap.objs.size ≠ H2.objs.size := by rw [hC]; exact Nat.ne_of_lt (Nat.lt_succ_self _)
  have hCle : s.heap.objs.size ≤ H2.objs.size := by rw [hC]; exact Nat.le_succ _
  have below : ∀ b, b < s.heap.objs.size → b ≠ H2.objs.size := fun b hb => by rw [hC]; exact Nat.ne_of_lt (Nat.lt_succ_of_lt hb)
  have old : ∀ b o, s.heap.get? b = some o → h₁.get? b = some o := fun b o e => hsb₁ b o (hH2 ▸ Heap.get?_push_of_some _ e)
  have hacc : h₁.get? s.heap.objs.size = some { cls := .type "list", dict := none, data := .seq ([] : List Value).toArray } := hsb₁ _ _ (hH2 ▸ Heap.get?_push_size _ rfl)
  have st₁ : tn 0 h₁ := T.keep _ _ _ st fun b _ o e => old b o e
  have hDf : s.heap.objs.size ∉ fp := fun hb => Nat.lt_irrefl _ (hlt _ hb)
  obtain ⟨W, ⟨m0, w0⟩, turn⟩ := wh
  have stat : ∀ {pl : List (Addr × Obj)} {H' : Hp}, (∀ p ∈ pl, p.1 ∉ fp) → (∀ b ∈ fp, H' b = none) → ∀ b ∈ fp, FpOk (X.compC N' scope H2.objs.size s H fp) pl H' b := fun {pl H'} hpl hn b hb => by
    obtain ⟨f1, f2, f3, f4, f5, f6⟩ := f0 b hb
    refine ⟨hn b hb, below b (hlt b hb), fun q => ?_, .inl hb, fun x c e => by
      rcases S.old I e with a | a
      · exact Nat.ne_of_gt (Nat.lt_trans (hlt b hb) (new_lt a hCle))
      · exact f5 x c a, fun p hp z => ?_⟩
    · rcases List.mem_cons.mp (I.stkSub b q) with z | z
      · exact f2 z
      · exact f3 z
    · have hp' : p ∈ ([] : List (Addr × Obj)) ++ pl := hp
      exact hpl p (by simpa using hp') (by rw [z]; exact hb)
  have one : ∀ {o : Obj}, ∀ p ∈ [(s.heap.objs.size, o)], p.1 ∉ fp := fun {o} p hp => by rw [List.mem_singleton.mp hp]; exact hDf
  have loop : ∀ s₃ : Shared, s₃ = { s with heap := h₁ } →
      codeAny (model X.prog X.w) X.A (.compLoop (.ListComp elt [⟨tg, iter, ifs, 0⟩] scope pos) 0 (.ref it) (.ref s.heap.objs.size) (compEnvC scope (cellsC scope H2.objs.size X.env) H2.objs.size X.env))
        (RR (.ref s.heap.objs.size) H2.objs.size) s₃ := by
    rintro s₃ rfl
    refine comp_loop (fun n s' => ∃ i its k ys σ' H', Inv (X.compC N' scope H2.objs.size s H fp) [(s.heap.objs.size, { cls := .type "list", data := .seq its.toArray k })] σ' H' s' ∧ Vals ys its ∧ ys.length ≤ sizeLine ∧ tn i s'.heap ∧ (∀ b ∈ fp, H' b = none) ∧ W i n ys σ' H') ?_ m0
      ⟨0, [], 0, [], capS ix σ, H, comp_start2 S I hCle (Nat.le_refl _) hDC f0 hlt old hns₁ (fun x c e => (hco₁.empty x c (PySem.mem_of_lookup e)).1) hacc (by intro v z; cases z), .nil, Nat.zero_le _, st₁, fun b hb => (f0 b hb).1, w0⟩
    rintro n s' ⟨i, its, k, ys, σ', H', I', rv, hz, st', fr', w'⟩
    rcases turn i n ys σ' H' w' with ⟨stop, fin⟩ | ⟨go, hzz, N, hN, step⟩
    · refine thn (T.done (X.compC N' scope H2.objs.size s H fp) rfl rfl rfl hc i _ s' σ' H' (fun _ _ => False) I' (stat one fr') st' stop) fun r s4 ⟨hr, I4⟩ => ?_
      subst hr
      obtain ⟨m', hm', _⟩ := I4.loc
      obtain ⟨J1, J2⟩ := comp_end2 I (Nat.le_refl _) f0 I4 rv hz
      exact hRR _ _ H' s4 ys m' (Nat.le_refl _) hCle hDC J1 J2 I4.free hm' fin
    · refine thn (T.item (X.compC N' scope H2.objs.size s H fp) rfl rfl rfl hc i _ s' σ' H' (fun _ _ => False) I' (stat one fr') st' go) fun r s4 ⟨u, hr, h4⟩ => ?_
      subst hr
      refine thn h4 fun _ s5 ⟨x, H5, I5, r5, y5, st5, fr5⟩ => ?_
      have I5' := I5.pinned (stat one fr5) (T.obj _ _ st5)
      refine thn (hg _ _ _ _ _ s5 σ' H5 x u _ I5' r5 (step x H5 y5)) fun _ s6 ⟨σ6, H6, I6, q6⟩ => ?_
      refine thn (hi _ _ _ _ _ s6 σ6 H6 _ I6 q6) fun b s7 ⟨H7, I7, q7⟩ => ?_
      have keepT : ∀ {σ8 : St} {H8 : Hp} {s8 : Shared}, Inv (X.compC N' scope H2.objs.size s H fp) ([(s.heap.objs.size, { cls := .type "list", data := .seq its.toArray k })] ++ pinsAt fp s5.heap) σ8 H8 s8 → tn (i + 1) s8.heap ∧ ∀ b ∈ fp, H8 b = none := fun {σ8 H8 s8} I8 => by
        refine ⟨T.keep _ _ _ st5 fun b hb o e => (I8.pin (b, o) (List.mem_append_right _ (List.mem_append_right _ (mem_pinsAt hb e)))).1, fun b hb => ?_⟩
        obtain ⟨o, e, d⟩ := T.obj _ _ st5 b hb
        exact (I8.pin (b, o) (List.mem_append_right _ (List.mem_append_right _ (mem_pinsAt hb e)))).2.1
      cases b with
      | false =>
        obtain ⟨m', hm, w7⟩ := hN _ _ _ q7
        obtain ⟨t7, fr7⟩ := keepT I7
        exact ⟨m', hm, i + 1, its, k, ys, σ6, H7, I7.unpinned, rv, hz, t7, fr7, w7⟩
      | true =>
        refine thn (he _ _ _ _ _ s7 σ6 H7 _ I7 q7) fun v s8 ⟨y, H8, I8, r8, q8⟩ => ?_
        obtain ⟨m', hm, w8⟩ := hN _ _ _ q8
        obtain ⟨t8, fr8⟩ := keepT I8
        obtain ⟨eD, nD, dC, dF, _⟩ := I8.pin (s.heap.objs.size, { cls := .type "list", data := .seq its.toArray k }) (by show _ ∈ ([] : List (Addr × Obj)) ++ _; simp)
        have hlen := rv.length
        refine wpAny_list_append_plain ⟨k, eD⟩ (fun h9 hp9 sb9 => ?_) (by rw [List.size_toArray]; (first | lia | omega))
        obtain ⟨k9, e9⟩ := hp9
        have I9 : Inv (X.compC N' scope H2.objs.size s H fp) [] σ6 H8 s8 := I8.pins_of fun _ z => nomatch z
        have I10 : Inv (X.compC N' scope H2.objs.size s H fp) [] σ6 H8 { s8 with heap := h9 } := I9.turned (t' := s8.toks) (fun b o hb e => (sb9.2 b hb).trans e) nD dC (.inr (Nat.le_refl _)) (fun x c e z => by
          rcases S.old I e with a | a
          · exact absurd z (Nat.ne_of_gt (new_lt a hCle))
          · obtain ⟨v', z'⟩ := I.cell x c a
            exact absurd z'.lt (by rw [z]; exact Nat.lt_irrefl _)) (fun p hp => by have hp' : p ∈ ([] : List (Addr × Obj)) ++ [] := hp; simp at hp')
        refine ⟨m', hm, i + 1, its ++ [v], k9, ys ++ [y], σ6, H8, I10.pins_of fun p hp => ?_, rv.append (.cons r8 .nil), by rw [List.length_append, List.length_singleton]; (first | lia | omega), T.keep _ _ _ t8 fun b hb o e => (sb9.2 b fun z => hDf (by rw [← z]; exact hb)).trans e, fr8, w8⟩
        have e : p = (s.heap.objs.size, { cls := .type "list", data := .seq (its ++ [v]).toArray k9 }) := by simpa using hp
        subst e
        refine ⟨?_, nD, dC, dF, by intro v z; cases z⟩
        have z : (its.toArray.push v) = (its ++ [v]).toArray := by simp
        rw [← z]; exact e9
  exact codeAny_compStart_list (loop _ rfl) (T.self X.A 0 _ _ _ st₁ (loop _ rfl))
theorem pe_comp2 {X : Cx} {N' : List Str} {ix : List (Option Nat)} {scope : Scope} {tg elt iter : Expr} {ifs : List Expr} {wi : TI} {g : TG} {tc : TT} {te : TE} {pos : Pos} (hc : X.calm = true) (S : CompSc2 X N' ix scope) (hit : PI X tg iter wi)
    (hg : ∀ C s H fp, PG (X.compC N' scope C s H fp) tg g) (hi : ∀ C s H fp, PIfs (X.compC N' scope C s H fp) ifs tc) (he : ∀ C s H fp, PE (X.compC N' scope C s H fp) elt te)
    (hs : ∀ x, foldedSetIterable iter X.env x = pure x := by intro _; rfl) : PE X (.ListComp elt [⟨tg, iter, ifs, 0⟩] scope pos) (tComp ix wi g tc te) := by
  intro pins s σ H Q I h
  rw [eval_ListComp]
  refine wpAny_comprehension_free (use := none) rfl hs (closureFor_eq (S.cells I)) S.kind S.names (thn (hit pins s σ H _ I h) fun v s1 h1 => thn h1 fun itv s2 h2 => ?_)
  obtain ⟨it, fp, tn, J, H2, e, I2, T, st2, f2, wh⟩ := h2
  subst e
  refine comp_block2 (Fin := fun ys H3 => ∀ p, H3 p = none → Q (.ref p) (upd H3 p (.lst ys))) (RR := fun acc C => compPost (model X.prog X.w) X.A X.xe none (EP X pins σ Q) acc C) hc S hg hi he I2 T st2 f2 wh ?_
  intro D C H' s' ys m' hD hC hDC J1 J2 J3 hm fin
  refine ⟨m', hm, fun h' sb => ⟨.ref D, _, J1.turned (t' := s'.toks) (fun b o hb e => (sb.2 b hb).trans e) (by rw [upd_ne (Ne.symm hDC)]; exact J3) (Nat.ne_of_gt (Nat.lt_of_lt_of_le I2.lt hC)) (.inr (Nat.le_trans I2.sz hC)) (fun x c e z => ?_) (fun p hp z => ?_), rfl, fin D J2⟩⟩
  · obtain ⟨v', z'⟩ := I2.cell x c e
    exact absurd (Nat.lt_of_lt_of_le z'.lt hC) (by rw [z]; exact Nat.lt_irrefl _)
  · exact absurd (Nat.lt_of_lt_of_le (Heap.lt_size (I2.pin p hp).1) hC) (by rw [z]; exact Nat.lt_irrefl _)
theorem ps_compL2 {X : Cx} {j : Nat} {y : Str} {py spos : Pos} {N' : List Str} {ix : List (Option Nat)} {scope : Scope} {tg elt iter : Expr} {ifs : List Expr} {wi : TI} {g : TG} {tc : TT} {te : TE} {pos : Pos} (hN : X.N.Nodup) (hj : X.N[j]? = some y) (hy : Loc X.env.scope y) (hf : X.fn y = true ∨ X.env.scope.names.lookup y = some .local)
    (hc : X.calm = true) (S : CompSc2 X N' ix scope) (hit : PI X tg iter wi)
    (hg : ∀ C s H fp, PG (X.compC N' scope C s H fp) tg g) (hi : ∀ C s H fp, PIfs (X.compC N' scope C s H fp) ifs tc) (he : ∀ C s H fp, PE (X.compC N' scope C s H fp) elt te)
    (hsw : swapsWith (.ListComp elt [⟨tg, iter, ifs, 0⟩] scope pos) (some (.Name y py)) spos.line X.env = pure true := by rfl)
    (hs : ∀ x, foldedSetIterable iter X.env x = pure x := by intro _; rfl) : PS X (.Assign [.Name y py] (.ListComp elt [⟨tg, iter, ifs, 0⟩] scope pos) spos) (tCompS j ix wi g tc te) := by
  intro pins s σ H D I h
  rw [exec_Assign_Name_used _ _ _ _ hsw]
  refine wpAny_bind (wpAny_standAt (wpAny_bind ?_))
  show wpAny _ X.A (do let _ ← comprehension (.ListComp elt [⟨tg, iter, ifs, 0⟩] scope pos) scope X.env _ (newList []) false (eval iter X.env) (some (assign (.Name y py) X.env))) _ _ s
  refine wpAny_bind (wpAny_mono (wpAny_comprehension_free (use := some (assign (.Name y py) X.env)) (Q := fun _ s' => SP X pins D .next s') rfl hs (closureFor_eq (S.cells I)) S.kind S.names
    (thn (hit pins s σ H _ I h) fun v s1 h1 => thn h1 fun itv s2 h2 => ?_)) (fun _ s' hq => wpAny_pure (wpAny_pure hq)) fun _ _ e => e)
  obtain ⟨it, fp, tn, J, H2, e, I2, T, st2, f2, wh⟩ := h2
  subst e
  refine comp_block2 (Fin := fun ys H3 => ∀ p, H3 p = none → D.nx (σ.set j (some (.ref p))) (upd H3 p (.lst ys))) (RR := fun acc C => compPost (model X.prog X.w) X.A X.xe (some (assign (.Name y py) X.env)) (fun _ s' => SP X pins D .next s') acc C) hc S hg hi he I2 T st2 f2 wh ?_
  intro D' C H' s' ys m' hD hC hDC J1 J2 J3 hm fin
  refine wpAny_assign_Name (store_ok2 J1 hN hj hy (show RelV (.ref D') (.ref D') from rfl) (fun s3 I3 ⟨a, sb, ha⟩ => ?_) hf)
  have hCa : C ≠ a := by
    rcases ha with z | z
    · rw [z]; exact Nat.ne_of_gt (Nat.lt_of_lt_of_le I2.lt hC)
    · intro q
      obtain ⟨v', z'⟩ := I2.cell y a z
      exact absurd (Nat.lt_of_lt_of_le z'.lt hC) (by rw [q]; exact Nat.lt_irrefl _)
  refine ⟨m', hm.sameBut sb hCa, fun h' sb' => ⟨_, _, I3.turned (t' := s3.toks) (fun b o hb e => (sb'.2 b hb).trans e) (by rw [upd_ne (Ne.symm hDC)]; exact J3) (Nat.ne_of_gt (Nat.lt_of_lt_of_le I2.lt hC)) (.inr (Nat.le_trans I2.sz hC)) (fun x c e z => ?_) (fun p hp z => ?_), fin D' J2⟩⟩
  · obtain ⟨v', z'⟩ := I2.cell x c e
    exact absurd (Nat.lt_of_lt_of_le z'.lt hC) (by rw [z]; exact Nat.lt_irrefl _)
  · exact absurd (Nat.lt_of_lt_of_le (Heap.lt_size (I2.pin p hp).1) hC) (by rw [z]; exact Nat.lt_irrefl _)
end L2
namespace L2
open PySem PySem.Spec PyProof.Rows
noncomputable def Itz (K : PySem.W.Frag) (a b : Addr) : It :=
  ⟨fun i H => ∃ xs ys x y, SqL K H a xs ∧ SqL K H b ys ∧ xs[i]? = some x ∧ ys[i]? = some y,
   fun i H x H' => ∃ p v u, H p = none ∧ (∀ xs, SqL K H a xs → xs[i]? = some v) ∧ (∀ ys, SqL K H b ys → ys[i]? = some u) ∧ x = .ref p ∧ H' = upd H p (.tup [v, u]),
   fun i H => ∃ xs ys, SqL K H a xs ∧ SqL K H b ys ∧ (xs.length ≤ i ∨ ys.length ≤ i)⟩
theorem turn_zip {P : Program} {w : World} {K : PySem.W.Frag} {es : List Expr} {k : Nat} {tp : Pos} (a b z TI TO i1 i2 : Addr) (D : ZipApart z TI TO i1 i2 a b) :
    Turn P w K (.Tuple es k tp) (Itz K a b) [z, TI, TO, i1, i2] z (fun i h => IsZip h z TI TO .none ∧ IsPair h TI (.ref i1) (.ref i2) ∧ (∃ c d, IsPair h TO c d) ∧ h.IsListIter i1 a i ∧ h.IsListIter i2 b i) where
  mem := by simp
  obj := fun i h st c hc => by
    obtain ⟨hz, hTI, ⟨c1, d1, hTO⟩, ⟨o1, ho1, _, e1⟩, ⟨o2, ho2, _, e2⟩⟩ := st
    simp only [List.mem_cons, List.not_mem_nil, or_false] at hc
    rcases hc with rfl | rfl | rfl | rfl | rfl
    · exact ⟨_, hz, fun v q => by cases q⟩
    · exact ⟨_, hTI, fun v q => by cases q⟩
    · exact ⟨_, hTO, fun v q => by cases q⟩
    · exact ⟨_, ho1, fun v q => by rw [e1] at q; cases q⟩
    · exact ⟨_, ho2, fun v q => by rw [e2] at q; cases q⟩
  keep := fun i h h' st kk => by
    obtain ⟨hz, hTI, ⟨c1, d1, hTO⟩, h1, h2⟩ := st
    exact ⟨kk z (by simp) _ hz, kk TI (by simp) _ hTI, ⟨c1, d1, kk TO (by simp) _ hTO⟩, h1.at fun o q => kk i1 (by simp) o q, h2.at fun o q => kk i2 (by simp) o q⟩
  item := by
    intro X hP hw hK hc i pins s σ H E I hf st hg
    subst hP hw hK
    obtain ⟨hz, hTI, ⟨c1, d1, hTO⟩, h1, h2⟩ := st
    obtain ⟨xs, ys, x, y, hq1, hq2, hx, hy⟩ := hg
    obtain ⟨its1, rv1, p1, hz1⟩ := I.list hq1
    obtain ⟨its2, rv2, p2, hz2⟩ := I.list hq2
    obtain ⟨u1, hu1, ru1⟩ := rv1.get hx
    obtain ⟨u2, hu2, ru2⟩ := rv2.get hy
    have fz := hf z (by simp)
    have fTO := hf TO (by simp)
    have f1 := hf i1 (by simp)
    have f2 := hf i2 (by simp)
    refine wpAny_pyNext_zip_item D hz hTI hTO h1 h2 p1.isList p2.isList (x := u1) (y := u2) (by simpa using hu1) (by simpa using hu2) fun h' a1 a2 a3 a4 a5 a6 hk => ⟨_, rfl, ?_⟩
    refine wpAny_letOwnedTupleGo_zip (s := { s with heap := h' }) a1 fun h3 hz3 hs3 => ?_
    have kp : ∀ c o, c ≠ z → c ≠ TO → c ≠ i1 → c ≠ i2 → s.heap.get? c = some o → h3.get? c = some o := fun c o q1 q2 q3 q4 q => (hs3.2 c q1).trans (hk c o q1 q2 q3 q4 q)
    have ltz : z < s.heap.objs.size := Heap.lt_size hz
    have ltTO : TO < s.heap.objs.size := Heap.lt_size hTO
    have lt1 : i1 < s.heap.objs.size := by obtain ⟨_, q, _⟩ := h1; exact Heap.lt_size q
    have lt2 : i2 < s.heap.objs.size := by obtain ⟨_, q, _⟩ := h2; exact Heap.lt_size q
    have ltTI : TI < s.heap.objs.size := Heap.lt_size hTI
    have hT : h3.get? s.heap.objs.size = some { cls := .type "tuple", data := .seq #[u1, u2] } := (hs3.2 _ (Nat.ne_of_gt ltz)).trans a5
    have hn : H s.heap.objs.size = none := I.hok.fresh (Nat.le_refl _)
    have tr : ∀ c v, H c = some v → c ≠ z ∧ c ≠ TO ∧ c ≠ i1 ∧ c ≠ i2 := fun c v q => ⟨(fun e => by rw [e, fz.1] at q; cases q), (fun e => by rw [e, fTO.1] at q; cases q), (fun e => by rw [e, f1.1] at q; cases q), (fun e => by rw [e, f2.1] at q; cases q)⟩
    have nin : ∀ c, c ∉ [z, TO, i1, i2] → c ≠ z ∧ c ≠ TO ∧ c ≠ i1 ∧ c ≠ i2 := fun c hc => ⟨fun e => hc (by simp [e]), fun e => hc (by simp [e]), fun e => hc (by simp [e]), fun e => hc (by simp [e])⟩
    have Jv : Inv X pins σ (upd H s.heap.objs.size (.tup [x, y])) { s with heap := h3, gens := s.gens, drawn := s.drawn, toks := s.toks } := by
      refine I.step (ch := [z, TO, i1, i2]) (fun c hc => ?_) (fun c o _ _ hc q _ => let ⟨n1, n2, n3, n4⟩ := nin c hc; kp c o n1 n2 n3 n4 q) (fun c o _ _ hc q _ => let ⟨n1, n2, n3, n4⟩ := nin c hc; ⟨o.slots, kp c o n1 n2 n3 n4 q⟩)
        (fun c o _ q n => by rw [upd_ne (Nat.ne_of_lt (Heap.lt_size q))]; exact n) (fun c o hc q => let ⟨n1, n2, n3, n4⟩ := nin c hc; ⟨o, kp c o n1 n2 n3 n4 q⟩) (fun c zs q => by rw [upd_ne (ne_of_none q hn)]; exact q) (fun c o v q => by rw [upd_ne (ne_of_none q hn)]; exact q)
        (fun c ps q => ⟨#[], by rw [upd_ne (ne_of_none q hn), q]; simp⟩) (fun m hm => ?_) (fun c v q => ?_) I.bare
      · simp only [List.mem_cons, List.not_mem_nil, or_false] at hc
        rcases hc with rfl | rfl | rfl | rfl
        · exact ⟨fz.2.2.2.1, fz.2.1, fz.2.2.2.2.1, fz.2.2.2.2.2⟩
        · exact ⟨fTO.2.2.2.1, fTO.2.1, fTO.2.2.2.2.1, fTO.2.2.2.2.2⟩
        · exact ⟨f1.2.2.2.1, f1.2.1, f1.2.2.2.2.1, f1.2.2.2.2.2⟩
        · exact ⟨f2.2.2.2.1, f2.2.1, f2.2.2.2.2.1, f2.2.2.2.2.2⟩
      · obtain ⟨o, es', ep, ho', r⟩ := hm
        exact ⟨o, es', ep, kp _ o (Ne.symm fz.2.1) (Ne.symm fTO.2.1) (Ne.symm f1.2.1) (Ne.symm f2.2.1) ho', r⟩
      · by_cases hb : c = s.heap.objs.size
        · subst hb
          rw [upd_same] at q
          cases q
          exact ⟨by show 2 ≤ sizeLine; decide, [u1, u2], .cons ru1 (.cons ru2 .nil), ⟨_, hT, rfl, _, rfl⟩⟩
        · rw [upd_ne hb] at q
          refine (I.hok c v q).stay (fun c' ob hcc e => ?_) (fun c' e => by rw [upd_ne (ne_of_none e hn)]; exact e) fun c' zs e => by rw [upd_ne (ne_of_none e hn)]; exact e
          have q' : ∃ v, H c' = some v := by
            rcases hcc with hcc | hcc
            · subst hcc; exact ⟨v, q⟩
            · exact ⟨_, hcc⟩
          obtain ⟨v', q'⟩ := q'
          obtain ⟨n1, n2, n3, n4⟩ := tr c' v' q'
          exact kp c' ob n1 n2 n3 n4 e
    refine ⟨.ref s.heap.objs.size, _, Jv, rfl, ⟨_, x, y, hn, fun zs hy' => by rw [I.list_inj hy' hq1]; exact hx, fun zs hy' => by rw [I.list_inj hy' hq2]; exact hy, rfl, rfl⟩,
      ⟨hz3, kp TI _ D.TIz D.TITO D.TIi1 D.TIi2 hTI, ⟨_, _, (hs3.2 _ D.TOz).trans a2⟩, a3.at fun o q => (hs3.2 _ D.i1z).trans q, a4.at fun o q => (hs3.2 _ D.i2z).trans q⟩, fun c hc => ?_⟩
    have hb' : c < s.heap.objs.size := by
      simp only [List.mem_cons, List.not_mem_nil, or_false] at hc
      rcases hc with rfl | rfl | rfl | rfl | rfl <;> assumption
    rw [upd_ne (Nat.ne_of_lt hb')]
    exact (hf c hc).1
  done := by
    intro X hP hw hK hc i pins s σ H E I hf st hg
    subst hP hw hK
    obtain ⟨hz, hTI, ⟨c1, d1, hTO⟩, h1, h2⟩ := st
    obtain ⟨xs, ys, hq1, hq2, hx⟩ := hg
    obtain ⟨its1, rv1, p1, hz1⟩ := I.list hq1
    obtain ⟨its2, rv2, p2, hz2⟩ := I.list hq2
    have l1 := rv1.length
    have l2 := rv2.length
    have fz := hf z (by simp)
    have fTO := hf TO (by simp)
    have f1 := hf i1 (by simp)
    have f2 := hf i2 (by simp)
    have nin : ∀ c, c ∉ [z, TO, i1, i2] → c ≠ z ∧ c ≠ TO ∧ c ≠ i1 ∧ c ≠ i2 := fun c hc => ⟨fun e => hc (by simp [e]), fun e => hc (by simp [e]), fun e => hc (by simp [e]), fun e => hc (by simp [e])⟩
    have tr : ∀ c v, H c = some v → c ≠ z ∧ c ≠ TO ∧ c ≠ i1 ∧ c ≠ i2 := fun c v q => ⟨(fun e => by rw [e, fz.1] at q; cases q), (fun e => by rw [e, fTO.1] at q; cases q), (fun e => by rw [e, f1.1] at q; cases q), (fun e => by rw [e, f2.1] at q; cases q)⟩
    refine wpAny_pyNext_zip_end (I.ok.hd hc) D hz hTI hTO h1 h2 p1.isList p2.isList ?_ fun h' hk => ⟨rfl, ?_⟩
    · rcases hx with hx | hx
      · exact .inl (by simp; (first | lia | omega))
      · exact .inr (by simp; (first | lia | omega))
    · refine I.step (g' := s.gens) (d' := s.drawn) (t' := s.toks) (ch := [z, TO, i1, i2]) (fun c hc => ?_) (fun c o _ _ hc q _ => let ⟨n1, n2, n3, n4⟩ := nin c hc; hk c o n1 n2 n3 n4 q) (fun c o _ _ hc q _ => let ⟨n1, n2, n3, n4⟩ := nin c hc; ⟨o.slots, hk c o n1 n2 n3 n4 q⟩)
        (fun c o _ q n => n) (fun c o hc q => let ⟨n1, n2, n3, n4⟩ := nin c hc; ⟨o, hk c o n1 n2 n3 n4 q⟩) (fun c zs q => q) (fun c o v q => q)
        (fun c ps q => ⟨#[], by rw [q]; simp⟩) (fun m hm => ?_) (fun c v q => ?_) I.bare
      · simp only [List.mem_cons, List.not_mem_nil, or_false] at hc
        rcases hc with rfl | rfl | rfl | rfl
        · exact ⟨fz.2.2.2.1, fz.2.1, fz.2.2.2.2.1, fz.2.2.2.2.2⟩
        · exact ⟨fTO.2.2.2.1, fTO.2.1, fTO.2.2.2.2.1, fTO.2.2.2.2.2⟩
        · exact ⟨f1.2.2.2.1, f1.2.1, f1.2.2.2.2.1, f1.2.2.2.2.2⟩
        · exact ⟨f2.2.2.2.1, f2.2.1, f2.2.2.2.2.1, f2.2.2.2.2.2⟩
      · obtain ⟨o, es', ep, ho', r⟩ := hm
        exact ⟨o, es', ep, hk _ o (Ne.symm fz.2.1) (Ne.symm fTO.2.1) (Ne.symm f1.2.1) (Ne.symm f2.2.1) ho', r⟩
      · refine (I.hok c v q).stay (fun c' ob hcc e => ?_) (fun c' e => e) fun c' zs e => e
        have q' : ∃ v, H c' = some v := by
          rcases hcc with hcc | hcc
          · subst hcc; exact ⟨v, q⟩
          · exact ⟨_, hcc⟩
        obtain ⟨v', q'⟩ := q'
        obtain ⟨n1, n2, n3, n4⟩ := tr c' v' q'
        exact hk c' ob n1 n2 n3 n4 e
  self := fun _ _ _ _ _ st h => by
    obtain ⟨hz, _⟩ := st
    exact wpAny_pyIter_zip hz h
inductive rZi (K : PySem.W.Frag) (vs : List V) (H1 : Hp) (R : It → Hp → Prop) : Prop
  | mk (a b : Addr) : (vs = [.ref a, .ref b]) → ((∃ xs, SqL K H1 a xs)) → ((∃ ys, SqL K H1 b ys)) → (R (Itz K a b) H1) → rZi K vs H1 R
noncomputable def iZip (K : PySem.W.Frag) (ta : TA) : TI := fun σ H R => ta σ H fun vs H1 => rZi K vs H1 R
theorem pi_zip {X : Cx} {K : PySem.W.Frag} {es : List Expr} {k : Nat} {tp : Pos} {l m : Expr} {ta : TA} {p pos : Pos} (hK : X.K = K) (hg : Gl X "zip") (hm : X.mg "zip" = none) (hv : bootBuiltins "zip" = some (.type "zip")) (ha : PA X [l, m] ta)
    (hs : starEach [l, m] X.env = [(false, eval l X.env), (false, eval m X.env)] := by rfl) (hs2 : starEach [m] X.env = [(false, eval m X.env)] := by rfl) :
    PI X (.Tuple es k tp) (.Call (.Name "zip" p) [l, m] [] pos) (iZip K ta) := by
  subst hK
  intro pins s σ H R I h
  refine Call_ (ld_blt I hg hm hv ?_)
  refine PyProof.Rows.callWith_type1 (thn (ha pos pins s σ H _ I h) fun us s1 ⟨vs, H1, I1, r1, q1⟩ => ?_) (by rw [hs, hs2]) (by rw [hs2]; rfl)
  obtain ⟨a, b, e, ⟨xs, hq1⟩, ⟨ys, hq2⟩, q⟩ := q1
  subst e
  obtain ⟨u, v, rfl, ru, rv⟩ := vals2 r1
  cases ru
  cases rv
  obtain ⟨its1, rv1, pl1, hz1⟩ := I1.list hq1
  obtain ⟨its2, rv2, pl2, hz2⟩ := I1.list hq2
  have lt1 : a < s1.heap.objs.size := by obtain ⟨_, e, _⟩ := pl1.isList; exact Heap.lt_size e
  have lt2 : b < s1.heap.objs.size := by obtain ⟨_, e, _⟩ := pl2.isList; exact Heap.lt_size e
  refine call_zip_2 pl1.isList pl2.isList fun h' hz hTI hTO hi1 hi2 hsz hk => ?_
  refine wpAny_pyIter_zip hz ?_
  have I2 : Inv X pins σ H1 { s1 with heap := h' } := I1.kept (t' := s1.toks) hk
  refine ⟨s1.heap.objs.size + 4, [s1.heap.objs.size + 4, s1.heap.objs.size + 2, s1.heap.objs.size + 3, s1.heap.objs.size, s1.heap.objs.size + 1], _, _, H1, rfl, I2, turn_zip a b _ _ _ _ _ (zipApart_new lt1 lt2), ⟨hz, hTI, ⟨_, _, hTO⟩, hi1, hi2⟩, fun c hc => ?_, q⟩
  have hb' : s1.heap.objs.size ≤ c := by
    simp only [List.mem_cons, List.not_mem_nil, or_false] at hc
    rcases hc with rfl | rfl | rfl | rfl | rfl
    · exact Nat.le_add_right _ _
    · exact Nat.le_add_right _ _
    · exact Nat.le_add_right _ _
    · exact Nat.le_refl _
    · exact Nat.le_add_right _ _
  exact I1.fpOk hb' (I1.hok.fresh hb')
end L2
namespace L2
open PySem PySem.Spec PyProof.Rows
section
variable {X : Cx}
inductive rCnt (x : V) (vs : List V) (H : Hp) (Q : VK) : Prop
  | mk (l xs y : _) : (x = .ref l) → (vs = [y]) → (H l = some (.lst xs)) → (flatV y = true) → (xs.all flatV = true) → (Q (.int (xs.countP fun z => eqV z y)) H) → rCnt x vs H Q
theorem mt_count : MtM X "list.count" rCnt := by
  intro pins s σ H x vs v us Q I rx rv h
  obtain ⟨l, xs, y, rfl, rfl, hH, fy, fx, q⟩ := h
  cases rx
  obtain ⟨u, rfl, ru⟩ := rv.one
  obtain ⟨z, its, n, r, hl, e⟩ := I.lstM hH
  refine call_meets F.slot_list_count ⟨_, e, rfl⟩ F.entry_list_count (F.args_list_count_2 _ _) (SeqAt.list_countAt l its.toArray n none #[] u (eqU y)) ⟨e, fun w hw => mem_eqAt ru fy r fx w (by simpa using hw), ?_⟩
  have ec : its.toArray.toList.countP (eqU y) = xs.countP fun z => eqV z y := by
    have : ∀ {xs : List V} {us : List Value}, Vals xs us → xs.all flatV = true → us.countP (eqU y) = xs.countP fun z => eqV z y := fun {xs us} r f => by
      induction r with
      | nil => rfl
      | cons r t ih =>
        rw [List.all_cons, Bool.and_eq_true] at f
        rw [List.countP_cons, List.countP_cons, ih f.2, eqU_of r f.1]
    exact this r fx
  exact ⟨.int _, H, I.tok _, ⟨_, by rw [ec]⟩, q⟩
inductive rIdx (x : V) (vs : List V) (H : Hp) (Q : VK) : Prop
  | mk (l xs y j : _) : (x = .ref l) → (vs = [y]) → (H l = some (.lst xs)) → (flatV y = true) → (xs.all flatV = true) → (xs.length < 1000) → ((∃ z, xs[j]? = some z ∧ eqV z y = true)) → ((∀ m z, m < j → xs[m]? = some z → eqV z y = false)) → (Q (.int (j : Nat)) H) → rIdx x vs H Q
theorem mt_index : MtM X "list.index" rIdx := by
  intro pins s σ H x vs v us Q I rx rv h
  obtain ⟨l, xs, y, j, rfl, rfl, hH, fy, fx, hz, ⟨z, hj, ez⟩, hno, q⟩ := h
  cases rx
  obtain ⟨u, rfl, ru⟩ := rv.one
  obtain ⟨_, its, n, r, hl, e⟩ := I.lstM hH
  have fl : ∀ {m : Nat} {z : V}, xs[m]? = some z → flatV z = true := fun {m z} hm => by
    rw [List.all_eq_true] at fx
    exact fx z (List.mem_of_getElem? hm)
  have at' : ∀ (m : Nat) (hm : m < its.toArray.size), ∃ z, xs[m]? = some z ∧ eqU y its.toArray[m] = eqV z y := fun m hm => by
    have hm' : m < xs.length := by rw [List.size_toArray] at hm; (first | lia | omega)
    obtain ⟨w, e1, r1⟩ := r.get (List.getElem?_eq_getElem hm')
    refine ⟨_, List.getElem?_eq_getElem hm', ?_⟩
    have e2 : its.toArray[m] = w := by
      have : its.toArray[m]? = some w := by simpa using e1
      rw [Array.getElem?_eq_getElem hm] at this
      exact Option.some.inj this
    rw [e2]
    exact eqU_of r1 (fl (List.getElem?_eq_getElem hm'))
  have hjl : j < its.toArray.size := by
    have := (List.getElem?_eq_some_iff.mp hj).1
    rw [List.size_toArray]; (first | lia | omega)
  refine call_meets F.slot_list_index ⟨_, e, rfl⟩ F.entry_list_index (F.args_list_index_2 _ _) (SeqAt.list_indexAt l its.toArray n none #[] u (eqU y) j hjl (by rw [List.size_toArray] at hjl; omega) ?_ fun m hm hmj => ?_) ⟨e, fun w hw => mem_eqAt ru fy r fx w (by simpa using hw), ⟨.int _, H, I.tok _, ⟨_, rfl⟩, q⟩⟩
  · obtain ⟨z', e1, e2⟩ := at' j hjl
    rw [hj] at e1
    cases e1
    rw [e2, ez]
  · obtain ⟨z', e1, e2⟩ := at' m hm
    rw [e2]
    exact hno m z' hmj e1
end
end L2
namespace L2
open PySem PySem.Spec PyProof.Rows
theorem pi_enumK {X : Cx} {K : PySem.W.Frag} (hK : X.K = K) {es : List Expr} {k : Nat} {tp : Pos} {l : Expr} {ta : TA} {p pos : Pos} (hg : Gl X "enumerate") (hm : X.mg "enumerate" = none) (hv : bootBuiltins "enumerate" = some (.type "enumerate")) (ha : PA X [l] ta) (hs : starEach [l] X.env = [(false, eval l X.env)] := by rfl) :
    PI X (.Tuple es k tp) (.Call (.Name "enumerate" p) [l] [] pos) (iEnum K ta) := hK ▸ pi_enum hg hm hv ha hs
theorem for_enum {K : PySem.W.Frag} {a : Addr} {xs : List V} {g : TG} {tb : TS} {D : Ends} {σ : St} {H : Hp} (Pv : Nat → St → Hp → Prop) (h0 : Pv 0 σ H) (hl : ∀ i σ H, i ≤ xs.length → Pv i σ H → SqL K H a xs)
    (hs : ∀ i x σ H p, xs[i]? = some x → H p = none → Pv i σ H → g (.ref p) σ (upd H p (.tup [.int i, x])) fun σ2 H2 => tb { D with nx := Pv (i + 1), ct := Pv (i + 1), bk := D.nx } σ2 H2) (hd : ∀ σ H, Pv xs.length σ H → D.nx σ H) :
    forW g tb (Ite K a) D σ H := by
  refine ⟨fun i m σ H => m = xs.length - i ∧ i ≤ xs.length ∧ Pv i σ H, ⟨xs.length, by simp, Nat.zero_le _, h0⟩, ?_⟩
  rintro i m σ H ⟨rfl, hi, p⟩
  have q := hl i σ H hi p
  by_cases hlt : i < xs.length
  · refine .inr ⟨⟨xs, xs[i], q, by simp [hlt]⟩, Pv (i + 1), fun σ' H' p' => ⟨xs.length - (i + 1), by (first | lia | omega), rfl, hlt, p'⟩, fun x H' y => ?_⟩
    obtain ⟨p', v, hn, e1, ex, eh⟩ := y
    subst ex eh
    exact hs i v σ _ p' (e1 xs q) hn p
  · have e : i = xs.length := by (first | lia | omega)
    subst e
    exact .inl ⟨⟨xs, q, Nat.le_refl _⟩, hd σ H p⟩
theorem comp_zip {K : PySem.W.Frag} {a b : Addr} {xs ws : List V} {g : TG} {tc : TT} {te : TE} {σ0 : St} {H1 : Hp} {Fin : List V → Hp → Prop} (hlen : xs.length = ws.length) (Pv : Nat → List V → St → Hp → Prop) (h0 : Pv 0 [] σ0 H1) (hl : ∀ i ys σ H, i ≤ xs.length → Pv i ys σ H → SqL K H a xs ∧ SqL K H b ws)
    (hs : ∀ i x y ys σ H p, xs[i]? = some x → ws[i]? = some y → Pv i ys σ H → H p = none → ys.length < sizeLine ∧ g (.ref p) σ (upd H p (.tup [x, y])) fun σ2 H3 => tc σ2 H3 fun b H4 => if b = true then te σ2 H4 fun y H5 => Pv (i + 1) (ys ++ [y]) σ2 H5 else Pv (i + 1) ys σ2 H4)
    (hz : xs.length < sizeLine) (hy : ∀ i ys σ H, Pv i ys σ H → ys.length ≤ i) (hd : ∀ ys σ H, Pv xs.length ys σ H → Fin ys H) : compW g tc te (Itz K a b) σ0 H1 Fin := by
  refine ⟨fun i m ys σ H => m = xs.length - i ∧ i ≤ xs.length ∧ Pv i ys σ H, ⟨xs.length, by simp, Nat.zero_le _, h0⟩, ?_⟩
  rintro i m ys σ H ⟨rfl, hi, p⟩
  obtain ⟨q1, q2⟩ := hl i ys σ H hi p
  by_cases hlt : i < xs.length
  · have hyl := hy i ys σ H p
    refine .inr ⟨⟨xs, ws, xs[i], ws[i], q1, q2, by simp [hlt], by simp [← hlen, hlt]⟩, by (first | lia | omega), Pv (i + 1), fun zs σ' H' p' => ⟨xs.length - (i + 1), by (first | lia | omega), rfl, hlt, p'⟩, fun x H2 y => ?_⟩
    obtain ⟨p', v, u, hn, e1, e2, ex, eh⟩ := y
    subst ex eh
    exact (hs i v u ys σ H p' (e1 xs q1) (e2 ws q2) p hn).2
  · have e : i = xs.length := by (first | lia | omega)
    subst e
    exact .inl ⟨⟨xs, ws, q1, q2, .inl (Nat.le_refl _)⟩, hd ys σ H p⟩
noncomputable abbrev refsV (as : List Addr) : List V := as.map V.ref
theorem atI_refs {as : List Addr} {i : Int} {a : Addr} (h0 : 0 ≤ i) (h : as[i.toNat]? = some a) : atI (refsV as) i = some (.ref a) := atI_at h0 (by rw [List.getElem?_map, h]; rfl)
theorem refs_get {as : List Addr} {i : Nat} {x : V} (h : (refsV as)[i]? = some x) : ∃ a, as[i]? = some a ∧ x = .ref a := by
  rw [List.getElem?_map] at h
  cases e : as[i]? with
  | none => rw [e] at h; cases h
  | some a => rw [e] at h; exact ⟨a, rfl, (Option.some.inj h).symm⟩
noncomputable def Tab (H : Hp) (as : List Addr) (rows : Nat → List Int) : Prop := ∀ i a, as[i]? = some a → H a = some (.lst (intsV (rows i)))
noncomputable def News (H : Hp) (as : List Addr) : Prop := as.Nodup ∧ ∀ a ∈ as, H a = none
theorem Tab.same {H H' : Hp} {as : List Addr} {rows : Nat → List Int} (h : Tab H as rows) (s : Same H H') : Tab H' as rows := fun i a e => s _ _ (h i a e)
theorem Tab.congr {H : Hp} {as : List Addr} {rows rows' : Nat → List Int} (h : Tab H as rows) (e : ∀ i < as.length, rows i = rows' i) : Tab H as rows' := fun i a q => by
  rw [← e i (List.getElem?_eq_some_iff.mp q).1]; exact h i a q
theorem Tab.nil {H : Hp} {rows : Nat → List Int} : Tab H [] rows := fun _ _ e => by simp at e
theorem News.nil {H : Hp} : News H [] := ⟨List.nodup_nil, fun _ h => nomatch h⟩
theorem Tab.snoc {H : Hp} {as : List Addr} {rows : Nat → List Int} {a : Addr} (h : Tab H as rows) (e : H a = some (.lst (intsV (rows as.length)))) : Tab H (as ++ [a]) rows := fun i b q => by
  by_cases c : i < as.length
  · rw [List.getElem?_append_left c] at q; exact h i b q
  · have hi := (List.getElem?_eq_some_iff.mp q).1
    have : i = as.length := by simp at hi; (first | lia | omega)
    subst this
    rw [List.getElem?_append_right (Nat.le_refl _), Nat.sub_self] at q
    cases q
    exact e
theorem News.snoc {H H2 : Hp} {as : List Addr} {rows : Nat → List Int} {a : Addr} (h : News H as) (t : Tab H2 as rows) (n : H a = none) (n2 : H2 a = none) : News H (as ++ [a]) := by
  refine ⟨List.nodup_append.mpr ⟨h.1, by simp, fun x hx y hy => ?_⟩, fun b hb => ?_⟩
  · have : y = a := by simpa using hy
    subst this
    intro z
    subst z
    obtain ⟨i, hi⟩ := List.mem_iff_getElem?.mp hx
    have := t i _ hi
    rw [n2] at this
    cases this
  · rcases List.mem_append.mp hb with q | q
    · exact h.2 b q
    · have : b = a := by simpa using q
      subst this
      exact n
theorem nodup_ne {as : List Addr} (h : as.Nodup) {i j : Nat} {a b : Addr} (ha : as[i]? = some a) (hb : as[j]? = some b) (n : i ≠ j) : a ≠ b := fun z => by
  subst z
  obtain ⟨hi, ei⟩ := List.getElem?_eq_some_iff.mp ha
  obtain ⟨hj, ej⟩ := List.getElem?_eq_some_iff.mp hb
  have key := List.pairwise_iff_getElem.mp h
  rcases Nat.lt_or_gt_of_ne n with c | c
  · exact key i j hi hj c (ei.trans ej.symm)
  · exact key j i hj hi c (ej.trans ei.symm)
theorem Tab.set {H : Hp} {as : List Addr} {rows rows' : Nat → List Int} {z : Nat} {a : Addr} (h : Tab H as rows) (nd : as.Nodup) (e : as[z]? = some a) (h2 : ∀ i < as.length, i ≠ z → rows i = rows' i) : Tab (upd H a (.lst (intsV (rows' z)))) as rows' := fun i b q => by
  by_cases c : i = z
  · subst c
    rw [e] at q
    cases q
    exact upd_same
  · rw [upd_ne (nodup_ne nd q e c), ← h2 i (List.getElem?_eq_some_iff.mp q).1 c]
    exact h i b q
theorem get_some {as : List Addr} {i : Nat} (h : i < as.length) : ∃ a, as[i]? = some a := ⟨as[i], List.getElem?_eq_getElem h⟩
theorem mem_get {as : List Addr} {i : Nat} {a : Addr} (h : as[i]? = some a) : a ∈ as := List.mem_of_getElem? h
theorem same_upd_new {H H2 : Hp} {a : Addr} {o : HO} (s : Same H H2) (n : H a = none) : Same H (upd H2 a o) := fun b u e => by
  rw [upd_ne (ne_of_none e n)]; exact s _ _ e
end L2
namespace L2
open PySem PySem.Spec PyProof.Rows
theorem pt_truthK {X : Cx} {K : PySem.W.Frag} (hK : X.K = K) {a : Expr} {ta : TE} (ha : PE X a ta) (he : ∀ whole, isTrue a X.env whole = (do let v ← whole; standAt a.pos; holding [v] (truthy v))) :
    PT X a (fun σ H Q => ta σ H fun x H' => ∃ k, TruV K x H' k ∧ Q k H') := hK ▸ pt_truth ha he
structure FunD (K : PySem.W.Frag) (x qual : Str) (st : Stmt) (f : Addr) (fd : FuncData) (dv : Value) : Prop where
  ex : ∃ (T : Addr) (oc : Value) (od : Option Addr) (kV doc pm : Value) (an : Option Addr) (cdv ct : Value) (osl : Array (Option Value)),
    fd = PySem.W.fnOf x qual (defArgs st) (defBody st) (defScope st) (.ref T) kV doc pm an cdv ct ∧ K.lookup f = some ⟨oc, od, .func fd, osl⟩ ∧ PySem.W.codeIn K cdv qual = true ∧
    ∃ (oc2 : Value) (od2 : Option Addr) (n : Nat) (osl2 : Array (Option Value)), K.lookup T = some ⟨oc2, od2, .seq #[dv] n, osl2⟩
  kp : PySem.W.keepIn K (.ref f) = true
section
variable {P : Program} {w : World} {K : PySem.W.Frag} {mg : Str → Option Value} {base : Heap}
theorem FunD.okN {x qual : Str} {st : Stmt} {f : Addr} {fd : FuncData} {dv : Value} {N ps : List Str} {k : Nat} {sp : Sp} (F : FunD K x qual st f fd dv) (S : FnScope N ps (defScope st)) (len : ∀ vs H Q E, sp vs H Q E → vs.length = ps.length)
    (hbody : ∀ (cdv : Value) (A : Around) (outer : List Env) (s : Shared) (H : Hp) (vs : List V) (Q : VK) (E : XK), Room k (A.deeper (envOfC qual (defScope st) s.heap.objs.size f cdv)) → sp vs H Q E →
      ∃ t, PSs (cxOf (CXR P w) P w K mg base N qual (defScope st) f cdv A outer s H E).nox (defBody st) t ∧ t { nx := fun _ H' => Q .non H', rt := Q } (start N vs) H) : FnOk P w K mg base (CXR P w) (k + 1) f fd ps sp := by
  obtain ⟨T, oc, od, kV, doc, pm, an, cdv, ct, osl, rfl, lk, hcd, _⟩ := F.ex
  refine fn_of lk hcd S len fun A outer s H vs Q E hr hsp => ?_
  obtain ⟨t, h, q⟩ := hbody cdv A outer s H vs Q E hr hsp
  exact ⟨t, h.nox, q⟩
theorem FunD.binds {x qual : Str} {st : Stmt} {f : Addr} {fd : FuncData} {dv : Value} {ps : List Str} {ds : List Value} (F : FunD K x qual st f fd dv)
    (h : ∀ (T : Addr) (kV doc pm : Value) (an : Option Addr) (cdv ct : Value) (us : List Value), (us ++ ds).length = ps.length → ∃ k : Option (Array Value) → Sem (List (Str × Value)), bindArgs (PySem.W.fnOf x qual (defArgs st) (defBody st) (defScope st) (.ref T) kV doc pm an cdv ct) ⟨us, []⟩ = seqItems? (.ref T) >>= k ∧ k (some #[dv]) = pure (ps.zip (us ++ ds))) : Binds K fd ps ds := by
  obtain ⟨T, oc, od, kV, doc, pm, an, cdv, ct, osl, rfl, lk, hcd, oc2, od2, n, osl2, lT⟩ := F.ex
  intro s us KX hl
  obtain ⟨k, h1, h2⟩ := h T kV doc pm an cdv ct us hl
  exact BindsTo.of_defaults rfl (KX _ _ lT) rfl h1 h2
theorem fund_mk {x qual : Str} {st : Stmt} {f T : Addr} {oc oc2 dv : Value} {od an od2 : Option Addr} {osl osl2 : Array (Option Value)} {kV doc pm cdv ct : Value} {n : Nat} (l : K.lookup f = some ⟨oc, od, .func (PySem.W.fnOf x qual (defArgs st) (defBody st) (defScope st) (.ref T) kV doc pm an cdv ct), osl⟩)
    (lT : K.lookup T = some ⟨oc2, od2, .seq #[dv] n, osl2⟩) (c : PySem.W.codeIn K cdv qual = true) (k : PySem.W.keepIn K (.ref f) = true) : FunD K x qual st f (PySem.W.fnOf x qual (defArgs st) (defBody st) (defScope st) (.ref T) kV doc pm an cdv ct) dv := ⟨⟨T, oc, od, kV, doc, pm, an, cdv, ct, osl, rfl, l, c, oc2, od2, n, osl2, lT⟩, k⟩
end
theorem len1 {α : Type} {us : List α} (h : us.length = 1) : ∃ a, us = [a] := match us, h with | [a], _ => ⟨a, rfl⟩
theorem len2 {α : Type} {us : List α} (h : us.length = 2) : ∃ a b, us = [a, b] := match us, h with | [a, b], _ => ⟨a, b, rfl⟩
theorem len3 {α : Type} {us : List α} (h : us.length = 3) : ∃ a b c, us = [a, b, c] := match us, h with | [a, b, c], _ => ⟨a, b, c, rfl⟩
theorem len4 {α : Type} {us : List α} (h : us.length = 4) : ∃ a b c d, us = [a, b, c, d] := match us, h with | [a, b, c, d], _ => ⟨a, b, c, d, rfl⟩
theorem len5 {α : Type} {us : List α} (h : us.length = 5) : ∃ a b c d e, us = [a, b, c, d, e] := match us, h with | [a, b, c, d, e], _ => ⟨a, b, c, d, e, rfl⟩
structure CalD (P : Program) (w : World) (K : PySem.W.Frag) (mg : Str → Option Value) (base : Heap) (x : Str) (k : Nat) (f : Addr) (fd : FuncData) (ps : List Str) (sp : Sp) (dv : Value) (d : V) : Prop where
  ok : FnOk P w K mg base (CXR P w) k f fd ps sp
  b : Binds K fd ps []
  b1 : Binds K fd ps [dv]
  v1 : Vals [d] [dv]
  k : PySem.W.keepIn K (.ref f) = true
  m : mg x = some (.ref f)
theorem CalD.up {P : Program} {w : World} {K : PySem.W.Frag} {mg : Str → Option Value} {base : Heap} {x : Str} {k j : Nat} {f : Addr} {fd : FuncData} {ps : List Str} {sp : Sp} {dv : Value} {d : V} (c : CalD P w K mg base x k f fd ps sp dv d) (h : k ≤ j) : FnOk P w K mg base (CXR P w) j f fd ps sp := c.ok.mono h
end L2
namespace L2
open PySem
theorem seq2 {t1 t2 t3 : TS} {D : Ends} {σ : St} {H : Hp} (h : let J2 : St → Hp → Prop := t3 D; let J1 : St → Hp → Prop := t2 { D with nx := J2 }; t1 { D with nx := J1 } σ H) : (tSeq t1 (tSeq t2 t3)) D σ H := h
end L2
namespace Eh
noncomputable abbrev Dr := Int × Int × Int
noncomputable abbrev drL (d : Dr) : List Int := [d.1, d.2.1, d.2.2]
noncomputable def GdDoor (r : Int) (d : Dr) : Prop := (0 ≤ d.1 ∧ d.1 < r) ∧ (0 ≤ d.2.1 ∧ d.2.1 < r) ∧ (1 ≤ d.2.2 ∧ d.2.2 ≤ 10 ^ 15)
noncomputable def Gd (r : Int) (ds : List Dr) : Prop := (1 ≤ r ∧ r ≤ 7) ∧ ds.length ≤ 49 ∧ ∀ d ∈ ds, GdDoor r d
instance {r : Int} {d : Dr} : Decidable (GdDoor r d) := by unfold GdDoor; infer_instance
instance {r : Int} {ds : List Dr} : Decidable (Gd r ds) := by unfold Gd; infer_instance
noncomputable def outStep (z : Int) (acc : List Int) (d : Dr) : List Int := if d.1 = z then acc.set d.2.1.toNat ((acc[d.2.1.toNat]?).getD 0 + d.2.2) else acc
noncomputable def outs (r : Nat) (ds : List Dr) (z : Int) : List Int := ds.foldl (outStep z) (List.replicate r 0)
theorem outStep_len {z : Int} {acc : List Int} {d : Dr} : (outStep z acc d).length = acc.length := by unfold outStep; split <;> simp
theorem foldl_len {z : Int} : ∀ (ds : List Dr) (acc : List Int), (ds.foldl (outStep z) acc).length = acc.length
  | [], _ => rfl
  | d :: ds, acc => by rw [List.foldl_cons, foldl_len ds, outStep_len]
theorem outs_len {r : Nat} {ds : List Dr} {z : Int} : (outs r ds z).length = r := by unfold outs; rw [foldl_len, List.length_replicate]
theorem outs_snoc {r : Nat} {ds : List Dr} {d : Dr} {z : Int} : outs r (ds ++ [d]) z = outStep z (outs r ds z) d := by unfold outs; rw [List.foldl_append]; rfl
theorem sum_set : ∀ (l : List Int) (i : Nat) (h : Int), i < l.length → (l.set i ((l[i]?).getD 0 + h)).sum = l.sum + h
  | [], _, _, z => nomatch z
  | x :: l, 0, h, _ => by simp; (first | lia | omega)
  | x :: l, i + 1, h, z => by
    have := sum_set l i h (by simpa using z)
    simp at this ⊢
    (first | lia | omega)
noncomputable def wsum (ds : List Dr) (z : Int) : Int := (ds.map fun d => if d.1 = z then d.2.2 else 0).sum
theorem foldl_sum {z : Int} {r : Int} : ∀ (ds : List Dr) (acc : List Int), (acc.length : Int) = r → (∀ d ∈ ds, 0 ≤ d.2.1 ∧ d.2.1 < r) → (ds.foldl (outStep z) acc).sum = acc.sum + wsum ds z
  | [], acc, _, _ => by simp [wsum]
  | d :: ds, acc, hl, hd => by
    have h1 := hd d (by simp)
    rw [List.foldl_cons, foldl_sum (r := r) ds _ (by rw [outStep_len]; exact hl) fun e he => hd e (by simp [he])]
    have e1 : (outStep z acc d).sum = acc.sum + (if d.1 = z then d.2.2 else 0) := by
      unfold outStep
      by_cases c : d.1 = z
      · rw [if_pos c, if_pos c, sum_set _ _ _ (by (first | lia | omega))]
      · rw [if_neg c, if_neg c]; (first | lia | omega)
    rw [e1]
    simp only [wsum, List.map_cons, List.sum_cons]
    (first | lia | omega)
theorem sum_rep (r : Nat) : (List.replicate r (0 : Int)).sum = 0 := by
  induction r with
  | zero => rfl
  | succ r ih => rw [List.replicate_succ, List.sum_cons, ih]; rfl
theorem outs_sum {r : Nat} {ds : List Dr} {z : Int} (h : ∀ d ∈ ds, 0 ≤ d.2.1 ∧ d.2.1 < (r : Int)) : (outs r ds z).sum = wsum ds z := by
  unfold outs
  rw [foldl_sum (r := r) ds _ (by rw [List.length_replicate]) h, sum_rep]
  omega
theorem wsum_nn {z : Int} : ∀ {ds : List Dr}, (∀ d ∈ ds, 1 ≤ d.2.2) → 0 ≤ wsum ds z
  | [], _ => by simp [wsum]
  | d :: ds, h => by
    have h1 := h d (by simp)
    have h2 := wsum_nn (z := z) (ds := ds) fun e he => h e (by simp [he])
    simp only [wsum, List.map_cons, List.sum_cons] at h2 ⊢
    split <;> (first | lia | omega)
theorem wsum_zero {z : Int} : ∀ {ds : List Dr}, (∀ d ∈ ds, 1 ≤ d.2.2) → (wsum ds z = 0 ↔ ∀ d ∈ ds, d.1 ≠ z)
  | [], _ => by simp [wsum]
  | d :: ds, h => by
    have h1 := h d (by simp)
    have h0 : ∀ e ∈ ds, 1 ≤ e.2.2 := fun e he => h e (by simp [he])
    have h2 := wsum_nn (z := z) h0
    have h3 := wsum_zero (z := z) h0
    have e : wsum (d :: ds) z = (if d.1 = z then d.2.2 else 0) + wsum ds z := by simp only [wsum, List.map_cons, List.sum_cons]
    rw [e]
    by_cases c : d.1 = z
    · rw [if_pos c]
      constructor
      · intro q; (first | lia | omega)
      · intro q; exact absurd c (q d (by simp))
    · rw [if_neg c, Int.zero_add, h3]
      constructor
      · intro q f hf
        rcases List.mem_cons.mp hf with rfl | hf
        · exact c
        · exact q f hf
      · intro q f hf
        exact q f (by simp [hf])
noncomputable def endsOf (r : Nat) (ds : List Dr) : List Int := ((List.range r).filter fun k : Nat => decide (∀ d ∈ ds, d.1 ≠ (k : Int))).map fun k : Nat => (k : Int)
end Eh
namespace Eh
theorem endsOf_in {i : Nat} {ds : List Dr} (h : ∀ d ∈ ds, d.1 ≠ (i : Int)) : endsOf (i + 1) ds = endsOf i ds ++ [(i : Int)] := by
  unfold endsOf
  rw [List.range_succ, List.filter_append, List.map_append, List.filter_cons, if_pos (decide_eq_true h)]
  rfl
theorem endsOf_out {i : Nat} {ds : List Dr} (h : ¬ ∀ d ∈ ds, d.1 ≠ (i : Int)) : endsOf (i + 1) ds = endsOf i ds := by
  unfold endsOf
  rw [List.range_succ, List.filter_append, List.map_append, List.filter_cons, if_neg (by rw [decide_eq_false h]; simp)]
  simp
theorem endsOf_len {ds : List Dr} {r : Nat} : (endsOf r ds).length ≤ r := by
  unfold endsOf
  rw [List.length_map]
  exact Nat.le_trans (List.length_filter_le _ _) (by rw [List.length_range]; exact Nat.le_refl _)
end Eh
namespace Eh
open PySem L2
noncomputable def DrAt (H : Hp) (v : V) (d : Dr) : Prop := ∃ p, v = .ref p ∧ H p = some (.tup (intsV (drL d)))
noncomputable def DsAt (H : Hp) (xs : List V) (ds : List Dr) : Prop := Paired (DrAt H) xs ds
noncomputable def Tups (H H' : Hp) : Prop := ∀ p xs, H p = some (.tup xs) → H' p = some (.tup xs)
theorem tups_same {H H' : Hp} (h : Same H H') : Tups H H' := fun p xs e => h p _ e
theorem Tups.trans {H H1 H2 : Hp} (a : Tups H H1) (b : Tups H1 H2) : Tups H H2 := fun p xs e => b p xs (a p xs e)
theorem tups_lst {H : Hp} {l : Addr} {xs : List V} (h : H l = some (.lst xs)) (o : HO) : Tups H (upd H l o) := fun p ys e => by
  rw [upd_ne (ne_of e h (by intro z; cases z))]; exact e
theorem DrAt.mono {H H' : Hp} {v : V} {d : Dr} (t : Tups H H') (h : DrAt H v d) : DrAt H' v d := by
  obtain ⟨p, rfl, e⟩ := h
  exact ⟨p, rfl, t _ _ e⟩
theorem DsAt.mono {H H' : Hp} (t : Tups H H') : ∀ {xs : List V} {ds : List Dr}, DsAt H xs ds → DsAt H' xs ds
  | _, _, .nil => .nil
  | _, _, .cons h r => .cons (h.mono t) (DsAt.mono t r)
theorem DsAt.len {H : Hp} {xs : List V} {ds : List Dr} (h : DsAt H xs ds) : xs.length = ds.length := Paired.length h
theorem DsAt.get {H : Hp} {xs : List V} {ds : List Dr} {i : Nat} {x : V} (h : DsAt H xs ds) (e : xs[i]? = some x) : ∃ d, ds[i]? = some d ∧ DrAt H x d := paired_get h e
theorem DsAt.app {H : Hp} : ∀ {xs ys : List V} {ds es : List Dr}, DsAt H xs ds → DsAt H ys es → DsAt H (xs ++ ys) (ds ++ es)
  | _, _, _, _, .nil, h => h
  | _, _, _, _, .cons a r, h => .cons a (DsAt.app r h)
theorem DrAt.tup {K : PySem.W.Frag} {H : Hp} {v : V} {d : Dr} (h : DrAt H v d) : TupI K H v (drL d) := by
  obtain ⟨p, rfl, e⟩ := h
  exact ⟨p, rfl, SqT.of e⟩
theorem DsAt.lstT {K : PySem.W.Frag} {H : Hp} : ∀ {xs : List V} {ds : List Dr}, DsAt H xs ds → LstT K H xs (ds.map drL)
  | _, _, .nil => .nil
  | _, _, .cons h r => .cons h.tup (DsAt.lstT r)
end Eh
namespace Eh
theorem len_of_sub {α : Type} [DecidableEq α] : ∀ {l m : List α}, l.Nodup → (∀ x ∈ l, x ∈ m) → l.length ≤ m.length
  | [], _, _, _ => Nat.zero_le _
  | x :: l, m, h, s => by
    have hx := s x (by simp)
    have h1 : l.Nodup := (List.nodup_cons.mp h).2
    have h2 : x ∉ l := (List.nodup_cons.mp h).1
    have := len_of_sub (l := l) (m := m.erase x) h1 fun y hy => by
      have : y ≠ x := fun e => h2 (e ▸ hy)
      exact (List.mem_erase_of_ne this).mpr (s y (by simp [hy]))
    rw [List.length_erase_of_mem hx] at this
    have hp := List.length_pos_of_mem hx
    simp
    (first | lia | omega)
noncomputable def ledStep (lo : List Bool) (d : Dr) : List Bool := if (lo[d.2.1.toNat]?).getD false = true then lo.set d.1.toNat true else lo
noncomputable def rchStep (re : List Int) (d : Dr) : List Int := if d.2.1 ∈ re ∧ d.1 ∉ re then re ++ [d.1] else re
noncomputable def led0 (r : Nat) (ds : List Dr) : List Bool := (List.range r).map fun k : Nat => decide ((k : Int) ∈ endsOf r ds)
noncomputable def led (r : Nat) (ds : List Dr) : Nat → List Bool
  | 0 => led0 r ds
  | n + 1 => ds.foldl ledStep (led r ds n)
noncomputable def rch (r : Nat) (ds : List Dr) : Nat → List Int
  | 0 => endsOf r ds
  | n + 1 => ds.foldl rchStep (rch r ds n)
structure LR (r : Nat) (lo : List Bool) (re : List Int) : Prop where
  len : lo.length = r
  nd : re.Nodup
  rng : ∀ x ∈ re, 0 ≤ x ∧ x < (r : Int)
  at_ : ∀ k < r, lo[k]? = some (decide ((k : Int) ∈ re))
theorem LR.step {r : Nat} {lo : List Bool} {re : List Int} {d : Dr} (h : LR r lo re) (g : GdDoor r d) : LR r (ledStep lo d) (rchStep re d) := by
  obtain ⟨⟨g1, g2⟩, ⟨g3, g4⟩, _⟩ := g
  have e2 := h.at_ d.2.1.toNat (by (first | lia | omega))
  rw [show ((d.2.1.toNat : Nat) : Int) = d.2.1 by (first | lia | omega)] at e2
  unfold ledStep rchStep
  rw [e2, Option.getD_some]
  by_cases c : d.2.1 ∈ re
  · rw [if_pos (decide_eq_true c)]
    by_cases c2 : d.1 ∈ re
    · rw [if_neg (fun z => z.2 c2)]
      refine ⟨by rw [List.length_set]; exact h.len, h.nd, h.rng, fun k hk => ?_⟩
      by_cases hk1 : k = d.1.toNat
      · subst hk1
        rw [List.getElem?_set_self (by rw [h.len]; exact hk), show ((d.1.toNat : Nat) : Int) = d.1 by (first | lia | omega), decide_eq_true c2]
      · rw [List.getElem?_set_ne (Ne.symm hk1)]; exact h.at_ k hk
    · rw [if_pos ⟨c, c2⟩]
      refine ⟨by rw [List.length_set]; exact h.len, ?_, fun x hx => ?_, fun k hk => ?_⟩
      · rw [List.nodup_append]
        refine ⟨h.nd, by simp, fun a ha b hb => ?_⟩
        have : b = d.1 := by simpa using hb
        subst this
        intro e
        exact c2 (e ▸ ha)
      · rcases List.mem_append.mp hx with q | q
        · exact h.rng x q
        · have : x = d.1 := by simpa using q
          subst this
          exact ⟨g1, g2⟩
      · by_cases hk1 : k = d.1.toNat
        · subst hk1
          rw [List.getElem?_set_self (by rw [h.len]; exact hk), show ((d.1.toNat : Nat) : Int) = d.1 by (first | lia | omega), decide_eq_true (by simp)]
        · rw [List.getElem?_set_ne (Ne.symm hk1), h.at_ k hk]
          congr 1
          have : ((k : Int) ∈ re ++ [d.1]) ↔ (k : Int) ∈ re := by
            rw [List.mem_append]
            constructor
            · rintro (q | q)
              · exact q
              · have : (k : Int) = d.1 := by simpa using q
                (first | lia | omega)
            · exact .inl
          rw [Bool.eq_iff_iff, decide_eq_true_iff, decide_eq_true_iff]
          exact this.symm
  · rw [if_neg (by rw [decide_eq_false c]; simp), if_neg (fun z => c z.1)]
    exact h
theorem LR.fold {r : Nat} : ∀ (ds : List Dr) {lo : List Bool} {re : List Int}, (∀ d ∈ ds, GdDoor r d) → LR r lo re → LR r (ds.foldl ledStep lo) (ds.foldl rchStep re)
  | [], _, _, _, h => h
  | d :: ds, _, _, g, h => LR.fold ds (fun e he => g e (by simp [he])) (h.step (g d (by simp)))
theorem endsOf_mem {r : Nat} {ds : List Dr} {x : Int} : x ∈ endsOf r ds ↔ (0 ≤ x ∧ x < (r : Int)) ∧ ∀ d ∈ ds, d.1 ≠ x := by
  unfold endsOf
  rw [List.mem_map]
  constructor
  · rintro ⟨k, hk, rfl⟩
    rw [List.mem_filter] at hk
    refine ⟨⟨by (first | lia | omega), ?_⟩, of_decide_eq_true hk.2⟩
    have := List.mem_range.mp hk.1
    (first | lia | omega)
  · rintro ⟨⟨h0, h1⟩, h⟩
    refine ⟨x.toNat, List.mem_filter.mpr ⟨List.mem_range.mpr (by (first | lia | omega)), decide_eq_true ?_⟩, by (first | lia | omega)⟩
    rw [show ((x.toNat : Nat) : Int) = x by (first | lia | omega)]
    exact h
theorem endsOf_nodup {r : Nat} {ds : List Dr} : (endsOf r ds).Nodup := by
  unfold endsOf
  have h : ((List.range r).filter fun k : Nat => decide (∀ d ∈ ds, d.1 ≠ (k : Int))).Nodup := List.Nodup.sublist List.filter_sublist List.nodup_range
  generalize ((List.range r).filter fun k : Nat => decide (∀ d ∈ ds, d.1 ≠ (k : Int))) = l at h
  induction l with
  | nil => exact List.nodup_nil
  | cons x l ih =>
    rw [List.map_cons, List.nodup_cons]
    rw [List.nodup_cons] at h
    refine ⟨fun q => ?_, ih h.2⟩
    obtain ⟨y, hy, e⟩ := List.mem_map.mp q
    have : y = x := by (first | lia | omega)
    exact h.1 (this ▸ hy)
theorem LR.start {r : Nat} {ds : List Dr} : LR r (led0 r ds) (endsOf r ds) := by
  refine ⟨by simp [led0], endsOf_nodup, fun x hx => (endsOf_mem.mp hx).1, fun k hk => ?_⟩
  unfold led0
  rw [List.getElem?_map, List.getElem?_range hk]
  rfl
theorem LR.all {r : Nat} {ds : List Dr} (g : ∀ d ∈ ds, GdDoor r d) : ∀ n, LR r (led r ds n) (rch r ds n)
  | 0 => LR.start
  | n + 1 => LR.fold ds g (LR.all g n)
theorem LR.same {r : Nat} {lo : List Bool} {re : List Int} (h : LR r lo re) : lo.all id = decide (re.length = r) := by
  have hle : re.length ≤ r := by
    have h1 : re.length ≤ ((List.range r).map fun k : Nat => (k : Int)).length := len_of_sub h.nd fun x hx => by
      have := h.rng x hx
      exact List.mem_map.mpr ⟨x.toNat, List.mem_range.mpr (by (first | lia | omega)), by (first | lia | omega)⟩
    simpa using h1
  rw [Bool.eq_iff_iff, decide_eq_true_iff, List.all_eq_true]
  constructor
  · intro q
    have h1 : ((List.range r).map fun k : Nat => (k : Int)).length ≤ re.length := by
      refine len_of_sub ?_ fun x hx => ?_
      · have := endsOf_nodup (r := r) (ds := [])
        unfold endsOf at this
        rw [List.filter_eq_self.mpr (fun k _ => by simp)] at this
        exact this
      · obtain ⟨k, hk, rfl⟩ := List.mem_map.mp hx
        have hk' := List.mem_range.mp hk
        have e := h.at_ k hk'
        have := q _ (List.mem_of_getElem? e)
        exact of_decide_eq_true this
    simp at h1
    (first | lia | omega)
  · intro q x hx
    obtain ⟨k, hk⟩ := List.getElem?_of_mem hx
    have hkr : k < r := by
      have := (List.getElem?_eq_some_iff.mp hk).1
      rw [h.len] at this
      exact this
    have e := h.at_ k hkr
    rw [hk] at e
    have e' := Option.some.inj e
    subst e'
    refine decide_eq_true (Classical.byContradiction fun nk => ?_)
    have h1 : ((k : Int) :: re).length ≤ ((List.range r).map fun k : Nat => (k : Int)).length := len_of_sub (List.nodup_cons.mpr ⟨nk, h.nd⟩) fun x hx => by
      rcases List.mem_cons.mp hx with rfl | hx
      · exact List.mem_map.mpr ⟨k, List.mem_range.mpr hkr, rfl⟩
      · have := h.rng x hx
        exact List.mem_map.mpr ⟨x.toNat, List.mem_range.mpr (by (first | lia | omega)), by (first | lia | omega)⟩
    simp at h1
    (first | lia | omega)
noncomputable def comesB (r : Nat) (ds : List Dr) : Bool := (led r ds r).all id
theorem comes_same {r : Nat} {ds : List Dr} (g : ∀ d ∈ ds, GdDoor r d) : comesB r ds = decide ((rch r ds r).length = r) := (LR.all g r).same
noncomputable def wh (s : Int) : Int := if s > 1 then s else 1
theorem wh_pos {s : Int} : 0 < wh s := by unfold wh; split <;> (first | lia | omega)
theorem wsum_le {z : Int} : ∀ {ds : List Dr}, (∀ d ∈ ds, 1 ≤ d.2.2 ∧ d.2.2 ≤ 10 ^ 15) → wsum ds z ≤ ds.length * 10 ^ 15
  | [], _ => by simp [wsum]
  | d :: ds, h => by
    have h1 := h d (by simp)
    have h2 := wsum_le (z := z) (ds := ds) fun e he => h e (by simp [he])
    have h15 : (10 : Int) ^ 15 = 1000000000000000 := by decide
    rw [h15] at h1 h2 ⊢
    simp only [wsum, List.map_cons, List.sum_cons] at h2 ⊢
    rw [List.length_cons]
    split <;> (first | lia | omega)
theorem outs_bounds {r : Nat} {z : Int} {M : Int} : ∀ (ds : List Dr) (acc : List Int), (∀ o ∈ acc, 0 ≤ o) → (∀ d ∈ ds, 1 ≤ d.2.2) → ∀ o ∈ ds.foldl (outStep z) acc, 0 ≤ o
  | [], _, h, _ => h
  | d :: ds, acc, h, g => by
    refine outs_bounds (r := r) (M := M) ds _ (fun o ho => ?_) fun e he => g e (by simp [he])
    have g1 := g d (by simp)
    unfold outStep at ho
    by_cases c : d.1 = z
    · rw [if_pos c] at ho
      rcases List.mem_or_eq_of_mem_set ho with q | q
      · exact h o q
      · subst q
        cases e : acc[d.2.1.toNat]? with
        | none => simp; (first | lia | omega)
        | some v =>
          have := h v (List.mem_of_getElem? e)
          simp; (first | lia | omega)
    · rw [if_neg c] at ho
      exact h o ho
theorem outs_nn {r : Nat} {ds : List Dr} {z : Int} (g : ∀ d ∈ ds, 1 ≤ d.2.2) : ∀ o ∈ outs r ds z, 0 ≤ o := by
  refine outs_bounds (r := r) (M := 0) ds _ (fun o ho => ?_) g
  rw [List.eq_of_mem_replicate ho]
  exact Int.le_refl 0
theorem le_sum : ∀ {l : List Int} {o : Int}, (∀ x ∈ l, 0 ≤ x) → o ∈ l → o ≤ l.sum
  | x :: l, o, h, ho => by
    have h1 := h x (by simp)
    have hn : 0 ≤ l.sum := by
      have : ∀ {m : List Int}, (∀ x ∈ m, 0 ≤ x) → 0 ≤ m.sum := fun {m} => by
        induction m with
        | nil => intro _; exact Int.le_refl 0
        | cons y m ih =>
          intro q
          have a := q y (by simp)
          have b := ih fun x hx => q x (by simp [hx])
          rw [List.sum_cons]
          (first | lia | omega)
      exact this fun x hx => h x (by simp [hx])
    rw [List.sum_cons]
    rcases List.mem_cons.mp ho with rfl | ho
    · (first | lia | omega)
    · have := le_sum (l := l) (fun x hx => h x (by simp [hx])) ho
      (first | lia | omega)
end Eh
namespace Ek
theorem gcd_pos {a b : Int} (h : b ≠ 0) : 0 < (Int.gcd a b : Int) := by
  have : 0 < Int.gcd a b := Int.gcd_pos_of_ne_zero_right a h
  omega
theorem dvl (a b : Int) : (Int.gcd a b : Int) ∣ a := Int.gcd_dvd_left a b
theorem gcd_step {x y : Int} (hy : 0 < y) : Int.gcd y (x % y) = Int.gcd x y := by
  have e : x = y * (x / y) + x % y := (Int.mul_ediv_add_emod x y).symm
  have h : Int.gcd x y = Int.gcd (x % y) y := by
    conv => lhs; rw [e]
    rw [Int.gcd_mul_left_add_left]
  rw [h, Int.gcd_comm]
end Ek
namespace Ek
open PySem L2
theorem bits_le {a b : Int} {k : Nat} (h : a.natAbs ≤ b.natAbs) (hb : Bits b k) : Bits a k := Nat.lt_of_le_of_lt h hb
theorem _root_.L2.Bits.mono {a : Int} {j k : Nat} (h : Bits a j) (hk : j ≤ k) : Bits a k := Nat.lt_of_lt_of_le h (Nat.pow_le_pow_right (by decide) hk)
theorem bits_mul {a b : Int} {j k : Nat} (ha : Bits a j) (hb : Bits b k) : Bits (a * b) (j + k) := by
  unfold Bits at *
  rw [Int.natAbs_mul, Nat.pow_add]
  rcases Nat.eq_zero_or_pos b.natAbs with z | z
  · rw [z, Nat.mul_zero]; exact Nat.mul_pos (Nat.two_pow_pos _) (Nat.two_pow_pos _)
  · exact Nat.mul_lt_mul_of_lt_of_le ha (Nat.le_of_lt hb) (Nat.two_pow_pos _)
theorem bits_neg {a : Int} {k : Nat} (ha : Bits a k) : Bits (-a) k := by
  unfold Bits at *
  omega
theorem bits_sub {a b : Int} {k : Nat} (ha : Bits a k) (hb : Bits b k) : Bits (a - b) (k + 1) := by
  unfold Bits at *
  rw [Nat.pow_succ]
  omega
theorem gcd_bits {a b : Int} {k : Nat} (h : b ≠ 0) (hb : Bits b k) : Bits (Int.gcd a b : Int) k := by
  refine bits_le (b := b) ?_ hb
  rw [Int.natAbs_natCast]
  exact Int.gcd_le_natAbs_right a h
theorem fdiv_pos_dvd {a g : Int} (hg : 0 < g) : a.fdiv g = a / g := Int.fdiv_eq_ediv_of_nonneg a (by (first | lia | omega))
theorem gcd_abs (a b : Int) : Int.gcd (if a < 0 then -a else a) (if b < 0 then -b else b) = Int.gcd a b := by
  by_cases h1 : a < 0 <;> by_cases h2 : b < 0 <;> simp [h1, h2, Int.neg_gcd, Int.gcd_neg]
end Ek
namespace Ek
end Ek
namespace Eh
open Ek
noncomputable abbrev Fr := Int × Int
noncomputable def fq (x : Rat) : Fr := (x.num, (x.den : Int))
noncomputable abbrev qL (x : Rat) : List Int := [x.num, (x.den : Int)]
end Eh
namespace Eh
open PySem L2 Ek
noncomputable def FrAt (H : Hp) (v : V) (q : Fr) : Prop := ∃ p, v = .ref p ∧ H p = some (.tup (intsV [q.1, q.2]))
noncomputable def FsAt (H : Hp) (xs : List V) (qs : List Fr) : Prop := Paired (FrAt H) xs qs
theorem FrAt.mono {H H' : Hp} {v : V} {d : Fr} (t : Tups H H') (h : FrAt H v d) : FrAt H' v d := by
  obtain ⟨p, rfl, e⟩ := h
  exact ⟨p, rfl, t _ _ e⟩
theorem FsAt.mono {H H' : Hp} (t : Tups H H') : ∀ {xs : List V} {ds : List Fr}, FsAt H xs ds → FsAt H' xs ds
  | _, _, .nil => .nil
  | _, _, .cons h r => .cons (h.mono t) (FsAt.mono t r)
theorem FsAt.len {H : Hp} {xs : List V} {ds : List Fr} (h : FsAt H xs ds) : xs.length = ds.length := Paired.length h
theorem FsAt.app {H : Hp} : ∀ {xs ys : List V} {ds es : List Fr}, FsAt H xs ds → FsAt H ys es → FsAt H (xs ++ ys) (ds ++ es)
  | _, _, _, _, .nil, h => h
  | _, _, _, _, .cons a r, h => .cons a (FsAt.app r h)
noncomputable abbrev QsAt (H : Hp) (xs : List V) (n : Nat) (f : Nat → Rat) : Prop := FsAt H xs ((List.range n).map fun k => fq (f k))
theorem QsAt.len {H : Hp} {xs : List V} {n : Nat} {f : Nat → Rat} (h : QsAt H xs n f) : xs.length = n := by
  have := FsAt.len h
  simpa using this
theorem QsAt.snoc {H : Hp} {xs : List V} {n : Nat} {f : Nat → Rat} {t : Addr} (h : QsAt H xs n f) (ht : H t = some (.tup (intsV (qL (f n))))) : QsAt H (xs ++ [.ref t]) (n + 1) f := by
  show FsAt H _ ((List.range (n + 1)).map fun k => fq (f k))
  rw [List.range_succ, List.map_append]
  exact FsAt.app h (.cons ⟨t, rfl, ht⟩ .nil)
theorem set_range {α : Type} {F G : Nat → α} {n i : Nat} (hi : i < n) (h : ∀ k < n, k ≠ i → F k = G k) : ((List.range n).map F).set i (G i) = (List.range n).map G := by
  apply List.ext_getElem?
  intro j
  by_cases hj : j < n
  · by_cases e : j = i
    · subst e
      rw [List.getElem?_set_self (by simpa using hj), List.getElem?_map, List.getElem?_range hj]
      rfl
    · rw [List.getElem?_set_ne (Ne.symm e), List.getElem?_map, List.getElem?_map, List.getElem?_range hj]
      exact congrArg some (h j hj e)
  · rw [List.getElem?_eq_none (by simp; (first | lia | omega)), List.getElem?_eq_none (by simp; (first | lia | omega))]
theorem QsAt.mono {H H' : Hp} {xs : List V} {n : Nat} {f : Nat → Rat} (t : Tups H H') (h : QsAt H xs n f) : QsAt H' xs n f := FsAt.mono t h
end Eh
namespace Eh
noncomputable abbrev IsE (ds : List Dr) (z : Nat) : Prop := ∀ d ∈ ds, d.1 ≠ (z : Int)
noncomputable def ow (r : Nat) (ds : List Dr) (z k : Nat) : Int := ((outs r ds z)[k]?).getD 0
noncomputable def W (r : Nat) (ds : List Dr) (z : Nat) : Int := wh (outs r ds z).sum
theorem W_pos {r : Nat} {ds : List Dr} {z : Nat} : 0 < W r ds z := wh_pos
theorem list_range {α : Type} {l : List α} {d : α} {n : Nat} (h : l.length = n) : l = (List.range n).map fun k => (l[k]?).getD d := by
  apply List.ext_getElem?
  intro i
  rw [List.getElem?_map]
  by_cases hi : i < n
  · rw [List.getElem?_range hi]
    show l[i]? = some ((l[i]?).getD d)
    rw [List.getElem?_eq_getElem (by (first | lia | omega))]
    rfl
  · rw [List.getElem?_eq_none (by (first | lia | omega)), List.getElem?_eq_none (by rw [List.length_range]; (first | lia | omega))]
    rfl
theorem outs_range (r : Nat) (ds : List Dr) (z : Nat) : outs r ds z = (List.range r).map fun k => ow r ds z k := list_range outs_len
theorem ow_nn {r : Nat} {ds : List Dr} {z k : Nat} (g : ∀ d ∈ ds, 1 ≤ d.2.2) : 0 ≤ ow r ds z k := by
  unfold ow
  cases e : (outs r ds z)[k]? with
  | none => exact Int.le_refl 0
  | some v => exact outs_nn g v (List.mem_of_getElem? e)
theorem osum_zero {r : Nat} {ds : List Dr} {z : Nat} (g : ∀ d ∈ ds, GdDoor r d) (h : IsE ds z) : (outs r ds z).sum = 0 := by
  rw [outs_sum (r := r) fun d hd => (g d hd).2.1]
  exact (wsum_zero fun d hd => (g d hd).2.2.1).mpr h
theorem ow_end {r : Nat} {ds : List Dr} {z k : Nat} (g : ∀ d ∈ ds, GdDoor r d) (h : IsE ds z) : ow r ds z k = 0 := by
  unfold ow
  cases e : (outs r ds z)[k]? with
  | none => rfl
  | some v =>
    have h1 := outs_nn (r := r) (z := (z : Int)) (fun d hd => (g d hd).2.2.1) v (List.mem_of_getElem? e)
    have h2 := le_sum (outs_nn (r := r) (z := (z : Int)) fun d hd => (g d hd).2.2.1) (List.mem_of_getElem? e)
    rw [osum_zero g h] at h2
    show v = 0
    (first | lia | omega)
theorem W_le {r : Nat} {ds : List Dr} {z : Nat} (g : Gd r ds) : W r ds z ≤ 2 ^ 56 := by
  have h1 := wsum_le (z := (z : Int)) (ds := ds) fun d hd => (g.2.2 d hd).2.2
  rw [← outs_sum (r := r) fun d hd => (g.2.2 d hd).2.1] at h1
  have hl := g.2.1
  have h15 : (10 : Int) ^ 15 = 1000000000000000 := by decide
  have h56 : (2 : Int) ^ 56 = 72057594037927936 := by decide
  rw [h15] at h1
  rw [h56]
  unfold W wh
  split <;> (first | lia | omega)
end Eh
namespace Eh
inductive Rch (ds : List Dr) : Nat → Prop where
  | nil {x : Nat} : IsE ds x → Rch ds x
  | cons {x y : Nat} {d : Dr} : d ∈ ds → d.1 = (x : Int) → d.2.1 = (y : Int) → Rch ds y → Rch ds x
noncomputable def LoOk (r : Nat) (ds : List Dr) (lo : List Bool) : Prop := ∀ k : Nat, lo[k]? = some true → Rch ds k
theorem LoOk.step {r : Nat} {ds : List Dr} {lo : List Bool} {d : Dr} (h : LoOk r ds lo) (hd : d ∈ ds) (g : GdDoor r d) : LoOk r ds (ledStep lo d) := by
  unfold ledStep
  by_cases c : (lo[d.2.1.toNat]?).getD false = true
  · rw [if_pos c]
    intro k hk
    by_cases e : k = d.1.toNat
    · have h1 : lo[d.2.1.toNat]? = some true := by
        cases q : lo[d.2.1.toNat]? with
        | none => rw [q] at c; cases c
        | some b => rw [q] at c; simp at c; rw [c]
      exact .cons hd (by have := g.1; (first | lia | omega)) (show d.2.1 = ((d.2.1.toNat : Nat) : Int) by have := g.2.1; (first | lia | omega)) (h _ h1)
    · rw [List.getElem?_set_ne (Ne.symm e)] at hk
      exact h k hk
  · rw [if_neg c]; exact h
theorem LoOk.fold {r : Nat} {ds : List Dr} : ∀ (es : List Dr) {lo : List Bool}, (∀ d ∈ es, d ∈ ds ∧ GdDoor r d) → LoOk r ds lo → LoOk r ds (es.foldl ledStep lo)
  | [], _, _, h => h
  | d :: es, _, g, h => LoOk.fold es (fun e he => g e (by simp [he])) (h.step (g d (by simp)).1 (g d (by simp)).2)
theorem LoOk.all {r : Nat} {ds : List Dr} (g : ∀ d ∈ ds, GdDoor r d) : ∀ n, LoOk r ds (led r ds n)
  | 0 => by
    intro k hk
    show Rch ds k
    have hk0 : (led0 r ds)[k]? = some true := hk
    have hkr : k < r := by
      have := (List.getElem?_eq_some_iff.mp hk0).1
      simpa [led0] using this
    unfold led0 at hk0
    rw [List.getElem?_map, List.getElem?_range hkr] at hk0
    have : decide ((k : Int) ∈ endsOf r ds) = true := Option.some.inj hk0
    exact .nil (endsOf_mem.mp (of_decide_eq_true this)).2
  | n + 1 => LoOk.fold ds (fun d hd => ⟨hd, g d hd⟩) (LoOk.all g n)
theorem comes_rch {r : Nat} {ds : List Dr} (g : ∀ d ∈ ds, GdDoor r d) (h : comesB r ds = true) : ∀ x < r, Rch ds x := fun x hx => by
  have hl := (LR.all (r := r) g r).len
  unfold comesB at h
  rw [List.all_eq_true] at h
  refine LoOk.all g r x ?_
  have e := List.getElem?_eq_getElem (show x < (led r ds r).length by (first | lia | omega))
  rw [e]
  exact congrArg some (h _ (List.getElem_mem _))
theorem ow_pos {r : Nat} {ds : List Dr} {d : Dr} {x y : Nat} (g : ∀ d ∈ ds, GdDoor r d) (hd : d ∈ ds) (e1 : d.1 = (x : Int)) (e2 : d.2.1 = (y : Int)) : 0 < ow r ds x y := by
  have hy : y < r := by have := (g d hd).2.1; (first | lia | omega)
  have main : ∀ (es : List Dr) (acc : List Int), acc.length = r → (∀ o ∈ acc, 0 ≤ o) → (∀ e ∈ es, GdDoor r e) → ((0 < (acc[y]?).getD 0) ∨ d ∈ es) → 0 < ((es.foldl (outStep x) acc)[y]?).getD 0 := by
    intro es
    induction es with
    | nil =>
      intro acc _ _ _ h
      rcases h with h | h
      · exact h
      · cases h
    | cons e es ih =>
      intro acc hl hn ge h
      rw [List.foldl_cons]
      have hge := ge e (by simp)
      refine ih _ (by rw [outStep_len]; exact hl) (fun o ho => ?_) (fun e' he' => ge e' (by simp [he'])) ?_
      · unfold outStep at ho
        by_cases c : e.1 = x
        · rw [if_pos c] at ho
          rcases List.mem_or_eq_of_mem_set ho with q | q
          · exact hn o q
          · subst q
            cases e3 : acc[e.2.1.toNat]? with
            | none => have := hge.2.2.1; simp; (first | lia | omega)
            | some v => have := hn v (List.mem_of_getElem? e3); have := hge.2.2.1; simp; (first | lia | omega)
        · rw [if_neg c] at ho; exact hn o ho
      · by_cases c : d ∈ es
        · exact .inr c
        · left
          unfold outStep
          by_cases c1 : e.1 = x
          · rw [if_pos c1]
            by_cases c2 : y = e.2.1.toNat
            · subst c2
              rw [List.getElem?_set_self (by (first | lia | omega)), Option.getD_some]
              have : 0 ≤ (acc[e.2.1.toNat]?).getD 0 := by
                cases e3 : acc[e.2.1.toNat]? with
                | none => exact Int.le_refl 0
                | some v => exact hn v (List.mem_of_getElem? e3)
              have := hge.2.2.1
              (first | lia | omega)
            · rw [List.getElem?_set_ne (Ne.symm c2)]
              rcases h with h | h
              · exact h
              · rcases List.mem_cons.mp h with h | h
                · subst h
                  exact absurd (show y = d.2.1.toNat by (first | lia | omega)) c2
                · exact absurd h c
          · rw [if_neg c1]
            rcases h with h | h
            · exact h
            · rcases List.mem_cons.mp h with h | h
              · subst h; exact absurd e1 c1
              · exact absurd h c
  exact main ds (List.replicate r 0) (by simp) (fun o ho => by rw [List.eq_of_mem_replicate ho]; exact Int.le_refl 0) g (.inr hd)
end Eh
namespace Eh
section
variable {r : Nat} {ds : List Dr}
end
end Eh
namespace Eh
section
variable {r : Nat} {ds : List Dr}
end
end Eh
namespace Eh
end Eh
namespace Eh
end Eh
namespace Eh
noncomputable def sumZ : Nat → (Nat → Int) → Int
  | 0, _ => 0
  | n + 1, f => sumZ n f + f n
theorem sumZ_congr {f g : Nat → Int} : ∀ {n : Nat}, (∀ k < n, f k = g k) → sumZ n f = sumZ n g
  | 0, _ => rfl
  | n + 1, h => by rw [sumZ, sumZ, sumZ_congr fun k hk => h k (by (first | lia | omega)), h n (by (first | lia | omega))]
theorem sumZ_add {f g : Nat → Int} : ∀ n : Nat, sumZ n (fun k => f k + g k) = sumZ n f + sumZ n g
  | 0 => rfl
  | n + 1 => by rw [sumZ, sumZ, sumZ, sumZ_add n]; (first | lia | omega)
theorem sumZ_mul {f : Nat → Int} {c : Int} : ∀ n : Nat, sumZ n (fun k => c * f k) = c * sumZ n f
  | 0 => by simp [sumZ]
  | n + 1 => by rw [sumZ, sumZ, sumZ_mul n, Int.mul_add]
theorem sumZ_zero : ∀ n : Nat, sumZ n (fun _ => 0) = 0
  | 0 => rfl
  | n + 1 => by rw [sumZ, sumZ_zero n]; rfl
theorem sumZ_all {f : Nat → Int} {n : Nat} (h : ∀ k < n, f k = 0) : sumZ n f = 0 := by rw [sumZ_congr h]; exact sumZ_zero n
theorem sumZ_one {f : Nat → Int} {n i : Nat} (hi : i < n) (h : ∀ k < n, k ≠ i → f k = 0) : sumZ n f = f i := by
  induction n with
  | zero => (first | lia | omega)
  | succ n ih =>
    rw [sumZ]
    by_cases e : i = n
    · subst e
      rw [sumZ_all fun k hk => h k (by (first | lia | omega)) (by (first | lia | omega)), Int.zero_add]
    · rw [ih (by (first | lia | omega)) fun k hk ne => h k (by (first | lia | omega)) ne, h n (by (first | lia | omega)) (by (first | lia | omega)), Int.add_zero]
theorem sumZ_two {f : Nat → Int} {n i j : Nat} (hi : i < j) (hj : j < n) (h : ∀ k < n, k ≠ i → k ≠ j → f k = 0) : sumZ n f = f i + f j := by
  induction n with
  | zero => (first | lia | omega)
  | succ n ih =>
    rw [sumZ]
    by_cases e : j = n
    · subst e
      rw [sumZ_one hi fun k hk ne => h k (by (first | lia | omega)) ne (by (first | lia | omega))]
    · rw [ih (by (first | lia | omega)) fun k hk n1 n2 => h k (by (first | lia | omega)) n1 n2, h n (by (first | lia | omega)) (by (first | lia | omega)) (by (first | lia | omega)), Int.add_zero]
theorem sumZ_left (f : Nat → Int) : ∀ n : Nat, sumZ (n + 1) f = f 0 + sumZ n (fun k => f (k + 1))
  | 0 => by simp [sumZ]
  | n + 1 => by rw [sumZ, sumZ_left f n, sumZ]; (first | lia | omega)
noncomputable def sg : Nat → Int
  | 0 => 1
  | n + 1 => - sg n
theorem sg_sq : ∀ n, sg n * sg n = 1
  | 0 => rfl
  | n + 1 => by rw [sg, Int.neg_mul_neg, sg_sq n]
theorem sg_mod : ∀ n, sg n = if n % 2 = 1 then -1 else 1
  | 0 => rfl
  | n + 1 => by
    rw [sg, sg_mod n]
    by_cases c : n % 2 = 1
    · rw [if_pos c, if_neg (by (first | lia | omega))]; rfl
    · rw [if_neg c, if_pos (by (first | lia | omega))]
noncomputable def skip (i p : Nat) : Nat := if p < i then p else p + 1
theorem skip_ne {i p : Nat} : skip i p ≠ i := by unfold skip; split <;> (first | lia | omega)
theorem skip_lt {i p n : Nat} (h : p < n) : skip i p < n + 1 := by unfold skip; split <;> (first | lia | omega)
theorem skip_zero {p : Nat} : skip 0 p = p + 1 := by unfold skip; rw [if_neg (by (first | lia | omega))]
noncomputable def det : Nat → (Nat → Nat → Int) → Int
  | 0, _ => 1
  | n + 1, a => sumZ (n + 1) fun i => sg i * a i 0 * det n (fun p q => a (skip i p) (q + 1))
theorem det_congr : ∀ {n : Nat} {a b : Nat → Nat → Int}, (∀ p < n, ∀ q < n, a p q = b p q) → det n a = det n b
  | 0, _, _, _ => rfl
  | n + 1, a, b, h => by
    rw [det, det]
    refine sumZ_congr fun i hi => ?_
    rw [h i hi 0 (by (first | lia | omega)), det_congr (n := n) fun p hp q hq => h _ (skip_lt hp) _ (by (first | lia | omega))]
noncomputable def rwR (k : Nat) (v : Nat → Int) (a : Nat → Nat → Int) : Nat → Nat → Int := fun p q => if p = k then v q else a p q
theorem rwR_self {k : Nat} {a : Nat → Nat → Int} : rwR k (a k) a = a := by
  funext p q
  unfold rwR
  split
  · rename_i h; rw [h]
  · rfl
theorem rwR_skip {i k : Nat} {v : Nat → Int} {a : Nat → Nat → Int} (h : i ≠ k) : (fun p q => rwR k v a (skip i p) (q + 1)) = rwR (if k < i then k else k - 1) (fun q => v (q + 1)) (fun p q => a (skip i p) (q + 1)) := by
  funext p q
  unfold rwR
  have e : (skip i p = k) ↔ (p = if k < i then k else k - 1) := by unfold skip; split <;> split <;> (first | lia | omega)
  simp only [e]
theorem rwR_out {k : Nat} {v : Nat → Int} {a : Nat → Nat → Int} : (fun p q => rwR k v a (skip k p) (q + 1)) = (fun p q => a (skip k p) (q + 1)) := by
  funext p q
  unfold rwR
  rw [if_neg skip_ne]
theorem det_lin : ∀ {n k : Nat} (_ : k < n) {c d : Int} {v u : Nat → Int} {a : Nat → Nat → Int}, det n (rwR k (fun q => c * v q + d * u q) a) = c * det n (rwR k v a) + d * det n (rwR k u a)
  | 0, _, h, _, _, _, _, _ => by (first | lia | omega)
  | n + 1, k, hk, c, d, v, u, a => by
    rw [det, det, det, ← sumZ_mul, ← sumZ_mul, ← sumZ_add]
    refine sumZ_congr fun i hi => ?_
    by_cases e : i = k
    · subst e
      rw [rwR_out, rwR_out, rwR_out]
      have e1 : ∀ x : Nat → Int, rwR i x a i 0 = x 0 := fun x => by unfold rwR; rw [if_pos rfl]
      rw [e1, e1, e1]
      generalize det n _ = D
      grind
    · have e1 : ∀ x : Nat → Int, rwR k x a i 0 = a i 0 := fun x => by unfold rwR; rw [if_neg e]
      rw [e1, e1, e1, rwR_skip e, rwR_skip e, rwR_skip e]
      rw [det_lin (n := n) (k := if k < i then k else k - 1) (by split <;> (first | lia | omega)) (c := c) (d := d) (v := fun q => v (q + 1)) (u := fun q => u (q + 1))]
      generalize det n _ = D
      generalize det n _ = D'
      grind
theorem det_adj : ∀ {n k : Nat} (_ : k + 1 < n) {a : Nat → Nat → Int} (_ : ∀ q < n, a k q = a (k + 1) q), det n a = 0
  | 0, _, h, _, _ => by (first | lia | omega)
  | n + 1, k, hk, a, h => by
    rw [det, sumZ_two (i := k) (j := k + 1) (by (first | lia | omega)) hk]
    · have e : det n (fun p q => a (skip k p) (q + 1)) = det n (fun p q => a (skip (k + 1) p) (q + 1)) := det_congr fun p hp q hq => by
        by_cases c : p = k
        · subst c
          have e1 : skip p p = p + 1 := by unfold skip; rw [if_neg (by (first | lia | omega))]
          have e2 : skip (p + 1) p = p := by unfold skip; rw [if_pos (by (first | lia | omega))]
          rw [e1, e2, h _ (by (first | lia | omega))]
        · have : skip k p = skip (k + 1) p := by unfold skip; split <;> split <;> (first | lia | omega)
          rw [this]
      rw [e, h 0 (by (first | lia | omega)), sg]
      generalize det n _ = D
      grind
    · intro i hi n1 n2
      have : det n (fun p q => a (skip i p) (q + 1)) = 0 := by
        by_cases c : i < k
        · refine det_adj (k := k - 1) (by (first | lia | omega)) fun q hq => ?_
          have e1 : skip i (k - 1) = k := by unfold skip; split <;> (first | lia | omega)
          have e2 : skip i (k - 1 + 1) = k + 1 := by unfold skip; split <;> (first | lia | omega)
          show a (skip i (k - 1)) (q + 1) = a (skip i (k - 1 + 1)) (q + 1)
          rw [e1, e2]
          exact h _ (by (first | lia | omega))
        · refine det_adj (k := k) (by (first | lia | omega)) fun q hq => ?_
          have e1 : skip i k = k := by unfold skip; split <;> (first | lia | omega)
          have e2 : skip i (k + 1) = k + 1 := by unfold skip; split <;> (first | lia | omega)
          show a (skip i k) (q + 1) = a (skip i (k + 1)) (q + 1)
          rw [e1, e2]
          exact h _ (by (first | lia | omega))
      rw [this, Int.mul_zero]
noncomputable def swR (k : Nat) (a : Nat → Nat → Int) : Nat → Nat → Int := fun p q => a (if p = k then k + 1 else if p = k + 1 then k else p) q
theorem det_add {n k : Nat} (h : k < n) {v u : Nat → Int} {a : Nat → Nat → Int} : det n (rwR k (fun q => v q + u q) a) = det n (rwR k v a) + det n (rwR k u a) := by
  have e := det_lin h (c := 1) (d := 1) (v := v) (u := u) (a := a)
  simp only [Int.one_mul] at e
  exact e
theorem det_swap {n k : Nat} (hk : k + 1 < n) (a : Nat → Nat → Int) : det n (swR k a) = - det n a := by
  have two : ∀ x y : Nat → Int, rwR k x (rwR (k + 1) y a) = rwR (k + 1) y (rwR k x a) := fun x y => by
    funext p q
    unfold rwR
    split <;> split <;> first | (first | lia | omega) | rfl
  have eq : ∀ x : Nat → Int, det n (rwR k x (rwR (k + 1) x a)) = 0 := fun x => det_adj hk fun q _ => by
    unfold rwR
    rw [if_pos rfl, if_neg (by (first | lia | omega)), if_pos rfl]
  have h := eq (fun q => a k q + a (k + 1) q)
  rw [det_add (by (first | lia | omega)), two, det_add (by (first | lia | omega)), two, det_add (by (first | lia | omega)), ← two, ← two, ← two, ← two, eq, eq] at h
  have e1 : rwR k (a k) (rwR (k + 1) (a (k + 1)) a) = a := by rw [rwR_self, rwR_self]
  have e2 : rwR k (a (k + 1)) (rwR (k + 1) (a k) a) = swR k a := by
    funext p q
    unfold rwR swR
    split
    · rfl
    · split <;> rfl
  rw [e1, e2] at h
  omega
theorem det_eq : ∀ (d : Nat) {n i : Nat} (_ : i + 1 + d < n) {a : Nat → Nat → Int} (_ : ∀ q < n, a i q = a (i + 1 + d) q), det n a = 0
  | 0, n, i, h, a, e => det_adj (by (first | lia | omega)) e
  | d + 1, n, i, h, a, e => by
    have h1 := det_eq d (n := n) (i := i) (by (first | lia | omega)) (a := swR (i + 1 + d) a) fun q hq => by
      show a (if i = i + 1 + d then _ else if i = i + 1 + d + 1 then _ else i) q = a (if i + 1 + d = i + 1 + d then i + 1 + d + 1 else _) q
      rw [if_neg (by (first | lia | omega)), if_neg (by (first | lia | omega)), if_pos rfl]
      exact e q hq
    rw [det_swap (by (first | lia | omega))] at h1
    (first | lia | omega)
theorem det_same {n i j : Nat} (hi : i < n) (hj : j < n) (ne : i ≠ j) {a : Nat → Nat → Int} (e : ∀ q < n, a i q = a j q) : det n a = 0 := by
  rcases Nat.lt_or_gt_of_ne ne with c | c
  · exact det_eq (j - i - 1) (i := i) (by omega) fun q hq => by rw [show i + 1 + (j - i - 1) = j by omega]; exact e q hq
  · exact det_eq (i - j - 1) (i := j) (by omega) fun q hq => by rw [show j + 1 + (i - j - 1) = i by omega]; exact (e q hq).symm
theorem det_addrow {n k j : Nat} (hk : k < n) (hj : j < n) (ne : j ≠ k) {a : Nat → Nat → Int} (c d : Int) : det n (rwR k (fun q => c * a k q + d * a j q) a) = c * det n a := by
  rw [det_lin hk, rwR_self]
  have : det n (rwR k (a j) a) = 0 := det_same hj hk ne fun q _ => by
    unfold rwR
    rw [if_neg ne, if_pos rfl]
  rw [this, Int.mul_zero, Int.add_zero]
noncomputable def mvi (k p : Nat) : Nat := if p = 0 then k else if p ≤ k then p - 1 else p
theorem det_mv : ∀ {k n : Nat} (_ : k < n) (a : Nat → Nat → Int), det n (fun p q => a (mvi k p) q) = sg k * det n a
  | 0, n, _, a => by
    have : (fun p q => a (mvi 0 p) q) = a := by
      funext p q
      unfold mvi
      split
      · rename_i h; rw [h]
      · rw [if_neg (by (first | lia | omega))]
    rw [this, sg, Int.one_mul]
  | k + 1, n, h, a => by
    have e : (fun p q => a (mvi (k + 1) p) q) = (fun p q => swR k a (mvi k p) q) := by
      funext p q
      unfold swR
      congr 1
      unfold mvi
      repeat' split
      all_goals (first | lia | omega)
    rw [e, det_mv (k := k) (by (first | lia | omega)) (swR k a), det_swap (by (first | lia | omega)), sg]
    grind
theorem det_rows : ∀ {n : Nat} {m : Nat → Nat → Int} (t : Nat), t < n → det n (fun p q => if p = 0 ∨ t < p then m p q else m 0 0 * m p q - m p 0 * m 0 q) = m 0 0 ^ t * det n m
  | n, m, 0, _ => by
    have : (fun p q => if p = 0 ∨ 0 < p then m p q else m 0 0 * m p q - m p 0 * m 0 q) = m := by
      funext p q
      rw [if_pos (by (first | lia | omega))]
    rw [this, Int.pow_zero, Int.one_mul]
  | n, m, t + 1, h => by
    have ih := det_rows (m := m) t (by (first | lia | omega) : t < n)
    generalize ha : (fun p q => if p = 0 ∨ t < p then m p q else m 0 0 * m p q - m p 0 * m 0 q) = a at ih
    have e : (fun p q => if p = 0 ∨ t + 1 < p then m p q else m 0 0 * m p q - m p 0 * m 0 q) = rwR (t + 1) (fun q => m 0 0 * a (t + 1) q + (- m (t + 1) 0) * a 0 q) a := by
      subst ha
      funext p q
      unfold rwR
      by_cases c : p = t + 1
      · subst c
        have h1 : ¬ (t + 1 = 0 ∨ t + 1 < t + 1) := by (first | lia | omega)
        have h2 : t + 1 = 0 ∨ t < t + 1 := by (first | lia | omega)
        have h3 : 0 = 0 ∨ t < 0 := by (first | lia | omega)
        simp only [if_neg h1, if_pos h2, if_pos h3, if_true]
        grind
      · simp only [if_neg c]
        by_cases c2 : p = 0 ∨ t < p
        · rw [if_pos (by (first | lia | omega)), if_pos c2]
        · rw [if_neg (by (first | lia | omega)), if_neg c2]
    rw [e, det_addrow h (by (first | lia | omega)) (by (first | lia | omega)), ih, Int.pow_succ]
    grind
theorem det_chio {n : Nat} {m : Nat → Nat → Int} : m 0 0 * det n (fun p q => m 0 0 * m (p + 1) (q + 1) - m (p + 1) 0 * m 0 (q + 1)) = m 0 0 ^ n * det (n + 1) m := by
  rw [← det_rows n (by (first | lia | omega)), det, sumZ_one (i := 0) (by (first | lia | omega))]
  · rw [sg, Int.one_mul, if_pos (by (first | lia | omega))]
    congr 1
    refine det_congr fun p hp q hq => ?_
    rw [skip_zero, if_neg (by (first | lia | omega))]
  · intro k hk ne
    rw [if_neg (by (first | lia | omega))]
    have : m 0 0 * m k 0 - m k 0 * m 0 0 = 0 := by grind
    rw [this, Int.mul_zero, Int.zero_mul]
theorem det_scale {c : Int} : ∀ {n : Nat} {a : Nat → Nat → Int}, det n (fun p q => c * a p q) = c ^ n * det n a
  | 0, _ => by simp [det]
  | n + 1, a => by
    rw [det, det, ← sumZ_mul]
    refine sumZ_congr fun i _ => ?_
    rw [det_scale (n := n), Int.pow_succ]
    generalize det n _ = D
    grind
end Eh
namespace Eh
theorem mvi_zero {p : Nat} : mvi p 0 = p := by unfold mvi; rw [if_pos rfl]
theorem mvi_succ {p i : Nat} : mvi p (i + 1) = skip p i := by
  unfold mvi skip
  repeat' split
  all_goals (first | lia | omega)
theorem skip_back {p s n : Nat} (hs : s < n + 1) (ne : s ≠ p) (hp : p < n + 1) : ∃ i < n, skip p i = s := by
  refine ⟨if s < p then s else s - 1, by split <;> (first | lia | omega), ?_⟩
  unfold skip
  repeat' split
  all_goals (first | lia | omega)
theorem det_col0 {n : Nat} {a : Nat → Nat → Int} (h : ∀ i < n + 1, a i 0 = 0) : det (n + 1) a = 0 := by
  rw [det]
  exact sumZ_all fun i hi => by rw [h i hi, Int.mul_zero, Int.zero_mul]
theorem first_nz {n : Nat} {c : Nat → Int} (h : ¬ ∀ i < n, c i = 0) : ∃ p < n, c p ≠ 0 ∧ ∀ j < p, c j = 0 := by
  induction n with
  | zero => exact absurd (fun i hi => by omega) h
  | succ n ih =>
    by_cases c1 : ∀ i < n, c i = 0
    · refine ⟨n, by omega, fun z => h fun i hi => ?_, c1⟩
      by_cases e : i = n
      · rw [e]; exact z
      · exact c1 i (by omega)
    · obtain ⟨p, hp, q⟩ := ih c1
      exact ⟨p, by omega, q⟩
theorem det_chio_p {n p : Nat} (hp : p < n + 1) {a : Nat → Nat → Int} : a p 0 * det n (fun i j => a p 0 * a (skip p i) (j + 1) - a (skip p i) 0 * a p (j + 1)) = a p 0 ^ n * (sg p * det (n + 1) a) := by
  have h := det_chio (n := n) (m := fun s t => a (mvi p s) t)
  simp only [mvi_zero, mvi_succ] at h
  rw [h, det_mv hp]
theorem det_kernel : ∀ {n : Nat} {a : Nat → Nat → Int}, det n a = 0 → ∃ y : Nat → Int, (∃ q < n, y q ≠ 0) ∧ ∀ p < n, sumZ n (fun q => a p q * y q) = 0
  | 0, a, h => by rw [det] at h; cases h
  | n + 1, a, h => by
    by_cases c : ∀ i < n + 1, a i 0 = 0
    · refine ⟨fun q => if q = 0 then 1 else 0, ⟨0, by (first | lia | omega), by simp⟩, fun p hp => ?_⟩
      rw [sumZ_one (i := 0) (by (first | lia | omega)) fun k _ ne => by show a p k * (if k = 0 then 1 else 0) = 0; rw [if_neg ne, Int.mul_zero], c p hp, Int.zero_mul]
    · obtain ⟨p, hp, hnz, _⟩ := first_nz c
      have e := det_chio_p hp (a := a)
      rw [h, Int.mul_zero, Int.mul_zero] at e
      have hC : det n (fun i j => a p 0 * a (skip p i) (j + 1) - a (skip p i) 0 * a p (j + 1)) = 0 := (Int.mul_eq_zero.mp e).resolve_left hnz
      obtain ⟨y, ⟨q, hq, hy⟩, hk⟩ := det_kernel hC
      refine ⟨fun s => match s with | 0 => - sumZ n (fun t => a p (t + 1) * y t) | s + 1 => a p 0 * y s, ⟨q + 1, by (first | lia | omega), fun z => ?_⟩, fun s hs => ?_⟩
      · exact (Int.mul_eq_zero.mp z).elim hnz hy
      · rw [sumZ_left]
        show a s 0 * (- sumZ n (fun t => a p (t + 1) * y t)) + sumZ n (fun t => a s (t + 1) * (a p 0 * y t)) = 0
        by_cases es : s = p
        · subst es
          have : sumZ n (fun t => a s (t + 1) * (a s 0 * y t)) = a s 0 * sumZ n (fun t => a s (t + 1) * y t) := by
            rw [← sumZ_mul]
            exact sumZ_congr fun t _ => by grind
          rw [this]
          grind
        · obtain ⟨i, hi, ei⟩ := skip_back hs es hp
          have hki := hk i hi
          rw [ei] at hki
          have e2 : sumZ n (fun q => (a p 0 * a s (q + 1) - a s 0 * a p (q + 1)) * y q) = sumZ n (fun t => a s (t + 1) * (a p 0 * y t)) + (- a s 0) * sumZ n (fun t => a p (t + 1) * y t) := by
            rw [← sumZ_mul, ← sumZ_add]
            exact sumZ_congr fun t _ => by grind
          rw [e2] at hki
          grind
noncomputable def rwC (k : Nat) (v : Nat → Int) (a : Nat → Nat → Int) : Nat → Nat → Int := fun p q => if q = k then v p else a p q
noncomputable def bar : Nat → (Nat → Nat → Int) → Int → Int
  | 0, _, b => b
  | k + 1, a, b => match (List.range (k + 1)).find? (fun p => a p 0 != 0) with
    | none => 0
    | some p => sg p * bar k (fun i j => (a p 0 * a (skip p i) (j + 1) - a (skip p i) 0 * a p (j + 1)).fdiv b) (a p 0)
noncomputable def BI (k : Nat) (a : Nat → Nat → Int) (b : Int) : Prop := ∀ (j : Nat) (ρ γ : Nat → Nat), (∀ s < j + 1, ρ s < k) → (∀ s < j + 1, γ s < k) → b ^ j ∣ det (j + 1) (fun s t => a (ρ s) (γ t))
theorem det_two {a : Nat → Nat → Int} : det 2 a = a 0 0 * a 1 1 - a 1 0 * a 0 1 := by
  have s0 : skip 0 0 = 1 := rfl
  have s1 : skip 1 0 = 0 := rfl
  simp only [det, sumZ, sg, s0, s1]
  grind
theorem BI.exact {k : Nat} {a : Nat → Nat → Int} {b : Int} (h : BI (k + 1) a b) {p i j : Nat} (hp : p < k + 1) (hi : i < k) (hj : j < k) (hb : b ≠ 0) : (a p 0 * a (skip p i) (j + 1) - a (skip p i) 0 * a p (j + 1)).fdiv b * b = a p 0 * a (skip p i) (j + 1) - a (skip p i) 0 * a p (j + 1) := by
  have := h 1 (fun s => if s = 0 then p else skip p i) (fun t => if t = 0 then 0 else j + 1) (fun s _ => by show (if s = 0 then p else skip p i) < _; split; exact hp; exact skip_lt hi) (fun s _ => by show (if s = 0 then 0 else j + 1) < _; split <;> (first | lia | omega))
  rw [det_two, Int.pow_one] at this
  simp only [if_pos, if_neg (show ¬ (1 = 0) by decide)] at this
  have e := Int.fdiv_mul_cancel (a := a p 0 * a (skip p i) (j + 1) - a (skip p i) 0 * a p (j + 1)) (b := b) this
  exact e
theorem BI.next {k : Nat} {a : Nat → Nat → Int} {b : Int} (h : BI (k + 1) a b) {p : Nat} (hp : p < k + 1) (hb : b ≠ 0) (hnz : a p 0 ≠ 0) : BI k (fun i j => (a p 0 * a (skip p i) (j + 1) - a (skip p i) 0 * a p (j + 1)).fdiv b) (a p 0) := by
  intro j ρ γ hρ hγ
  have c := det_chio (n := j + 1) (m := fun s t => a (match s with | 0 => p | s + 1 => skip p (ρ s)) (match t with | 0 => 0 | t + 1 => γ t + 1))
  obtain ⟨x, hx⟩ := h (j + 1) (fun s => match s with | 0 => p | s + 1 => skip p (ρ s)) (fun t => match t with | 0 => 0 | t + 1 => γ t + 1)
    (fun s hs => by cases s with | zero => exact hp | succ s => exact skip_lt (hρ s (by (first | lia | omega)))) (fun t ht => by cases t with | zero => exact Nat.succ_pos k | succ t => have := hγ t (by (first | lia | omega)); show γ t + 1 < k + 1; (first | lia | omega))
  rw [hx] at c
  have e : det (j + 1) (fun s t => a p 0 * a (skip p (ρ s)) (γ t + 1) - a (skip p (ρ s)) 0 * a p (γ t + 1)) = b ^ (j + 1) * det (j + 1) (fun s t => (a p 0 * a (skip p (ρ s)) (γ t + 1) - a (skip p (ρ s)) 0 * a p (γ t + 1)).fdiv b) := by
    rw [← det_scale]
    refine det_congr fun s hs t ht => ?_
    rw [Int.mul_comm b]
    exact (h.exact hp (hρ s hs) (hγ t ht) hb).symm
  have c' : a p 0 * (b ^ (j + 1) * det (j + 1) (fun s t => (a p 0 * a (skip p (ρ s)) (γ t + 1) - a (skip p (ρ s)) 0 * a p (γ t + 1)).fdiv b)) = a p 0 ^ (j + 1) * (b ^ (j + 1) * x) := by
    rw [← e]
    exact c
  refine ⟨x, ?_⟩
  have bn : b ^ (j + 1) ≠ 0 := Int.pow_ne_zero hb
  rw [Int.pow_succ] at c'
  refine Int.eq_of_mul_eq_mul_left hnz (Int.eq_of_mul_eq_mul_left bn ?_)
  generalize det (j + 1) _ = D at *
  grind
theorem bar_det : ∀ {k : Nat} {a : Nat → Nat → Int} {b : Int}, b ≠ 0 → BI k a b → bar k a b * b ^ k = b * det k a
  | 0, a, b, _, _ => by simp [bar, det]
  | k + 1, a, b, hb, h => by
    rw [bar]
    split
    · rename_i e
      rw [List.find?_range_eq_none] at e
      rw [det_col0 fun i hi => by have := e i hi; simpa using this, Int.mul_zero, Int.zero_mul]
    · rename_i p e
      rw [List.find?_range_eq_some] at e
      have hnz : a p 0 ≠ 0 := by simpa using e.1
      have hp : p < k + 1 := by simpa using e.2.1
      have ih := bar_det (k := k) hnz (h.next hp hb hnz)
      have c := det_chio_p hp (a := a)
      have e2 : det k (fun i j => a p 0 * a (skip p i) (j + 1) - a (skip p i) 0 * a p (j + 1)) = b ^ k * det k (fun i j => (a p 0 * a (skip p i) (j + 1) - a (skip p i) 0 * a p (j + 1)).fdiv b) := by
        rw [← det_scale]
        refine det_congr fun s hs t ht => ?_
        rw [Int.mul_comm b]
        exact (h.exact hp hs ht hb).symm
      rw [e2] at c
      generalize bar k _ _ = x at *
      generalize det k _ = D at *
      generalize det (k + 1) a = D1 at *
      have an : a p 0 ^ k ≠ 0 := Int.pow_ne_zero hnz
      have s1 := sg_sq p
      rw [Int.pow_succ]
      refine Int.eq_of_mul_eq_mul_left an ?_
      generalize a p 0 ^ k = u at *
      generalize b ^ k = v at *
      generalize a p 0 = w at *
      generalize sg p = σ at *
      have e5 : u * (x * v) = u * (σ * D1) := by grind
      have e6 : x * v = σ * D1 := Int.eq_of_mul_eq_mul_left an e5
      grind
theorem bar_one {k : Nat} {a : Nat → Nat → Int} : bar k a 1 = det k a := by
  have h := bar_det (k := k) (a := a) (b := 1) (by decide) fun j ρ γ _ _ => by rw [Int.one_pow]; exact Int.one_dvd _
  rw [Int.one_pow, Int.mul_one, Int.one_mul] at h
  exact h
end Eh
namespace Eh
open L2 Ek
theorem sumZ_nn {f : Nat → Int} : ∀ {n : Nat}, (∀ k < n, 0 ≤ f k) → 0 ≤ sumZ n f
  | 0, _ => Int.le_refl 0
  | n + 1, h => Int.add_nonneg (sumZ_nn fun k hk => h k (Nat.lt_succ_of_lt hk)) (h n (Nat.lt_succ_self n))
theorem le_sumZ {f : Nat → Int} {i : Nat} : ∀ {n : Nat}, i < n → (∀ k < n, 0 ≤ f k) → f i ≤ sumZ n f
  | n + 1, hi, h => by
    have a := h n (Nat.lt_succ_self n)
    have h' := fun k hk => h k (Nat.lt_succ_of_lt hk)
    rw [sumZ]
    by_cases e : i = n
    · have b := sumZ_nn h'
      rw [e]
      (first | lia | omega)
    · have b := le_sumZ (show i < n by (first | lia | omega)) h'
      (first | lia | omega)
theorem sumZ_list {f : Nat → Int} : ∀ n : Nat, ((List.range n).map f).sum = sumZ n f
  | 0 => rfl
  | n + 1 => by
    rw [List.range_succ, List.map_append, List.sum_append, sumZ_list n, sumZ]
    exact congrArg _ (Int.add_zero _)
theorem W_sum {r : Nat} {ds : List Dr} {z : Nat} (g : ∀ d ∈ ds, GdDoor r d) (h : ¬ IsE ds z) : W r ds z = (outs r ds z).sum := by
  have e := outs_sum (r := r) (ds := ds) (z := (z : Int)) fun d hd => (g d hd).2.1
  have h0 := wsum_nn (z := (z : Int)) fun d hd => (g d hd).2.2.1
  have h1 : wsum ds z ≠ 0 := fun q => h ((wsum_zero fun d hd => (g d hd).2.2.1).mp q)
  unfold W wh
  rw [e]
  split <;> (first | lia | omega)
theorem W_end {r : Nat} {ds : List Dr} {z : Nat} (g : ∀ d ∈ ds, GdDoor r d) (h : IsE ds z) : W r ds z = 1 := by
  unfold W wh
  rw [osum_zero g h]
  rfl
theorem ow_le {r : Nat} {ds : List Dr} {z k : Nat} (g : ∀ d ∈ ds, GdDoor r d) : ow r ds z k ≤ W r ds z := by
  unfold ow
  cases e : (outs r ds z)[k]? with
  | none => exact Int.le_of_lt W_pos
  | some v =>
    have h := le_sum (outs_nn (r := r) (z := (z : Int)) fun d hd => (g d hd).2.2.1) (List.mem_of_getElem? e)
    show v ≤ W r ds z
    unfold W wh
    split <;> (first | lia | omega)
theorem most {f : Nat → Int} : ∀ {n : Nat}, 0 < n → ∃ i < n, ∀ k < n, f k ≤ f i
  | 1, _ => ⟨0, Nat.one_pos, fun k hk => by rw [Nat.lt_one_iff.mp hk]; exact Int.le_refl _⟩
  | n + 2, _ => by
    obtain ⟨i, hi, h⟩ := most (f := f) (Nat.succ_pos n)
    have c := Int.le_total (f (n + 1)) (f i)
    rcases c with c | c
    · refine ⟨i, Nat.lt_succ_of_lt hi, fun k hk => ?_⟩
      rcases Nat.lt_succ_iff_lt_or_eq.mp hk with q | q
      · exact h k q
      · rw [q]; exact c
    · refine ⟨n + 1, Nat.lt_succ_self _, fun k hk => ?_⟩
      rcases Nat.lt_succ_iff_lt_or_eq.mp hk with q | q
      · exact Int.le_trans (h k q) c
      · rw [q]; exact Int.le_refl _
noncomputable def eqm (r : Nat) (ds : List Dr) (z k : Nat) : Int := (if k = z then W r ds z else 0) - ow r ds z k
theorem eqm_row {r : Nat} {ds : List Dr} {z : Nat} (hz : z < r) (f : Nat → Int) : sumZ r (fun k => eqm r ds z k * f k) = W r ds z * f z + -1 * sumZ r (fun k => ow r ds z k * f k) := by
  have e := sumZ_one (f := fun k => if k = z then W r ds z * f z else 0) hz fun k _ ne => if_neg ne
  simp only [if_pos] at e
  rw [← sumZ_mul, ← e, ← sumZ_add]
  refine sumZ_congr fun k _ => ?_
  unfold eqm
  rw [Int.sub_mul, Int.neg_one_mul, ← Int.sub_eq_add_neg]
  split
  · rename_i q
    rw [q]
  · rw [Int.zero_mul]
theorem kern_le {r : Nat} {ds : List Dr} (g : ∀ d ∈ ds, GdDoor r d) (hc : ∀ x < r, Rch ds x) {y : Nat → Int} (hk : ∀ p < r, sumZ r (fun k => eqm r ds p k * y k) = 0) {k : Nat} (hkr : k < r) : y k ≤ 0 := by
  obtain ⟨q, hq, hm⟩ := most (f := y) (Nat.lt_of_le_of_lt (Nat.zero_le k) hkr)
  have key : ∀ {x : Nat}, Rch ds x → x < r → y x = y q → y q ≤ 0 := fun {x} hx => by
    induction hx with
    | nil e =>
      intro h1 h2
      have := hk _ h1
      rw [eqm_row h1, W_end g e, sumZ_all fun k _ => by rw [ow_end g e, Int.zero_mul]] at this
      (first | lia | omega)
    | @cons x z d hd e1 e2 _ ih =>
      intro h1 h2
      have hz : z < r := by have := (g d hd).2.1; (first | lia | omega)
      refine ih hz ?_
      have a := hk x h1
      rw [eqm_row h1, W_sum g (fun e => e d hd e1), outs_range r ds x, sumZ_list, h2, Int.mul_comm, ← sumZ_mul, ← sumZ_mul, ← sumZ_add] at a
      have t : ∀ j < r, 0 ≤ y q * ow r ds x j + -1 * (ow r ds x j * y j) := fun j hj => by
        rw [Int.mul_comm (y q), Int.neg_one_mul, ← Int.sub_eq_add_neg, ← Int.mul_sub]
        exact Int.mul_nonneg (ow_nn fun d hd => (g d hd).2.2.1) (Int.sub_nonneg_of_le (hm j hj))
      have b := le_sumZ (f := fun j => y q * ow r ds x j + -1 * (ow r ds x j * y j)) hz t
      rw [a, Int.mul_comm (y q), Int.neg_one_mul, ← Int.sub_eq_add_neg, ← Int.mul_sub] at b
      have c := Int.nonpos_of_mul_nonpos_right b (ow_pos g hd e1 e2)
      have := hm z hz
      (first | lia | omega)
  exact Int.le_trans (hm k hkr) (key (hc q hq) hq rfl)
theorem dh_ne {r : Nat} {ds : List Dr} (g : ∀ d ∈ ds, GdDoor r d) (hc : ∀ x < r, Rch ds x) : det r (eqm r ds) ≠ 0 := fun h => by
  obtain ⟨y, ⟨q, hq, hy⟩, hk⟩ := det_kernel h
  have a := kern_le g hc hk hq
  have b := kern_le g hc (y := fun k => -1 * y k) (fun p hp => by
    rw [sumZ_congr (g := fun k => -1 * (eqm r ds p k * y k)) fun k _ => Int.mul_left_comm _ _ _, sumZ_mul, hk p hp]
    rfl) hq
  omega
theorem eqm_bits {r : Nat} {ds : List Dr} (g : Gd r ds) {z k : Nat} : Bits (eqm r ds z k) 58 := by
  have h1 := W_le (z := z) g
  have h0 := W_pos (r := r) (ds := ds) (z := z)
  have h2 := ow_nn (r := r) (z := z) (k := k) fun d hd => (g.2.2 d hd).2.2.1
  have h3 := ow_le (z := z) (k := k) g.2.2
  have h56 : (2 : Int) ^ 56 = 72057594037927936 := by decide
  have h58 : (2 : Nat) ^ 58 = 288230376151711744 := by decide
  rw [h56] at h1
  unfold Bits eqm
  rw [h58]
  split <;> (first | lia | omega)
noncomputable def eb (k : Nat) : Nat := 59 * 2 ^ (7 - k) - 1
theorem eb_next {k : Nat} (h : k + 1 ≤ 7) : 2 * eb (k + 1) + 1 = eb k := by
  unfold eb
  have : 7 - k = (7 - (k + 1)) + 1 := by (first | lia | omega)
  rw [this, Nat.pow_succ]
  have := Nat.two_pow_pos (7 - (k + 1))
  omega
theorem eb_le {k : Nat} (h : 1 ≤ k) : eb k ≤ 3775 := by
  unfold eb
  have : 2 ^ (7 - k) ≤ 2 ^ 6 := Nat.pow_le_pow_right (by decide) (by omega)
  omega
theorem fdiv_bits {x b : Int} {k : Nat} (h : Bits x k) : Bits (x.fdiv b) k := bits_le (Int.natAbs_fdiv_le_natAbs x b) h
theorem next_bits {k : Nat} {x y u v b : Int} (h : k + 1 ≤ 7) (hx : Bits x (eb (k + 1))) (hy : Bits y (eb (k + 1))) (hu : Bits u (eb (k + 1))) (hv : Bits v (eb (k + 1))) : Bits ((x * y - u * v).fdiv b) (eb k) := by
  rw [← eb_next h]
  refine fdiv_bits (bits_sub ?_ ?_)
  · exact (bits_mul hx hy).mono (by (first | lia | omega))
  · exact (bits_mul hu hv).mono (by (first | lia | omega))
theorem bar_bits : ∀ {k : Nat} {a : Nat → Nat → Int} {b : Int}, k ≤ 7 → (∀ p < k, ∀ q < k, Bits (a p q) (eb k)) → Bits b 3776 → Bits (bar k a b) 3776
  | 0, _, _, _, _, h => h
  | k + 1, a, b, hk, h, hb => by
    rw [bar]
    split
    · exact Nat.two_pow_pos _
    · rename_i p e
      rw [List.find?_range_eq_some] at e
      have hp : p < k + 1 := by simpa using e.2.1
      have ih := bar_bits (k := k) (a := fun i j => (a p 0 * a (skip p i) (j + 1) - a (skip p i) 0 * a p (j + 1)).fdiv b) (b := a p 0) (by (first | lia | omega)) (fun i hi j hj => next_bits hk (h p hp 0 (by (first | lia | omega))) (h _ (skip_lt hi) _ (by (first | lia | omega))) (h _ (skip_lt hi) 0 (by (first | lia | omega))) (h p hp _ (by (first | lia | omega)))) ((h p hp 0 (by (first | lia | omega))).mono (by have := eb_le (k := k + 1) (by (first | lia | omega)); (first | lia | omega)))
      have s : sg p = 1 ∨ sg p = -1 := by rw [sg_mod]; split; exact .inr rfl; exact .inl rfl
      rcases s with s | s
      · rw [s, Int.one_mul]; exact ih
      · rw [s, Int.neg_one_mul]; exact bits_neg ih
theorem eb_ge {k : Nat} (h : k ≤ 7) : 58 ≤ eb k := by
  unfold eb
  have := Nat.two_pow_pos (7 - k)
  omega
end Eh
namespace Eh
open L2 Ek
theorem bits_of_le {x : Int} {b k : Nat} (h0 : 0 ≤ x) (h : x ≤ 2 ^ b) (hk : b < k) : Bits x k := by
  have e : ((2 ^ b : Nat) : Int) = (2 : Int) ^ b := by rw [Int.natCast_pow]; rfl
  rw [← e] at h
  have := Nat.pow_lt_pow_right (a := 2) (by decide) hk
  unfold Bits
  omega
theorem W_bits {r : Nat} {ds : List Dr} (g : Gd r ds) {z : Nat} : Bits (W r ds z) 57 := bits_of_le (Int.le_of_lt W_pos) (W_le g) (Nat.lt_succ_self 56)
noncomputable def stw (r : Nat) (ds : List Dr) (z : Nat) : List Int := if IsE ds z then (outs r ds z).set z 1 else outs r ds z
theorem stw_sum {r : Nat} {ds : List Dr} {z : Nat} (g : ∀ d ∈ ds, GdDoor r d) (hz : z < r) : (stw r ds z).sum = W r ds z := by
  unfold stw
  by_cases c : IsE ds z
  · rw [if_pos c, W_end g c]
    have e := sum_set (outs r ds z) z 1 (by rw [outs_len]; exact hz)
    have e0 : ((outs r ds z)[z]?).getD 0 = 0 := ow_end g c
    rw [e0, osum_zero g c] at e
    exact e
  · rw [if_neg c, W_sum g c]
theorem stw_len {r : Nat} {ds : List Dr} {z : Nat} : (stw r ds z).length = r := by
  unfold stw
  split
  · rw [List.length_set, outs_len]
  · exact outs_len
noncomputable def stI (r : Nat) (ds : List Dr) (z k : Nat) : Int := ((stw r ds z)[k]?).getD 0
theorem stw_range (r : Nat) (ds : List Dr) (z : Nat) : stw r ds z = (List.range r).map (stI r ds z) := list_range stw_len
theorem stI_bits {r : Nat} {ds : List Dr} {z k : Nat} (g : Gd r ds) (hz : z < r) : Bits (stI r ds z k) 57 := by
  unfold stI
  cases e : (stw r ds z)[k]? with
  | none => exact Nat.two_pow_pos 57
  | some v =>
    have nn : ∀ x ∈ stw r ds z, 0 ≤ x := fun x hx => by
      have h0 := outs_nn (r := r) (z := (z : Int)) fun d hd => (g.2.2 d hd).2.2.1
      unfold stw at hx
      split at hx
      · rcases List.mem_or_eq_of_mem_set hx with q | q
        · exact h0 x q
        · rw [q]; decide
      · exact h0 x hx
    have hv := List.mem_of_getElem? e
    have h := le_sum nn hv
    rw [stw_sum g.2.2 hz] at h
    exact bits_of_le (nn v hv) (Int.le_trans h (W_le g)) (Nat.lt_succ_self 56)
noncomputable def pI (r : Nat) (ds : List Dr) (w : Int) (z k : Nat) : Int := stI r ds z k * w.fdiv (W r ds z)
theorem pI_bits {r : Nat} {ds : List Dr} {w : Int} {z k : Nat} (g : Gd r ds) (hw : Bits w 400) (hz : z < r) : Bits (pI r ds w z k) 457 := bits_mul (stI_bits g hz) (fdiv_bits hw)
theorem sumr_bits {f : Nat → Int} {r b : Nat} (hr : r ≤ 7) (h : ∀ y < r, Bits (f y) b) : Bits ((List.range r).map f).sum (b + 3) := by
  have key : ∀ n ≤ r, (sumZ n f).natAbs ≤ n * 2 ^ b := fun n => by
    induction n with
    | zero => intro _; rw [Nat.zero_mul]; exact Nat.le_refl 0
    | succ n ih =>
      intro hn
      rw [sumZ, Nat.succ_mul]
      exact Nat.le_trans (Int.natAbs_add_le _ _) (Nat.add_le_add (ih (Nat.le_of_succ_le hn)) (Nat.le_of_lt (h n hn)))
  rw [sumZ_list]
  have k := key r (Nat.le_refl r)
  have k2 := Nat.mul_le_mul_right (2 ^ b) hr
  have k3 := Nat.two_pow_pos b
  unfold Bits
  rw [Nat.pow_add]
  omega
end Eh
namespace Eh
open PySem L2
noncomputable def top (i : Nat) : Stmt := PySem.Challenge.pw_endrooms_k12_walks_refused.main.body.getD i (.Pass ⟨0, 0, 0, 0⟩)
noncomputable abbrev sGreatestDivisor : Stmt := top 10
noncomputable abbrev sFraction : Stmt := top 11
noncomputable abbrev sCheckDoor : Stmt := top 13
noncomputable abbrev sCheckHouse : Stmt := top 14
noncomputable abbrev sCheckRoom : Stmt := top 15
noncomputable abbrev sInit : Stmt := inClass (top 16) 0
noncomputable abbrev sEnds : Stmt := inClass (top 16) 1
noncomputable abbrev sComesToEnd : Stmt := top 17
noncomputable abbrev sWeightTable : Stmt := top 19
noncomputable abbrev sEquationRows : Stmt := top 20
noncomputable abbrev sCleared : Stmt := top 21
noncomputable abbrev sDeterminant : Stmt := top 22
noncomputable abbrev sSolvedAbove : Stmt := top 23
noncomputable abbrev sWeight : Stmt := top 25
noncomputable abbrev sChoiceWeight : Stmt := top 26
noncomputable abbrev sCheckEnding : Stmt := top 28
noncomputable abbrev sEndShares : Stmt := top 29
noncomputable abbrev sLength : Stmt := top 30
noncomputable abbrev sVisits : Stmt := top 31
noncomputable abbrev sCommonMultiple : Stmt := top 33
noncomputable abbrev sStayingTable : Stmt := top 34
noncomputable abbrev sStepped : Stmt := top 35
noncomputable abbrev sBehind : Stmt := top 36
noncomputable abbrev sLawCellAt : Stmt := top 38
noncomputable abbrev sLawAnyBy : Stmt := top 39
noncomputable abbrev sLawOuts : Stmt := top 45
noncomputable abbrev sLawEnds : Stmt := top 46
noncomputable abbrev sLawComes : Stmt := top 48
noncomputable abbrev sLawCalled : Stmt := top 49
noncomputable abbrev sLawTold : Stmt := top 50
noncomputable abbrev sLawDue : Stmt := top 51
noncomputable abbrev sLaw : Stmt := top 52
end Eh
namespace Eh
open PySem L2
structure TC (K : PySem.W.Frag) (mg : Str → Option Value) (C : Addr) : Prop where
  cl : Cls K C
  nR : NoAttr K C "rooms"
  nD : NoAttr K C "doors"
theorem kRD : ¬ (("rooms" : Str) = "doors") := by decide +kernel
noncomputable def flds (r : Int) (l : Addr) : List (Str × V) := putF "doors" (.ref l) (putF "rooms" (.int r) [])
theorem flds_rooms (r : Int) (l : Addr) : (flds r l).lookup ("rooms" : Str) = some (.int r) := by
  unfold flds
  rw [lookup_putF, if_neg kRD, lookup_putF, if_pos rfl]
theorem flds_doors (r : Int) (l : Addr) : (flds r l).lookup ("doors" : Str) = some (.ref l) := by
  unfold flds
  rw [lookup_putF, if_pos rfl]
theorem flds_no (r : Int) (l : Addr) {m : Str} (h1 : ¬ m = "doors") (h2 : ¬ m = "rooms") : (flds r l).lookup m = none := by
  unfold flds
  rw [lookup_putF, if_neg h1, lookup_putF, if_neg h2]
  all_goals rfl
structure HouseAt (C : Addr) (H : Hp) (p : Addr) (r : Int) (l : Addr) (xs : List V) : Prop where
  ob : ∃ dx, H p = some (.ins C dx (flds r l))
  ls : H l = some (.lst xs)
theorem HouseAt.same {C : Addr} {H H' : Hp} {p : Addr} {r : Int} {l : Addr} {xs : List V} (h : HouseAt C H p r l xs) (s : Same H H') : HouseAt C H' p r l xs := by
  obtain ⟨⟨dx, e⟩, q⟩ := h
  exact ⟨⟨dx, s _ _ e⟩, s _ _ q⟩
noncomputable def RetL (H : Hp) (zs : List Int) (Q : VK) : Prop := ∀ q H', Same H H' → H q = none → H' q = some (.lst (intsV zs)) → Q (.ref q) H'
inductive spCheckDoor (cH : Addr) (vs : (List V)) (H : Hp) (Q : VK) (E : XK) : Prop
  | mk (r : Int) (v : V) (d : Dr) : (vs = [.int r, v]) → (DrAt H v d) → ((GdDoor r d → Q .non H)) → ((¬ GdDoor r d → E (.ref cH) none H)) → spCheckDoor cH vs H Q E
inductive spCheckHouse (cH : Addr) (vs : (List V)) (H : Hp) (Q : VK) (E : XK) : Prop
  | mk (r : Int) (a : Addr) (xs : List V) (ds : List Dr) : (vs = [.int r, .ref a]) → (H a = some (.lst xs)) → (DsAt H xs ds) → ((Gd r ds → Q .non H)) → ((¬ Gd r ds → E (.ref cH) none H)) → spCheckHouse cH vs H Q E
inductive spInit (C cH : Addr) (vs : (List V)) (H : Hp) (Q : VK) (E : XK) : Prop
  | mk (p dx : Addr) (r : Int) (a : Addr) (xs : List V) (ds : List Dr) : (vs = [.ref p, .int r, .ref a]) → (H p = some (.ins C dx [])) → (H a = some (.lst xs)) → (DsAt H xs ds) → ((¬ Gd r ds → E (.ref cH) none H)) → ((Gd r ds → ∀ (l : Addr) (H' : Hp), H l = none → HouseAt C H' p r l xs → (∀ b o, H b = some o → b ≠ p → H' b = some o) → Q .non H')) → spInit C cH vs H Q E
inductive spEnds (C : Addr) (vs : (List V)) (H : Hp) (Q : VK) (xu3 : XK) : Prop
  | mk (p : Addr) (r : Nat) (l : Addr) (xs : List V) (ds : List Dr) : (vs = [.ref p]) → (HouseAt C H p r l xs) → (DsAt H xs ds) → (r ≤ 7) → (ds.length ≤ 49) → (RetL H (endsOf r ds) Q) → spEnds C vs H Q xu3
theorem house_made {C cH : Addr} {H : Hp} {r : Int} {h : Addr} {xs : List V} {ds : List Dr} {R : Hp → Prop} {E : XK} {x dx : Addr} (nx : H x = none) (ndx : H dx = none) (g : Gd r ds) (hl : H h = some (.lst xs)) (hd : DsAt H xs ds)
    (k : ∀ (lh : Addr) (H' : Hp), Same H H' → H lh = none → HouseAt C H' x r lh xs → R H') :
    spInit C cH (.ref x :: ([.int r, .ref h] ++ [])) (upd (upd H dx (.own x)) x (.ins C dx [])) (fun v H2 => v = .non ∧ R H2) E := by
  have sA : Same H (upd (upd H dx (.own x)) x (.ins C dx [])) := fun b o e => by
    rw [upd_ne (ne_of_none e nx), upd_ne (ne_of_none e ndx)]; exact e
  refine ⟨x, dx, r, h, xs, ds, rfl, upd_same, sA _ _ hl, hd.mono (tups_same sA), fun ng => absurd g ng, fun _ lh H4 nlh hh hk => ⟨rfl, ?_⟩⟩
  exact k lh H4 (fun b o e => hk b o (sA _ _ e) (ne_of_none e nx)) (sA.free nlh) hh
section
variable {P : Program} {w : World} {K : PySem.W.Frag} {mg : Str → Option Value} {base : Heap} {C cNoHouse : Addr}
theorem sc_check_door : FnScope ["rooms", "door"] ["rooms", "door"] (defScope sCheckDoor) := ⟨rfl, rfl, rfl, by decide +kernel, rfl, by decide +kernel, by decide +kernel⟩
theorem ok_check_door {f : Addr} {fd : FuncData} (x_NoHouse : TX K mg "NoHouse" cNoHouse) (F : Fun K "check_door" "check_door" sCheckDoor f fd) : FnOk P w K mg base (CXR P w) 1 f fd ["rooms", "door"] (spCheckDoor cNoHouse) := by
  refine F.okX sc_check_door (fun vs H Q E h => ?_) (fun cdv A outer s H vs Q E hr h => ?_)
  · obtain ⟨r, v, d, rfl, _⟩ := h
    rfl
  obtain ⟨r, _, d, rfl, ⟨p, rfl, hp⟩, q0, q1⟩ := h
  refine ⟨_, (pss_cons (ps_if (pt_not (pt_chain op_le op_lt pe_int (pe_ix (ix_tupK (K := K) rfl) (pv 1) pe_int (fun _ _ => rfl)) (pv 0)))
      (pss_one (ps_raise fnb_of lets_of rfl x_NoHouse.m x_NoHouse.x))
      pss_nil)
    (pss_cons (ps_if (pt_not (pt_chain op_le op_lt pe_int (pe_ix (ix_tupK (K := K) rfl) (pv 1) pe_int (fun _ _ => rfl)) (pv 0)))
      (pss_one (ps_raise fnb_of lets_of rfl x_NoHouse.m x_NoHouse.x))
      pss_nil)
    (pss_one (ps_if (pt_not (pt_chain op_le op_le pe_int (pe_ix (ix_tupK (K := K) rfl) (pv 1) pe_int (fun _ _ => rfl)) (pe_op op_pow pe_int pe_int)))
      (pss_one (ps_raise fnb_of lets_of rfl x_NoHouse.m x_NoHouse.x))
      pss_nil)))), ?_⟩
  refine ⟨_, rfl, p, _, _, _, rfl, rfl, SqT.of hp, rfl, _, _, rfl, rfl, _, rfl, ite2 (fun c => ?_) (fun c => ⟨_, rfl, iteT (q1 fun z => c (decide_eq_true z.1.1))⟩)⟩
  have c1 : 0 ≤ d.1 := of_decide_eq_true c
  refine ⟨_, rfl, _, _, rfl, rfl, _, rfl, ite2 (fun c => ?_) (fun c => ?_)⟩
  · exact q1 fun z => ndT c z.1.2
  have c2 : d.1 < r := ndF c
  refine ⟨_, rfl, p, _, _, _, rfl, rfl, SqT.of hp, rfl, _, _, rfl, rfl, _, rfl, ite2 (fun c => ?_) (fun c => ⟨_, rfl, iteT (q1 fun z => c (decide_eq_true z.2.1.1))⟩)⟩
  have c3 : 0 ≤ d.2.1 := of_decide_eq_true c
  refine ⟨_, rfl, _, _, rfl, rfl, _, rfl, ite2 (fun c => ?_) (fun c => ?_)⟩
  · exact q1 fun z => ndT c z.2.1.2
  have c4 : d.2.1 < r := ndF c
  refine ⟨_, rfl, p, _, _, _, rfl, rfl, SqT.of hp, rfl, _, _, rfl, rfl, _, rfl, ite2 (fun c => ?_) (fun c => ⟨_, rfl, iteT (q1 fun z => c (decide_eq_true z.2.2.1))⟩)⟩
  have c5 : 1 ≤ d.2.2 := of_decide_eq_true c
  refine ⟨_, _, rfl, rfl, ⟨by decide, by decide, by decide⟩, _, _, rfl, rfl, _, rfl, ite2 (fun c => ?_) (fun c => ?_)⟩
  · exact q1 fun z => ndT c z.2.2.2
  have c6 : d.2.2 ≤ 10 ^ 15 := ndF c
  exact q0 ⟨⟨c1, c2⟩, ⟨c3, c4⟩, c5, c6⟩
theorem sc_check_house : FnScope ["rooms", "doors", "door"] ["rooms", "doors"] (defScope sCheckHouse) := ⟨rfl, rfl, rfl, by decide +kernel, rfl, by decide +kernel, by decide +kernel⟩
theorem ok_check_house {f g : Addr} {fd gd : FuncData} (B : TB mg) (x_NoHouse : TX K mg "NoHouse" cNoHouse) (F : Fun K "check_house" "check_house" sCheckHouse f fd) (c_check_door : Cal P w K mg base "check_door" 1 g gd ["rooms", "door"] (spCheckDoor cNoHouse)) :
    FnOk P w K mg base (CXR P w) 2 f fd ["rooms", "doors"] (spCheckHouse cNoHouse) := by
  refine F.okX sc_check_house (fun vs H Q E h => ?_) (fun cdv A outer s H vs Q E hr h => ?_)
  · obtain ⟨r, a, xs, ds, rfl, _⟩ := h
    rfl
  obtain ⟨r, a, xs, ds, rfl, ha, hd, q0, q1⟩ := h
  have hl := hd.len
  refine ⟨_, (pss_cons (ps_if (pt_not (pt_chain op_le op_le pe_int (pv 0) pe_int))
      (pss_one (ps_raise fnb_of lets_of rfl x_NoHouse.m x_NoHouse.x))
      pss_nil)
    (pss_cons (ps_if (pt_cmpR op_gt (pe_callB (call_lenK (K := K) rfl) rfl B.len bt_len (pa_cons (pv 1) pa_nil)) pe_int (nomark _))
      (pss_one (ps_raise fnb_of lets_of rfl x_NoHouse.m x_NoHouse.x))
      pss_nil)
    (pss_one (ps_for (Lets.own lets_of) rfl (pi_listK (K := K) rfl (pv 1)) (pg_name (i := 2) sc_check_house.nd rfl (Or.inl rfl))
      (pss_one (ps_expr (pe_call (c_check_door.up (by decide)) hr rfl c_check_door.m c_check_door.k c_check_door.b .nil (pass_up fnb_of lets_of) (pa_cons (pv 0) (pa_cons (pv 2) pa_nil))))))))), ?_⟩
  refine ⟨_, rfl, _, _, rfl, rfl, _, rfl, ite2 (fun c => ?_) (fun c => ⟨_, rfl, iteT (q1 fun z => c (decide_eq_true z.1.1))⟩)⟩
  have c1 : 1 ≤ r := of_decide_eq_true c
  refine ⟨_, _, rfl, rfl, _, rfl, ite2 (fun c => ?_) (fun c => ?_)⟩
  · exact q1 fun z => ndT c z.1.2
  have c2 : r ≤ 7 := ndF c
  refine ⟨_, rfl, a, _, rfl, .inl (SqL.of ha), _, _, rfl, rfl, _, rfl, ite2 (fun c => ?_) (fun c => ?_)⟩
  · have c3 : (xs.length : Int) > 49 := of_decide_eq_true c
    exact q1 fun z => by have := z.2.1; (first | lia | omega)
  have c3 : ds.length ≤ 49 := by
    by_cases z : (xs.length : Int) > 49
    · exact absurd (decide_eq_true z) c
    · (first | lia | omega)
  refine ⟨_, rfl, a, rfl, ⟨_, SqL.of ha⟩, for_list (K := K) (a := a) (xs := xs) (fun i σ H2 => H = H2 ∧ (∃ v, σ = [some (.int r), some (.ref a), v]) ∧ ∀ d ∈ ds.take i, GdDoor r d)
    ⟨rfl, ⟨_, rfl⟩, fun d z => by simp at z⟩ (fun i σ H2 _ ⟨e, _⟩ => e ▸ SqL.of ha) ?_ ?_⟩
  · rintro i x σ H2 hx ⟨rfl, ⟨v, rfl⟩, hg⟩
    obtain ⟨d, hdi, hxd⟩ := hd.get hx
    refine ⟨_, rfl, _, rfl, r, x, d, rfl, hxd, fun gd => ⟨rfl, ⟨_, rfl⟩, fun d' hd' => ?_⟩, fun bad => q1 fun z => bad (z.2.2 d (List.mem_of_getElem? hdi))⟩
    rw [List.take_add_one, hdi] at hd'
    rcases List.mem_append.mp hd' with z | z
    · exact hg d' z
    · have e : d' = d := by simpa using z
      subst e
      exact gd
  · rintro σ H2 ⟨rfl, _, hg⟩
    rw [hl, List.take_length] at hg
    exact q0 ⟨⟨c1, c2⟩, c3, hg⟩
theorem sc_m_init : FnScope ["self", "rooms", "doors"] ["self", "rooms", "doors"] (defScope sInit) := ⟨rfl, rfl, rfl, by decide +kernel, rfl, by decide +kernel, by decide +kernel⟩
theorem ok_init {f g : Addr} {fd gd : FuncData} (B : TB mg) (T : TC K mg C) (F : Fun K "__init__" "House.__init__" sInit f fd) (c_check_house : Cal P w K mg base "check_house" 2 g gd ["rooms", "doors"] (spCheckHouse cNoHouse)) :
    FnOk P w K mg base (CXR P w) 3 f fd ["self", "rooms", "doors"] (spInit C cNoHouse) := by
  refine F.okX sc_m_init (fun vs H Q E h => ?_) (fun cdv A outer s H vs Q E hr h => ?_)
  · obtain ⟨p, dx, r, a, xs, ds, rfl, _⟩ := h
    rfl
  obtain ⟨p, dx, r, a, xs, ds, rfl, hp, ha, hd, q1, q0⟩ := h
  have npa : a ≠ p := ne_of ha hp (by intro z; cases z)
  refine ⟨_, (pss_cons (ps_expr (pe_call (c_check_house.up (by decide)) hr rfl c_check_house.m c_check_house.k c_check_house.b .nil (pass_up fnb_of lets_of) (pa_cons (pv 1) (pa_cons (pv 2) pa_nil))))
    (pss_cons (ps_fld (pv 0) (pv 1) rfl)
    (pss_one (ps_fld (pv 0) (pe_callTy (call_listK (K := K) rfl) rfl B.list bt_list (pa_cons (pv 2) pa_nil)) rfl)))), ?_⟩
  refine ⟨_, rfl, _, rfl, r, a, xs, ds, rfl, ha, hd, fun good => ?_, q1⟩
  refine ⟨_, rfl, _, rfl, p, C, dx, _, rfl, hp, T.cl, T.nR, (by show 0 < 1000; decide), ?_⟩
  refine ⟨_, rfl, a, xs, rfl, .inl (SqL.of (by rw [upd_ne npa]; exact ha)), fun l hl => ?_⟩
  have npl : l ≠ p := fun e => by subst e; rw [upd_same] at hl; cases hl
  have hl0 : H l = none := by rw [upd_ne npl] at hl; exact hl
  refine ⟨_, rfl, p, C, dx, _, rfl, (by rw [upd_ne npl.symm]; exact upd_same), T.cl, T.nD, (by show 1 < 1000; decide), ?_⟩
  refine q0 good l _ hl0 ⟨⟨dx, upd_same⟩, by rw [upd_ne npl]; exact upd_same⟩ fun b o e nb => ?_
  rw [upd_ne nb, upd_ne (ne_of_none e hl0), upd_ne nb]
  exact e
noncomputable abbrev n_m_ends : List Str := ["self", "left"]
theorem sc_m_ends : FnScope ["self", "left"] ["self"] (defScope sEnds) := ⟨rfl, rfl, rfl, by decide +kernel, rfl, by decide +kernel, by decide +kernel⟩
theorem ok_ends {f : Addr} {fd : FuncData} (B : TB mg) (T : TC K mg C) (F : Fun K "ends" "House.ends" sEnds f fd) : FnOk P w K mg base (CXR P w) 1 f fd ["self"] (spEnds C) := by
  refine F.okN sc_m_ends (fun vs H Q E h => ?_) (fun cdv A outer s H vs Q E hr h => ?_)
  · obtain ⟨p, r, l, xs, ds, rfl, _⟩ := h
    rfl
  obtain ⟨p, r, l, xs, ds, rfl, ⟨⟨dx, hp⟩, hl⟩, hd, hr7, h49, k⟩ := h
  have hlen := hd.len
  refine ⟨_, (pss_cons (ps_set (i := 1) sc_m_ends.nd rfl (Or.inr rfl) (pe_comp2 (N' := ["door"]) (ix := [none]) rfl (CompP2.sc (XN := n_m_ends) (en := (defScope sEnds).names) ⟨rfl, by decide +kernel, by decide +kernel, by decide +kernel, by decide +kernel, by decide +kernel⟩ rfl rfl) (pi_listK (K := K) rfl (pe_fldK (K := K) rfl (pv 0) rfl)) (fun _ _ _ _ => (pg_name (i := 0) (show (["door"] : List Str).Nodup by decide +kernel) rfl (Or.inl rfl) (.inr rfl))) (fun _ _ _ _ => pif_nil) (fun _ _ _ _ => (pe_ix (ix_tupK (K := K) rfl) (pv 0) pe_int (fun _ _ => rfl)))))
    (pss_one (ps_ret (pe_comp2 (N' := ["room", "left"]) (ix := [none, some 1]) rfl (CompP2.sc (XN := n_m_ends) (en := (defScope sEnds).names) ⟨rfl, by decide +kernel, by decide +kernel, by decide +kernel, by decide +kernel, by decide +kernel⟩ rfl rfl) (pi_range1 rfl B.range (pa_cons (pe_fldK (K := K) rfl (pv 0) rfl) pa_nil)) (fun _ _ _ _ => (pg_name (i := 0) (show (["room", "left"] : List Str).Nodup by decide +kernel) rfl (Or.inl rfl) (.inr rfl))) (fun _ _ _ _ => (pif_one (pt_cmpR (op_notInK (K := K) rfl) (pv 0) (pv 1) rfl))) (fun _ _ _ _ => (pv 0)))))), ?_⟩
  refine ⟨_, rfl, p, C, dx, _, _, rfl, hp, T.cl, T.nD, flds_doors _ _, l, rfl, ⟨_, SqL.of hl⟩, comp_list (K := K) (a := l) (xs := xs) (fun i ys σ H2 => H = H2 ∧ ys = intsV ((ds.take i).map fun d => d.1) ∧ ∃ v, σ = [v])
    ⟨rfl, rfl, none, rfl⟩ (fun i ys σ H2 _ ⟨e, _⟩ => e ▸ SqL.of hl) ?_ ?_⟩
  · rintro i x ys σ H2 hx ⟨rfl, rfl, v, rfl⟩
    obtain ⟨d, hdi, q, rfl, hq⟩ := hd.get hx
    have hil : i < ds.length := (List.getElem?_eq_some_iff.mp hdi).1
    refine ⟨by rw [List.length_map, List.length_map, List.length_take]; exact small1000 (by (first | lia | omega)), nameYes ?_⟩
    refine ⟨_, rfl, q, _, _, _, rfl, rfl, SqT.of hq, rfl, rfl, ?_, _, rfl⟩
    rw [List.take_add_one, hdi, intsV, intsV, List.map_append, List.map_append]
    rfl
  rintro ys σ H2 ⟨rfl, rfl, _⟩ p1 n1
  rw [hlen, List.take_length]
  have s1 : Same H (upd H p1 (.lst (intsV (ds.map fun d => d.1)))) := same_new n1 _
  let J1 : Nat → List V → St → Hp → Prop := fun i ys σ H2 => upd H p1 (.lst (intsV (ds.map fun d => d.1))) = H2 ∧ ys = intsV (endsOf i ds) ∧ ∃ v, σ = [v, some (.ref p1)]
  refine ⟨_, rfl, p, C, dx, _, _, rfl, s1 _ _ hp, T.cl, T.nR, flds_rooms _ _, r, rfl, by (first | lia | omega), by (first | lia | omega), comp_range (n := r) J1
    ⟨rfl, rfl, none, rfl⟩ ?_ ?_⟩
  · rintro i ys σ H2 hi ⟨rfl, rfl, v, rfl⟩
    refine ⟨by rw [List.length_map]; exact small1000 (Nat.le_trans endsOf_len (by (first | lia | omega))), ?_⟩
    refine ⟨_, rfl, _, rfl, p1, _, rfl, .inl (SqL.of upd_same), rfl, flat_ints _, _, rfl, ?_⟩
    rw [if_pos rfl, inV_ints]
    have em : (0 + (i : Int) ∈ ds.map fun d => d.1) ↔ ¬ ∀ d ∈ ds, d.1 ≠ (i : Int) := by
      rw [Int.zero_add, List.mem_map]
      constructor
      · rintro ⟨d, hd, e⟩ z
        exact z d hd e
      · intro z
        apply Classical.byContradiction
        intro q
        exact z fun d hd e => q ⟨d, hd, e⟩
    by_cases c : 0 + (i : Int) ∈ ds.map fun d => d.1
    · refine ifNF c ⟨rfl, ?_, _, rfl⟩
      rw [endsOf_out (em.mp c)]
    · have c' : ∀ d ∈ ds, d.1 ≠ (i : Int) := Classical.byContradiction fun z => c (em.mpr z)
      refine ifNT c ⟨_, rfl, rfl, ?_, _, rfl⟩
      rw [endsOf_in c', intsV, intsV, List.map_append, Int.zero_add]
      rfl
  rintro ys σ H2 ⟨rfl, rfl, _⟩ p2 n2
  exact k p2 _ (s1.trans (same_new n2 _)) (s1.free n2) upd_same
end
end Eh
namespace Eh
open PySem L2
inductive spCell (K : PySem.W.Frag) (vs : (List V)) (H : Hp) (Q : VK) (xu3 : XK) : Prop
  | mk (a : Addr) (ns : List Int) (k : Int) : (vs = [.ref a, .int k]) → (SqL K H a (intsV ns)) → (0 ≤ k) → (∀ z : Int, Q (.int z) H) → spCell K vs H Q xu3
noncomputable def RetH (most : Int) (m : Nat) (H : Hp) (Q : VK) : Prop := ∀ (r : Nat) (p l : Addr) (xs : List V) (ds : List Dr) (H' : Hp), Same H H' → H p = none → H l = none → H' p = some (.tup [.int r, .ref l]) → H' l = some (.lst xs) → DsAt H' xs ds →
  1 ≤ r → (r : Int) ≤ most → ds.length ≤ m → (∀ d ∈ ds, GdDoor r d ∧ d.2.2 ≤ 20) → Q (.ref p) H'
inductive spAnyBy (K : PySem.W.Frag) (vs : (List V)) (H : Hp) (Q : VK) (xu3 : XK) : Prop
  | mk (a : Addr) (ns : List Int) (most : Int) : (vs = [.ref a, .int most]) → (SqL K H a (intsV ns)) → (1 ≤ most) → (most ≤ 7) → (RetH most 12 H Q) → spAnyBy K vs H Q xu3
inductive spOuts (vs : (List V)) (H : Hp) (Q : VK) (xu3 : XK) : Prop
  | mk (r : Nat) (l : Addr) (xs : List V) (ds : List Dr) (z : Int) : (vs = [.int r, .ref l, .int z]) → (H l = some (.lst xs)) → (DsAt H xs ds) → (r ≤ 1000) → ((∀ d ∈ ds, 0 ≤ d.2.1 ∧ d.2.1 < (r : Int))) → (RetL H (outs r ds z) Q) → spOuts vs H Q xu3
inductive spLEnds (vs : (List V)) (H : Hp) (Q : VK) (xu3 : XK) : Prop
  | mk (r : Nat) (l : Addr) (xs : List V) (ds : List Dr) : (vs = [.int r, .ref l]) → (H l = some (.lst xs)) → (DsAt H xs ds) → (r ≤ 1000) → ((∀ d ∈ ds, (0 ≤ d.2.1 ∧ d.2.1 < (r : Int)) ∧ 1 ≤ d.2.2)) → (RetL H (endsOf r ds) Q) → spLEnds vs H Q xu3
section
variable {P : Program} {w : World} {K : PySem.W.Frag} {mg : Str → Option Value} {base : Heap} {C cNoHouse : Addr}
theorem sc_l_cell_at : FnScope ["script", "k"] ["script", "k"] (defScope sLawCellAt) := ⟨rfl, rfl, rfl, by decide +kernel, rfl, by decide +kernel, by decide +kernel⟩
theorem ok_l_cell_at {f : Addr} {fd : FuncData} (B : TB mg) (F : Fun K "_law_cell_at" "_law_cell_at" sLawCellAt f fd) : FnOk P w K mg base (CXR P w) 1 f fd ["script", "k"] (spCell K) := by
  refine F.okN sc_l_cell_at (fun vs H Q E h => ?_) (fun cdv A outer s H vs Q E hr h => ?_)
  · obtain ⟨a, ns, k, rfl, _⟩ := h
    rfl
  obtain ⟨a, ns, k, rfl, hS, h0, q⟩ := h
  refine ⟨_, (pss_cons (ps_if (pt_cmpR op_lt (pv 1) (pe_callB (call_lenK (K := K) rfl) rfl B.len bt_len (pa_cons (pv 0) pa_nil)) (nomark _))
      (pss_one (ps_ret (pe_ix (ix_listK (K := K) rfl) (pv 0) (pv 1) (fun _ _ => rfl))))
      pss_nil)
    (pss_one (ps_ret pe_int))), ?_⟩
  refine ⟨_, rfl, _, rfl, a, _, rfl, .inl hS, _, _, rfl, rfl, _, rfl, ?_⟩
  refine ite2 (fun c => ?_) (fun c => ?_)
  · have c' : k < (((intsV ns).length : Nat) : Int) := of_decide_eq_true c
    rw [List.length_map] at c'
    exact ⟨_, rfl, _, rfl, a, _, _, _, rfl, rfl, hS, atI_ints h0 c', q _⟩
  · exact q _
theorem sc_l_any_by : FnScope ["script", "most", "rooms", "doors", "k", "begin"] ["script", "most"] (defScope sLawAnyBy) := ⟨rfl, rfl, rfl, by decide +kernel, rfl, by decide +kernel, by decide +kernel⟩
theorem ok_l_any_by {f g : Addr} {fd gd : FuncData} (B : TB mg) (F : Fun K "_law_any_by" "_law_any_by" sLawAnyBy f fd) (c_l_cell_at : Cal P w K mg base "_law_cell_at" 1 g gd ["script", "k"] (spCell K)) :
    FnOk P w K mg base (CXR P w) 2 f fd ["script", "most"] (spAnyBy K) := by
  refine F.okN sc_l_any_by (fun vs H Q E h => ?_) (fun cdv A outer s H vs Q E hr h => ?_)
  · obtain ⟨a, ns, m, rfl, _⟩ := h
    rfl
  obtain ⟨a, ns, most, rfl, hS, hm1, hm7, q⟩ := h
  refine ⟨_, (pss_cons (ps_set (i := 2) sc_l_any_by.nd rfl (Or.inl rfl) (pe_op op_add pe_int (pe_op op_mod (pe_call (c_l_cell_at.up (by decide)) hr rfl c_l_cell_at.m c_l_cell_at.k c_l_cell_at.b .nil pass0R (pa_cons (pv 0) (pa_cons pe_int pa_nil))) (pv 1))))
    (pss_cons (ps_set (i := 3) sc_l_any_by.nd rfl (Or.inl rfl) (pe_lst pa_nil))
    (pss_cons (ps_for PassesOwn.never rfl (pi_range1 rfl B.range (pa_cons (pe_op op_mod (pe_call (c_l_cell_at.up (by decide)) hr rfl c_l_cell_at.m c_l_cell_at.k c_l_cell_at.b .nil pass0R (pa_cons (pv 0) (pa_cons pe_int pa_nil))) pe_int) pa_nil)) (pg_name (i := 4) sc_l_any_by.nd rfl (Or.inl rfl))
      (pss_cons (ps_set (i := 5) sc_l_any_by.nd rfl (Or.inl rfl) (pe_op op_mod (pe_call (c_l_cell_at.up (by decide)) hr rfl c_l_cell_at.m c_l_cell_at.k c_l_cell_at.b .nil pass0R (pa_cons (pv 0) (pa_cons (pe_op op_add pe_int (pv 4)) pa_nil))) (pv 2)))
      (pss_one (ps_expr (pe_bmK (K := K) rfl PySem.F.plainAttrs_list PySem.F.slot_list_append PySem.F.type_list_append mt_append (pv 3) (pa_cons (pe_tup (pa_cons (pv 5) (pa_cons (pe_op op_mod (pe_call (c_l_cell_at.up (by decide)) hr rfl c_l_cell_at.m c_l_cell_at.k c_l_cell_at.b .nil pass0R (pa_cons (pv 0) (pa_cons (pe_op op_add pe_int (pv 4)) pa_nil))) (pv 2)) (pa_cons (pe_op op_add pe_int (pe_op op_mod (pe_call (c_l_cell_at.up (by decide)) hr rfl c_l_cell_at.m c_l_cell_at.k c_l_cell_at.b .nil pass0R (pa_cons (pv 0) (pa_cons (pe_op op_add pe_int (pv 4)) pa_nil))) pe_int)) pa_nil)))) pa_nil))))))
    (pss_one (ps_ret (pe_tup (pa_cons (pv 2) (pa_cons (pv 3) pa_nil)))))))), ?_⟩
  refine ⟨_, rfl, a, ns, _, rfl, hS, by decide, fun z => ⟨_, rfl, _, _, rfl, rfl, by (first | lia | omega), _, _, rfl, rfl, Nat.zero_le _, fun l hl => ?_⟩⟩
  have e1 := Int.emod_nonneg z (show most ≠ 0 by (first | lia | omega))
  have e2 := Int.emod_lt_of_pos z (show 0 < most by (first | lia | omega))
  obtain ⟨r, hrr⟩ : ∃ r : Nat, 1 + z % most = (r : Int) := ⟨(1 + z % most).toNat, by (first | lia | omega)⟩
  have s1 : Same H (upd H l (.lst [])) := same_new hl _
  refine ⟨_, rfl, a, ns, _, rfl, s1.seq hS, by decide, fun z2 => ⟨_, _, rfl, rfl, (by show (0 : Int) < 13; decide), _, rfl, by (first | lia | omega), by (first | lia | omega),
    for_range (n := (z2 % 13).toNat) (fun i σ H2 => ∃ (v4 v5 : Option V) (xs : List V) (ds : List Dr), σ = [some (.ref a), some (.int most), some (.int r), some (.ref l), v4, v5] ∧ H2 l = some (.lst xs) ∧ Same H H2 ∧ DsAt H2 xs ds ∧ ds.length = i ∧ ∀ d ∈ ds, GdDoor r d ∧ d.2.2 ≤ 20)
      ⟨none, none, [], [], by rw [← hrr]; rfl, upd_same, s1, .nil, rfl, fun _ z => nomatch z⟩ ?_ ?_⟩⟩
  · rintro i σ H2 hi ⟨v4, v5, xs, ds, rfl, hxl, s2, hd, hlen, hg⟩
    have hS2 := s2.seq hS
    refine ⟨_, rfl, _, rfl, _, _, rfl, rfl, a, ns, _, rfl, hS2, by (first | lia | omega), fun z3 => ⟨_, rfl, _, _, rfl, rfl, by show (0 : Int) < r; (first | lia | omega), ?_⟩⟩
    refine ⟨_, rfl, .inl ⟨rfl, _, SqL.of hxl⟩, _, rfl, _, rfl, _, rfl, _, _, rfl, rfl, a, ns, _, rfl, hS2, by (first | lia | omega), fun z4 => ⟨_, rfl, _, _, rfl, rfl, by show (0 : Int) < r; (first | lia | omega), ?_⟩⟩
    refine ⟨_, rfl, _, rfl, _, _, rfl, rfl, a, ns, _, rfl, hS2, by (first | lia | omega), fun z5 => ⟨_, _, rfl, rfl, (by show (0 : Int) < 20; decide), _, _, rfl, rfl, (by show 3 ≤ sizeLine; decide), fun t ht => ?_⟩⟩
    have nlt : l ≠ t := ne_of_none hxl ht
    have hxlen := hd.len
    have s3 : Same H2 (upd H2 t (.tup [.int (z3 % r), .int (z4 % r), .int (1 + z5 % 20)])) := same_new ht _
    refine ⟨l, xs, _, rfl, rfl, s3 _ _ hxl, small1000 (by (first | lia | omega)), some (.int (0 + i)), some (.int (z3 % r)), xs ++ [.ref t], ds ++ [(z3 % r, z4 % r, 1 + z5 % 20)], rfl, upd_same, ?_, ?_, by rw [List.length_append, hlen]; rfl, ?_⟩
    · intro b o e
      rw [upd_ne (ne_of_none e hl)]
      exact s3 _ _ (s2 _ _ e)
    · have t3 : Tups H2 (upd (upd H2 t (.tup [.int (z3 % r), .int (z4 % r), .int (1 + z5 % 20)])) l (.lst (xs ++ [.ref t]))) := (tups_same s3).trans (tups_lst (s3 _ _ hxl) _)
      refine (hd.mono t3).app (.cons ⟨t, rfl, ?_⟩ .nil)
      rw [upd_ne nlt.symm]
      exact upd_same
    · intro d hdm
      rcases List.mem_append.mp hdm with q1 | q1
      · exact hg d q1
      · have e : d = (z3 % r, z4 % r, 1 + z5 % 20) := by simpa using q1
        subst e
        have a1 := Int.emod_nonneg z3 (show (r : Int) ≠ 0 by (first | lia | omega))
        have a2 := Int.emod_lt_of_pos z3 (show 0 < (r : Int) by (first | lia | omega))
        have a3 := Int.emod_nonneg z4 (show (r : Int) ≠ 0 by (first | lia | omega))
        have a4 := Int.emod_lt_of_pos z4 (show 0 < (r : Int) by (first | lia | omega))
        have h15 : (10 : Int) ^ 15 = 1000000000000000 := by decide
        refine ⟨⟨⟨a1, a2⟩, ⟨a3, a4⟩, ?_, ?_⟩, ?_⟩
        · show 1 ≤ 1 + z5 % 20; (first | lia | omega)
        · show 1 + z5 % 20 ≤ 10 ^ 15; (first | lia | omega)
        · show 1 + z5 % 20 ≤ 20; (first | lia | omega)
  · rintro σ H2 ⟨v4, v5, xs, ds, rfl, hxl, s2, hd, hlen, hg⟩
    refine ⟨_, rfl, _, rfl, (by show 2 ≤ sizeLine; decide), fun p hp => ?_⟩
    have s3 : Same H2 (upd H2 p (.tup [.int r, .ref l])) := same_new hp _
    exact q r p l xs ds _ (s2.trans s3) (s2.free hp) hl upd_same (s3 _ _ hxl) (hd.mono (tups_same s3)) (by (first | lia | omega)) (by (first | lia | omega)) (by (first | lia | omega)) hg
noncomputable abbrev n_l_outs : List Str := ["rooms", "doors", "room", "found", "door"]
theorem sc_l_outs : FnScope ["rooms", "doors", "room", "found", "door"] ["rooms", "doors", "room"] (defScope sLawOuts) := ⟨rfl, rfl, rfl, by decide +kernel, rfl, by decide +kernel, by decide +kernel⟩
theorem ok_l_outs {f : Addr} {fd : FuncData} (B : TB mg) (F : Fun K "_law_outs" "_law_outs" sLawOuts f fd) : FnOk P w K mg base (CXR P w) 1 f fd ["rooms", "doors", "room"] spOuts := by
  refine F.okN sc_l_outs (fun vs H Q E h => ?_) (fun cdv A outer s H vs Q E hr h => ?_)
  · obtain ⟨r, l, xs, ds, z, rfl, _⟩ := h
    rfl
  obtain ⟨r, l, xs, ds, z, rfl, hl, hd, hr7, hg, q⟩ := h
  have hlen := hd.len
  refine ⟨_, (pss_cons (ps_compL2 (j := 3) (N' := ["other"]) (ix := [none]) sc_l_outs.nd rfl (Or.inl rfl) (.inr rfl) rfl (CompP2.sc (XN := n_l_outs) (en := (defScope sLawOuts).names) ⟨rfl, by decide +kernel, by decide +kernel, by decide +kernel, by decide +kernel, by decide +kernel⟩ rfl rfl) (pi_range1 rfl B.range (pa_cons (pv 0) pa_nil)) (fun _ _ _ _ => (pg_name (i := 0) (show (["other"] : List Str).Nodup by decide +kernel) rfl (Or.inl rfl) (.inr rfl))) (fun _ _ _ _ => pif_nil) (fun _ _ _ _ => pe_int))
    (pss_cons (ps_for PassesOwn.never rfl (pi_listK (K := K) rfl (pv 1)) (pg_name (i := 4) sc_l_outs.nd rfl (Or.inl rfl))
      (pss_one (ps_if (pt_cmpR op_eq (pe_ix (ix_tupK (K := K) rfl) (pv 4) pe_int (fun _ _ => rfl)) (pv 2) (nomark _))
        (pss_one (ps_asg (pe_op op_add (pe_ix (ix_listK (K := K) rfl) (pv 3) (pe_ix (ix_tupK (K := K) rfl) (pv 4) pe_int (fun _ _ => rfl)) (fun _ _ => rfl)) (pe_ix (ix_tupK (K := K) rfl) (pv 4) pe_int (fun _ _ => rfl))) (pg_sub (pv 3) (pe_ix (ix_tupK (K := K) rfl) (pv 4) pe_int (fun _ _ => rfl)) set_list)))
        pss_nil)))
    (pss_one (ps_ret (pv 3))))), ?_⟩
  refine ⟨_, rfl, r, rfl, by (first | lia | omega), by omega, comp_range (n := r) (fun i ys σ H2 => H = H2 ∧ ys = intsV (List.replicate i 0) ∧ ∃ v, σ = [v]) ⟨rfl, rfl, none, rfl⟩ ?_ ?_⟩
  · rintro i ys σ H2 hi ⟨rfl, rfl, v, rfl⟩
    refine ⟨by rw [List.length_map, List.length_replicate]; exact small1000 (by (first | lia | omega)), nameYes ⟨rfl, ?_, _, rfl⟩⟩
    rw [List.replicate_succ', intsV, intsV, List.map_append]
    rfl
  rintro ys σ H2 ⟨rfl, rfl, _⟩ p1 n1
  have s1 : Same H (upd H p1 (.lst (intsV (List.replicate r 0)))) := same_new n1 _
  have nl1 : l ≠ p1 := ne_of_none hl n1
  let J1 : Nat → St → Hp → Prop := fun i σ H2 => (∃ v, σ = [some (.int r), some (.ref l), some (.int z), some (.ref p1), v]) ∧ Same H H2 ∧ H2 p1 = some (.lst (intsV (outs r (ds.take i) z)))
  refine ⟨_, rfl, l, rfl, ⟨_, SqL.of (s1 _ _ hl)⟩, for_list (K := K) (a := l) (xs := xs) J1
    ⟨⟨_, rfl⟩, s1, upd_same⟩ (fun i σ H2 _ ⟨_, s2, _⟩ => SqL.of (s2 _ _ hl)) ?_ ?_⟩
  · rintro i x σ H2 hx ⟨⟨v, rfl⟩, s2, h2⟩
    obtain ⟨d, hdi, t, rfl, ht⟩ := hd.get hx
    have ht2 := s2 _ _ ht
    have e0 : outs r (ds.take (i + 1)) z = outStep z (outs r (ds.take i) z) d := by
      rw [List.take_add_one, hdi]; exact outs_snoc
    have hb := hg d (List.mem_of_getElem? hdi)
    have hol : ((outs r (ds.take i) z).length : Int) = r := by rw [outs_len]
    refine ⟨_, rfl, t, _, _, _, rfl, rfl, SqT.of ht2, rfl, _, rfl, rfl, _, rfl, ite2 (fun c => ?_) (fun c => ?_)⟩
    · have c1 : d.1 = z := eqT c
      refine ⟨_, rfl, _, rfl, t, _, _, _, rfl, rfl, SqT.of ht2, rfl, p1, _, _, _, rfl, rfl, SqL.of h2, atI_ints hb.1 (by rw [hol]; exact hb.2), _, rfl, t, _, _, _, rfl, rfl, SqT.of ht2, rfl, _, _, rfl, rfl, ?_⟩
      refine ⟨_, rfl, _, rfl, t, _, _, _, rfl, rfl, SqT.of ht2, rfl, p1, _, _, _, rfl, rfl, h2, ixN_in hb.1 (by rw [List.length_map, hol]; exact hb.2), ?_⟩
      refine ⟨⟨_, rfl⟩, fun b o e => ?_, ?_⟩
      · rw [upd_ne (ne_of_none e n1)]; exact s2 _ _ e
      · rw [upd_same, e0, set_ints]
        unfold outStep
        rw [if_pos c1]
    · have c1 : d.1 ≠ z := eqF c
      refine ⟨⟨_, rfl⟩, s2, ?_⟩
      rw [h2, e0]
      unfold outStep
      rw [if_neg c1]
  · rintro σ H2 ⟨⟨v, rfl⟩, s2, h2⟩
    rw [hlen, List.take_length] at h2
    exact ⟨_, rfl, q p1 H2 s2 n1 h2⟩
noncomputable abbrev n_l_ends : List Str := ["rooms", "doors"]
theorem sc_l_ends : FnScope ["rooms", "doors"] ["rooms", "doors"] (defScope sLawEnds) := ⟨rfl, rfl, rfl, by decide +kernel, rfl, by decide +kernel, by decide +kernel⟩
theorem ok_l_ends {f g : Addr} {fd gd : FuncData} (B : TB mg) (F : Fun K "_law_ends" "_law_ends" sLawEnds f fd) (c_l_outs : Cal P w K mg base "_law_outs" 1 g gd ["rooms", "doors", "room"] spOuts) :
    FnOk P w K mg base (CXR P w) 2 f fd ["rooms", "doors"] spLEnds := by
  refine F.okN sc_l_ends (fun vs H Q E h => ?_) (fun cdv A outer s H vs Q E hr h => ?_)
  · obtain ⟨r, l, xs, ds, rfl, _⟩ := h
    rfl
  obtain ⟨r, l, xs, ds, rfl, hl, hd, hr7, hg, q⟩ := h
  refine ⟨_, (pss_one (ps_ret (pe_comp2 (N' := ["room", "rooms", "doors"]) (ix := [none, some 0, some 1]) rfl (CompP2.sc (XN := n_l_ends) (en := (defScope sLawEnds).names) ⟨rfl, by decide +kernel, by decide +kernel, by decide +kernel, by decide +kernel, by decide +kernel⟩ rfl rfl) (pi_range1 rfl B.range (pa_cons (pv 0) pa_nil)) (fun _ _ _ _ => (pg_name (i := 0) (show (["room", "rooms", "doors"] : List Str).Nodup by decide +kernel) rfl (Or.inl rfl) (.inr rfl))) (fun _ _ _ _ => (pif_one (pt_cmpR op_eq (pe_callB (call_sum (K := K) rfl rfl) rfl B.sum bt_sum (pa_cons (pe_call (c_l_outs.up (by decide)) hr rfl c_l_outs.m c_l_outs.k c_l_outs.b .nil pass0R (pa_cons (pv 1) (pa_cons (pv 2) (pa_cons (pv 0) pa_nil)))) pa_nil)) pe_int (nomark _)))) (fun _ _ _ _ => (pv 0))))), ?_⟩
  refine ⟨_, rfl, r, rfl, by (first | lia | omega), by omega, comp_range (n := r) (fun i ys σ H2 => Same H H2 ∧ ys = intsV (endsOf i ds) ∧ ∃ v, σ = [v, some (.int r), some (.ref l)]) ⟨Same.refl _, rfl, none, rfl⟩ ?_ ?_⟩
  · rintro i ys σ H2 hi ⟨s1, rfl, v, rfl⟩
    refine ⟨by rw [List.length_map]; exact small1000 (Nat.le_trans endsOf_len (by (first | lia | omega))), ?_⟩
    refine ⟨_, rfl, _, rfl, _, rfl, r, l, xs, ds, _, rfl, s1 _ _ hl, hd.mono (tups_same s1), hr7, fun d h => (hg d h).1, fun p H3 s3 n3 h3 => ⟨p, _, rfl, SqL.of h3, rfl, _, rfl, ?_⟩⟩
    have es : (outs r ds (0 + (i : Int))).sum = 0 ↔ ∀ d ∈ ds, d.1 ≠ (i : Int) := by
      rw [Int.zero_add, outs_sum fun d h => (hg d h).1]
      exact wsum_zero fun d h => (hg d h).2
    refine ite2 (fun c => ?_) (fun c => ?_)
    · refine ⟨_, rfl, s1.trans s3, ?_, _, rfl⟩
      rw [endsOf_in (es.mp (eqT c)), intsV, intsV, List.map_append, Int.zero_add]
      rfl
    · refine ⟨s1.trans s3, ?_, _, rfl⟩
      rw [endsOf_out fun z => eqF c (es.mpr z)]
  rintro ys σ H2 ⟨s1, rfl, _⟩ p2 n2
  exact q p2 _ (s1.trans (same_new n2 _)) (s1.free n2) upd_same
end
end Eh
namespace Eh
open PySem L2 Ek
section
variable {P : Program} {w : World} {K : PySem.W.Frag} {mg : Str → Option Value} {base : Heap}
end
end Eh
namespace Eh
open PySem L2 Ek
inductive spGcd (vs : (List V)) (H : Hp) (Q : VK) (xu3 : XK) : Prop
  | mk (a b : Int) : (vs = [.int a, .int b]) → (0 ≤ a) → (0 ≤ b) → (Q (.int (Int.gcd a b : Int)) H) → spGcd vs H Q xu3
inductive spFraction (cF : Addr) (vs : (List V)) (H : Hp) (Q : VK) (E : XK) : Prop
  | mk (a b : Int) : (vs = [.int a, .int b]) → (Bits b 8999) → ((b = 0 → E (.ref cF) none H)) → (b ≠ 0 → ∀ (p : Addr) (H1 : Hp), Same H H1 → Q (.ref p) H1) → spFraction cF vs H Q E
section
variable {P : Program} {w : World} {K : PySem.W.Frag} {mg : Str → Option Value} {base : Heap} {cNoFraction : Addr}
theorem sc_greatest_divisor : FnScope ["one", "other", "rest"] ["one", "other"] (defScope sGreatestDivisor) := ⟨rfl, rfl, rfl, by decide +kernel, rfl, by decide +kernel, by decide +kernel⟩
theorem ok_greatest_divisor {f : Addr} {fd : FuncData} (F : Fun K "greatest_divisor" "greatest_divisor" sGreatestDivisor f fd) : FnOk P w K mg base (CXR P w) 1 f fd ["one", "other"] spGcd := by
  refine F.okN sc_greatest_divisor (fun vs H Q E h => ?_) (fun cdv A outer s H vs Q E hr h => ?_)
  · obtain ⟨a, b, rfl, _⟩ := h
    rfl
  obtain ⟨a, b, rfl, ha, hb, q⟩ := h
  refine ⟨_, (pss_cons (ps_while PassesOwn.never (pt_cmpR op_ne (pv 1) pe_int (nomark _))
      (pss_cons (ps_set (i := 2) sc_greatest_divisor.nd rfl (Or.inl rfl) (pe_op op_mod (pv 0) (pv 1)))
      (pss_cons (ps_set (i := 0) sc_greatest_divisor.nd rfl (Or.inl rfl) (pv 1))
      (pss_one (ps_set (i := 1) sc_greatest_divisor.nd rfl (Or.inl rfl) (pv 2))))))
    (pss_one (ps_ret (pv 0)))), ?_⟩
  refine while_by (fun σ H2 => H2 = H ∧ ∃ (x y : Int) (r : Option V), σ = [some (.int x), some (.int y), r] ∧ 0 ≤ x ∧ 0 ≤ y ∧ Int.gcd x y = Int.gcd a b) (fun σ _ => match σ with | [_, some (.int y), _] => y.toNat | _ => 0)
    ⟨rfl, a, b, none, rfl, ha, hb, rfl⟩ ?_ ?_
  · rintro σ H2 ⟨rfl, x, y, r, rfl, hx, hy, hg⟩
    refine ⟨_, rfl, rfl, _, rfl, ?_⟩
    refine ite2 (fun c => ?_) (fun c => ?_)
    · have hy0 : y ≠ 0 := neT c
      have hyp : 0 < y := by (first | lia | omega)
      refine ⟨_, rfl, _, rfl, _, _, rfl, rfl, hyp, _, rfl, _, rfl, ⟨rfl, y, x % y, _, rfl, hy, Int.emod_nonneg _ hy0, by rw [gcd_step hyp]; exact hg⟩, ?_⟩
      have := Int.emod_lt_of_pos x hyp
      have h0 := Int.emod_nonneg x hy0
      show (x % y).toNat < y.toNat
      (first | lia | omega)
    · have hy0 : y = 0 := neF c
      subst hy0
      have e : x = (Int.gcd a b : Int) := by rw [← hg, Int.gcd_zero]; (first | lia | omega)
      exact ⟨_, rfl, by rw [e]; exact q⟩
  · rintro σ H2 Q1 Q2 hQ ⟨v, e, hs, k, ek, q1⟩
    exact ⟨v, e, hs, k, ek, hQ _ _ q1⟩
theorem sc_fraction : FnScope ["above", "below", "divisor"] ["above", "below"] (defScope sFraction) := ⟨rfl, rfl, rfl, by decide +kernel, rfl, by decide +kernel, by decide +kernel⟩
theorem ok_fraction {f g : Addr} {fd gd : FuncData} (B : TB mg) (x_NoFraction : TX K mg "NoFraction" cNoFraction) (F : Fun K "fraction" "fraction" sFraction f fd) (c_greatest_divisor : Cal P w K mg base "greatest_divisor" 1 g gd ["one", "other"] spGcd) :
    FnOk P w K mg base (CXR P w) 2 f fd ["above", "below"] (spFraction cNoFraction) := by
  refine F.okX sc_fraction (fun vs H Q E h => ?_) (fun cdv A outer s H vs Q E hr h => ?_)
  · obtain ⟨a, b, rfl, _⟩ := h
    rfl
  obtain ⟨a, b, rfl, hb, q0, q1⟩ := h
  refine ⟨_, (pss_cons (ps_if (pt_cmpR op_eq (pv 1) pe_int (nomark _))
      (pss_one (ps_raise fnb_of lets_of rfl x_NoFraction.m x_NoFraction.x))
      pss_nil)
    (pss_cons (ps_set (i := 2) sc_fraction.nd rfl (Or.inl rfl) (pe_call (c_greatest_divisor.up (by decide)) hr rfl c_greatest_divisor.m c_greatest_divisor.k c_greatest_divisor.b .nil pass0R (pa_cons (pe_callB call_abs rfl B.abs bt_abs (pa_cons (pv 0) pa_nil)) (pa_cons (pe_callB call_abs rfl B.abs bt_abs (pa_cons (pv 1) pa_nil)) pa_nil))))
    (pss_cons (ps_if (pt_cmpR op_lt (pv 1) pe_int (nomark _))
      (pss_one (ps_set (i := 2) sc_fraction.nd rfl (Or.inl rfl) (pe_un un_neg (pv 2))))
      pss_nil)
    (pss_one (ps_ret (pe_tup (pa_cons (pe_op op_fdivB (pv 0) (pv 2)) (pa_cons (pe_op op_fdivB (pv 1) (pv 2)) pa_nil)))))))), ?_⟩
  refine ⟨_, rfl, rfl, _, rfl, ?_⟩
  refine ite2 (fun c => q0 (eqT c)) (fun c => ?_)
  have hb0 : b ≠ 0 := eqF c
  have g0 : 0 < (Int.gcd a b : Int) := gcd_pos hb0
  have gb : Bits (Int.gcd a b : Int) 8999 := gcd_bits hb0 hb
  refine ⟨_, rfl, _, rfl, _, rfl, _, rfl, _, _, rfl, by split <;> (first | lia | omega), by split <;> (first | lia | omega), ?_⟩
  rw [gcd_abs]
  refine ⟨_, rfl, _, _, rfl, rfl, _, rfl, ?_⟩
  refine ite2 (fun c2 => ?_) (fun c2 => ?_)
  · have hlt : b < 0 := of_decide_eq_true c2
    refine ⟨_, rfl, _, rfl, ?_⟩
    refine ⟨_, rfl, _, rfl, _, _, rfl, rfl, ⟨by (first | lia | omega), bits_neg gb⟩, _, rfl, _, rfl, _, _, rfl, rfl, ⟨by (first | lia | omega), bits_neg gb⟩, (by show 2 ≤ sizeLine; decide), fun p hp => ?_⟩
    exact q1 hb0 p _ (same_new hp _)
  · have hlt : ¬ b < 0 := dF c2
    refine ⟨_, rfl, _, rfl, _, _, rfl, rfl, ⟨by (first | lia | omega), gb⟩, _, rfl, _, rfl, _, _, rfl, rfl, ⟨by (first | lia | omega), gb⟩, (by show 2 ≤ sizeLine; decide), fun p hp => ?_⟩
    exact q1 hb0 p _ (same_new hp _)
end
end Eh
namespace Eh
open PySem L2 Ek
theorem flat_rep : ∀ r : Nat, (List.replicate r [V.int 0]).flatten = intsV (List.replicate r 0)
  | 0 => rfl
  | r + 1 => by rw [List.replicate_succ, List.flatten_cons, flat_rep r, List.replicate_succ]; rfl
inductive spCheckRoom (C cN : Addr) (vs : (List V)) (H : Hp) (Q : VK) (E : XK) : Prop
  | mk (p : Addr) (r : Int) (l : Addr) (xs : List V) (z : Int) : (vs = [.ref p, .int z]) → (HouseAt C H p r l xs) → (((0 ≤ z ∧ z < r) → Q .non H)) → ((¬ (0 ≤ z ∧ z < r) → E (.ref cN) none H)) → spCheckRoom C cN vs H Q E
inductive spComes (C : Addr) (vs : (List V)) (H : Hp) (Q : VK) (xu3 : XK) : Prop
  | mk (p : Addr) (r : Nat) (l : Addr) (xs : List V) (ds : List Dr) : (vs = [.ref p]) → (HouseAt C H p r l xs) → (DsAt H xs ds) → (Gd r ds) → (∀ H', Same H H' → Q (.bl (comesB r ds)) H') → spComes C vs H Q xu3
section
variable {P : Program} {w : World} {K : PySem.W.Frag} {mg : Str → Option Value} {base : Heap} {C cNoRoom cNoFraction : Addr}
theorem sc_check_room : FnScope ["house", "room"] ["house", "room"] (defScope sCheckRoom) := ⟨rfl, rfl, rfl, by decide +kernel, rfl, by decide +kernel, by decide +kernel⟩
theorem ok_check_room {f : Addr} {fd : FuncData} (T : TC K mg C) (x_NoRoom : TX K mg "NoRoom" cNoRoom) (F : Fun K "check_room" "check_room" sCheckRoom f fd) : FnOk P w K mg base (CXR P w) 1 f fd ["house", "room"] (spCheckRoom C cNoRoom) := by
  refine F.okX sc_check_room (fun vs H Q E h => ?_) (fun cdv A outer s H vs Q E hr h => ?_)
  · obtain ⟨p, r, l, xs, z, rfl, _⟩ := h
    rfl
  obtain ⟨p, r, l, xs, z, rfl, ⟨⟨dx, hp⟩, hl⟩, q0, q1⟩ := h
  refine ⟨_, (pss_one (ps_if (pt_not (pt_chain op_le op_lt pe_int (pv 1) (pe_fldK (K := K) rfl (pv 0) rfl)))
      (pss_one (ps_raise fnb_of lets_of rfl x_NoRoom.m x_NoRoom.x))
      pss_nil)), ?_⟩
  refine ⟨_, rfl, _, _, rfl, rfl, _, rfl, ite2 (fun c => ?_) (fun c => ⟨_, rfl, iteT (q1 fun z => c (decide_eq_true z.1))⟩)⟩
  have c1 : 0 ≤ z := of_decide_eq_true c
  refine ⟨_, rfl, p, C, dx, _, _, rfl, hp, T.cl, T.nR, flds_rooms _ _, _, _, rfl, rfl, _, rfl, ite2 (fun c => q1 fun z => ndT c z.2) (fun c => q0 ⟨c1, ndF c⟩)⟩
noncomputable abbrev n_comes_to_end : List Str := ["house", "ends", "leads_out", "turn", "door"]
theorem sc_comes_to_end : FnScope ["house", "ends", "leads_out", "turn", "door"] ["house"] (defScope sComesToEnd) := ⟨rfl, rfl, rfl, by decide +kernel, rfl, by decide +kernel, by decide +kernel⟩
theorem ok_comes_to_end {f f1 : Addr} {fd d1 : FuncData} (B : TB mg) (T : TC K mg C) (F : Fun K "comes_to_end" "comes_to_end" sComesToEnd f fd) (m_ends : CalM P w K mg base C "ends" 1 f1 d1 ["self"] (spEnds C)) :
    FnOk P w K mg base (CXR P w) 2 f fd ["house"] (spComes C) := by
  refine F.okN sc_comes_to_end (fun vs H Q E h => ?_) (fun cdv A outer s H vs Q E hr h => ?_)
  · obtain ⟨p, r, l, xs, ds, rfl, _⟩ := h
    rfl
  obtain ⟨p, r, l, xs, ds, rfl, hh, hd, g, q⟩ := h
  have hlen := hd.len
  have hr7 := g.1
  obtain ⟨⟨dx, hp⟩, hl⟩ := id hh
  have nm : (flds (r : Int) l).lookup ("ends" : Str) = none := flds_no _ _ (by decide +kernel) (by decide +kernel)
  refine ⟨_, (pss_cons (ps_set (i := 1) sc_comes_to_end.nd rfl (Or.inr rfl) (pe_meth0 (pv 0) T.cl m_ends.me (m_ends.up (by decide)) hr m_ends.b .nil pass0R))
    (pss_cons (ps_compL2 (j := 2) (N' := ["room", "ends"]) (ix := [none, some 1]) sc_comes_to_end.nd rfl (Or.inl rfl) (.inr rfl) rfl (CompP2.sc (XN := n_comes_to_end) (en := (defScope sComesToEnd).names) ⟨rfl, by decide +kernel, by decide +kernel, by decide +kernel, by decide +kernel, by decide +kernel⟩ rfl rfl) (pi_range1 rfl B.range (pa_cons (pe_fldK (K := K) rfl (pv 0) rfl) pa_nil)) (fun _ _ _ _ => (pg_name (i := 0) (show (["room", "ends"] : List Str).Nodup by decide +kernel) rfl (Or.inl rfl) (.inr rfl))) (fun _ _ _ _ => pif_nil) (fun _ _ _ _ => (pe_cmpR (op_inK (K := K) rfl) (pv 0) (pv 1) rfl)))
    (pss_cons (ps_for PassesOwn.never rfl (pi_range1 rfl B.range (pa_cons (pe_fldK (K := K) rfl (pv 0) rfl) pa_nil)) (pg_name (i := 3) sc_comes_to_end.nd rfl (Or.inl rfl))
      (pss_one (ps_for PassesOwn.never rfl (pi_listK (K := K) rfl (pe_fldK (K := K) rfl (pv 0) rfl)) (pg_name (i := 4) sc_comes_to_end.nd rfl (Or.inl rfl))
        (pss_one (ps_if (pt_val (pe_ix (ix_listK (K := K) rfl) (pv 2) (pe_ix (ix_tupK (K := K) rfl) (pv 4) pe_int (fun _ _ => rfl)) (fun _ _ => rfl)))
          (pss_one (ps_asg pe_bl (pg_sub (pv 2) (pe_ix (ix_tupK (K := K) rfl) (pv 4) pe_int (fun _ _ => rfl)) set_list)))
          pss_nil)))))
    (pss_one (ps_ret (pe_callB (call_allK (K := K) rfl rfl) rfl B.all bt_all (pa_cons (pv 2) pa_nil))))))), ?_⟩
  refine ⟨_, rfl, p, dx, _, rfl, hp, nm, p, r, l, xs, ds, rfl, hh, hd, by (first | lia | omega), g.2.1, fun e H1 s1 ne he => ?_⟩
  refine ⟨_, rfl, p, C, dx, _, _, rfl, s1 _ _ hp, T.cl, T.nR, flds_rooms _ _, r, rfl, by (first | lia | omega), by omega, comp_range (n := r) (fun i ys σ H2 => H1 = H2 ∧ ys = blsV ((led0 r ds).take i) ∧ ∃ v, σ = [v, some (.ref e)])
    ⟨rfl, rfl, none, rfl⟩ ?_ ?_⟩
  · rintro i ys σ H2 hi ⟨rfl, rfl, v, rfl⟩
    refine ⟨by rw [List.length_map, List.length_take]; exact small1000 (by omega), nameYes ?_⟩
    refine ⟨_, rfl, _, rfl, e, _, rfl, .inl (SqL.of he), rfl, flat_ints _, rfl, ?_, _, rfl⟩
    rw [List.take_add_one]
    have e2 : (led0 r ds)[i]? = some (decide ((i : Int) ∈ endsOf r ds)) := by
      unfold led0
      rw [List.getElem?_map, List.getElem?_range hi]
      rfl
    rw [e2, inV_ints, Int.zero_add, blsV, blsV, List.map_append]
    rfl
  rintro ys σ H2 ⟨rfl, rfl, _⟩ p1 n1
  rw [List.take_of_length_le (by unfold led0; simp)]
  have s2 := s1.trans (same_new n1 (.lst (blsV (led0 r ds))))
  have np1 : H p1 = none := s1.free n1
  let J1 : Nat → St → Hp → Prop := fun i σ H2 => (∃ u v, σ = [some (.ref p), some (.ref e), some (.ref p1), u, v]) ∧ Same H H2 ∧ H2 p1 = some (.lst (blsV (led r ds i)))
  refine ⟨_, rfl, p, C, dx, _, _, rfl, s2 _ _ hp, T.cl, T.nR, flds_rooms _ _, r, rfl, by (first | lia | omega), by (first | lia | omega), for_range (n := r) J1
    ⟨⟨_, _, rfl⟩, s2, upd_same⟩ ?_ ?_⟩
  · rintro i σ H2 hi ⟨⟨u, v, rfl⟩, s3, h3⟩
    let J2 : Nat → St → Hp → Prop := fun j σ H4 => (∃ u v, σ = [some (.ref p), some (.ref e), some (.ref p1), u, v]) ∧ Same H H4 ∧ H4 p1 = some (.lst (blsV ((ds.take j).foldl ledStep (led r ds i))))
    refine ⟨_, rfl, p, C, dx, _, _, rfl, s3 _ _ hp, T.cl, T.nD, flds_doors _ _, l, rfl, ⟨_, SqL.of (s3 _ _ hl)⟩, for_list (K := K) (a := l) (xs := xs) J2
      ⟨⟨_, _, rfl⟩, s3, h3⟩ (fun j σ H4 _ ⟨_, s4, _⟩ => SqL.of (s4 _ _ hl)) ?_ ?_⟩
    · rintro j x σ H4 hx ⟨⟨u, v, rfl⟩, s4, h4⟩
      obtain ⟨d, hdi, t, rfl, ht⟩ := hd.get hx
      have ht4 := s4 _ _ ht
      obtain ⟨⟨b1, b2⟩, ⟨b3, b4⟩, _⟩ := g.2.2 d (List.mem_of_getElem? hdi)
      have hll := (LR.fold (ds.take j) (fun d hd => g.2.2 d (List.mem_of_mem_take hd)) (LR.all (r := r) g.2.2 i)).len
      have e1 : (ds.take (j + 1)).foldl ledStep (led r ds i) = ledStep ((ds.take j).foldl ledStep (led r ds i)) d := by
        rw [List.take_add_one, hdi, List.foldl_append]; rfl
      generalize hlo : (ds.take j).foldl ledStep (led r ds i) = lo at *
      refine ⟨_, rfl, _, rfl, t, _, _, _, rfl, rfl, SqT.of ht4, rfl, p1, _, _, _, rfl, rfl, SqL.of h4, atI_bls b3 (by rw [hll]; exact b4), _, rfl, ite2 (fun c => ?_) (fun c => ?_)⟩
      · refine ⟨_, rfl, _, rfl, t, _, _, _, rfl, rfl, SqT.of ht4, rfl, p1, _, _, _, rfl, rfl, h4, ixN_in b1 (by rw [List.length_map, hll]; exact b2), ⟨_, _, rfl⟩, fun b o eb => ?_, ?_⟩
        · rw [upd_ne (ne_of_none eb np1)]; exact s4 _ _ eb
        · rw [upd_same, e1, set_bls]
          unfold ledStep
          rw [if_pos c]
      · refine ⟨⟨_, _, rfl⟩, s4, ?_⟩
        rw [h4, e1]
        unfold ledStep
        rw [if_neg c]
    · rintro σ H4 ⟨⟨u, v, rfl⟩, s4, h4⟩
      rw [hlen, List.take_length] at h4
      exact ⟨⟨_, _, rfl⟩, s4, h4⟩
  · rintro σ H2 ⟨⟨u, v, rfl⟩, s3, h3⟩
    exact ⟨_, rfl, p1, _, rfl, SqL.of h3, q H2 s3⟩
end
end Eh
namespace Eh
open PySem L2 Ek
inductive spLComes (vs : (List V)) (H : Hp) (Q : VK) (xu3 : XK) : Prop
  | mk (r : Nat) (l : Addr) (xs : List V) (ds : List Dr) : (vs = [.int r, .ref l]) → (H l = some (.lst xs)) → (DsAt H xs ds) → (Gd r ds) → (∀ H', Same H H' → Q (.bl (comesB r ds)) H') → spLComes vs H Q xu3
theorem LR.le {r : Nat} {lo : List Bool} {re : List Int} (h : LR r lo re) : re.length ≤ r := by
  have h1 : re.length ≤ ((List.range r).map fun k : Nat => (k : Int)).length := len_of_sub h.nd fun x hx => by
    have := h.rng x hx
    exact List.mem_map.mpr ⟨x.toNat, List.mem_range.mpr (by (first | lia | omega)), by (first | lia | omega)⟩
  simpa using h1
section
variable {P : Program} {w : World} {K : PySem.W.Frag} {mg : Str → Option Value} {base : Heap} {C cNoHouse : Addr}
theorem sc_l_comes : FnScope ["rooms", "doors", "reached", "lap", "door"] ["rooms", "doors"] (defScope sLawComes) := ⟨rfl, rfl, rfl, by decide +kernel, rfl, by decide +kernel, by decide +kernel⟩
theorem ok_l_comes {f f1 : Addr} {fd d1 : FuncData} (B : TB mg) (F : Fun K "_law_comes" "_law_comes" sLawComes f fd) (c_l_ends : Cal P w K mg base "_law_ends" 2 f1 d1 ["rooms", "doors"] spLEnds) :
    FnOk P w K mg base (CXR P w) 3 f fd ["rooms", "doors"] spLComes := by
  refine F.okN sc_l_comes (fun vs H Q E h => ?_) (fun cdv A outer s H vs Q E hr h => ?_)
  · obtain ⟨r, l, xs, ds, rfl, _⟩ := h
    rfl
  obtain ⟨r, l, xs, ds, rfl, hl, hd, g, q⟩ := h
  have hr7 := g.1
  have hlen := hd.len
  refine ⟨_, (pss_cons (ps_set (i := 2) sc_l_comes.nd rfl (Or.inl rfl) (pe_call (c_l_ends.up (by decide)) hr rfl c_l_ends.m c_l_ends.k c_l_ends.b .nil pass0R (pa_cons (pv 0) (pa_cons (pv 1) pa_nil))))
    (pss_cons (ps_for PassesOwn.never rfl (pi_range1 rfl B.range (pa_cons (pv 0) pa_nil)) (pg_name (i := 3) sc_l_comes.nd rfl (Or.inl rfl))
      (pss_one (ps_for PassesOwn.never rfl (pi_listK (K := K) rfl (pv 1)) (pg_name (i := 4) sc_l_comes.nd rfl (Or.inl rfl))
        (pss_one (ps_if (PW.pt (pw_and (pt_cmpR (op_inK (K := K) rfl) (pe_ix (ix_tupK (K := K) rfl) (pv 4) pe_int (fun _ _ => rfl)) (pv 2) rfl) (pw_and1 (pt_cmpR (op_notInK (K := K) rfl) (pe_ix (ix_tupK (K := K) rfl) (pv 4) pe_int (fun _ _ => rfl)) (pv 2) rfl))))
          (pss_one (ps_set (i := 2) sc_l_comes.nd rfl (Or.inl rfl) (pe_op op_cat (pv 2) (pe_lst (pa_cons (pe_ix (ix_tupK (K := K) rfl) (pv 4) pe_int (fun _ _ => rfl)) pa_nil)))))
          pss_nil)))))
    (pss_one (ps_ret (pe_cmpR op_eq (pe_callB (call_lenK (K := K) rfl) rfl B.len bt_len (pa_cons (pv 2) pa_nil)) (pv 0) (nomark _)))))), ?_⟩
  refine ⟨_, rfl, _, rfl, r, l, xs, ds, rfl, hl, hd, by (first | lia | omega), fun d h => ⟨(g.2.2 d h).2.1, (g.2.2 d h).2.2.1⟩, fun p1 H1 s1 np1 h1 => ?_⟩
  let J1 : Nat → St → Hp → Prop := fun i σ H2 => ∃ (q : Addr) (u v : Option V), σ = [some (.int r), some (.ref l), some (.ref q), u, v] ∧ Same H H2 ∧ H2 q = some (.lst (intsV (rch r ds i)))
  refine ⟨_, rfl, r, rfl, by (first | lia | omega), by (first | lia | omega), for_range (n := r) J1
    ⟨p1, _, _, rfl, s1, h1⟩ ?_ ?_⟩
  · rintro i σ H2 hi ⟨q2, u, v, rfl, s3, h3⟩
    let J2 : Nat → St → Hp → Prop := fun j σ H4 => ∃ (q : Addr) (u v : Option V), σ = [some (.int r), some (.ref l), some (.ref q), u, v] ∧ Same H H4 ∧ H4 q = some (.lst (intsV ((ds.take j).foldl rchStep (rch r ds i))))
    refine ⟨_, rfl, l, rfl, ⟨_, SqL.of (s3 _ _ hl)⟩, for_list (K := K) (a := l) (xs := xs) J2
      ⟨q2, _, _, rfl, s3, h3⟩ (fun j σ H4 _ ⟨_, _, _, _, s4, _⟩ => SqL.of (s4 _ _ hl)) ?_ ?_⟩
    · rintro j x σ H4 hx ⟨q4, u, v, rfl, s4, h4⟩
      obtain ⟨d, hdi, t, rfl, ht⟩ := hd.get hx
      have ht4 := s4 _ _ ht
      have hle := (LR.fold (ds.take j) (fun d hd => g.2.2 d (List.mem_of_mem_take hd)) (LR.all (r := r) g.2.2 i)).le
      have e1 : (ds.take (j + 1)).foldl rchStep (rch r ds i) = rchStep ((ds.take j).foldl rchStep (rch r ds i)) d := by
        rw [List.take_add_one, hdi, List.foldl_append]; rfl
      generalize hlo : (ds.take j).foldl rchStep (rch r ds i) = re at *
      refine ⟨_, rfl, t, _, _, _, rfl, rfl, SqT.of ht4, rfl, _, rfl, q4, _, rfl, .inl (SqL.of h4), rfl, flat_ints _, _, rfl, ?_⟩
      rw [inV_ints]
      by_cases c : d.2.1 ∈ re
      · refine ifT c ?_
        refine ⟨_, rfl, t, _, _, _, rfl, rfl, SqT.of ht4, rfl, _, rfl, q4, _, rfl, .inl (SqL.of h4), rfl, flat_ints _, _, rfl, ?_⟩
        rw [if_pos rfl, inV_ints]
        by_cases c2 : d.1 ∈ re
        · refine ifNF c2 ⟨q4, _, _, rfl, s4, ?_⟩
          rw [h4, e1]
          unfold rchStep
          rw [if_neg fun z => z.2 c2]
        · refine ifNT c2 ?_
          refine ⟨_, rfl, _, rfl, t, _, _, _, rfl, rfl, SqT.of ht4, rfl, (by show 1 ≤ sizeLine; decide), fun p5 n5 => ⟨q4, p5, _, _, rfl, rfl, same_new n5 _ _ _ h4, upd_same, Nat.le_of_lt (small1000 (by rw [List.length_map]; show re.length + 1 ≤ 1000; (first | lia | omega))), fun p6 n6 => ?_⟩⟩
          refine ⟨p6, _, _, rfl, (s4.trans (same_new n5 _)).trans (same_new n6 _), ?_⟩
          rw [upd_same, e1]
          unfold rchStep
          rw [if_pos ⟨c, c2⟩, intsV, intsV, List.map_append]
          rfl
      · refine ifF c ⟨q4, _, _, rfl, s4, ?_⟩
        rw [h4, e1]
        unfold rchStep
        rw [if_neg fun z => c z.1]
    · rintro σ H4 ⟨q4, u, v, rfl, s4, h4⟩
      rw [hlen, List.take_length] at h4
      exact ⟨q4, _, _, rfl, s4, h4⟩
  · rintro σ H2 ⟨q2, u, v, rfl, s3, h3⟩
    refine ⟨_, rfl, q2, _, rfl, .inl (SqL.of h3), _, rfl, rfl, ?_⟩
    have e : decide (V.int (((intsV (rch r ds r)).length : Nat) : Int) = V.int (r : Int)) = comesB r ds := by
      rw [comes_same g.2.2, List.length_map, Bool.eq_iff_iff, decide_eq_true_iff, decide_eq_true_iff]
      constructor
      · intro z; have := V.int.inj z; (first | lia | omega)
      · intro z; rw [z]
    rw [e]
    exact q H2 s3
end
end Eh
namespace Eh
open PySem L2 Ek
theorem endsOf_in_iff {r : Nat} {ds : List Dr} {z : Nat} (hz : z < r) : ((z : Int) ∈ endsOf r ds) ↔ IsE ds z := by
  rw [endsOf_mem]
  constructor
  · exact fun h => h.2
  · exact fun h => ⟨⟨by (first | lia | omega), by (first | lia | omega)⟩, h⟩
section
variable {P : Program} {w : World} {K : PySem.W.Frag} {mg : Str → Option Value} {base : Heap} {C cNoHouse : Addr}
end
end Eh
namespace Eh
open PySem L2 Ek
theorem yesT {σ : St} {H : Hp} {A B : Hp → Prop} (h : A H) : tYes σ H fun b H' => if b = true then A H' else B H' := by
  show (if true = true then A H else B H)
  rw [if_pos rfl]
  exact h
section
variable {P : Program} {w : World} {K : PySem.W.Frag} {mg : Str → Option Value} {base : Heap}
end
end Eh
namespace Eh
open PySem L2 Ek
inductive spEndShares (C cN cU : Addr) (vs : (List V)) (H : Hp) (Q : VK) (E : XK) : Prop
  | mk (p : Addr) (r : Nat) (l : Addr) (xs : List V) (ds : List Dr) (z : Int) : (vs = [.ref p, .int z]) → (HouseAt C H p r l xs) → (DsAt H xs ds) → (Gd r ds) → ((0 ≤ z ∧ z < (r : Int)) → comesB r ds = true → ∀ (q : Addr) (H1 : Hp), Same H H1 → Q (.ref q) H1) → ((¬ (0 ≤ z ∧ z < (r : Int)) → ∀ H', Same H H' → E (.ref cN) none H')) → (((0 ≤ z ∧ z < (r : Int)) → comesB r ds = false → ∀ H', Same H H' → E (.ref cU) none H')) → spEndShares C cN cU vs H Q E
inductive spLength (C cN cU : Addr) (vs : (List V)) (H : Hp) (Q : VK) (E : XK) : Prop
  | mk (p : Addr) (r : Nat) (l : Addr) (xs : List V) (ds : List Dr) (z : Int) : (vs = [.ref p, .int z]) → (HouseAt C H p r l xs) → (DsAt H xs ds) → (Gd r ds) → ((0 ≤ z ∧ z < (r : Int)) → comesB r ds = true → ∀ (q : Addr) (H1 : Hp), Same H H1 → Q (.ref q) H1) → ((¬ (0 ≤ z ∧ z < (r : Int)) → ∀ H', Same H H' → E (.ref cN) none H')) → (((0 ≤ z ∧ z < (r : Int)) → comesB r ds = false → ∀ H', Same H H' → E (.ref cU) none H')) → spLength C cN cU vs H Q E
inductive spVisits (C cN cU cI : Addr) (vs : (List V)) (H : Hp) (Q : VK) (E : XK) : Prop
  | mk (p : Addr) (r : Nat) (l : Addr) (xs : List V) (ds : List Dr) (z y : Int) : (vs = [.ref p, .int z, .int y]) → (HouseAt C H p r l xs) → (DsAt H xs ds) → (Gd r ds) → ((0 ≤ z ∧ z < (r : Int)) → (0 ≤ y ∧ y < (r : Int)) → comesB r ds = true → y ∉ endsOf r ds → ∀ (q : Addr) (H1 : Hp), Same H H1 → Q (.ref q) H1) → ((¬ ((0 ≤ z ∧ z < (r : Int)) ∧ (0 ≤ y ∧ y < (r : Int))) → ∀ H', Same H H' → E (.ref cN) none H')) → (((0 ≤ z ∧ z < (r : Int)) → (0 ≤ y ∧ y < (r : Int)) → comesB r ds = false → ∀ H', Same H H' → E (.ref cU) none H')) → ((0 ≤ z ∧ z < (r : Int)) → (0 ≤ y ∧ y < (r : Int)) → comesB r ds = true → y ∈ endsOf r ds → ∀ H', Same H H' → E (.ref cI) none H') → spVisits C cN cU cI vs H Q E
inductive spBehind (C cN : Addr) (vs : (List V)) (H : Hp) (Q : VK) (E : XK) : Prop
  | mk (p : Addr) (r : Nat) (l : Addr) (xs : List V) (ds : List Dr) (z : Int) (n : Nat) : (vs = [.ref p, .int z, .int n]) → (HouseAt C H p r l xs) → (DsAt H xs ds) → (Gd r ds) → (n ≤ 8) → ((0 ≤ z ∧ z < (r : Int)) → ∀ (q : Addr) (H1 : Hp), Same H H1 → Q (.ref q) H1) → ((¬ (0 ≤ z ∧ z < (r : Int)) → ∀ H', Same H H' → E (.ref cN) none H')) → spBehind C cN vs H Q E
inductive spLaw (K : PySem.W.Frag) (vs : (List V)) (H : Hp) (Q : VK) (xu3 : XK) : Prop
  | mk (a : Addr) (ns : List Int) : (vs = [.ref a]) → (SqL K H a (intsV ns)) → (ns.length ≤ 63) → (∀ H', Q (.bl true) H') → spLaw K vs H Q xu3
end Eh
namespace Eh
open PySem L2 Ek
noncomputable def RetM (H : Hp) (n : Nat) (rows : Nat → List Int) (Q : VK) : Prop := ∀ (t : Addr) (as : List Addr) (H' : Hp), Same H H' → H t = none → News H as → as.length = n → t ∉ as → H' t = some (.lst (refsV as)) → Tab H' as rows → Q (.ref t) H'
inductive spTable (C : Addr) (vs : (List V)) (H : Hp) (Q : VK) (xu3 : XK) : Prop
  | mk (p : Addr) (r : Nat) (l : Addr) (xs : List V) (ds : List Dr) : (vs = [.ref p]) → (HouseAt C H p r l xs) → (DsAt H xs ds) → (Gd r ds) → (RetM H r (fun z => outs r ds z) Q) → spTable C vs H Q xu3
theorem range_get {α : Type} {F : Nat → α} {n i : Nat} (h : i < n) : ((List.range n).map F)[i]? = some (F i) := by rw [List.getElem?_map, List.getElem?_range h]; rfl
theorem ints_get {F : Nat → Int} {n i : Nat} {x : V} (h : (intsV ((List.range n).map F))[i]? = some x) : i < n ∧ x = .int (F i) := by
  have hi : i < n := by have := (List.getElem?_eq_some_iff.mp h).1; simpa using this
  rw [intsV, List.getElem?_map, range_get hi] at h
  exact ⟨hi, (Option.some.inj h).symm⟩
theorem atI_row {F : Nat → Int} {n i : Nat} (h : i < n) : atI (intsV ((List.range n).map F)) (i : Int) = some (.int (F i)) := atI_at (by (first | lia | omega)) (by rw [Int.toNat_natCast, intsV, List.getElem?_map, range_get h]; rfl)
theorem take_range {α : Type} {F : Nat → α} {n i : Nat} (h : i < n) : ((List.range n).map F).take (i + 1) = ((List.range n).map F).take i ++ [F i] := by
  rw [List.take_add_one, range_get h]; rfl
section
variable {P : Program} {w : World} {K : PySem.W.Frag} {mg : Str → Option Value} {base : Heap} {C : Addr}
noncomputable abbrev n_weight_table : List Str := ["house", "table", "door"]
theorem sc_weight_table : FnScope ["house", "table", "door"] ["house"] (defScope sWeightTable) := ⟨rfl, rfl, rfl, by decide +kernel, rfl, by decide +kernel, by decide +kernel⟩
theorem ok_weight_table {f : Addr} {fd : FuncData} (B : TB mg) (T : TC K mg C) (F : Fun K "weight_table" "weight_table" sWeightTable f fd) : FnOk P w K mg base (CXR P w) 1 f fd ["house"] (spTable C) := by
  refine F.okN sc_weight_table (fun vs H Q E h => ?_) (fun cdv A outer s H vs Q E hr h => ?_)
  · obtain ⟨p, r, l, xs, ds, rfl, _⟩ := h
    rfl
  obtain ⟨p, r, l, xs, ds, rfl, hh, hd, g, q⟩ := h
  have hlen := hd.len
  have hr7 := g.1
  obtain ⟨⟨dx, hp⟩, hl⟩ := id hh
  refine ⟨_, (pss_cons (ps_compL2 (j := 1) (N' := ["room", "house"]) (ix := [none, some 0]) sc_weight_table.nd rfl (Or.inl rfl) (.inr rfl) rfl (CompP2.sc (XN := n_weight_table) (en := (defScope sWeightTable).names) ⟨rfl, by decide +kernel, by decide +kernel, by decide +kernel, by decide +kernel, by decide +kernel⟩ rfl rfl) (pi_range1 rfl B.range (pa_cons (pe_fldK (K := K) rfl (pv 0) rfl) pa_nil)) (fun _ _ _ _ => (pg_name (i := 0) (show (["room", "house"] : List Str).Nodup by decide +kernel) rfl (Or.inl rfl) (.inr rfl))) (fun _ _ _ _ => pif_nil) (fun _ _ _ _ => (pe_op op_rep (pe_lst (pa_cons pe_int pa_nil)) (pe_fldK (K := K) rfl (pv 1) rfl))))
    (pss_cons (ps_for PassesOwn.never rfl (pi_listK (K := K) rfl (pe_fldK (K := K) rfl (pv 0) rfl)) (pg_name (i := 2) sc_weight_table.nd rfl (Or.inl rfl))
      (pss_one (ps_augS (pe_ix (ix_listK (K := K) rfl) (pv 1) (pe_ix (ix_tupK (K := K) rfl) (pv 2) pe_int (fun _ _ => rfl)) (fun _ _ => rfl)) (pe_ix (ix_tupK (K := K) rfl) (pv 2) pe_int (fun _ _ => rfl)) (get_listK (K := K) rfl) (pe_ix (ix_tupK (K := K) rfl) (pv 2) pe_int (fun _ _ => rfl)) ip_add set_list)))
    (pss_one (ps_ret (pv 1))))), ?_⟩
  let J1 : Nat → List V → St → Hp → Prop := fun i ys σ H2 => ∃ as : List Addr, ys = refsV as ∧ as.length = i ∧ Same H H2 ∧ News H as ∧ Tab H2 as (fun z => outs r (ds.take 0) z) ∧ ∃ v, σ = [v, some (.ref p)]
  refine ⟨_, rfl, p, C, dx, _, _, rfl, hp, T.cl, T.nR, flds_rooms _ _, r, rfl, by (first | lia | omega), by (first | lia | omega), comp_range (n := r) J1
    ⟨[], rfl, rfl, Same.refl _, News.nil, Tab.nil, none, rfl⟩ ?_ ?_⟩
  · rintro i ys σ H2 hi ⟨as, rfl, hla, s2, hn, ht, v, rfl⟩
    refine ⟨by rw [List.length_map]; exact small1000 (by (first | lia | omega)), nameYes ⟨(by show 1 ≤ sizeLine; decide), fun l1 n1 => ?_⟩⟩
    have s3 : Same H2 (upd H2 l1 (.lst [.int 0])) := same_new n1 _
    refine ⟨_, rfl, p, C, dx, _, _, rfl, s3 _ _ (s2 _ _ hp), T.cl, T.nR, flds_rooms _ _, l1, _, _, rfl, rfl, upd_same, by (first | lia | omega), by omega, Nat.le_of_lt (small1000 (by show 1 * ((r : Nat) : Int).toNat ≤ 1000; (first | lia | omega))), fun p1 m1 => ?_⟩
    have e0 : (List.replicate ((r : Nat) : Int).toNat [V.int 0]).flatten = intsV (outs r (ds.take 0) as.length) := by
      rw [show ((r : Nat) : Int).toNat = r by (first | lia | omega)]
      exact flat_rep r
    rw [e0]
    have s4 := same_new m1 (.lst (intsV (outs r (ds.take 0) as.length)))
    have s5 := s2.trans (s3.trans s4)
    refine ⟨as ++ [p1], by rw [refsV, refsV, List.map_append]; rfl, by rw [List.length_append, hla]; rfl, s5, hn.snoc (ht.same s3) ((s2.trans s3).free m1) m1, ((ht.same s3).same s4).snoc upd_same, _, rfl⟩
  rintro ys σ H2 ⟨as, rfl, hla, s2, hn, ht, _⟩ t nt
  have s3 := same_new nt (.lst (refsV as))
  have nta : t ∉ as := fun z => by
    obtain ⟨i, hi⟩ := List.mem_iff_getElem?.mp z
    have := ht i _ hi
    rw [nt] at this
    cases this
  have nHt : H t = none := s2.free nt
  let J2 : Nat → St → Hp → Prop := fun i σ H3 => (∃ v, σ = [some (.ref p), some (.ref t), v]) ∧ Same H H3 ∧ H3 t = some (.lst (refsV as)) ∧ Tab H3 as (fun z => outs r (ds.take i) z)
  refine ⟨_, rfl, p, C, dx, _, _, rfl, (s2.trans s3) _ _ hp, T.cl, T.nD, flds_doors _ _, l, rfl, ⟨_, SqL.of ((s2.trans s3) _ _ hl)⟩, for_list (K := K) (a := l) (xs := xs) J2
    ⟨⟨_, rfl⟩, s2.trans s3, upd_same, ht.same s3⟩ (fun i σ H3 _ ⟨_, s2, _⟩ => SqL.of (s2 _ _ hl)) ?_ ?_⟩
  · rintro i x σ H3 hx ⟨⟨v, rfl⟩, s3, h3, ht3⟩
    obtain ⟨d, hdi, u, rfl, hu⟩ := hd.get hx
    have hu3 := s3 _ _ hu
    have e1 : ∀ z : Int, outs r (ds.take (i + 1)) z = outStep z (outs r (ds.take i) z) d := fun z => by
      rw [List.take_add_one, hdi]; exact outs_snoc
    obtain ⟨⟨a1, a2⟩, ⟨b1, b2⟩, _⟩ := g.2.2 d (List.mem_of_getElem? hdi)
    obtain ⟨a, ha⟩ := get_some (as := as) (i := d.1.toNat) (by (first | lia | omega))
    have hra := ht3 _ _ ha
    have hol : ((outs r (ds.take i) (d.1.toNat : Nat)).length : Int) = r := by rw [outs_len]
    have nat : H a = none := hn.2 a (mem_get ha)
    refine ⟨_, rfl, _, rfl, u, _, _, _, rfl, rfl, SqT.of hu3, rfl, t, _, _, _, rfl, rfl, SqL.of h3, atI_refs a1 ha, _, rfl, u, _, _, _, rfl, rfl, SqT.of hu3, rfl, a, _, _, _, rfl, rfl, SqL.of hra, b1, atI_ints b1 (by rw [hol]; exact b2), _, rfl, u, _, _, _, rfl, rfl, SqT.of hu3, rfl, _, _, rfl, rfl, ?_⟩
    refine ⟨a, _, _, _, rfl, rfl, hra, ixN_in b1 (by rw [List.length_map, hol]; exact b2), ⟨_, rfl⟩, same_upd_new s3 nat, ?_, ?_⟩
    · rw [upd_ne (fun z => nta (by rw [z]; exact mem_get ha))]; exact h3
    · rw [set_ints]
      have e2 : (outs r (ds.take i) (d.1.toNat : Nat)).set d.2.1.toNat ((outs r (ds.take i) (d.1.toNat : Nat))[d.2.1.toNat]?.getD 0 + d.2.2) = (fun z : Nat => outs r (ds.take (i + 1)) z) d.1.toNat := by
        show _ = outs r (ds.take (i + 1)) (d.1.toNat : Nat)
        rw [e1]
        unfold outStep
        rw [if_pos (by (first | lia | omega))]
      show Tab (upd H3 a (.lst (intsV ((outs r (ds.take i) (d.1.toNat : Nat)).set d.2.1.toNat ((outs r (ds.take i) (d.1.toNat : Nat))[d.2.1.toNat]?.getD 0 + d.2.2))))) as _
      rw [e2]
      refine Tab.set (rows' := fun z : Nat => outs r (ds.take (i + 1)) z) ht3 hn.1 ha fun k hk ne => ?_
      show _ = outs r (ds.take (i + 1)) (k : Nat)
      rw [e1]
      unfold outStep
      rw [if_neg (by (first | lia | omega))]
  · rintro σ H3 ⟨⟨v, rfl⟩, s3, h3, ht3⟩
    rw [hlen, List.take_length] at ht3
    exact ⟨_, rfl, q t as H3 s3 nHt hn hla nta h3 ht3⟩
end
end Eh
namespace Eh
open PySem L2 Ek
inductive spCleared (vs : (List V)) (H : Hp) (Q : VK) (xu3 : XK) : Prop
  | mk (a1 a2 : Addr) (k : Nat) (u v : Nat → Int) (b : Int) : (vs = [.ref a1, .ref a2, .int b]) → (H a1 = some (.lst (intsV ((List.range (k + 1)).map u)))) → (H a2 = some (.lst (intsV ((List.range (k + 1)).map v)))) → (k ≤ 6) → ((∀ j < k + 1, Bits (u j) 4000 ∧ Bits (v j) 4000)) → (b ≠ 0) → (Bits b 8999) → (RetL H ((List.range k).map fun j => (u 0 * v (j + 1) - v 0 * u (j + 1)).fdiv b) Q) → spCleared vs H Q xu3
inductive spDetN (n : Nat) (vs : (List V)) (H : Hp) (Q : VK) (xu3 : XK) : Prop
  | mk (t : Addr) (as : List Addr) (k : Nat) (a : Nat → Nat → Int) (b : Int) : (vs = [.ref t, .int b]) → (k < n) → (k ≤ 7) → (H t = some (.lst (refsV as))) → (as.length = k) → (Tab H as (fun i => (List.range k).map (a i))) → ((∀ p < k, ∀ q < k, Bits (a p q) (eb k))) → (b ≠ 0) → (Bits b 8999) → (∀ H', Same H H' → Q (.int (bar k a b)) H') → spDetN n vs H Q xu3
inductive spEqs (C : Addr) (vs : (List V)) (H : Hp) (Q : VK) (xu3 : XK) : Prop
  | mk (p : Addr) (r : Nat) (l : Addr) (xs : List V) (ds : List Dr) : (vs = [.ref p]) → (HouseAt C H p r l xs) → (DsAt H xs ds) → (Gd r ds) → (RetM H r (fun z => (List.range r).map (eqm r ds z)) Q) → spEqs C vs H Q xu3
inductive spSolved (C : Addr) (vs : (List V)) (H : Hp) (Q : VK) (xu3 : XK) : Prop
  | mk (p : Addr) (r : Nat) (l : Addr) (xs : List V) (ds : List Dr) (zn : Nat) (tl : Addr) (c : Nat → Int) : (vs = [.ref p, .int zn, .ref tl]) → (HouseAt C H p r l xs) → (DsAt H xs ds) → (Gd r ds) → (zn < r) → (H tl = some (.lst (intsV ((List.range r).map c)))) → ((∀ k < r, Bits (c k) 58)) → (∀ (x : Int) (H1 : Hp), Same H H1 → Q (.int x) H1) → spSolved C vs H Q xu3
inductive spWeight (C : Addr) (vs : (List V)) (H : Hp) (Q : VK) (xu3 : XK) : Prop
  | mk (p : Addr) (r : Nat) (l : Addr) (xs : List V) (ds : List Dr) : (vs = [.ref p]) → (HouseAt C H p r l xs) → (DsAt H xs ds) → (Gd r ds) → (∀ (x : Int) (H1 : Hp), (comesB r ds = true → x ≠ 0) → Bits x 8999 → Same H H1 → Q (.int x) H1) → spWeight C vs H Q xu3
inductive spCW (C cN : Addr) (vs : (List V)) (H : Hp) (Q : VK) (E : XK) : Prop
  | mk (p : Addr) (r : Nat) (l : Addr) (xs : List V) (ds : List Dr) (z y : Int) : (vs = [.ref p, .int z, .int y]) → (HouseAt C H p r l xs) → (DsAt H xs ds) → (Gd r ds) → ((0 ≤ z ∧ z < (r : Int)) → (0 ≤ y ∧ y < (r : Int)) → ∀ (x : Int) (H1 : Hp), Same H H1 → Q (.int x) H1) → ((¬ ((0 ≤ z ∧ z < (r : Int)) ∧ (0 ≤ y ∧ y < (r : Int))) → ∀ H', Same H H' → E (.ref cN) none H')) → spCW C cN vs H Q E
theorem cut_get {α : Type} {as : List α} {i s : Nat} (h : i ≤ as.length) : (as.take i ++ as.drop (i + 1))[s]? = as[skip i s]? := by
  unfold skip
  by_cases c : s < i
  · rw [if_pos c, List.getElem?_append_left (by rw [List.length_take]; (first | lia | omega)), List.getElem?_take_of_lt c]
  · rw [if_neg c, List.getElem?_append_right (by rw [List.length_take]; (first | lia | omega)), List.length_take, List.getElem?_drop]
    congr 1
    (first | lia | omega)
theorem refs_cut {as : List Addr} {i : Nat} (h : i ≤ as.length) : cutV (refsV as) none (some (i : Int)) = refsV (as.take i) ∧ cutV (refsV as) (some ((i : Int) + 1)) none = refsV (as.drop (i + 1)) ∨ as.length = i := by
  by_cases e : as.length = i
  · exact .inr e
  · refine .inl ⟨?_, ?_⟩
    · rw [cut_take (by (first | lia | omega)) (by rw [List.length_map]; (first | lia | omega)), Int.toNat_natCast, refsV, refsV, List.map_take]
    · rw [cut_drop (by (first | lia | omega)) (by rw [List.length_map]; (first | lia | omega)), show ((i : Int) + 1).toNat = i + 1 by (first | lia | omega), refsV, refsV, List.map_drop]
theorem row_cut {n z : Nat} (hz : z < n) {F : Nat → Int} {c : Int} : cutV (intsV ((List.range n).map F)) none (some (z : Int)) ++ [.int c] ++ cutV (intsV ((List.range n).map F)) (some ((z : Int) + 1)) none = intsV ((List.range n).map fun q => if q = z then c else F q) := by
  rw [cut_take (by (first | lia | omega)) (by simp; (first | lia | omega)), cut_drop (by (first | lia | omega)) (by simp; (first | lia | omega)), Int.toNat_natCast, show ((z : Int) + 1).toNat = z + 1 by (first | lia | omega)]
  have e : (intsV ((List.range n).map F)).take z ++ [V.int c] ++ (intsV ((List.range n).map F)).drop (z + 1) = (intsV ((List.range n).map F)).set z (.int c) := by
    rw [List.set_eq_take_append_cons_drop, if_pos (by simp; exact hz)]
    simp
  rw [e, set_ints]
  congr 1
  have := set_range (F := F) (G := fun q => if q = z then c else F q) hz fun k _ ne => (if_neg ne).symm
  simp only [if_pos] at this
  exact this
theorem unit_bits {k : Nat} {y : Int} : Bits (if (k : Int) = y then (1 : Int) else 0) 58 := by
  split <;> (unfold Bits; decide)
theorem unit_comp {r : Nat} {y : Int} {H : Hp} {Fin : List V → Hp → Prop} (hr : r ≤ 7) (k : Fin (intsV ((List.range r).map fun k : Nat => if (k : Int) = y then (1 : Int) else 0)) H) :
    compW (gName 0) tYes (tIf (tTest (tOp rEq (tVar 0) (tVar 1))) (tC (.int 1)) (tC (.int 0))) (Itr 0 r) [none, some (.int y)] H Fin := by
  refine comp_range (n := r) (fun i ys σ H5 => H = H5 ∧ ys = intsV (((List.range r).map fun k : Nat => if (k : Int) = y then (1 : Int) else 0).take i) ∧ ∃ v, σ = [v, some (.int y)]) ⟨rfl, rfl, none, rfl⟩ ?_ ?_
  · rintro i ys σ H5 hi ⟨rfl, rfl, v, rfl⟩
    refine ⟨by rw [List.length_map, List.length_take]; exact small1000 (by (first | lia | omega)), nameYes ⟨_, rfl, _, rfl, rfl, _, rfl, ?_⟩⟩
    rw [take_range hi, intsV, intsV, List.map_append]
    refine ite2 (fun c => ?_) (fun c => ?_)
    · rw [if_pos (show (i : Int) = y by have := eqT c; (first | lia | omega))]
      exact ⟨rfl, rfl, _, rfl⟩
    · rw [if_neg (show ¬ (i : Int) = y by have := eqF c; (first | lia | omega))]
      exact ⟨rfl, rfl, _, rfl⟩
  · rintro ys σ H5 ⟨rfl, rfl, _⟩
    rw [List.take_of_length_le (by simp)]
    exact k
theorem sums_comp {K : PySem.W.Frag} {t : Addr} {as : List Addr} {rows : Nat → List Int} {H : Hp} {r : Nat} {Fin : List V → Hp → Prop} (h1 : H t = some (.lst (refsV as))) (hla : as.length = r) (hr : r ≤ 7) (ht : Tab H as rows) (k : Fin (intsV ((List.range r).map fun z => (rows z).sum)) H) :
    compW (gName 0) tYes (tCB (rSum K) (tCons (tVar 0) tNil)) (Itl K t) [none] H Fin := by
  let J1 : Nat → List V → St → Hp → Prop := fun i ys σ H2 => H = H2 ∧ ys = intsV (((List.range r).map fun z => (rows z).sum).take i) ∧ ∃ v, σ = [v]
  refine comp_list (K := K) (a := t) (xs := refsV as) J1 ⟨rfl, rfl, none, rfl⟩ (fun i ys σ H2 _ ⟨e, _⟩ => by rw [← e]; exact SqL.of h1) ?_ ?_
  · rintro i x ys σ H2 hx ⟨rfl, rfl, v, rfl⟩
    obtain ⟨a, ha, rfl⟩ := refs_get hx
    have hi : i < r := by have := (List.getElem?_eq_some_iff.mp ha).1; (first | lia | omega)
    refine ⟨by rw [List.length_map, List.length_take]; exact small1000 (by (first | lia | omega)), nameYes ⟨_, rfl, a, _, rfl, SqL.of (ht _ _ ha), rfl, ?_, _, rfl⟩⟩
    rw [take_range hi, intsV, intsV, List.map_append]
    rfl
  · rintro ys σ H2 ⟨rfl, rfl, _⟩
    rw [List.length_map, hla, List.take_of_length_le (by simp)]
    exact k
section
variable {P : Program} {w : World} {K : PySem.W.Frag} {mg : Str → Option Value} {base : Heap} {C cNoRoom cNoFraction cUnending cIsEnd : Addr} {dv : Value}
noncomputable abbrev n_cleared : List Str := ["row", "other", "before"]
theorem sc_cleared : FnScope ["row", "other", "before"] ["row", "other", "before"] (defScope sCleared) := ⟨rfl, rfl, rfl, by decide +kernel, rfl, by decide +kernel, by decide +kernel⟩
theorem ok_cleared {f : Addr} {fd : FuncData} (B : TB mg) (F : Fun K "cleared" "cleared" sCleared f fd) : FnOk P w K mg base (CXR P w) 1 f fd ["row", "other", "before"] spCleared := by
  refine F.okN sc_cleared (fun vs H Q E h => ?_) (fun cdv A outer s H vs Q E hr h => ?_)
  · obtain ⟨a1, a2, k, u, v, b, rfl, _⟩ := h
    rfl
  obtain ⟨a1, a2, k, u, v, b, rfl, h1, h2, hk, hb, b0, b1, q⟩ := h
  refine ⟨_, (pss_one (ps_ret (pe_comp2 (N' := ["place", "before", "row", "other"]) (ix := [none, some 2, some 0, some 1]) rfl (CompP2.sc (XN := n_cleared) (en := (defScope sCleared).names) ⟨rfl, by decide +kernel, by decide +kernel, by decide +kernel, by decide +kernel, by decide +kernel⟩ rfl rfl) (pi_range2 rfl B.range (pa_cons pe_int (pa_cons (pe_callB (call_lenK (K := K) rfl) rfl B.len bt_len (pa_cons (pv 0) pa_nil)) pa_nil))) (fun _ _ _ _ => (pg_name (i := 0) (show (["place", "before", "row", "other"] : List Str).Nodup by decide +kernel) rfl (Or.inl rfl) (.inr rfl))) (fun _ _ _ _ => pif_nil) (fun _ _ _ _ => (pe_op op_fdivB (pe_op op_sub (pe_op op_mulB (pe_ix (ix_listK (K := K) rfl) (pv 2) pe_int (fun _ _ => rfl)) (pe_ix (ix_listK (K := K) rfl) (pv 3) (pv 0) (fun _ _ => rfl))) (pe_op op_mulB (pe_ix (ix_listK (K := K) rfl) (pv 3) pe_int (fun _ _ => rfl)) (pe_ix (ix_listK (K := K) rfl) (pv 2) (pv 0) (fun _ _ => rfl)))) (pv 1)))))), ?_⟩
  let J2 : Nat → List V → St → Hp → Prop := fun i ys σ H2 => H = H2 ∧ ys = intsV (((List.range k).map fun j => (u 0 * v (j + 1) - v 0 * u (j + 1)).fdiv b).take i) ∧ ∃ x, σ = [x, some (.int b), some (.ref a1), some (.ref a2)]
  refine ⟨_, rfl, a1, _, rfl, .inl (SqL.of h1), 1, ((k + 1 : Nat) : Int), by simp, ⟨by (first | lia | omega), by (first | lia | omega), by (first | lia | omega), by (first | lia | omega)⟩, comp_range (lo := 1) (n := (((k + 1 : Nat) : Int) - 1).toNat) J2
    ⟨rfl, rfl, none, rfl⟩ ?_ ?_⟩
  · rintro i ys σ H2 hi ⟨rfl, rfl, x, rfl⟩
    have hik : i < k := by omega
    have e1 : (1 : Int) + (i : Int) = ((i + 1 : Nat) : Int) := by omega
    have hu := fun j hj => (hb j hj).1
    have hv := fun j hj => (hb j hj).2
    refine ⟨by rw [List.length_map, List.length_take]; exact small1000 (by omega), nameYes ?_⟩
    refine ⟨_, rfl, a1, _, _, _, rfl, rfl, SqL.of h1, atI_row (i := 0) (by omega), _, rfl, _, rfl, a2, _, _, _, rfl, rfl, SqL.of h2, by rw [e1]; exact atI_row (by omega), _, _, rfl, rfl, ⟨4000, by decide, hu 0 (by omega), hv (i + 1) (by omega)⟩,
      _, rfl, a2, _, _, _, rfl, rfl, SqL.of h2, atI_row (i := 0) (by omega), _, rfl, _, rfl, a1, _, _, _, rfl, rfl, SqL.of h1, by rw [e1]; exact atI_row (by omega), _, _, rfl, rfl, ⟨4000, by decide, hv 0 (by omega), hu (i + 1) (by omega)⟩, _, _, rfl, rfl, _, rfl, _, _, rfl, rfl, ⟨b0, b1⟩, rfl, ?_, _, rfl⟩
    rw [take_range hik, intsV, intsV, List.map_append]
    rfl
  · rintro ys σ H2 ⟨rfl, rfl, _⟩ pr npr
    rw [List.take_of_length_le (by simp)]
    exact q pr _ (same_new npr _) npr upd_same
noncomputable abbrev n_determinant : List Str := ["rows", "before", "place", "row", "others", "smaller"]
theorem sc_determinant : FnScope ["rows", "before", "place", "row", "others", "smaller"] ["rows", "before"] (defScope sDeterminant) := ⟨rfl, rfl, rfl, by decide +kernel, rfl, by decide +kernel, by decide +kernel⟩
theorem det_ok {f f1 : Addr} {fd d1 : FuncData} (B : TB mg) (F : FunD K "determinant" "determinant" sDeterminant f fd dv) (hm : mg "determinant" = some (.ref f)) (c_cleared : Cal P w K mg base "cleared" 1 f1 d1 ["row", "other", "before"] spCleared) :
    ∀ n : Nat, FnOk P w K mg base (CXR P w) (1 + n) f fd ["rows", "before"] (spDetN n) := by
  intro n
  induction n with
  | zero => exact ⟨fun vs H Q E h => by obtain ⟨t, as, k, a, b, rfl, _⟩ := h; rfl, fun A outer s H args us vs Q E _ _ _ _ h => by obtain ⟨t, as, k, a, b, _, h0, _⟩ := h; (first | lia | omega)⟩
  | succ n ih =>
    have hb2 : Binds K fd ["rows", "before"] [] := F.binds fun T kV doc pm an cdv ct us hl => match us, hl with | [_, _], _ => ⟨_, rfl, rfl⟩
    refine F.okN sc_determinant (fun vs H Q E h => ?_) (fun cdv A outer s H vs Q E hr h => ?_)
    · obtain ⟨t, as, k, a, b, rfl, _⟩ := h
      rfl
    obtain ⟨t, as, k, a, b, rfl, hkn, hk7, ht, hla, hta, hbt, b0, b1, q⟩ := h
    refine ⟨_, (pss_cons (ps_if (pt_not (pt_truthK (K := K) rfl (pv 0) (fun _ => rfl)))
      (pss_one (ps_ret (pv 1)))
      pss_nil)
    (pss_cons (ps_for PassesOwn.never rfl (pi_enumK (K := K) rfl rfl B.enumerate bt_enumerate (pa_cons (pv 0) pa_nil)) (pg_tupK (K := K) 2 rfl rfl (pgs_cons (pg_name (i := 2) sc_determinant.nd rfl (Or.inl rfl)) (pgs_cons (pg_name (i := 3) sc_determinant.nd rfl (Or.inr rfl)) pgs_nil)) rfl rfl)
      (pss_one (ps_if (pt_cmpR op_ne (pe_ix (ix_listK (K := K) rfl) (pv 3) pe_int (fun _ _ => rfl)) pe_int (nomark _))
        (pss_cons (ps_set (i := 4) sc_determinant.nd rfl (Or.inl rfl) (pe_op op_cat (pe_slice (sl_listK (K := K) rfl) (pv 0) po_none (po_some (pv 2))) (pe_slice (sl_listK (K := K) rfl) (pv 0) (po_some (pe_op op_add (pv 2) pe_int)) po_none)))
        (pss_cons (ps_set (i := 5) sc_determinant.nd rfl (Or.inl rfl) (pe_call ih hr rfl hm F.kp hb2 .nil pass0R (pa_cons (pe_comp2 (N' := ["other", "row", "before"]) (ix := [none, some 3, some 1]) rfl (CompP2.sc (XN := n_determinant) (en := (defScope sDeterminant).names) ⟨rfl, by decide +kernel, by decide +kernel, by decide +kernel, by decide +kernel, by decide +kernel⟩ rfl rfl) (pi_listK (K := K) rfl (pv 4)) (fun _ _ _ _ => (pg_name (i := 0) (show (["other", "row", "before"] : List Str).Nodup by decide +kernel) rfl (Or.inl rfl) (.inr rfl))) (fun _ _ _ _ => pif_nil) (fun _ _ _ _ => (pe_call (c_cleared.ok.mono (Nat.le_add_right _ _)) hr rfl c_cleared.m c_cleared.k c_cleared.b .nil pass0R (pa_cons (pv 1) (pa_cons (pv 0) (pa_cons (pv 2) pa_nil)))))) (pa_cons (pe_ix (ix_listK (K := K) rfl) (pv 3) pe_int (fun _ _ => rfl)) pa_nil))))
        (pss_one (ps_ret (pe_ifExp (pt_cmpR op_eq (pe_op op_mod (pv 2) pe_int) pe_int (nomark _)) (pe_un un_neg (pv 5)) (pv 5))))))
        pss_nil)))
    (pss_one (ps_ret pe_int)))), ?_⟩
    refine ⟨_, rfl, _, .inl ⟨_, SqL.of ht, rfl⟩, ite2 (fun c => ?_) (fun c => ?_)⟩
    · have k0 : k = 0 := by
        cases as with
        | nil => exact hla.symm
        | cons x y => simp at c
      subst k0
      exact ⟨_, rfl, q H (Same.refl _)⟩
    have k0 : 0 < k := by
      cases as with
      | nil => simp at c
      | cons x y => simp at hla; (first | lia | omega)
    obtain ⟨k, rfl⟩ : ∃ j, k = j + 1 := ⟨k - 1, by (first | lia | omega)⟩
    clear c
    let J3 : Nat → St → Hp → Prop := fun i σ H2 => (∃ v1 v2, σ = [some (.ref t), some (.int b), v1, v2, none, none]) ∧ Same H H2 ∧ ∀ j < i, a j 0 = 0
    refine ⟨_, rfl, t, rfl, ⟨_, SqL.of ht⟩, for_enum (K := K) (a := t) (xs := refsV as) J3 ⟨⟨_, _, rfl⟩, Same.refl _, fun j hj => by (first | lia | omega)⟩ (fun i σ H2 _ ⟨_, s2, _⟩ => SqL.of (s2 _ _ ht)) ?_ ?_⟩
    · rintro i x σ H2 pz hx npz ⟨⟨v1, v2, rfl⟩, s2, hz⟩
      obtain ⟨ra, hra, rfl⟩ := refs_get hx
      have hi : i < k + 1 := by have := (List.getElem?_eq_some_iff.mp hra).1; (first | lia | omega)
      have s3 := s2.trans (same_new npz (.tup [.int (i : Int), .ref ra]))
      refine ⟨pz, _, rfl, SqT.of upd_same, rfl, _, _, rfl, _, _, rfl, rfl, ?_⟩
      refine ⟨_, rfl, ra, _, _, _, rfl, rfl, SqL.of (s3 _ _ (hta _ _ hra)), atI_row (i := 0) (by (first | lia | omega)), rfl, _, rfl, ite2 (fun c => ?_) (fun c => ⟨⟨_, _, rfl⟩, s3, fun j hj => ?_⟩)⟩
      · have hnz : a i 0 ≠ 0 := neT c
        refine seq2 ?_
        intro Z2 Z1
        generalize hH3 : upd H2 pz (.tup [.int (i : Int), .ref ra]) = H3 at s3 ⊢
        refine ⟨_, rfl, _, rfl, _, rfl, t, _, rfl, SqL.of (s3 _ _ ht), fun p1 n1 => ?_⟩
        have s4 := same_new n1 (.lst (cutV (refsV as) none (some (i : Int))))
        refine ⟨_, rfl, _, rfl, _, _, rfl, rfl, _, rfl, t, _, rfl, SqL.of (s4 _ _ (s3 _ _ ht)), fun p2 n2 => ?_⟩
        have s5 := same_new n2 (.lst (cutV (refsV as) (some ((i : Int) + 1)) none))
        have f1 := s5 _ _ (upd_same (H := H3) (a := p1) (o := .lst (cutV (refsV as) none (some (i : Int)))))
        have hc1 := cutV_length (refsV as) none (some (i : Int))
        have hc2 := cutV_length (refsV as) (some ((i : Int) + 1)) none
        have hl2 : (refsV as).length = k + 1 := by rw [List.length_map]; exact hla
        refine ⟨p1, p2, _, _, rfl, rfl, f1, upd_same, Nat.le_of_lt (small1000 (by (first | lia | omega))), fun p3 n3 => ?_⟩
        obtain ⟨e1, e2⟩ := (refs_cut (as := as) (i := i) (by (first | lia | omega))).resolve_right (by (first | lia | omega))
        have e3 : cutV (refsV as) none (some (i : Int)) ++ cutV (refsV as) (some ((i : Int) + 1)) none = refsV (as.take i ++ as.drop (i + 1)) := by rw [e1, e2, refsV, refsV, refsV, List.map_append]
        generalize hos : as.take i ++ as.drop (i + 1) = os at e3
        have hol : os.length = k := by rw [← hos, List.length_append, List.length_take, List.length_drop]; (first | lia | omega)
        have hot : Tab H os (fun s => (List.range (k + 1)).map (a (skip i s))) := fun s y hy => by
          rw [← hos, cut_get (by (first | lia | omega))] at hy
          exact hta _ _ hy
        rw [e3]
        have s6 := same_new n3 (.lst (refsV os))
        have s7 := s3.trans (s4.trans (s5.trans s6))
        have hx3 : (upd (upd (upd H3 p1 (.lst (cutV (refsV as) none (some (i : Int))))) p2 (.lst (cutV (refsV as) (some ((i : Int) + 1)) none))) p3 (.lst (refsV os))) p3 = some (.lst (refsV os)) := upd_same
        generalize upd (upd (upd H3 p1 (.lst (cutV (refsV as) none (some (i : Int))))) p2 (.lst (cutV (refsV as) (some ((i : Int) + 1)) none))) p3 (.lst (refsV os)) = H7 at s7 hx3 ⊢
        let J4 : Nat → List V → St → Hp → Prop := fun j ys σ H8 => ∃ bs : List Addr, ys = refsV bs ∧ bs.length = j ∧ Same H7 H8 ∧ Tab H8 bs (fun s => (List.range k).map fun t => (a i 0 * a (skip i s) (t + 1) - a (skip i s) 0 * a i (t + 1)).fdiv b) ∧ ∃ v, σ = [v, some (.ref ra), some (.int b)]
        refine ⟨_, rfl, p3, rfl, ⟨_, SqL.of hx3⟩, comp_list (K := K) (a := p3) (xs := refsV os) J4
          ⟨[], rfl, rfl, Same.refl _, Tab.nil, none, rfl⟩ (fun j ys σ H8 _ ⟨_, _, _, s8, _⟩ => SqL.of (s8 _ _ hx3)) ?_ ?_⟩
        · rintro j y ys σ H8 hy ⟨bs, rfl, hlb, s8, htb, v, rfl⟩
          obtain ⟨oa, hoa, rfl⟩ := refs_get hy
          have hj : j < k := by have := (List.getElem?_eq_some_iff.mp hoa).1; (first | lia | omega)
          refine ⟨by rw [List.length_map]; exact small1000 (by (first | lia | omega)), nameYes ?_⟩
          have eb4 : eb (k + 1) ≤ 4000 := by have := eb_le (k := k + 1) (by (first | lia | omega)); (first | lia | omega)
          refine ⟨_, rfl, _, rfl, _, rfl, ra, oa, k, a i, a (skip i j), b, rfl, s8 _ _ (s7 _ _ (hta _ _ hra)), s8 _ _ (s7 _ _ (hot _ _ hoa)), by (first | lia | omega), fun t ht => ⟨(hbt i hi t ht).mono eb4, (hbt _ (skip_lt hj) t ht).mono eb4⟩, b0, b1, fun pq H9 s9 nq hq => ?_⟩
          exact ⟨bs ++ [pq], by rw [refsV, refsV, List.map_append]; rfl, by rw [List.length_append, hlb]; rfl, s8.trans s9, (htb.same s9).snoc (by rw [hlb]; exact hq), _, rfl⟩
        · rintro ys σ H8 ⟨bs, rfl, hlb, s8, htb, _⟩ pr npr
          rw [List.length_map, hol] at hlb
          have s9 := same_new npr (.lst (refsV bs))
          refine ⟨_, rfl, ra, _, _, _, rfl, rfl, SqL.of (s9 _ _ (s8 _ _ (s7 _ _ (hta _ _ hra)))), atI_row (i := 0) (by (first | lia | omega)), ?_⟩
          refine ⟨pr, bs, k, (fun s t => (a i 0 * a (skip i s) (t + 1) - a (skip i s) 0 * a i (t + 1)).fdiv b), a i 0, rfl, by (first | lia | omega), by (first | lia | omega), upd_same, hlb, htb.same s9, fun p hp q' hq' => next_bits hk7 (hbt i hi 0 (by (first | lia | omega))) (hbt _ (skip_lt hp) _ (by (first | lia | omega))) (hbt _ (skip_lt hp) 0 (by (first | lia | omega))) (hbt i hi _ (by (first | lia | omega))), hnz, (hbt i hi 0 (by (first | lia | omega))).mono (by have := eb_le (k := k + 1) (by (first | lia | omega)); (first | lia | omega)), fun H10 s10 => ?_⟩
          have hbar : bar (k + 1) a b = sg i * bar k (fun s t => (a i 0 * a (skip i s) (t + 1) - a (skip i s) 0 * a i (t + 1)).fdiv b) (a i 0) := by
            have e : (List.range (k + 1)).find? (fun p => a p 0 != 0) = some i := by
              rw [List.find?_range_eq_some]
              exact ⟨by simpa using hnz, by simpa using hi, fun j hj => by rw [hz j hj]; rfl⟩
            rw [bar, e]
          have s11 := s7.trans (s8.trans (s9.trans s10))
          refine ⟨_, rfl, _, _, rfl, rfl, (by show (0 : Int) < 2; decide), rfl, _, rfl, ite2 (fun c => ?_) (fun c => ?_)⟩
          · have c1 : (i : Int) % 2 = 1 := eqT c
            refine ⟨_, rfl, _, rfl, ?_⟩
            have e : sg i = -1 := by rw [sg_mod, if_pos (by (first | lia | omega))]
            rw [e, Int.neg_one_mul] at hbar
            have := q H10 s11
            rw [hbar] at this
            exact this
          · have c1 : ¬ (i : Int) % 2 = 1 := eqF c
            refine ⟨_, rfl, ?_⟩
            have e : sg i = 1 := by rw [sg_mod, if_neg (by (first | lia | omega))]
            rw [e, Int.one_mul] at hbar
            have := q H10 s11
            rw [hbar] at this
            exact this
      · have c1 : a i 0 = 0 := neF c
        by_cases e : j = i
        · rw [e]; exact c1
        · exact hz j (by (first | lia | omega))
    · rintro σ H2 ⟨⟨v1, v2, rfl⟩, s2, hz⟩
      rw [List.length_map, hla] at hz
      have hbar : bar (k + 1) a b = 0 := by
        have e : (List.range (k + 1)).find? (fun p => a p 0 != 0) = none := by
          rw [List.find?_range_eq_none]
          exact fun j hj => by rw [hz j hj]; rfl
        rw [bar, e]
      have := q H2 s2
      rw [hbar] at this
      exact this
theorem ok_determinant {f f1 : Addr} {fd d1 : FuncData} (B : TB mg) (F : FunD K "determinant" "determinant" sDeterminant f fd dv) (hm : mg "determinant" = some (.ref f)) (c_cleared : Cal P w K mg base "cleared" 1 f1 d1 ["row", "other", "before"] spCleared) : FnOk P w K mg base (CXR P w) 9 f fd ["rows", "before"] (spDetN 8) := by
  exact det_ok B F hm c_cleared 8
end
end Eh
namespace Eh
open PySem L2 Ek
inductive spCheckEnding (C cU : Addr) (vs : (List V)) (H : Hp) (Q : VK) (E : XK) : Prop
  | mk (p : Addr) (r : Nat) (l : Addr) (xs : List V) (ds : List Dr) : (vs = [.ref p]) → (HouseAt C H p r l xs) → (DsAt H xs ds) → (Gd r ds) → ((comesB r ds = true → ∀ H', Same H H' → Q .non H')) → ((comesB r ds = false → ∀ H', Same H H' → E (.ref cU) none H')) → spCheckEnding C cU vs H Q E
theorem neg_range {r : Nat} {ds : List Dr} {z : Nat} (hz : z < r) : ((List.range r).map fun k => - ow r ds z k).set z (- ow r ds z z + W r ds z) = (List.range r).map (eqm r ds z) := by
  have e := set_range (F := fun k => - ow r ds z k) (G := eqm r ds z) hz fun k _ ne => by
    show - ow r ds z k = _
    unfold eqm
    rw [if_neg ne]
    (first | lia | omega)
  have e1 : eqm r ds z z = - ow r ds z z + W r ds z := by
    unfold eqm
    rw [if_pos rfl]
    (first | lia | omega)
  rw [e1] at e
  exact e
theorem osum_bits {r : Nat} {ds : List Dr} (g : Gd r ds) {z : Nat} : Bits (outs r ds z).sum 58 := by
  have h1 := W_le (z := z) g
  have h2 : 0 ≤ (outs r ds z).sum := by
    rw [outs_sum (r := r) fun d hd => (g.2.2 d hd).2.1]
    exact wsum_nn fun d hd => (g.2.2 d hd).2.2.1
  have h3 : (outs r ds z).sum ≤ W r ds z := by
    unfold W wh
    split <;> (first | lia | omega)
  exact bits_of_le (b := 56) h2 (Int.le_trans h3 h1) (by decide)
section
variable {P : Program} {w : World} {K : PySem.W.Frag} {mg : Str → Option Value} {base : Heap} {C cNoRoom cNoFraction cUnending cIsEnd : Addr} {dv : Value}
noncomputable abbrev n_equation_rows : List Str := ["house", "rows", "room", "weights", "row"]
theorem sc_equation_rows : FnScope ["house", "rows", "room", "weights", "row"] ["house"] (defScope sEquationRows) := ⟨rfl, rfl, rfl, by decide +kernel, rfl, by decide +kernel, by decide +kernel⟩
theorem ok_equation_rows {f f1 : Addr} {fd d1 : FuncData} (B : TB mg) (F : Fun K "equation_rows" "equation_rows" sEquationRows f fd) (c_weight_table : Cal P w K mg base "weight_table" 1 f1 d1 ["house"] (spTable C)) :
    FnOk P w K mg base (CXR P w) 2 f fd ["house"] (spEqs C) := by
  refine F.okN sc_equation_rows (fun vs H Q E h => ?_) (fun cdv A outer s H vs Q E hr h => ?_)
  · obtain ⟨p, r, l, xs, ds, rfl, _⟩ := h
    rfl
  obtain ⟨p, r, l, xs, ds, rfl, hh, hd, g, q⟩ := h
  have hr7 := g.1
  refine ⟨_, (pss_cons (ps_set (i := 1) sc_equation_rows.nd rfl (Or.inl rfl) (pe_lst pa_nil))
    (pss_cons (ps_for PassesOwn.never rfl (pi_enumK (K := K) rfl rfl B.enumerate bt_enumerate (pa_cons (pe_call (c_weight_table.up (by decide)) hr rfl c_weight_table.m c_weight_table.k c_weight_table.b .nil pass0R (pa_cons (pv 0) pa_nil)) pa_nil)) (pg_tupK (K := K) 2 rfl rfl (pgs_cons (pg_name (i := 2) sc_equation_rows.nd rfl (Or.inl rfl)) (pgs_cons (pg_name (i := 3) sc_equation_rows.nd rfl (Or.inl rfl)) pgs_nil)) rfl rfl)
      (pss_cons (ps_compL2 (j := 4) (N' := ["part"]) (ix := [none]) sc_equation_rows.nd rfl (Or.inl rfl) (.inr rfl) rfl (CompP2.sc (XN := n_equation_rows) (en := (defScope sEquationRows).names) ⟨rfl, by decide +kernel, by decide +kernel, by decide +kernel, by decide +kernel, by decide +kernel⟩ rfl rfl) (pi_listK (K := K) rfl (pv 3)) (fun _ _ _ _ => (pg_name (i := 0) (show (["part"] : List Str).Nodup by decide +kernel) rfl (Or.inl rfl) (.inr rfl))) (fun _ _ _ _ => pif_nil) (fun _ _ _ _ => (pe_un un_neg (pv 0))))
      (pss_cons (ps_augS (pv 4) (pv 2) (get_listK (K := K) rfl) (pe_callB (call_max2 rfl) rfl B.max bt_max (pa_cons (pe_callB (call_sum (K := K) rfl rfl) rfl B.sum bt_sum (pa_cons (pv 3) pa_nil)) (pa_cons pe_int pa_nil))) ip_add set_list)
      (pss_one (ps_expr (pe_bmK (K := K) rfl PySem.F.plainAttrs_list PySem.F.slot_list_append PySem.F.type_list_append mt_append (pv 1) (pa_cons (pv 4) pa_nil)))))))
    (pss_one (ps_ret (pv 1))))), ?_⟩
  refine ⟨Nat.zero_le _, fun p0 n0 => ?_⟩
  have s0 := same_new n0 (.lst [])
  refine ⟨_, rfl, p, r, l, xs, ds, rfl, hh.same s0, hd.mono (tups_same s0), g, fun t as H1 s1 nt hn hla nta h1 ht1 => ?_⟩
  let J1 : Nat → St → Hp → Prop := fun i σ H2 => (∃ v1 v2 v3, σ = [some (.ref p), some (.ref p0), v1, v2, v3]) ∧ Same H H2 ∧ H2 t = some (.lst (refsV as)) ∧ Tab H2 as (fun z => outs r ds z) ∧ ∃ bs : List Addr, bs.length = i ∧ H2 p0 = some (.lst (refsV bs)) ∧ News H bs ∧ p0 ∉ bs ∧ Tab H2 bs (fun z => (List.range r).map (eqm r ds z))
  refine ⟨t, rfl, ⟨_, SqL.of h1⟩, for_enum (K := K) (a := t) (xs := refsV as) J1
    ⟨⟨_, _, _, rfl⟩, s0.trans s1, h1, ht1, [], rfl, s1 _ _ upd_same, News.nil, (fun z => nomatch z), Tab.nil⟩ (fun i σ H2 _ ⟨_, _, h, _⟩ => SqL.of h) ?_ ?_⟩
  · rintro i x σ H2 pz hx npz ⟨⟨v1, v2, v3, rfl⟩, s2, h2, ht2, bs, hlb, hp0, hnb, n0b, htb⟩
    obtain ⟨a, ha, rfl⟩ := refs_get hx
    have hi : i < r := by have := (List.getElem?_eq_some_iff.mp ha).1; (first | lia | omega)
    have s3 := same_new npz (.tup [.int (i : Int), .ref a])
    have hrow : upd H2 pz (.tup [.int (i : Int), .ref a]) a = some (.lst (intsV (outs r ds i))) := s3 _ _ (ht2 _ _ ha)
    rw [outs_range] at hrow
    refine ⟨pz, _, rfl, SqT.of upd_same, rfl, _, _, rfl, _, _, rfl, rfl, ?_⟩
    generalize upd H2 pz (.tup [.int (i : Int), .ref a]) = H3 at s3 hrow ⊢
    refine seq2 ?_
    intro Z2 Z1
    let J2 : Nat → List V → St → Hp → Prop := fun j ys σ H4 => H3 = H4 ∧ ys = intsV (((List.range r).map fun k => - ow r ds i k).take j) ∧ ∃ v, σ = [v]
    refine ⟨_, rfl, a, rfl, ⟨_, SqL.of hrow⟩, comp_list (K := K) (a := a) (xs := intsV ((List.range r).map fun k => ow r ds i k)) J2 ⟨rfl, rfl, none, rfl⟩ (fun j ys σ H4 _ ⟨e, _⟩ => by rw [← e]; exact SqL.of hrow) ?_ ?_⟩
    · rintro j y ys σ H4 hy ⟨rfl, rfl, v, rfl⟩
      obtain ⟨hj, rfl⟩ := ints_get hy
      refine ⟨by rw [List.length_map, List.length_take]; exact small1000 (by (first | lia | omega)), nameYes ⟨_, rfl, _, rfl, rfl, ?_, _, rfl⟩⟩
      rw [take_range hj, intsV, intsV, List.map_append]
      rfl
    rintro ys σ H4 ⟨rfl, rfl, _⟩ pr npr
    rw [List.take_of_length_le (by simp)]
    have s4 := same_new npr (.lst (intsV ((List.range r).map fun k => - ow r ds i k)))
    have s34 := s2.trans (s3.trans s4)
    have npH : H pr = none := (s2.trans s3).free npr
    have es : ((List.range r).map fun k => ow r ds i k).sum = (outs r ds i).sum := by rw [← outs_range]
    refine ⟨_, rfl, _, rfl, pr, _, _, _, rfl, rfl, SqL.of upd_same, by (first | lia | omega), atI_row hi, _, rfl, a, _, rfl, SqL.of (s4 _ _ hrow), _, _, rfl, ?_⟩
    rw [es]
    have ew : (if (1 : Int) > (outs r ds i).sum then 1 else (outs r ds i).sum) = W r ds i := by
      unfold W wh
      split <;> split <;> (first | lia | omega)
    rw [ew]
    refine ⟨_, _, rfl, rfl, pr, _, _, _, rfl, rfl, upd_same, ixN_in (by (first | lia | omega)) (by simp; (first | lia | omega)), ?_⟩
    rw [set_ints, Int.toNat_natCast, neg_range hi]
    have s5 : Same H3 (upd (upd H3 pr (.lst (intsV ((List.range r).map fun k => - ow r ds i k)))) pr (.lst (intsV ((List.range r).map (eqm r ds i))))) := same_upd_new s4 npr
    have hpr : (upd (upd H3 pr (.lst (intsV ((List.range r).map fun k => - ow r ds i k)))) pr (.lst (intsV ((List.range r).map (eqm r ds i))))) pr = some (.lst (intsV ((List.range r).map (eqm r ds i)))) := upd_same
    generalize upd (upd H3 pr (.lst (intsV ((List.range r).map fun k => - ow r ds i k)))) pr (.lst (intsV ((List.range r).map (eqm r ds i)))) = H5 at s5 hpr ⊢
    have hp05 := s5 _ _ (s3 _ _ hp0)
    have s25 := s3.trans s5
    refine ⟨_, rfl, .inl ⟨rfl, _, SqL.of hp05⟩, _, rfl, p0, _, _, rfl, rfl, hp05, small1000 (by rw [List.length_map]; (first | lia | omega)), ⟨_, _, _, rfl⟩, same_upd_new (s2.trans s25) n0, ?_, ?_, bs ++ [pr], by rw [List.length_append, hlb]; rfl, ?_, hnb.snoc (htb.same s3) npH npr, ?_, ?_⟩
    · rw [upd_ne (fun e => by rw [e] at nt; rw [upd_same] at nt; cases nt)]
      exact s25 _ _ h2
    · intro j b hb
      rw [upd_ne (fun e => by have := hn.2 b (mem_get hb); rw [e, upd_same] at this; cases this)]
      exact s25 _ _ (ht2 j b hb)
    · rw [upd_same, refsV, refsV, List.map_append]; rfl
    · intro hm
      rcases List.mem_append.mp hm with q1 | q1
      · exact n0b q1
      · have e : p0 = pr := by simpa using q1
        have := s3 _ _ hp0
        rw [e, npr] at this
        cases this
    · have ht5 : Tab H5 (bs ++ [pr]) (fun z => (List.range r).map (eqm r ds z)) := (htb.same s25).snoc (by rw [hlb]; exact hpr)
      intro j b hb
      rw [upd_ne (fun e => ?_)]
      · exact ht5 j b hb
      · have hm := mem_get hb
        rw [e] at hm
        rcases List.mem_append.mp hm with q1 | q1
        · exact n0b q1
        · have e : p0 = pr := by simpa using q1
          have := s3 _ _ hp0
          rw [e, npr] at this
          cases this
  · rintro σ H2 ⟨⟨v1, v2, v3, rfl⟩, s2, h2, ht2, bs, hlb, hp0, hnb, n0b, htb⟩
    rw [List.length_map, hla] at hlb
    exact ⟨_, rfl, q p0 bs H2 s2 n0 hnb hlb n0b hp0 htb⟩
noncomputable abbrev n_solved_above : List Str := ["house", "room", "told", "rows"]
theorem sc_solved_above : FnScope ["house", "room", "told", "rows"] ["house", "room", "told"] (defScope sSolvedAbove) := ⟨rfl, rfl, rfl, by decide +kernel, rfl, by decide +kernel, by decide +kernel⟩
theorem ok_solved_above {f f1 f2 : Addr} {fd d1 d2 : FuncData} (B : TB mg) (F : Fun K "solved_above" "solved_above" sSolvedAbove f fd) (c_equation_rows : Cal P w K mg base "equation_rows" 2 f1 d1 ["house"] (spEqs C)) (c_determinant : CalD P w K mg base "determinant" 9 f2 d2 ["rows", "before"] (spDetN 8) dv (.int 1)) :
    FnOk P w K mg base (CXR P w) 10 f fd ["house", "room", "told"] (spSolved C) := by
  refine F.okN sc_solved_above (fun vs H Q E h => ?_) (fun cdv A outer s H vs Q E hr h => ?_)
  · obtain ⟨p, r, l, xs, ds, zn, tl, c, rfl, _⟩ := h
    rfl
  obtain ⟨p, r, l, xs, ds, zn, tl, c, rfl, hh, hd, g, hzn, htl, hcb, q⟩ := h
  have hr7 := g.1
  refine ⟨_, (pss_cons (ps_set (i := 3) sc_solved_above.nd rfl (Or.inl rfl) (pe_call (c_equation_rows.up (by decide)) hr rfl c_equation_rows.m c_equation_rows.k c_equation_rows.b .nil pass0R (pa_cons (pv 0) pa_nil)))
    (pss_one (ps_ret (pe_call (c_determinant.up (by decide)) hr rfl c_determinant.m c_determinant.k c_determinant.b1 c_determinant.v1 pass0R (pa_cons (pe_comp2 (N' := ["start", "row", "room", "told"]) (ix := [none, none, some 1, some 2]) rfl (CompP2.sc (XN := n_solved_above) (en := (defScope sSolvedAbove).names) ⟨rfl, by decide +kernel, by decide +kernel, by decide +kernel, by decide +kernel, by decide +kernel⟩ rfl rfl) (pi_enumK (K := K) rfl rfl B.enumerate bt_enumerate (pa_cons (pv 3) pa_nil)) (fun _ _ _ _ => (pg_tupK (K := K) 2 rfl rfl (pgs_cons (pg_name (i := 0) (show (["start", "row", "room", "told"] : List Str).Nodup by decide +kernel) rfl (Or.inl rfl) (.inr rfl)) (pgs_cons (pg_name (i := 1) (show (["start", "row", "room", "told"] : List Str).Nodup by decide +kernel) rfl (Or.inl rfl) (.inr rfl)) pgs_nil)) rfl rfl)) (fun _ _ _ _ => pif_nil) (fun _ _ _ _ => (pe_op op_cat (pe_op op_cat (pe_slice (sl_listK (K := K) rfl) (pv 1) po_none (po_some (pv 2))) (pe_lst (pa_cons (pe_ix (ix_listK (K := K) rfl) (pv 3) (pv 0) (fun _ _ => rfl)) pa_nil))) (pe_slice (sl_listK (K := K) rfl) (pv 1) (po_some (pe_op op_add (pv 2) pe_int)) po_none)))) pa_nil))))), ?_⟩
  refine ⟨_, rfl, p, r, l, xs, ds, rfl, hh, hd, g, fun t as H1 s1 nt hn hla nta h1 ht1 => ?_⟩
  have htl1 := s1 _ _ htl
  let J3 : Nat → List V → St → Hp → Prop := fun i ys σ H2 => ∃ bs : List Addr, ys = refsV bs ∧ bs.length = i ∧ Same H1 H2 ∧ Tab H2 bs (fun z => (List.range r).map (rwC zn c (eqm r ds) z)) ∧ ∃ v1 v2, σ = [v1, v2, some (.int zn), some (.ref tl)]
  refine ⟨_, rfl, t, rfl, ⟨_, SqL.of h1⟩, comp_enum (K := K) (a := t) (xs := refsV as) J3
    ⟨[], rfl, rfl, Same.refl _, Tab.nil, none, none, rfl⟩ (fun i ys σ H2 _ ⟨_, _, _, s2, _⟩ => SqL.of (s2 _ _ h1)) ?_ (by rw [List.length_map]; exact small1000 (by (first | lia | omega))) (fun i ys σ H2 ⟨bs, e, e2, _⟩ => by rw [e, List.length_map, e2]; exact Nat.le_refl _) ?_⟩
  · rintro i x ys σ H2 pz hx ⟨bs, rfl, hlb, s2, htb, v1, v2, rfl⟩ npz
    obtain ⟨a, ha, rfl⟩ := refs_get hx
    have hi : i < r := by have := (List.getElem?_eq_some_iff.mp ha).1; (first | lia | omega)
    have s3 := same_new npz (.tup [.int (i : Int), .ref a])
    have hrow : upd H2 pz (.tup [.int (i : Int), .ref a]) a = some (.lst (intsV ((List.range r).map (eqm r ds i)))) := s3 _ _ (s2 _ _ (ht1 _ _ ha))
    have htl3 := s3 _ _ (s2 _ _ htl1)
    refine ⟨by rw [List.length_map]; exact small1000 (by (first | lia | omega)), pz, _, rfl, SqT.of upd_same, rfl, _, _, rfl, _, _, rfl, rfl, yesT ?_⟩
    generalize upd H2 pz (.tup [.int (i : Int), .ref a]) = H3 at s3 hrow htl3 ⊢
    refine ⟨_, rfl, _, rfl, _, rfl, a, _, rfl, SqL.of hrow, fun p1 n1 => ?_⟩
    have s4 := same_new n1 (.lst (cutV (intsV ((List.range r).map (eqm r ds i))) none (some (zn : Int))))
    refine ⟨_, rfl, _, rfl, tl, _, _, _, rfl, rfl, SqL.of (s4 _ _ htl3), atI_row hi, (by show 1 ≤ sizeLine; decide), fun p2 n2 => ?_⟩
    have s5 := same_new n2 (.lst [.int (c i)])
    have f1 := s5 _ _ (upd_same (H := H3) (a := p1) (o := .lst (cutV (intsV ((List.range r).map (eqm r ds i))) none (some (zn : Int)))))
    have hc1 := cutV_length (intsV ((List.range r).map (eqm r ds i))) none (some (zn : Int))
    have hl2 : (intsV ((List.range r).map (eqm r ds i))).length = r := by simp
    refine ⟨p1, p2, _, _, rfl, rfl, f1, upd_same, Nat.le_of_lt (small1000 (by show (cutV (intsV ((List.range r).map (eqm r ds i))) none (some (zn : Int))).length + 1 ≤ 1000; (first | lia | omega))), fun p3 n3 => ?_⟩
    have s6 := same_new n3 (.lst (cutV (intsV ((List.range r).map (eqm r ds i))) none (some (zn : Int)) ++ [.int (c i)]))
    have s46 := s4.trans (s5.trans s6)
    refine ⟨_, rfl, _, rfl, _, _, rfl, rfl, _, rfl, a, _, rfl, SqL.of (s46 _ _ hrow), fun p4 n4 => ?_⟩
    have s7 := same_new n4 (.lst (cutV (intsV ((List.range r).map (eqm r ds i))) (some ((zn : Int) + 1)) none))
    have hc2 := cutV_length (intsV ((List.range r).map (eqm r ds i))) (some ((zn : Int) + 1)) none
    have f3 := s7 _ _ (upd_same (H := upd (upd H3 p1 (.lst (cutV (intsV ((List.range r).map (eqm r ds i))) none (some (zn : Int))))) p2 (.lst [.int (c i)])) (a := p3) (o := .lst (cutV (intsV ((List.range r).map (eqm r ds i))) none (some (zn : Int)) ++ [.int (c i)])))
    refine ⟨p3, p4, _, _, rfl, rfl, f3, upd_same, ?_, fun p5 n5 => ?_⟩
    · rw [List.length_append]
      exact Nat.le_of_lt (small1000 (by show (cutV (intsV ((List.range r).map (eqm r ds i))) none (some (zn : Int))).length + 1 + _ ≤ 1000; (first | lia | omega)))
    rw [row_cut hzn]
    have s8 := same_new n5 (.lst (intsV ((List.range r).map fun q => if q = zn then c i else eqm r ds i q)))
    have s28 := s3.trans (s46.trans (s7.trans s8))
    exact ⟨bs ++ [p5], by rw [refsV, refsV, List.map_append]; rfl, by rw [List.length_append, hlb]; rfl, s2.trans s28, (htb.same s28).snoc (by rw [hlb]; exact upd_same), _, _, rfl⟩
  · rintro ys σ H2 ⟨bs, rfl, hlb, s2, htb, _⟩ pr npr
    rw [List.length_map, hla] at hlb
    have s3 := same_new npr (.lst (refsV bs))
    refine ⟨pr, bs, r, rwC zn c (eqm r ds), 1, rfl, by (first | lia | omega), by (first | lia | omega), upd_same, hlb, htb.same s3, fun p hp k hk => ?_, by decide, by unfold Bits; decide +kernel, fun H' s' => ?_⟩
    · unfold rwC
      split
      · exact (hcb p hp).mono (eb_ge (by (first | lia | omega)))
      · exact (eqm_bits g).mono (eb_ge (by (first | lia | omega)))
    · exact q _ H' (s1.trans (s2.trans (s3.trans s')))
theorem sc_weight : FnScope ["house"] ["house"] (defScope sWeight) := ⟨rfl, rfl, rfl, by decide +kernel, rfl, by decide +kernel, by decide +kernel⟩
theorem ok_weight {f f1 f2 : Addr} {fd d1 d2 : FuncData} (F : Fun K "weight" "weight" sWeight f fd) (c_equation_rows : Cal P w K mg base "equation_rows" 2 f1 d1 ["house"] (spEqs C)) (c_determinant : CalD P w K mg base "determinant" 9 f2 d2 ["rows", "before"] (spDetN 8) dv (.int 1)) :
    FnOk P w K mg base (CXR P w) 10 f fd ["house"] (spWeight C) := by
  refine F.okN sc_weight (fun vs H Q E h => ?_) (fun cdv A outer s H vs Q E hr h => ?_)
  · obtain ⟨p, r, l, xs, ds, rfl, _⟩ := h
    rfl
  obtain ⟨p, r, l, xs, ds, rfl, hh, hd, g, q⟩ := h
  have hr7 := g.1
  refine ⟨_, (pss_one (ps_ret (pe_call (c_determinant.up (by decide)) hr rfl c_determinant.m c_determinant.k c_determinant.b1 c_determinant.v1 pass0R (pa_cons (pe_call (c_equation_rows.up (by decide)) hr rfl c_equation_rows.m c_equation_rows.k c_equation_rows.b .nil pass0R (pa_cons (pv 0) pa_nil)) pa_nil)))), ?_⟩
  refine ⟨_, rfl, p, r, l, xs, ds, rfl, hh, hd, g, fun t as H1 s1 nt hn hla nta h1 ht1 => ?_⟩
  have hb : ∀ p < r, ∀ k < r, Bits (eqm r ds p k) (eb r) := fun p _ k _ => (eqm_bits g).mono (eb_ge (by (first | lia | omega)))
  have one : ∀ {k : Nat}, Bits 1 (k + 1) := fun {k} => Nat.one_lt_two_pow (Nat.succ_ne_zero k)
  refine ⟨t, as, r, eqm r ds, 1, rfl, by (first | lia | omega), by (first | lia | omega), h1, hla, ht1, hb, by decide, one, fun H' s' => q _ H' (fun hc => ?_) ((bar_bits (by (first | lia | omega)) hb one).mono (by decide)) (s1.trans s')⟩
  rw [bar_one]
  exact dh_ne g.2.2 (comes_rch g.2.2 hc)
noncomputable abbrev n_choice_weight : List Str := ["house", "room", "end"]
theorem sc_choice_weight : FnScope ["house", "room", "end"] ["house", "room", "end"] (defScope sChoiceWeight) := ⟨rfl, rfl, rfl, by decide +kernel, rfl, by decide +kernel, by decide +kernel⟩
theorem ok_choice_weight {f f1 f2 f3 : Addr} {fd d1 d2 d3 : FuncData} (B : TB mg) (T : TC K mg C) (F : Fun K "choice_weight" "choice_weight" sChoiceWeight f fd) (c_check_room : Cal P w K mg base "check_room" 1 f1 d1 ["house", "room"] (spCheckRoom C cNoRoom)) (m_ends : CalM P w K mg base C "ends" 1 f2 d2 ["self"] (spEnds C))
    (c_solved_above : Cal P w K mg base "solved_above" 10 f3 d3 ["house", "room", "told"] (spSolved C)) : FnOk P w K mg base (CXR P w) 11 f fd ["house", "room", "end"] (spCW C cNoRoom) := by
  refine F.okX sc_choice_weight (fun vs H Q E h => ?_) (fun cdv A outer s H vs Q E hr h => ?_)
  · obtain ⟨p, r, l, xs, ds, z, y, rfl, _⟩ := h
    rfl
  obtain ⟨p, r, l, xs, ds, z, y, rfl, hh, hd, g, q0, q1⟩ := h
  have hr7 := g.1
  have nm : (flds (r : Int) l).lookup ("ends" : Str) = none := flds_no _ _ (by decide +kernel) (by decide +kernel)
  obtain ⟨⟨dx, hp⟩, hl⟩ := id hh
  refine ⟨_, (pss_cons (ps_expr (pe_call (c_check_room.up (by decide)) hr rfl c_check_room.m c_check_room.k c_check_room.b .nil (pass_up fnb_of lets_of) (pa_cons (pv 0) (pa_cons (pv 1) pa_nil))))
    (pss_cons (ps_expr (pe_call (c_check_room.up (by decide)) hr rfl c_check_room.m c_check_room.k c_check_room.b .nil (pass_up fnb_of lets_of) (pa_cons (pv 0) (pa_cons (pv 2) pa_nil))))
    (pss_cons (ps_if (pt_cmpR (op_notInK (K := K) rfl) (pv 2) (pe_meth0 (pv 0) T.cl m_ends.me (m_ends.up (by decide)) hr m_ends.b .nil (pass_up fnb_of lets_of)) rfl)
      (pss_one (ps_ret pe_int))
      pss_nil)
    (pss_one (ps_ret (pe_call (c_solved_above.up (by decide)) hr rfl c_solved_above.m c_solved_above.k c_solved_above.b .nil (pass_up fnb_of lets_of) (pa_cons (pv 0) (pa_cons (pv 1) (pa_cons (pe_comp2 (N' := ["other", "end"]) (ix := [none, some 2]) rfl (CompP2.sc (XN := n_choice_weight) (en := (defScope sChoiceWeight).names) ⟨rfl, by decide +kernel, by decide +kernel, by decide +kernel, by decide +kernel, by decide +kernel⟩ rfl rfl) (pi_range1 rfl B.range (pa_cons (pe_fldK (K := K) rfl (pv 0) rfl) pa_nil)) (fun _ _ _ _ => (pg_name (i := 0) (show (["other", "end"] : List Str).Nodup by decide +kernel) rfl (Or.inl rfl) (.inr rfl))) (fun _ _ _ _ => pif_nil) (fun _ _ _ _ => (pe_ifExp (pt_cmpR op_eq (pv 0) (pv 1) (nomark _)) pe_int pe_int))) pa_nil))))))))), ?_⟩
  refine ⟨_, rfl, _, rfl, p, r, l, xs, z, rfl, hh, fun hz => ?_, fun ng => q1 (fun z => ng z.1) H (Same.refl _)⟩
  refine ⟨_, rfl, _, rfl, p, r, l, xs, y, rfl, hh, fun hy => ?_, fun ng => q1 (fun z => ng z.2) H (Same.refl _)⟩
  have q2 := q0 hz hy
  refine ⟨_, rfl, _, rfl, p, dx, _, rfl, hp, nm, p, r, l, xs, ds, rfl, hh, hd, by (first | lia | omega), g.2.1, fun e H1 s1 ne he => ?_⟩
  refine ⟨e, _, rfl, .inl (SqL.of he), rfl, flat_ints _, _, rfl, ?_⟩
  refine ite2 (fun c => q2 _ H1 s1) (fun c => ?_)
  obtain ⟨⟨dx1, hp1⟩, hl1⟩ := hh.same s1
  refine ⟨_, rfl, _, rfl, _, rfl, p, C, dx1, _, _, rfl, hp1, T.cl, T.nR, flds_rooms _ _, r, rfl, by (first | lia | omega), by (first | lia | omega), unit_comp (by (first | lia | omega)) fun pc npc => ?_⟩
  have s2 := same_new npc (.lst (intsV ((List.range r).map fun k : Nat => if (k : Int) = y then (1 : Int) else 0)))
  refine ⟨p, r, l, xs, ds, z.toNat, pc, _, by rw [Int.toNat_of_nonneg hz.1]; rfl, hh.same (s1.trans s2), hd.mono (tups_same (s1.trans s2)), g, by (first | lia | omega), upd_same, fun k _ => unit_bits, fun x H' s' => q2 x H' (s1.trans (s2.trans s'))⟩
theorem sc_check_ending : FnScope ["house"] ["house"] (defScope sCheckEnding) := ⟨rfl, rfl, rfl, by decide +kernel, rfl, by decide +kernel, by decide +kernel⟩
theorem ok_check_ending {f f1 : Addr} {fd d1 : FuncData} (x_Unending : TX K mg "Unending" cUnending) (F : Fun K "check_ending" "check_ending" sCheckEnding f fd) (c_comes_to_end : Cal P w K mg base "comes_to_end" 2 f1 d1 ["house"] (spComes C)) : FnOk P w K mg base (CXR P w) 3 f fd ["house"] (spCheckEnding C cUnending) := by
  refine F.okX sc_check_ending (fun vs H Q E h => ?_) (fun cdv A outer s H vs Q E hr h => ?_)
  · obtain ⟨p, r, l, xs, ds, rfl, _⟩ := h
    rfl
  obtain ⟨p, r, l, xs, ds, rfl, hh, hd, g, q0, q1⟩ := h
  refine ⟨_, (pss_one (ps_if (pt_not (pt_val (pe_call (c_comes_to_end.up (by decide)) hr rfl c_comes_to_end.m c_comes_to_end.k c_comes_to_end.b .nil (pass_up fnb_of lets_of) (pa_cons (pv 0) pa_nil))))
      (pss_one (ps_raise fnb_of lets_of rfl x_Unending.m x_Unending.x))
      pss_nil)), ?_⟩
  refine ⟨_, rfl, p, r, l, xs, ds, rfl, hh, hd, g, fun H1 s1 => ?_⟩
  refine ⟨_, rfl, ite2 (fun c => ?_) (fun c => ?_)⟩
  · exact q1 (by simpa using c) H1 s1
  · exact q0 (by simpa using c) H1 s1
noncomputable abbrev n_end_shares : List Str := ["house", "room", "whole"]
theorem sc_end_shares : FnScope ["house", "room", "whole"] ["house", "room"] (defScope sEndShares) := ⟨rfl, rfl, rfl, by decide +kernel, rfl, by decide +kernel, by decide +kernel⟩
theorem ok_end_shares {f f1 f2 f3 f4 f5 : Addr} {fd d1 d2 d3 d4 d5 : FuncData} (B : TB mg) (T : TC K mg C) (F : Fun K "end_shares" "end_shares" sEndShares f fd) (c_check_room : Cal P w K mg base "check_room" 1 f1 d1 ["house", "room"] (spCheckRoom C cNoRoom)) (c_check_ending : Cal P w K mg base "check_ending" 3 f2 d2 ["house"] (spCheckEnding C cUnending))
    (c_weight : Cal P w K mg base "weight" 10 f3 d3 ["house"] (spWeight C)) (c_choice_weight : Cal P w K mg base "choice_weight" 11 f4 d4 ["house", "room", "end"] (spCW C cNoRoom)) (c_fraction : Cal P w K mg base "fraction" 2 f5 d5 ["above", "below"] (spFraction cNoFraction)) :
    FnOk P w K mg base (CXR P w) 12 f fd ["house", "room"] (spEndShares C cNoRoom cUnending) := by
  refine F.okX sc_end_shares (fun vs H Q E h => ?_) (fun cdv A outer s H vs Q E hr h => ?_)
  · obtain ⟨p, r, l, xs, ds, z, rfl, _⟩ := h
    rfl
  obtain ⟨p, r, l, xs, ds, z, rfl, hh, hd, g, q0, q1, q2⟩ := h
  have hr7 := g.1
  refine ⟨_, (pss_cons (ps_expr (pe_call (c_check_room.up (by decide)) hr rfl c_check_room.m c_check_room.k c_check_room.b .nil (pass_up fnb_of lets_of) (pa_cons (pv 0) (pa_cons (pv 1) pa_nil))))
    (pss_cons (ps_expr (pe_call (c_check_ending.up (by decide)) hr rfl c_check_ending.m c_check_ending.k c_check_ending.b .nil (pass_up fnb_of lets_of) (pa_cons (pv 0) pa_nil)))
    (pss_cons (ps_set (i := 2) sc_end_shares.nd rfl (Or.inr rfl) (pe_call (c_weight.up (by decide)) hr rfl c_weight.m c_weight.k c_weight.b .nil (pass_up fnb_of lets_of) (pa_cons (pv 0) pa_nil)))
    (pss_one (ps_ret (pe_comp2 (N' := ["end", "whole", "house", "room"]) (ix := [none, some 2, some 0, some 1]) rfl (CompP2.sc (XN := n_end_shares) (en := (defScope sEndShares).names) ⟨rfl, by decide +kernel, by decide +kernel, by decide +kernel, by decide +kernel, by decide +kernel⟩ rfl rfl) (pi_range1 rfl B.range (pa_cons (pe_fldK (K := K) rfl (pv 0) rfl) pa_nil)) (fun _ _ _ _ => (pg_name (i := 0) (show (["end", "whole", "house", "room"] : List Str).Nodup by decide +kernel) rfl (Or.inl rfl) (.inr rfl))) (fun _ _ _ _ => pif_nil) (fun _ _ _ _ => (pe_call (c_fraction.up (by decide)) hr rfl c_fraction.m c_fraction.k c_fraction.b .nil pass0R (pa_cons (pe_call (c_choice_weight.up (by decide)) hr rfl c_choice_weight.m c_choice_weight.k c_choice_weight.b .nil pass0R (pa_cons (pv 2) (pa_cons (pv 3) (pa_cons (pv 0) pa_nil)))) (pa_cons (pv 1) pa_nil)))))))))), ?_⟩
  refine ⟨_, rfl, _, rfl, p, r, l, xs, z, rfl, hh, fun hz => ?_, fun ng => q1 ng H (Same.refl _)⟩
  refine ⟨_, rfl, p, r, l, xs, ds, rfl, hh, hd, g, fun hc H1 s1 => ?_, fun hc => q2 hz hc⟩
  have rq := q0 hz hc
  refine ⟨_, rfl, p, r, l, xs, ds, rfl, hh.same s1, hd.mono (tups_same s1), g, fun d H2 ne hdb s2 => ?_⟩
  have s12 := s1.trans s2
  obtain ⟨⟨dx, hp⟩, hl⟩ := hh.same s12
  let J4 : Nat → List V → St → Hp → Prop := fun i ys σ H3 => Same H2 H3 ∧ ys.length = i ∧ ∃ v, σ = [v, some (.int d), some (.ref p), some (.int z)]
  refine ⟨_, rfl, p, C, dx, _, _, rfl, hp, T.cl, T.nR, flds_rooms _ _, r, rfl, by (first | lia | omega), by (first | lia | omega), comp_range (n := r) J4 ⟨Same.refl _, rfl, none, rfl⟩ ?_ ?_⟩
  · rintro i ys σ H3 hi ⟨s3, hq, v, rfl⟩
    have s13 := s12.trans s3
    refine ⟨small1000 (by (first | lia | omega)), nameYes ⟨_, rfl, _, rfl, _, rfl, p, r, l, xs, ds, _, _, rfl, hh.same s13, hd.mono (tups_same s13), g, fun _ _ x H4 s4 => ?_, fun ng => absurd ⟨hz, by (first | lia | omega), by (first | lia | omega)⟩ ng⟩⟩
    exact ⟨_, rfl, _, _, rfl, hdb, fun z0 => absurd z0 (ne hc), fun _ u H5 s5 => ⟨s3.trans (s4.trans s5), by rw [List.length_append, hq]; rfl, _, rfl⟩⟩
  · rintro ys σ H3 ⟨s3, hq, _⟩ pr npr
    exact rq pr _ (s12.trans (s3.trans (same_new npr _)))
noncomputable abbrev n_length : List Str := ["house", "room", "told"]
theorem sc_length : FnScope ["house", "room", "told"] ["house", "room"] (defScope sLength) := ⟨rfl, rfl, rfl, by decide +kernel, rfl, by decide +kernel, by decide +kernel⟩
theorem ok_length {f f1 f2 f3 f4 f5 f6 : Addr} {fd d1 d2 d3 d4 d5 d6 : FuncData} (B : TB mg) (F : Fun K "length" "length" sLength f fd) (c_check_room : Cal P w K mg base "check_room" 1 f1 d1 ["house", "room"] (spCheckRoom C cNoRoom)) (c_check_ending : Cal P w K mg base "check_ending" 3 f2 d2 ["house"] (spCheckEnding C cUnending))
    (c_weight : Cal P w K mg base "weight" 10 f3 d3 ["house"] (spWeight C)) (c_weight_table : Cal P w K mg base "weight_table" 1 f4 d4 ["house"] (spTable C)) (c_fraction : Cal P w K mg base "fraction" 2 f5 d5 ["above", "below"] (spFraction cNoFraction)) (c_solved_above : Cal P w K mg base "solved_above" 10 f6 d6 ["house", "room", "told"] (spSolved C)) :
    FnOk P w K mg base (CXR P w) 11 f fd ["house", "room"] (spLength C cNoRoom cUnending) := by
  refine F.okX sc_length (fun vs H Q E h => ?_) (fun cdv A outer s H vs Q E hr h => ?_)
  · obtain ⟨p, r, l, xs, ds, z, rfl, _⟩ := h
    rfl
  obtain ⟨p, r, l, xs, ds, z, rfl, hh, hd, g, q0, q1, q2⟩ := h
  have hr7 := g.1
  refine ⟨_, (pss_cons (ps_expr (pe_call (c_check_room.up (by decide)) hr rfl c_check_room.m c_check_room.k c_check_room.b .nil (pass_up fnb_of lets_of) (pa_cons (pv 0) (pa_cons (pv 1) pa_nil))))
    (pss_cons (ps_expr (pe_call (c_check_ending.up (by decide)) hr rfl c_check_ending.m c_check_ending.k c_check_ending.b .nil (pass_up fnb_of lets_of) (pa_cons (pv 0) pa_nil)))
    (pss_cons (ps_compL2 (j := 2) (N' := ["weights"]) (ix := [none]) sc_length.nd rfl (Or.inl rfl) (.inr rfl) rfl (CompP2.sc (XN := n_length) (en := (defScope sLength).names) ⟨rfl, by decide +kernel, by decide +kernel, by decide +kernel, by decide +kernel, by decide +kernel⟩ rfl rfl) (pi_listK (K := K) rfl (pe_call (c_weight_table.up (by decide)) hr rfl c_weight_table.m c_weight_table.k c_weight_table.b .nil (pass_up fnb_of lets_of) (pa_cons (pv 0) pa_nil))) (fun _ _ _ _ => (pg_name (i := 0) (show (["weights"] : List Str).Nodup by decide +kernel) rfl (Or.inl rfl) (.inr rfl))) (fun _ _ _ _ => pif_nil) (fun _ _ _ _ => (pe_callB (call_sum (K := K) rfl rfl) rfl B.sum bt_sum (pa_cons (pv 0) pa_nil))))
    (pss_one (ps_ret (pe_call (c_fraction.up (by decide)) hr rfl c_fraction.m c_fraction.k c_fraction.b .nil (pass_up fnb_of lets_of) (pa_cons (pe_call (c_solved_above.up (by decide)) hr rfl c_solved_above.m c_solved_above.k c_solved_above.b .nil (pass_up fnb_of lets_of) (pa_cons (pv 0) (pa_cons (pv 1) (pa_cons (pv 2) pa_nil)))) (pa_cons (pe_call (c_weight.up (by decide)) hr rfl c_weight.m c_weight.k c_weight.b .nil (pass_up fnb_of lets_of) (pa_cons (pv 0) pa_nil)) pa_nil)))))))), ?_⟩
  refine ⟨_, rfl, _, rfl, p, r, l, xs, z, rfl, hh, fun hz => ?_, fun ng => q1 ng H (Same.refl _)⟩
  refine ⟨_, rfl, p, r, l, xs, ds, rfl, hh, hd, g, fun hc H1 s1 => ?_, fun hc => q2 hz hc⟩
  have rq := q0 hz hc
  refine ⟨_, rfl, p, r, l, xs, ds, rfl, hh.same s1, hd.mono (tups_same s1), g, fun t as H2 s2 nt hn hla nta h2 ht2 => ?_⟩
  refine ⟨t, rfl, ⟨_, SqL.of h2⟩, sums_comp h2 hla (by (first | lia | omega)) ht2 fun pt npt => ?_⟩
  have s13 := s1.trans (s2.trans (same_new npt (.lst (intsV ((List.range r).map fun k : Nat => (outs r ds k).sum)))))
  refine ⟨_, rfl, _, rfl, _, rfl, p, r, l, xs, ds, z.toNat, pt, _, by rw [Int.toNat_of_nonneg hz.1]; rfl, hh.same s13, hd.mono (tups_same s13), g, by (first | lia | omega), upd_same, fun k _ => osum_bits g, fun x H4 s4 => ?_⟩
  have s14 := s13.trans s4
  refine ⟨_, rfl, p, r, l, xs, ds, rfl, hh.same s14, hd.mono (tups_same s14), g, fun d H5 ne hdb s5 => ?_⟩
  exact ⟨_, _, rfl, hdb, fun z0 => absurd z0 (ne hc), fun _ u H6 s6 => rq u H6 (s14.trans (s5.trans s6))⟩
theorem sc_visits : FnScope ["house", "one", "other", "told"] ["house", "one", "other"] (defScope sVisits) := ⟨rfl, rfl, rfl, by decide +kernel, rfl, by decide +kernel, by decide +kernel⟩
theorem ok_visits {f f1 f2 f3 f4 f5 f6 f7 : Addr} {fd d1 d2 d3 d4 d5 d6 d7 : FuncData} (B : TB mg) (T : TC K mg C) (x_IsEnd : TX K mg "IsEnd" cIsEnd) (F : Fun K "visits" "visits" sVisits f fd) (c_check_room : Cal P w K mg base "check_room" 1 f1 d1 ["house", "room"] (spCheckRoom C cNoRoom)) (c_check_ending : Cal P w K mg base "check_ending" 3 f2 d2 ["house"] (spCheckEnding C cUnending))
    (c_weight : Cal P w K mg base "weight" 10 f3 d3 ["house"] (spWeight C)) (c_weight_table : Cal P w K mg base "weight_table" 1 f4 d4 ["house"] (spTable C)) (c_fraction : Cal P w K mg base "fraction" 2 f5 d5 ["above", "below"] (spFraction cNoFraction)) (c_solved_above : Cal P w K mg base "solved_above" 10 f6 d6 ["house", "room", "told"] (spSolved C))
    (m_ends : CalM P w K mg base C "ends" 1 f7 d7 ["self"] (spEnds C)) : FnOk P w K mg base (CXR P w) 11 f fd ["house", "one", "other"] (spVisits C cNoRoom cUnending cIsEnd) := by
  refine F.okX sc_visits (fun vs H Q E h => ?_) (fun cdv A outer s H vs Q E hr h => ?_)
  · obtain ⟨p, r, l, xs, ds, z, y, rfl, _⟩ := h
    rfl
  obtain ⟨p, r, l, xs, ds, z, y, rfl, hh, hd, g, q0, q1, q2, q3⟩ := h
  have hr7 := g.1
  have nm : (flds (r : Int) l).lookup ("ends" : Str) = none := flds_no _ _ (by decide +kernel) (by decide +kernel)
  refine ⟨_, (pss_cons (ps_expr (pe_call (c_check_room.up (by decide)) hr rfl c_check_room.m c_check_room.k c_check_room.b .nil (pass_up fnb_of lets_of) (pa_cons (pv 0) (pa_cons (pv 1) pa_nil))))
    (pss_cons (ps_expr (pe_call (c_check_room.up (by decide)) hr rfl c_check_room.m c_check_room.k c_check_room.b .nil (pass_up fnb_of lets_of) (pa_cons (pv 0) (pa_cons (pv 2) pa_nil))))
    (pss_cons (ps_expr (pe_call (c_check_ending.up (by decide)) hr rfl c_check_ending.m c_check_ending.k c_check_ending.b .nil (pass_up fnb_of lets_of) (pa_cons (pv 0) pa_nil)))
    (pss_cons (ps_if (pt_cmpR (op_inK (K := K) rfl) (pv 2) (pe_meth0 (pv 0) T.cl m_ends.me (m_ends.up (by decide)) hr m_ends.b .nil (pass_up fnb_of lets_of)) rfl)
      (pss_one (ps_raise fnb_of lets_of rfl x_IsEnd.m x_IsEnd.x))
      pss_nil)
    (pss_cons (ps_set (i := 3) sc_visits.nd rfl (Or.inl rfl) (pe_op op_rep (pe_lst (pa_cons pe_int pa_nil)) (pe_fldK (K := K) rfl (pv 0) rfl)))
    (pss_cons (ps_asg (pe_callB (call_sum (K := K) rfl rfl) rfl B.sum bt_sum (pa_cons (pe_ix (ix_listK (K := K) rfl) (pe_call (c_weight_table.up (by decide)) hr rfl c_weight_table.m c_weight_table.k c_weight_table.b .nil (pass_up fnb_of lets_of) (pa_cons (pv 0) pa_nil)) (pv 2) (fun _ _ => rfl)) pa_nil)) (pg_sub (pv 3) (pv 2) set_list))
    (pss_one (ps_ret (pe_call (c_fraction.up (by decide)) hr rfl c_fraction.m c_fraction.k c_fraction.b .nil (pass_up fnb_of lets_of) (pa_cons (pe_call (c_solved_above.up (by decide)) hr rfl c_solved_above.m c_solved_above.k c_solved_above.b .nil (pass_up fnb_of lets_of) (pa_cons (pv 0) (pa_cons (pv 1) (pa_cons (pv 3) pa_nil)))) (pa_cons (pe_call (c_weight.up (by decide)) hr rfl c_weight.m c_weight.k c_weight.b .nil (pass_up fnb_of lets_of) (pa_cons (pv 0) pa_nil)) pa_nil))))))))))), ?_⟩
  refine ⟨_, rfl, _, rfl, p, r, l, xs, z, rfl, hh, fun hz => ?_, fun ng => q1 (fun z => ng z.1) H (Same.refl _)⟩
  refine ⟨_, rfl, _, rfl, p, r, l, xs, y, rfl, hh, fun hy => ?_, fun ng => q1 (fun z => ng z.2) H (Same.refl _)⟩
  refine ⟨_, rfl, p, r, l, xs, ds, rfl, hh, hd, g, fun hc H1 s1 => ?_, fun hc => q2 hz hy hc⟩
  obtain ⟨⟨dx, hp⟩, hl⟩ := hh.same s1
  refine ⟨_, rfl, _, rfl, p, dx, _, rfl, hp, nm, p, r, l, xs, ds, rfl, hh.same s1, hd.mono (tups_same s1), by (first | lia | omega), g.2.1, fun e H2 s2 ne he => ?_⟩
  refine ⟨e, _, rfl, .inl (SqL.of he), rfl, flat_ints _, _, rfl, ?_⟩
  rw [inV_ints]
  refine ite2 (fun c => ?_) (fun c => ?_)
  · exact q3 hz hy hc (of_decide_eq_true c) H2 (s1.trans s2)
  have rq := q0 hz hy hc (fun q => c (decide_eq_true q))
  have s12 := s1.trans s2
  obtain ⟨⟨dx2, hp2⟩, hl2⟩ := hh.same s12
  refine ⟨(by show 1 ≤ sizeLine; decide), fun l1 n1 => ?_⟩
  have s3 := same_new n1 (.lst [.int 0])
  refine ⟨_, rfl, p, C, dx2, _, _, rfl, s3 _ _ hp2, T.cl, T.nR, flds_rooms _ _, l1, _, _, rfl, rfl, upd_same, by (first | lia | omega), by omega, Nat.le_of_lt (small1000 (by show 1 * ((r : Nat) : Int).toNat ≤ 1000; (first | lia | omega))), fun p1 m1 => ?_⟩
  have e0 : (List.replicate ((r : Nat) : Int).toNat [V.int 0]).flatten = intsV ((List.range r).map fun _ => (0 : Int)) := by
    rw [show ((r : Nat) : Int).toNat = r by (first | lia | omega), flat_rep r]
    congr 1
    rw [List.map_const', List.length_range]
  rw [e0]
  have s4 := same_new m1 (.lst (intsV ((List.range r).map fun _ => (0 : Int))))
  have s14 := s12.trans (s3.trans s4)
  have np1 : H p1 = none := (s12.trans s3).free m1
  have hp1 := upd_same (H := upd H2 l1 (.lst [.int 0])) (a := p1) (o := .lst (intsV ((List.range r).map fun _ => (0 : Int))))
  generalize upd (upd H2 l1 (.lst [.int 0])) p1 (.lst (intsV ((List.range r).map fun _ => (0 : Int)))) = H4 at s14 hp1 ⊢
  refine ⟨_, rfl, p, r, l, xs, ds, rfl, hh.same s14, hd.mono (tups_same s14), g, fun t as H5 s5 nt hn hla nta h5 ht5 => ?_⟩
  obtain ⟨b, hb⟩ := get_some (as := as) (i := y.toNat) (by (first | lia | omega))
  refine ⟨_, rfl, t, _, _, _, rfl, rfl, SqL.of h5, atI_refs (by (first | lia | omega)) hb, b, _, rfl, SqL.of (ht5 _ _ hb), ?_⟩
  refine ⟨_, rfl, _, rfl, p1, _, _, _, rfl, rfl, s5 _ _ hp1, ixN_in (by (first | lia | omega)) (by simp; (first | lia | omega)), ?_⟩
  rw [set_ints]
  have hyn : y.toNat < r := by (first | lia | omega)
  have e6 := set_range (F := fun _ => (0 : Int)) (G := fun k => if k = y.toNat then (outs r ds y.toNat).sum else 0) hyn fun k _ ne => (if_neg ne).symm
  simp only [if_pos] at e6
  rw [e6]
  have s6 := same_upd_new (o := .lst (intsV ((List.range r).map fun k => if k = y.toNat then (outs r ds y.toNat).sum else 0))) (s14.trans s5) np1
  refine ⟨_, rfl, _, rfl, _, rfl, p, r, l, xs, ds, z.toNat, p1, _, by rw [Int.toNat_of_nonneg hz.1]; rfl, hh.same s6, hd.mono (tups_same s6), g, by (first | lia | omega), upd_same, fun k _ => ?_, fun x H7 s7 => ?_⟩
  · show Bits (if k = y.toNat then (outs r ds y.toNat).sum else 0) 58
    split
    · exact osum_bits g
    · unfold Bits; decide
  have s17 := s6.trans s7
  refine ⟨_, rfl, p, r, l, xs, ds, rfl, hh.same s17, hd.mono (tups_same s17), g, fun d H8 ne hdb s8 => ?_⟩
  exact ⟨_, _, rfl, hdb, fun z0 => absurd z0 (ne hc), fun _ u H9 s9 => rq u H9 (s17.trans (s8.trans s9))⟩
end
end Eh
namespace Eh
open PySem L2 Ek
inductive spStay (C : Addr) (vs : (List V)) (H : Hp) (Q : VK) (xu3 : XK) : Prop
  | mk (p : Addr) (r : Nat) (l : Addr) (xs : List V) (ds : List Dr) : (vs = [.ref p]) → (HouseAt C H p r l xs) → (DsAt H xs ds) → (Gd r ds) → (RetM H r (stw r ds) Q) → spStay C vs H Q xu3
inductive spCM (K : PySem.W.Frag) (vs : (List V)) (H : Hp) (Q : VK) (xu3 : XK) : Prop
  | mk (a : Addr) (ns : List Int) : (vs = [.ref a]) → (SqL K H a (intsV ns)) → (ns.length ≤ 7) → ((∀ n ∈ ns, 0 < n ∧ Bits n 57)) → (∀ m : Int, m ≠ 0 → Bits m 400 → Q (.int m) H) → spCM K vs H Q xu3
inductive spStepped (vs : (List V)) (H : Hp) (Q : VK) (xu3 : XK) : Prop
  | mk (a t : Addr) (as : List Addr) (r : Nat) (u : Nat → Int) (p : Nat → Nat → Int) : (vs = [.ref a, .ref t]) → (H a = some (.lst (intsV ((List.range r).map u)))) → (H t = some (.lst (refsV as))) → (as.length = r) → (r ≤ 7) → (Tab H as (fun y => (List.range r).map (p y))) → ((∀ y < r, Bits (u y) 4000 ∧ ∀ k < r, Bits (p y k) 4000)) → (RetL H ((List.range r).map fun k => ((List.range r).map fun y => u y * p y k).sum) Q) → spStepped vs H Q xu3
section
variable {P : Program} {w : World} {K : PySem.W.Frag} {mg : Str → Option Value} {base : Heap} {C cNoRoom cNoFraction : Addr}
theorem sc_staying_table : FnScope ["house", "table", "end"] ["house"] (defScope sStayingTable) := ⟨rfl, rfl, rfl, by decide +kernel, rfl, by decide +kernel, by decide +kernel⟩
theorem ok_staying_table {f f1 f2 : Addr} {fd d1 d2 : FuncData} (B : TB mg) (T : TC K mg C) (F : Fun K "staying_table" "staying_table" sStayingTable f fd) (c_weight_table : Cal P w K mg base "weight_table" 1 f1 d1 ["house"] (spTable C)) (m_ends : CalM P w K mg base C "ends" 1 f2 d2 ["self"] (spEnds C)) :
    FnOk P w K mg base (CXR P w) 2 f fd ["house"] (spStay C) := by
  refine F.okN sc_staying_table (fun vs H Q E h => ?_) (fun cdv A outer s H vs Q E hr h => ?_)
  · obtain ⟨p, r, l, xs, ds, rfl, _⟩ := h
    rfl
  obtain ⟨p, r, l, xs, ds, rfl, hh, hd, g, q⟩ := h
  have hr7 := g.1
  have nm : (flds (r : Int) l).lookup ("ends" : Str) = none := flds_no _ _ (by decide +kernel) (by decide +kernel)
  refine ⟨_, (pss_cons (ps_set (i := 1) sc_staying_table.nd rfl (Or.inl rfl) (pe_call (c_weight_table.up (by decide)) hr rfl c_weight_table.m c_weight_table.k c_weight_table.b .nil pass0R (pa_cons (pv 0) pa_nil)))
    (pss_cons (ps_for PassesOwn.never rfl (pi_listK (K := K) rfl (pe_meth0 (pv 0) T.cl m_ends.me (m_ends.up (by decide)) hr m_ends.b .nil pass0R)) (pg_name (i := 2) sc_staying_table.nd rfl (Or.inl rfl))
      (pss_one (ps_asg pe_int (pg_sub (pe_ix (ix_listK (K := K) rfl) (pv 1) (pv 2) (fun _ _ => rfl)) (pv 2) set_list))))
    (pss_one (ps_ret (pv 1))))), ?_⟩
  refine ⟨_, rfl, p, r, l, xs, ds, rfl, hh, hd, g, fun t as H1 s1 nt hn hla nta h1 ht1 => ?_⟩
  obtain ⟨⟨dx, hp⟩, hl⟩ := hh.same s1
  refine ⟨_, rfl, p, dx, _, rfl, hp, nm, p, r, l, xs, ds, rfl, hh.same s1, hd.mono (tups_same s1), by (first | lia | omega), g.2.1, fun e H2 s2 ne he => ?_⟩
  let J1 : Nat → St → Hp → Prop := fun i σ H3 => (∃ v, σ = [some (.ref p), some (.ref t), v]) ∧ Same H H3 ∧ H3 e = some (.lst (intsV (endsOf r ds))) ∧ H3 t = some (.lst (refsV as)) ∧ Tab H3 as (fun z => if (z : Int) ∈ (endsOf r ds).take i then (outs r ds z).set z 1 else outs r ds z)
  refine ⟨e, rfl, ⟨_, SqL.of he⟩, for_list (K := K) (a := e) (xs := intsV (endsOf r ds)) J1
    ⟨⟨_, rfl⟩, s1.trans s2, he, s2 _ _ h1, (ht1.same s2).congr fun i _ => by simp⟩ (fun i σ H3 _ ⟨_, _, h, _⟩ => SqL.of h) ?_ ?_⟩
  · rintro i x σ H3 hx ⟨⟨v, rfl⟩, s3, he3, h3, ht3⟩
    rw [intsV, List.getElem?_map] at hx
    cases hz : (endsOf r ds)[i]? with
    | none => rw [hz] at hx; cases hx
    | some z =>
      rw [hz] at hx
      cases hx
      obtain ⟨⟨z0, z1⟩, _⟩ := endsOf_mem.mp (List.mem_of_getElem? hz)
      obtain ⟨a, ha⟩ := get_some (as := as) (i := z.toNat) (by (first | lia | omega))
      have hra := ht3 _ _ ha
      have nea : e ≠ a := fun q => by
        subst q
        have := ht1 _ _ ha
        rw [ne] at this
        cases this
      have hlen : ∀ k : Nat, (if (k : Int) ∈ (endsOf r ds).take i then (outs r ds k).set k 1 else outs r ds k).length = r := fun k => by split <;> simp [outs_len]
      refine ⟨_, rfl, _, rfl, t, _, _, _, rfl, rfl, SqL.of h3, atI_refs z0 ha, _, rfl, a, _, _, _, rfl, rfl, hra, ixN_in z0 (by rw [List.length_map, hlen]; exact z1), ⟨_, rfl⟩, same_upd_new s3 (hn.2 a (mem_get ha)), ?_, ?_, ?_⟩
      · rw [upd_ne nea]; exact he3
      · rw [upd_ne (fun z => nta (by rw [z]; exact mem_get ha))]; exact h3
      · rw [set_ints]
        have e2 : ((fun z : Nat => if (z : Int) ∈ (endsOf r ds).take i then (outs r ds z).set z 1 else outs r ds z) z.toNat).set z.toNat 1 = (fun z : Nat => if (z : Int) ∈ (endsOf r ds).take (i + 1) then (outs r ds z).set z 1 else outs r ds z) z.toNat := by
          show (if ((z.toNat : Nat) : Int) ∈ (endsOf r ds).take i then (outs r ds z.toNat).set z.toNat 1 else outs r ds z.toNat).set z.toNat 1 = if ((z.toNat : Nat) : Int) ∈ (endsOf r ds).take (i + 1) then (outs r ds z.toNat).set z.toNat 1 else outs r ds z.toNat
          have e6 : ((z.toNat : Nat) : Int) ∈ (endsOf r ds).take (i + 1) := by rw [List.take_add_one, hz]; simp; (first | lia | omega)
          rw [if_pos e6]
          split
          · rw [List.set_set]
          · rfl
        rw [e2]
        refine Tab.set (rows' := fun z : Nat => if (z : Int) ∈ (endsOf r ds).take (i + 1) then (outs r ds z).set z 1 else outs r ds z) ht3 hn.1 ha fun k hk nk => ?_
        show _ = if (k : Int) ∈ (endsOf r ds).take (i + 1) then (outs r ds k).set k 1 else outs r ds k
        have e3 : ((k : Int) ∈ (endsOf r ds).take (i + 1)) ↔ ((k : Int) ∈ (endsOf r ds).take i) := by
          rw [List.take_add_one, hz]
          simp
          (first | lia | omega)
        simp only [e3]
  · rintro σ H3 ⟨⟨v, rfl⟩, s3, he3, h3, ht3⟩
    refine ⟨_, rfl, q t as H3 s3 nt hn hla nta h3 (ht3.congr fun i hi => ?_)⟩
    rw [List.length_map, List.take_length]
    unfold stw
    have := endsOf_in_iff (r := r) (ds := ds) (z := i) (by (first | lia | omega))
    simp only [this]
theorem sc_common_multiple : FnScope ["numbers", "multiple", "number"] ["numbers"] (defScope sCommonMultiple) := ⟨rfl, rfl, rfl, by decide +kernel, rfl, by decide +kernel, by decide +kernel⟩
theorem ok_common_multiple {f f1 : Addr} {fd d1 : FuncData} (F : Fun K "common_multiple" "common_multiple" sCommonMultiple f fd) (c_greatest_divisor : Cal P w K mg base "greatest_divisor" 1 f1 d1 ["one", "other"] spGcd) : FnOk P w K mg base (CXR P w) 2 f fd ["numbers"] (spCM K) := by
  refine F.okN sc_common_multiple (fun vs H Q E h => ?_) (fun cdv A outer s H vs Q E hr h => ?_)
  · obtain ⟨a, ns, rfl, _⟩ := h
    rfl
  obtain ⟨a, ns, rfl, ha, hl, hn, q⟩ := h
  refine ⟨_, (pss_cons (ps_set (i := 1) sc_common_multiple.nd rfl (Or.inl rfl) pe_int)
    (pss_cons (ps_for PassesOwn.never rfl (pi_listK (K := K) rfl (pv 0)) (pg_name (i := 2) sc_common_multiple.nd rfl (Or.inl rfl))
      (pss_one (ps_set (i := 1) sc_common_multiple.nd rfl (Or.inl rfl) (pe_op op_mulB (pe_op op_fdivB (pv 1) (pe_call (c_greatest_divisor.up (by decide)) hr rfl c_greatest_divisor.m c_greatest_divisor.k c_greatest_divisor.b .nil pass0R (pa_cons (pv 1) (pa_cons (pv 2) pa_nil)))) (pv 2)))))
    (pss_one (ps_ret (pv 1))))), ?_⟩
  let J2 : Nat → St → Hp → Prop := fun i σ H2 => H = H2 ∧ ∃ (m : Int) (v : Option V), σ = [some (.ref a), some (.int m), v] ∧ 0 < m ∧ Bits m (1 + 57 * i)
  refine ⟨_, rfl, a, rfl, ⟨_, ha⟩, for_list (K := K) (a := a) (xs := intsV ns) J2 ⟨rfl, _, _, rfl, by decide, by unfold Bits; decide⟩ (fun i σ H2 _ ⟨e, _⟩ => by rw [← e]; exact ha) ?_ ?_⟩
  · rintro i x σ H2 hx ⟨rfl, m, v, rfl, m0, mb⟩
    rw [intsV, List.getElem?_map] at hx
    cases hz : ns[i]? with
    | none => rw [hz] at hx; cases hx
    | some z =>
      rw [hz] at hx
      cases hx
      obtain ⟨n0, nb⟩ := hn z (List.mem_of_getElem? hz)
      have hi := (List.getElem?_eq_some_iff.mp hz).1
      have g0 : 0 < (Int.gcd m z : Int) := gcd_pos (by (first | lia | omega))
      have gb : Bits (Int.gcd m z : Int) 8999 := gcd_bits (by (first | lia | omega)) (nb.mono (by decide))
      have db : Bits (m.fdiv (Int.gcd m z : Int)) (1 + 57 * i) := fdiv_bits mb
      refine ⟨_, rfl, _, rfl, _, rfl, _, _, rfl, Int.le_of_lt m0, Int.le_of_lt n0, _, _, rfl, rfl, ⟨by (first | lia | omega), gb⟩, _, rfl, _, _, rfl, rfl, ⟨4000, by decide, db.mono (by (first | lia | omega)), nb.mono (by decide)⟩, rfl, _, _, rfl, ?_, (bits_mul db nb).mono (by (first | lia | omega))⟩
      rw [fdiv_pos_dvd g0]
      exact Int.mul_pos (Int.ediv_pos_of_pos_of_dvd m0 (Int.le_of_lt g0) (dvl m z)) n0
  · rintro σ H2 ⟨rfl, m, v, rfl, m0, mb⟩
    exact ⟨_, rfl, q m (by (first | lia | omega)) (mb.mono (by rw [List.length_map]; (first | lia | omega)))⟩
noncomputable abbrev n_stepped : List Str := ["standing", "parts"]
theorem sc_stepped : FnScope ["standing", "parts"] ["standing", "parts"] (defScope sStepped) := ⟨rfl, rfl, rfl, by decide +kernel, rfl, by decide +kernel, by decide +kernel⟩
theorem ok_stepped {f : Addr} {fd : FuncData} (B : TB mg) (F : Fun K "stepped" "stepped" sStepped f fd) : FnOk P w K mg base (CXR P w) 1 f fd ["standing", "parts"] spStepped := by
  refine F.okN sc_stepped (fun vs H Q E h => ?_) (fun cdv A outer s H vs Q E hr h => ?_)
  · obtain ⟨a, t, as, r, u, p, rfl, _⟩ := h
    rfl
  obtain ⟨a, t, as, r, u, p, rfl, ha, ht, hla, hr7, hta, hb, q⟩ := h
  refine ⟨_, (pss_one (ps_ret (pe_comp2 (N' := ["goal", "standing", "parts"]) (ix := [none, some 0, some 1]) rfl (CompP2.sc (XN := n_stepped) (en := (defScope sStepped).names) ⟨rfl, by decide +kernel, by decide +kernel, by decide +kernel, by decide +kernel, by decide +kernel⟩ rfl rfl) (pi_range1 rfl B.range (pa_cons (pe_callB (call_lenK (K := K) rfl) rfl B.len bt_len (pa_cons (pv 0) pa_nil)) pa_nil)) (fun _ _ _ _ => (pg_name (i := 0) (show (["goal", "standing", "parts"] : List Str).Nodup by decide +kernel) rfl (Or.inr rfl) (.inl rfl))) (fun _ _ _ _ => pif_nil) (fun _ _ _ _ => (pe_callB (call_sum (K := K) rfl rfl) rfl B.sum bt_sum (pa_cons (pe_comp2 (N' := ["share", "row", "goal"]) (ix := [none, none, some 0]) rfl (CompP2.scIn (XN := ["goal", "standing", "parts"]) ⟨rfl, by decide +kernel, by decide +kernel, by decide +kernel, by decide +kernel, by decide +kernel⟩ rfl rfl) (pi_zip (K := K) rfl rfl B.zip bt_zip (pa_cons (pv 1) (pa_cons (pv 2) pa_nil))) (fun _ _ _ _ => (pg_tupK (K := K) 2 rfl rfl (pgs_cons (pg_name (i := 0) (show (["share", "row", "goal"] : List Str).Nodup by decide +kernel) rfl (Or.inl rfl) (.inr rfl)) (pgs_cons (pg_name (i := 1) (show (["share", "row", "goal"] : List Str).Nodup by decide +kernel) rfl (Or.inl rfl) (.inr rfl)) pgs_nil)) rfl rfl)) (fun _ _ _ _ => pif_nil) (fun _ _ _ _ => (pe_op op_mulB (pv 0) (pe_ix (ix_listK (K := K) rfl) (pv 1) (pv 2) (fun _ _ => rfl))))) pa_nil)))))), ?_⟩
  let J3 : Nat → List V → St → Hp → Prop := fun i ys σ H2 => Same H H2 ∧ ys = intsV (((List.range r).map fun k => ((List.range r).map fun y => u y * p y k).sum).take i) ∧ ∃ v, σ = [v, some (.ref a), some (.ref t)]
  refine ⟨_, rfl, a, _, rfl, .inl (SqL.of ha), r, by rw [List.length_map, List.length_map, List.length_range], by (first | lia | omega), by (first | lia | omega), comp_range (n := r) J3
    ⟨Same.refl _, rfl, none, rfl⟩ ?_ ?_⟩
  · rintro i ys σ H2 hi ⟨s2, rfl, v, rfl⟩
    refine ⟨by rw [List.length_map, List.length_take]; exact small1000 (by omega), nameYes ?_⟩
    let J4 : Nat → List V → St → Hp → Prop := fun j ys σ H3 => Same H2 H3 ∧ ys = intsV (((List.range r).map fun y => u y * p y i).take j) ∧ ∃ v1 v2, σ = [v1, v2, some (.int (0 + (i : Int)))]
    refine ⟨_, rfl, _, rfl, a, t, rfl, ⟨_, SqL.of (s2 _ _ ha)⟩, ⟨_, SqL.of (s2 _ _ ht)⟩, comp_zip (K := K) (a := a) (b := t) (xs := intsV ((List.range r).map u)) (ws := refsV as) (by simp [hla]) J4
      ⟨Same.refl _, rfl, none, none, rfl⟩ (fun j ys σ H3 _ ⟨s3, _⟩ => ⟨SqL.of (s3 _ _ (s2 _ _ ha)), SqL.of (s3 _ _ (s2 _ _ ht))⟩) ?_ (by simp; exact small1000 (by (first | lia | omega))) (fun j ys σ H3 ⟨_, e, _⟩ => by rw [e, List.length_map, List.length_take]; (first | lia | omega)) ?_⟩
    · rintro j x y ys σ H3 pz hx hy ⟨s3, rfl, v1, v2, rfl⟩ npz
      obtain ⟨hj, rfl⟩ := ints_get hx
      obtain ⟨ra, hra, rfl⟩ := refs_get hy
      have s4 := same_new npz (.tup [.int (u j), .ref ra])
      have hrow := s4 _ _ (s3 _ _ (s2 _ _ (hta _ _ hra)))
      refine ⟨by rw [List.length_map, List.length_take]; exact small1000 (by (first | lia | omega)), pz, _, rfl, SqT.of upd_same, rfl, _, _, rfl, _, _, rfl, rfl, yesT ?_⟩
      refine ⟨_, rfl, _, rfl, _, rfl, ra, _, _, _, rfl, rfl, SqL.of hrow, by rw [Int.zero_add]; exact atI_row hi, _, _, rfl, rfl, ⟨4000, by decide, (hb j hj).1, (hb j hj).2 i hi⟩, s3.trans s4, ?_, _, _, rfl⟩
      rw [take_range hj, intsV, intsV, List.map_append]
      rfl
    · rintro ys σ H3 ⟨s3, rfl, _⟩ pl npl
      have s4 := same_new npl (.lst (intsV (((List.range r).map fun y => u y * p y i).take (intsV ((List.range r).map u)).length)))
      refine ⟨pl, _, rfl, SqL.of upd_same, s2.trans (s3.trans s4), ?_, _, rfl⟩
      rw [take_range hi, List.take_of_length_le (l := (List.range r).map fun y => u y * p y i) (by simp)]
      simp only [intsV, List.map_append]
      rfl
  · rintro ys σ H2 ⟨s2, rfl, _⟩ pr npr
    rw [List.take_of_length_le (by simp)]
    exact q pr _ (s2.trans (same_new npr _)) (s2.free npr) upd_same
noncomputable abbrev n_behind : List Str := ["house", "room", "steps", "table", "whole", "parts", "standing", "below", "step"]
theorem sc_behind : FnScope ["house", "room", "steps", "table", "whole", "parts", "standing", "below", "step"] ["house", "room", "steps"] (defScope sBehind) := ⟨rfl, rfl, rfl, by decide +kernel, rfl, by decide +kernel, by decide +kernel⟩
theorem ok_behind {f f1 f2 f3 f4 f5 : Addr} {fd d1 d2 d3 d4 d5 : FuncData} (B : TB mg) (T : TC K mg C) (F : Fun K "behind" "behind" sBehind f fd) (c_check_room : Cal P w K mg base "check_room" 1 f1 d1 ["house", "room"] (spCheckRoom C cNoRoom)) (c_staying_table : Cal P w K mg base "staying_table" 2 f2 d2 ["house"] (spStay C))
    (c_common_multiple : Cal P w K mg base "common_multiple" 2 f3 d3 ["numbers"] (spCM K)) (c_stepped : Cal P w K mg base "stepped" 1 f4 d4 ["standing", "parts"] spStepped) (c_fraction : Cal P w K mg base "fraction" 2 f5 d5 ["above", "below"] (spFraction cNoFraction)) :
    FnOk P w K mg base (CXR P w) 3 f fd ["house", "room", "steps"] (spBehind C cNoRoom) := by
  refine F.okX sc_behind (fun vs H Q E h => ?_) (fun cdv A outer s H vs Q E hr h => ?_)
  · obtain ⟨p, r, l, xs, ds, z, n, rfl, _⟩ := h
    rfl
  obtain ⟨p, r, l, xs, ds, z, n, rfl, hh, hd, g, hn8, q0, q1⟩ := h
  have hr7 := g.1
  refine ⟨_, (pss_cons (ps_expr (pe_call (c_check_room.up (by decide)) hr rfl c_check_room.m c_check_room.k c_check_room.b .nil (pass_up fnb_of lets_of) (pa_cons (pv 0) (pa_cons (pv 1) pa_nil))))
    (pss_cons (ps_set (i := 3) sc_behind.nd rfl (Or.inl rfl) (pe_call (c_staying_table.up (by decide)) hr rfl c_staying_table.m c_staying_table.k c_staying_table.b .nil (pass_up fnb_of lets_of) (pa_cons (pv 0) pa_nil)))
    (pss_cons (ps_set (i := 4) sc_behind.nd rfl (Or.inr rfl) (pe_call (c_common_multiple.up (by decide)) hr rfl c_common_multiple.m c_common_multiple.k c_common_multiple.b .nil (pass_up fnb_of lets_of) (pa_cons (pe_comp2 (N' := ["row"]) (ix := [none]) rfl (CompP2.sc (XN := n_behind) (en := (defScope sBehind).names) ⟨rfl, by decide +kernel, by decide +kernel, by decide +kernel, by decide +kernel, by decide +kernel⟩ rfl rfl) (pi_listK (K := K) rfl (pv 3)) (fun _ _ _ _ => (pg_name (i := 0) (show (["row"] : List Str).Nodup by decide +kernel) rfl (Or.inl rfl) (.inr rfl))) (fun _ _ _ _ => pif_nil) (fun _ _ _ _ => (pe_callB (call_sum (K := K) rfl rfl) rfl B.sum bt_sum (pa_cons (pv 0) pa_nil)))) pa_nil)))
    (pss_cons (ps_compL2 (j := 5) (N' := ["row", "whole"]) (ix := [none, some 4]) sc_behind.nd rfl (Or.inl rfl) (.inr rfl) rfl (CompP2.sc (XN := n_behind) (en := (defScope sBehind).names) ⟨rfl, by decide +kernel, by decide +kernel, by decide +kernel, by decide +kernel, by decide +kernel⟩ rfl rfl) (pi_listK (K := K) rfl (pv 3)) (fun _ _ _ _ => (pg_name (i := 0) (show (["row", "whole"] : List Str).Nodup by decide +kernel) rfl (Or.inr rfl) (.inl rfl))) (fun _ _ _ _ => pif_nil) (fun _ _ _ _ => (pe_comp2 (N' := ["part", "whole", "row"]) (ix := [none, some 1, some 0]) rfl (CompP2.scIn (XN := ["row", "whole"]) ⟨rfl, by decide +kernel, by decide +kernel, by decide +kernel, by decide +kernel, by decide +kernel⟩ rfl rfl) (pi_listK (K := K) rfl (pv 0)) (fun _ _ _ _ => (pg_name (i := 0) (show (["part", "whole", "row"] : List Str).Nodup by decide +kernel) rfl (Or.inl rfl) (.inr rfl))) (fun _ _ _ _ => pif_nil) (fun _ _ _ _ => (pe_op op_mulB (pv 0) (pe_op op_fdivB (pv 1) (pe_callB (call_sum (K := K) rfl rfl) rfl B.sum bt_sum (pa_cons (pv 2) pa_nil))))))))
    (pss_cons (ps_compL2 (j := 6) (N' := ["other", "room"]) (ix := [none, some 1]) sc_behind.nd rfl (Or.inl rfl) (.inr rfl) rfl (CompP2.sc (XN := n_behind) (en := (defScope sBehind).names) ⟨rfl, by decide +kernel, by decide +kernel, by decide +kernel, by decide +kernel, by decide +kernel⟩ rfl rfl) (pi_range1 rfl B.range (pa_cons (pe_fldK (K := K) rfl (pv 0) rfl) pa_nil)) (fun _ _ _ _ => (pg_name (i := 0) (show (["other", "room"] : List Str).Nodup by decide +kernel) rfl (Or.inl rfl) (.inr rfl))) (fun _ _ _ _ => pif_nil) (fun _ _ _ _ => (pe_ifExp (pt_cmpR op_eq (pv 0) (pv 1) (nomark _)) pe_int pe_int)))
    (pss_cons (ps_set (i := 7) sc_behind.nd rfl (Or.inr rfl) pe_int)
    (pss_cons (ps_for (Lets.own lets_of) rfl (pi_range1 rfl B.range (pa_cons (pv 2) pa_nil)) (pg_name (i := 8) sc_behind.nd rfl (Or.inl rfl))
      (pss_cons (ps_set (i := 6) sc_behind.nd rfl (Or.inl rfl) (pe_call (c_stepped.up (by decide)) hr rfl c_stepped.m c_stepped.k c_stepped.b .nil (pass_up fnb_of lets_of) (pa_cons (pv 6) (pa_cons (pv 5) pa_nil))))
      (pss_one (ps_set (i := 7) sc_behind.nd rfl (Or.inr rfl) (pe_op op_mulB (pv 7) (pv 4))))))
    (pss_one (ps_ret (pe_comp2 (N' := ["above", "below"]) (ix := [none, some 7]) rfl (CompP2.sc (XN := n_behind) (en := (defScope sBehind).names) ⟨rfl, by decide +kernel, by decide +kernel, by decide +kernel, by decide +kernel, by decide +kernel⟩ rfl rfl) (pi_listK (K := K) rfl (pv 6)) (fun _ _ _ _ => (pg_name (i := 0) (show (["above", "below"] : List Str).Nodup by decide +kernel) rfl (Or.inl rfl) (.inr rfl))) (fun _ _ _ _ => pif_nil) (fun _ _ _ _ => (pe_call (c_fraction.up (by decide)) hr rfl c_fraction.m c_fraction.k c_fraction.b .nil pass0R (pa_cons (pv 0) (pa_cons (pv 1) pa_nil)))))))))))))), ?_⟩
  refine ⟨_, rfl, _, rfl, p, r, l, xs, z, rfl, hh, fun hz => ?_, fun ng => q1 ng H (Same.refl _)⟩
  refine ⟨_, rfl, p, r, l, xs, ds, rfl, hh, hd, g, fun t as H1 s1 nt hn hla nta h1 ht1 => ?_⟩
  refine ⟨_, rfl, t, rfl, ⟨_, SqL.of h1⟩, sums_comp h1 hla (by (first | lia | omega)) ht1 fun pn npn => ?_⟩
  have s2 := same_new npn (.lst (intsV ((List.range r).map fun z => (stw r ds z).sum)))
  refine ⟨pn, _, rfl, SqL.of upd_same, by simp; (first | lia | omega), (fun n hn => by obtain ⟨z, hz, rfl⟩ := List.mem_map.mp hn; rw [stw_sum g.2.2 (List.mem_range.mp hz)]; exact ⟨W_pos, W_bits g⟩), fun w w0 wb => ?_⟩
  show (fun _ _ => _) _ _
  let J5 : Nat → List V → St → Hp → Prop := fun i ys σ H3 => ∃ bs : List Addr, ys = refsV bs ∧ bs.length = i ∧ Same H1 H3 ∧ Tab H3 bs (fun y => (List.range r).map (pI r ds w y)) ∧ ∃ v, σ = [v, some (.int w)]
  refine ⟨_, rfl, t, rfl, ⟨_, SqL.of (s2 _ _ h1)⟩, comp_list (K := K) (a := t) (xs := refsV as) J5
    ⟨[], rfl, rfl, s2, Tab.nil, none, rfl⟩ (fun i ys σ H3 _ ⟨_, _, _, s3, _⟩ => SqL.of (s3 _ _ h1)) ?_ ?_⟩
  · rintro i x ys σ H3 hx ⟨bs, rfl, hlb, s3, ht3, v, rfl⟩
    obtain ⟨a, ha, rfl⟩ := refs_get hx
    have hi : i < r := by have := (List.getElem?_eq_some_iff.mp ha).1; (first | lia | omega)
    have es := stw_sum g.2.2 hi
    have hrow := s3 _ _ (ht1 _ _ ha)
    rw [stw_range] at hrow es
    have W0 := W_pos (r := r) (ds := ds) (z := i)
    refine ⟨by rw [List.length_map]; exact small1000 (by (first | lia | omega)), nameYes ?_⟩
    let J6 : Nat → List V → St → Hp → Prop := fun j ys σ H4 => H3 = H4 ∧ ys = intsV (((List.range r).map (pI r ds w i)).take j) ∧ ∃ v, σ = [v, some (.int w), some (.ref a)]
    refine ⟨_, rfl, a, rfl, ⟨_, SqL.of hrow⟩, comp_list (K := K) (a := a) (xs := intsV ((List.range r).map (stI r ds i))) J6 ⟨rfl, rfl, none, rfl⟩ (fun j ys σ H4 _ ⟨e, _⟩ => by rw [← e]; exact SqL.of hrow) ?_ ?_⟩
    · rintro j x ys σ H4 hx ⟨rfl, rfl, v, rfl⟩
      obtain ⟨hj, rfl⟩ := ints_get hx
      refine ⟨by rw [List.length_map, List.length_take]; exact small1000 (by (first | lia | omega)), nameYes ⟨_, rfl, _, rfl, _, rfl, a, _, rfl, SqL.of hrow, ?_⟩⟩
      rw [es]
      refine ⟨_, _, rfl, rfl, ⟨by (first | lia | omega), (W_bits g).mono (by decide)⟩, _, _, rfl, rfl, ⟨4000, by decide, (stI_bits g hi).mono (by decide), (fdiv_bits wb).mono (by decide)⟩, rfl, ?_, _, rfl⟩
      rw [take_range hj, intsV, intsV, List.map_append]
      rfl
    · rintro ys σ H4 ⟨rfl, rfl, _⟩ pl npl
      have e5 : ((List.range r).map (pI r ds w i)).take (intsV ((List.range r).map (stI r ds i))).length = (List.range r).map (pI r ds w bs.length) := by
        rw [List.take_of_length_le (by simp), hlb]
      rw [e5]
      have s4 := same_new npl (.lst (intsV ((List.range r).map (pI r ds w bs.length))))
      exact ⟨bs ++ [pl], by rw [refsV, refsV, List.map_append]; rfl, by rw [List.length_append, hlb]; rfl, s3.trans s4, (ht3.same s4).snoc upd_same, _, rfl⟩
  rintro ys σ H3 ⟨bs, rfl, hlb, s3, ht3, _⟩ pp npp
  rw [List.length_map, hla] at hlb
  have s4 := same_new npp (.lst (refsV bs))
  obtain ⟨⟨dx, hp⟩, hl⟩ := hh.same (s1.trans (s3.trans s4))
  refine ⟨_, rfl, p, C, dx, _, _, rfl, hp, T.cl, T.nR, flds_rooms _ _, r, rfl, by (first | lia | omega), by (first | lia | omega), unit_comp (by (first | lia | omega)) fun ps nps => ?_⟩
  have s5 := same_new nps (.lst (intsV ((List.range r).map fun k : Nat => if (k : Int) = z then (1 : Int) else 0)))
  let J7 : Nat → St → Hp → Prop := fun i σ H6 => (∃ (a : Addr) (b : Int) (u : Nat → Int) (v : Option V), σ = [some (.ref p), some (.int z), some (.int n), some (.ref t), some (.int w), some (.ref pp), some (.ref a), some (.int b), v] ∧ H6 a = some (.lst (intsV ((List.range r).map u))) ∧ b ≠ 0 ∧ Bits b (1 + 400 * i) ∧ ∀ k < r, Bits (u k) (58 + 460 * i)) ∧ Same H H6 ∧ H6 pp = some (.lst (refsV bs)) ∧ Tab H6 bs (fun y => (List.range r).map (pI r ds w y))
  refine ⟨_, rfl, n, rfl, by (first | lia | omega), by (first | lia | omega), for_range (n := n) J7
    ⟨⟨ps, _, _, _, rfl, upd_same, by decide, by unfold Bits; decide, fun k _ => unit_bits⟩, s1.trans (s3.trans (s4.trans s5)), s5 _ _ upd_same, (ht3.same s4).same s5⟩ ?_ ?_⟩
  · rintro i σ H6 hi ⟨⟨a, b, u, v, rfl, ha, b0, bb, ub⟩, s6, hpp, ht6⟩
    refine ⟨_, rfl, _, rfl, a, pp, bs, r, _, _, rfl, ha, hpp, hlb, by (first | lia | omega), ht6, fun y hy => ⟨(ub y hy).mono (by (first | lia | omega)), fun k hk => (pI_bits g wb hy).mono (by decide)⟩, fun a2 H7 s7 na2 ha2 => ?_⟩
    refine ⟨_, rfl, _, rfl, _, _, rfl, rfl, ⟨4000, by decide, bb.mono (by (first | lia | omega)), wb.mono (by decide)⟩, ⟨a2, _, _, _, rfl, ha2, Int.mul_ne_zero b0 w0, (bits_mul bb wb).mono (by (first | lia | omega)), fun k hk => ?_⟩, s6.trans s7, s7 _ _ hpp, ht6.same s7⟩
    exact (sumr_bits (by (first | lia | omega)) fun y hy => bits_mul (ub y hy) (pI_bits g wb hy)).mono (by (first | lia | omega))
  · rintro σ H6 ⟨⟨a, b, u, v, rfl, ha, b0, bb, ub⟩, s6, hpp, ht6⟩
    refine ⟨_, rfl, a, rfl, ⟨_, SqL.of ha⟩, comp_list (K := K) (a := a) (xs := intsV ((List.range r).map u)) (fun i ys σ H7 => Same H6 H7 ∧ ys.length = i ∧ ∃ v, σ = [v, some (.int b)])
      ⟨Same.refl _, rfl, none, rfl⟩ (fun i ys σ H7 _ ⟨s7, _⟩ => SqL.of (s7 _ _ ha)) ?_ ?_⟩
    · rintro i x ys σ H7 hx ⟨s7, hq, v, rfl⟩
      obtain ⟨hi, rfl⟩ := ints_get hx
      exact ⟨small1000 (by (first | lia | omega)), nameYes ⟨_, rfl, _, rfl, _, _, rfl, bb.mono (by (first | lia | omega)), fun z0 => absurd z0 b0, fun _ u H8 s8 => ⟨s7.trans s8, by rw [List.length_append, hq]; rfl, _, rfl⟩⟩⟩
    · rintro ys σ H7 ⟨s7, hq, _⟩ pr npr
      exact q0 hz pr _ (s6.trans (s7.trans (same_new npr _)))
end
end Eh
namespace Eh
open PySem L2 Ek
noncomputable def duq (which : Int) (r : Nat) (ds : List Dr) (z y : Int) : Int :=
  if ¬ (0 ≤ z ∧ z < (r : Int)) then 1 else if (which = 2 ∨ which = 4) ∧ ¬ (0 ≤ y ∧ y < (r : Int)) then 1 else if which < 3 ∧ comesB r ds = false then 2 else if which = 2 ∧ y ∈ endsOf r ds then 3 else 0
inductive spCalled (C cN cU cI : Addr) (vs : (List V)) (H : Hp) (Q : VK) (E : XK) : Prop
  | mk (p : Addr) (r : Nat) (l : Addr) (xs : List V) (ds : List Dr) (which z y : Int) : (vs = [.int which, .ref p, .int z, .int y]) → (HouseAt C H p r l xs) → (DsAt H xs ds) → (Gd r ds) → (ds.length ≤ 20) → (0 ≤ which) → (which ≤ 4) → ((duq which r ds z y = 0 → ∀ H', Same H H' → Q .non H')) → ((duq which r ds z y = 1 → ∀ H', Same H H' → E (.ref cN) none H')) → ((duq which r ds z y = 2 → ∀ H', Same H H' → E (.ref cU) none H')) → ((duq which r ds z y = 3 → ∀ H', Same H H' → E (.ref cI) none H')) → spCalled C cN cU cI vs H Q E
inductive spTold (C : Addr) (vs : (List V)) (H : Hp) (Q : VK) (xu3 : XK) : Prop
  | mk (p : Addr) (r : Nat) (l : Addr) (xs : List V) (ds : List Dr) (which z y : Int) : (vs = [.int which, .ref p, .int z, .int y]) → (HouseAt C H p r l xs) → (DsAt H xs ds) → (Gd r ds) → (ds.length ≤ 20) → (0 ≤ which) → (which ≤ 4) → (∀ H', Same H H' → Q (.int (duq which r ds z y)) H') → spTold C vs H Q xu3
inductive spDue (vs : (List V)) (H : Hp) (Q : VK) (xu3 : XK) : Prop
  | mk (r : Nat) (l : Addr) (xs : List V) (ds : List Dr) (which z y : Int) : (vs = [.int which, .int r, .ref l, .int z, .int y]) → (H l = some (.lst xs)) → (DsAt H xs ds) → (Gd r ds) → (∀ H', Same H H' → Q (.int (duq which r ds z y)) H') → spDue vs H Q xu3
section
variable {which z y : Int} {r : Nat} {ds : List Dr}
theorem duq1 (h : ¬ (0 ≤ z ∧ z < (r : Int))) : duq which r ds z y = 1 := if_pos h
theorem duq1' (h1 : 0 ≤ z ∧ z < (r : Int)) (h2 : (which = 2 ∨ which = 4) ∧ ¬ (0 ≤ y ∧ y < (r : Int))) : duq which r ds z y = 1 := (if_neg (fun q => q h1)).trans (if_pos h2)
theorem duq2 (h1 : 0 ≤ z ∧ z < (r : Int)) (h2 : ¬ ((which = 2 ∨ which = 4) ∧ ¬ (0 ≤ y ∧ y < (r : Int)))) (h3 : which < 3 ∧ comesB r ds = false) : duq which r ds z y = 2 := (if_neg (fun q => q h1)).trans ((if_neg h2).trans (if_pos h3))
theorem duq3 (h1 : 0 ≤ z ∧ z < (r : Int)) (h2 : ¬ ((which = 2 ∨ which = 4) ∧ ¬ (0 ≤ y ∧ y < (r : Int)))) (h3 : ¬ (which < 3 ∧ comesB r ds = false)) (h4 : which = 2 ∧ y ∈ endsOf r ds) : duq which r ds z y = 3 := (if_neg (fun q => q h1)).trans ((if_neg h2).trans ((if_neg h3).trans (if_pos h4)))
theorem duq0 (h1 : 0 ≤ z ∧ z < (r : Int)) (h2 : ¬ ((which = 2 ∨ which = 4) ∧ ¬ (0 ≤ y ∧ y < (r : Int)))) (h3 : ¬ (which < 3 ∧ comesB r ds = false)) (h4 : ¬ (which = 2 ∧ y ∈ endsOf r ds)) : duq which r ds z y = 0 := (if_neg (fun q => q h1)).trans ((if_neg h2).trans ((if_neg h3).trans (if_neg h4)))
theorem duq1b (h0 : which = 2 ∨ which = 4) (h : ¬ ((0 ≤ z ∧ z < (r : Int)) ∧ (0 ≤ y ∧ y < (r : Int)))) : duq which r ds z y = 1 := by
  by_cases c : (0 ≤ z ∧ z < (r : Int))
  · exact duq1' c ⟨h0, fun q => h ⟨c, q⟩⟩
  · exact duq1 c
theorem ncome {c : Bool} {p : Prop} (h : c = true) : ¬ (p ∧ c = false) := fun q => nomatch h.symm.trans q.2
end
section
variable {P : Program} {w : World} {K : PySem.W.Frag} {mg : Str → Option Value} {base : Heap} {C cNoHouse cRoomError cNoFraction cIsEnd cNoRoom cNoTaking cUnending : Addr}
theorem sc_l_called : FnScope ["which", "house", "one", "other"] ["which", "house", "one", "other"] (defScope sLawCalled) := ⟨rfl, rfl, rfl, by decide +kernel, rfl, by decide +kernel, by decide +kernel⟩
theorem ok_l_called {f f1 f2 f3 f4 f5 : Addr} {fd d1 d2 d3 d4 d5 : FuncData} (F : Fun K "_law_called" "_law_called" sLawCalled f fd) (c_end_shares : Cal P w K mg base "end_shares" 12 f1 d1 ["house", "room"] (spEndShares C cNoRoom cUnending))
    (c_length : Cal P w K mg base "length" 11 f2 d2 ["house", "room"] (spLength C cNoRoom cUnending)) (c_visits : Cal P w K mg base "visits" 11 f3 d3 ["house", "one", "other"] (spVisits C cNoRoom cUnending cIsEnd))
    (c_behind : Cal P w K mg base "behind" 3 f4 d4 ["house", "room", "steps"] (spBehind C cNoRoom)) (c_choice_weight : Cal P w K mg base "choice_weight" 11 f5 d5 ["house", "room", "end"] (spCW C cNoRoom)) :
    FnOk P w K mg base (CXR P w) 13 f fd ["which", "house", "one", "other"] (spCalled C cNoRoom cUnending cIsEnd) := by
  refine F.okX sc_l_called (fun vs H Q E h => ?_) (fun cdv A outer s H vs Q E hr h => ?_)
  · obtain ⟨p, r, l, xs, ds, which, z, y, rfl, _⟩ := h
    rfl
  obtain ⟨p, r, l, xs, ds, which, z, y, rfl, hh, hd, g, hl20, w0, w4, q0, q1, q2, q3⟩ := h
  refine ⟨_, (pss_cut (ps_if (pt_cmpR op_eq (pv 0) pe_int (nomark _))
      (pss_one (ps_expr (pe_call (c_end_shares.up (by decide)) hr rfl c_end_shares.m c_end_shares.k c_end_shares.b .nil (pass_up fnb_of lets_of) (pa_cons (pv 1) (pa_cons (pv 2) pa_nil)))))
      pss_nil)
    (pss_cut (ps_if (pt_cmpR op_eq (pv 0) pe_int (nomark _))
      (pss_one (ps_expr (pe_call (c_length.up (by decide)) hr rfl c_length.m c_length.k c_length.b .nil (pass_up fnb_of lets_of) (pa_cons (pv 1) (pa_cons (pv 2) pa_nil)))))
      pss_nil)
    (pss_cut (ps_if (pt_cmpR op_eq (pv 0) pe_int (nomark _))
      (pss_one (ps_expr (pe_call (c_visits.up (by decide)) hr rfl c_visits.m c_visits.k c_visits.b .nil (pass_up fnb_of lets_of) (pa_cons (pv 1) (pa_cons (pv 2) (pa_cons (pv 3) pa_nil))))))
      pss_nil)
    (pss_cut (ps_if (pt_cmpR op_eq (pv 0) pe_int (nomark _))
      (pss_one (ps_expr (pe_call (c_behind.up (by decide)) hr rfl c_behind.m c_behind.k c_behind.b .nil (pass_up fnb_of lets_of) (pa_cons (pv 1) (pa_cons (pv 2) (pa_cons pe_int pa_nil))))))
      pss_nil)
    (pss_one (ps_if (pt_cmpR op_eq (pv 0) pe_int (nomark _))
      (pss_one (ps_expr (pe_call (c_choice_weight.up (by decide)) hr rfl c_choice_weight.m c_choice_weight.k c_choice_weight.b .nil (pass_up fnb_of lets_of) (pa_cons (pv 1) (pa_cons (pv 2) (pa_cons (pv 3) pa_nil))))))
      pss_nil)))))), ?_⟩
  let J1 : St → Hp → Prop := fun σ H2 => σ = [some (.int which), some (.ref p), some (.int z), some (.int y)] ∧ Same H H2 ∧ (which < 1 → duq which r ds z y = 0)
  refine ⟨J1, ?_, ?_⟩
  · refine ⟨_, rfl, rfl, _, rfl, ite2 (fun c => ?_) (fun c => ⟨rfl, Same.refl _, fun h => absurd (show which = 0 by (first | lia | omega)) (eqF c)⟩)⟩
    have c0 : which = 0 := eqT c
    subst c0
    refine ⟨_, rfl, _, rfl, p, r, l, xs, ds, z, rfl, hh, hd, g, fun hz hc q H3 s3 => ⟨rfl, s3, fun _ => duq0 hz (fun q => absurd q.1 (by decide)) (ncome hc) (fun q => absurd q.1 (by decide))⟩, fun nr => q1 (duq1 nr), fun inr nc => q2 (duq2 inr (fun q => absurd q.1 (by decide)) ⟨by decide, nc⟩)⟩
  rintro σ H2 ⟨rfl, s2, e2⟩
  let J2 : St → Hp → Prop := fun σ H2 => σ = [some (.int which), some (.ref p), some (.int z), some (.int y)] ∧ Same H H2 ∧ (which < 2 → duq which r ds z y = 0)
  refine ⟨J2, ?_, ?_⟩
  · refine ⟨_, rfl, rfl, _, rfl, ite2 (fun c => ?_) (fun c => ⟨rfl, s2, fun h => e2 (by have := eqF c; (first | lia | omega))⟩)⟩
    have c0 : which = 1 := eqT c
    subst c0
    refine ⟨_, rfl, _, rfl, p, r, l, xs, ds, z, rfl, hh.same s2, hd.mono (tups_same s2), g, fun hz hc q H3 s3 => ⟨rfl, s2.trans s3, fun _ => duq0 hz (fun q => absurd q.1 (by decide)) (ncome hc) (fun q => absurd q.1 (by decide))⟩, fun nr H' s' => q1 (duq1 nr) H' (s2.trans s'), fun inr nc H' s' => q2 (duq2 inr (fun q => absurd q.1 (by decide)) ⟨by decide, nc⟩) H' (s2.trans s')⟩
  clear e2 s2
  rintro σ H2 ⟨rfl, s2, e2⟩
  let J3 : St → Hp → Prop := fun σ H2 => σ = [some (.int which), some (.ref p), some (.int z), some (.int y)] ∧ Same H H2 ∧ (which < 3 → duq which r ds z y = 0)
  refine ⟨J3, ?_, ?_⟩
  · refine ⟨_, rfl, rfl, _, rfl, ite2 (fun c => ?_) (fun c => ⟨rfl, s2, fun h => e2 (by have := eqF c; (first | lia | omega))⟩)⟩
    have c0 : which = 2 := eqT c
    subst c0
    exact ⟨_, rfl, _, rfl, _, rfl, p, r, l, xs, ds, z, y, rfl, hh.same s2, hd.mono (tups_same s2), g, fun hz hy hc ne q H3 s3 => ⟨rfl, s2.trans s3, fun _ => duq0 hz (fun q => q.2 hy) (ncome hc) (fun q => ne q.2)⟩, fun nr H' s' => q1 (duq1b (.inl rfl) nr) H' (s2.trans s'), fun inr iny nc H' s' => q2 (duq2 inr (fun q => q.2 iny) ⟨by decide, nc⟩) H' (s2.trans s'), fun inr iny hc ie H' s' => q3 (duq3 inr (fun q => q.2 iny) (ncome hc) ⟨rfl, ie⟩) H' (s2.trans s')⟩
  clear e2 s2
  rintro σ H2 ⟨rfl, s2, e2⟩
  let J4 : St → Hp → Prop := fun σ H2 => σ = [some (.int which), some (.ref p), some (.int z), some (.int y)] ∧ Same H H2 ∧ (which < 4 → duq which r ds z y = 0)
  refine ⟨J4, ?_, ?_⟩
  · refine ⟨_, rfl, rfl, _, rfl, ite2 (fun c => ?_) (fun c => ⟨rfl, s2, fun h => e2 (by have := eqF c; (first | lia | omega))⟩)⟩
    have c0 : which = 3 := eqT c
    subst c0
    exact ⟨_, rfl, _, rfl, p, r, l, xs, ds, z, 2, rfl, hh.same s2, hd.mono (tups_same s2), g, by decide, fun hz q H3 s3 => ⟨rfl, s2.trans s3, fun _ => duq0 hz (fun q => absurd q.1 (by decide)) (fun q => absurd q.1 (by decide)) (fun q => absurd q.1 (by decide))⟩, fun nr H' s' => q1 (duq1 nr) H' (s2.trans s')⟩
  clear e2 s2
  rintro σ H2 ⟨rfl, s2, e2⟩
  refine ⟨_, rfl, rfl, _, rfl, ite2 (fun c => ?_) (fun c => q0 (e2 (by have := eqF c; (first | lia | omega))) H2 s2)⟩
  have c0 : which = 4 := eqT c
  subst c0
  exact ⟨_, rfl, _, rfl, _, rfl, p, r, l, xs, ds, z, y, rfl, hh.same s2, hd.mono (tups_same s2), g, fun hz hy x H3 s3 => q0 (duq0 hz (fun q => q.2 hy) (fun q => absurd q.1 (by decide)) (fun q => absurd q.1 (by decide))) H3 (s2.trans s3), fun nr H' s' => q1 (duq1b (.inr rfl) nr) H' (s2.trans s')⟩
theorem sc_l_told : FnScope ["which", "house", "one", "other", "e", "other_kind", "kinds"] ["which", "house", "one", "other"] (defScope sLawTold) := ⟨rfl, rfl, rfl, by decide +kernel, rfl, by decide +kernel, by decide +kernel⟩
theorem ok_l_told {f f1 : Addr} {fd d1 : FuncData} (B : TB mg) (F : Fun K "_law_told" "_law_told" sLawTold f fd) (c_l_called : Cal P w K mg base "_law_called" 13 f1 d1 ["which", "house", "one", "other"] (spCalled C cNoRoom cUnending cIsEnd))
    (x_RoomError : TN mg "RoomError" cRoomError) (x_IsEnd : TN mg "IsEnd" cIsEnd) (x_NoFraction : TN mg "NoFraction" cNoFraction) (x_NoRoom : TN mg "NoRoom" cNoRoom) (x_NoTaking : TN mg "NoTaking" cNoTaking) (x_Unending : TN mg "Unending" cUnending) (x_NoHouse : TN mg "NoHouse" cNoHouse)
    (E1 : TEx K cNoRoom cRoomError cNoFraction cIsEnd cNoHouse cNoRoom cNoTaking cUnending false false false true false false) (E2 : TEx K cUnending cRoomError cNoFraction cIsEnd cNoHouse cNoRoom cNoTaking cUnending false false false false false true)
    (E3 : TEx K cIsEnd cRoomError cNoFraction cIsEnd cNoHouse cNoRoom cNoTaking cUnending false true false false false false) : FnOk P w K mg base (CXR P w) 14 f fd ["which", "house", "one", "other"] (spTold C) := by
  refine F.okN sc_l_told (fun vs H Q E h => ?_) (fun cdv A outer s H vs Q E hr h => ?_)
  · obtain ⟨p, r, l, xs, ds, which, z, y, rfl, _⟩ := h
    rfl
  obtain ⟨p, r, l, xs, ds, which, z, y, rfl, hh, hd, g, hl20, w0, w4, k⟩ := h
  have fin : ∀ {n : Int}, duq which r ds z y = n → ∀ H', Same H H' → Q (.int n) H' := fun e => e ▸ k
  refine ⟨_, (pss_cons (ps_try (fnb_nox fnb_of) sc_l_told.nd (j := 4) rfl rfl rfl x_RoomError.m
      (fun pn E => (pss_one (ps_expr (pe_call (c_l_called.up (by decide)) hr rfl c_l_called.m c_l_called.k c_l_called.b .nil pass_try (pa_cons (pv 0) (pa_cons (pv 1) (pa_cons (pv 2) (pa_cons (pv 3) pa_nil))))))))
      (fun pn a => (pss_cons (ps_set (i := 5) sc_l_told.nd rfl (Or.inl rfl) (pe_or (pe_callB (call_isinstX (K := K) rfl) rfl B.isinstance bt_isinstance (pa_cons (pv 4) (pa_cons (pe_glob rfl x_NoFraction.m (v := .ref cNoFraction) rfl) pa_nil))) (pe_or (pe_callB (call_isinstX (K := K) rfl) rfl B.isinstance bt_isinstance (pa_cons (pv 4) (pa_cons (pe_glob rfl x_NoHouse.m (v := .ref cNoHouse) rfl) pa_nil))) (pe_one (pe_callB (call_isinstX (K := K) rfl) rfl B.isinstance bt_isinstance (pa_cons (pv 4) (pa_cons (pe_glob rfl x_NoTaking.m (v := .ref cNoTaking) rfl) pa_nil)))))))
      (pss_cons (ps_if (PW.pt (pw_or (pt_val (pv 5)) (pw_or1 (pt_not (pt_val (pe_callB (call_isinstX (K := K) rfl) rfl B.isinstance bt_isinstance (pa_cons (pv 4) (pa_cons (pe_bltn rfl B.ValueError bt_ValueError (v := .ty "ValueError") rfl) pa_nil))))))))
        (pss_one (ps_ret pe_int))
        pss_nil)
      (pss_cons (ps_set (i := 6) sc_l_told.nd rfl (Or.inl rfl) (pe_lst (pa_cons (pe_callB (call_isinstX (K := K) rfl) rfl B.isinstance bt_isinstance (pa_cons (pv 4) (pa_cons (pe_glob rfl x_NoRoom.m (v := .ref cNoRoom) rfl) pa_nil))) (pa_cons (pe_callB (call_isinstX (K := K) rfl) rfl B.isinstance bt_isinstance (pa_cons (pv 4) (pa_cons (pe_glob rfl x_Unending.m (v := .ref cUnending) rfl) pa_nil))) (pa_cons (pe_callB (call_isinstX (K := K) rfl) rfl B.isinstance bt_isinstance (pa_cons (pv 4) (pa_cons (pe_glob rfl x_IsEnd.m (v := .ref cIsEnd) rfl) pa_nil))) pa_nil)))))
      (pss_cons (ps_if (pt_cmpR op_ne (pe_bmK (K := K) rfl PySem.F.plainAttrs_list PySem.F.slot_list_count PySem.F.type_list_count mt_count (pv 6) (pa_cons pe_bl pa_nil)) pe_int (nomark _))
        (pss_one (ps_ret pe_int))
        pss_nil)
      (pss_one (ps_ret (pe_op op_add pe_int (pe_bmK (K := K) rfl PySem.F.plainAttrs_list PySem.F.slot_list_index PySem.F.type_list_index mt_index (pv 6) (pa_cons pe_bl pa_nil)))))))))))
    (pss_one (ps_ret pe_int))), ?_⟩
  refine ⟨_, rfl, _, rfl, _, rfl, _, rfl, p, r, l, xs, ds, which, z, y, rfl, hh, hd, g, hl20, w0, w4, fun d0 H' s' => fin d0 H' s', fun d1 H' s' => ⟨cNoRoom, rfl, E1.xR, fun e ne => ?_⟩, fun d2 H' s' => ⟨cUnending, rfl, E2.xR, fun e ne => ?_⟩, fun d3 H' s' => ⟨cIsEnd, rfl, E3.xR, fun e ne => ?_⟩⟩
  · refine ⟨_, rfl, e, _, _, cNoRoom, false, rfl, rfl, fun _ z => z, upd_same, E1.ec, E1.kF, false, rfl, iteF ⟨_, rfl, e, _, _, cNoRoom, false, rfl, rfl, fun _ z => z, upd_same, E1.ec, E1.kH, false, rfl, iteF ⟨_, rfl, e, _, _, cNoRoom, false, rfl, rfl, fun _ z => z, upd_same, E1.ec, E1.kT, ?_⟩⟩⟩
    refine ⟨_, rfl, false, rfl, iteF ⟨_, rfl, e, _, _, cNoRoom, true, rfl, rfl, fun _ z => z, upd_same, E1.ec, E1.kV, true, rfl, iteF ?_⟩⟩
    refine ⟨_, rfl, e, _, _, cNoRoom, true, rfl, rfl, fun _ z => z, upd_same, E1.ec, E1.kN, _, rfl, e, _, _, cNoRoom, false, rfl, rfl, fun _ z => z, upd_same, E1.ec, E1.kU, _, rfl, e, _, _, cNoRoom, false, rfl, rfl, fun _ z => z, upd_same, E1.ec, E1.kI, (by show 3 ≤ sizeLine; decide), fun lk nlk => ?_⟩
    refine ⟨_, rfl, .inl ⟨rfl, _, SqL.of upd_same⟩, lk, _, _, rfl, rfl, upd_same, rfl, rfl, rfl, _, rfl, iteF ?_⟩
    refine ⟨_, rfl, .inl ⟨rfl, _, SqL.of upd_same⟩, lk, _, _, 0, rfl, rfl, upd_same, rfl, rfl, (by show 3 < 1000; decide), ⟨_, rfl, rfl⟩, (fun m z hm => absurd hm (Nat.not_lt_zero m)), _, _, rfl, rfl, ?_⟩
    exact fin d1 _ ((s'.trans (same_new ne _)).trans (same_new nlk _))
  · refine ⟨_, rfl, e, _, _, cUnending, false, rfl, rfl, fun _ z => z, upd_same, E2.ec, E2.kF, false, rfl, iteF ⟨_, rfl, e, _, _, cUnending, false, rfl, rfl, fun _ z => z, upd_same, E2.ec, E2.kH, false, rfl, iteF ⟨_, rfl, e, _, _, cUnending, false, rfl, rfl, fun _ z => z, upd_same, E2.ec, E2.kT, ?_⟩⟩⟩
    refine ⟨_, rfl, false, rfl, iteF ⟨_, rfl, e, _, _, cUnending, true, rfl, rfl, fun _ z => z, upd_same, E2.ec, E2.kV, true, rfl, iteF ?_⟩⟩
    refine ⟨_, rfl, e, _, _, cUnending, false, rfl, rfl, fun _ z => z, upd_same, E2.ec, E2.kN, _, rfl, e, _, _, cUnending, true, rfl, rfl, fun _ z => z, upd_same, E2.ec, E2.kU, _, rfl, e, _, _, cUnending, false, rfl, rfl, fun _ z => z, upd_same, E2.ec, E2.kI, (by show 3 ≤ sizeLine; decide), fun lk nlk => ?_⟩
    refine ⟨_, rfl, .inl ⟨rfl, _, SqL.of upd_same⟩, lk, _, _, rfl, rfl, upd_same, rfl, rfl, rfl, _, rfl, iteF ?_⟩
    refine ⟨_, rfl, .inl ⟨rfl, _, SqL.of upd_same⟩, lk, _, _, 1, rfl, rfl, upd_same, rfl, rfl, (by show 3 < 1000; decide), ⟨_, rfl, rfl⟩, (fun m z hm hz => ?_), _, _, rfl, rfl, ?_⟩
    · have : m = 0 := by (first | lia | omega)
      subst this
      cases hz
      rfl
    · exact fin d2 _ ((s'.trans (same_new ne _)).trans (same_new nlk _))
  · refine ⟨_, rfl, e, _, _, cIsEnd, false, rfl, rfl, fun _ z => z, upd_same, E3.ec, E3.kF, false, rfl, iteF ⟨_, rfl, e, _, _, cIsEnd, false, rfl, rfl, fun _ z => z, upd_same, E3.ec, E3.kH, false, rfl, iteF ⟨_, rfl, e, _, _, cIsEnd, false, rfl, rfl, fun _ z => z, upd_same, E3.ec, E3.kT, ?_⟩⟩⟩
    refine ⟨_, rfl, false, rfl, iteF ⟨_, rfl, e, _, _, cIsEnd, true, rfl, rfl, fun _ z => z, upd_same, E3.ec, E3.kV, true, rfl, iteF ?_⟩⟩
    refine ⟨_, rfl, e, _, _, cIsEnd, false, rfl, rfl, fun _ z => z, upd_same, E3.ec, E3.kN, _, rfl, e, _, _, cIsEnd, false, rfl, rfl, fun _ z => z, upd_same, E3.ec, E3.kU, _, rfl, e, _, _, cIsEnd, true, rfl, rfl, fun _ z => z, upd_same, E3.ec, E3.kI, (by show 3 ≤ sizeLine; decide), fun lk nlk => ?_⟩
    refine ⟨_, rfl, .inl ⟨rfl, _, SqL.of upd_same⟩, lk, _, _, rfl, rfl, upd_same, rfl, rfl, rfl, _, rfl, iteF ?_⟩
    refine ⟨_, rfl, .inl ⟨rfl, _, SqL.of upd_same⟩, lk, _, _, 2, rfl, rfl, upd_same, rfl, rfl, (by show 3 < 1000; decide), ⟨_, rfl, rfl⟩, (fun m z hm hz => ?_), _, _, rfl, rfl, ?_⟩
    · have : m = 0 ∨ m = 1 := by (first | lia | omega)
      rcases this with rfl | rfl
      · cases hz
        rfl
      · cases hz
        rfl
    · exact fin d3 _ ((s'.trans (same_new ne _)).trans (same_new nlk _))
theorem sc_l_due : FnScope ["which", "rooms", "doors", "one", "other"] ["which", "rooms", "doors", "one", "other"] (defScope sLawDue) := ⟨rfl, rfl, rfl, by decide +kernel, rfl, by decide +kernel, by decide +kernel⟩
theorem ok_l_due {f f1 f2 : Addr} {fd d1 d2 : FuncData} (F : Fun K "_law_due" "_law_due" sLawDue f fd) (c_l_comes : Cal P w K mg base "_law_comes" 3 f1 d1 ["rooms", "doors"] spLComes) (c_l_ends : Cal P w K mg base "_law_ends" 2 f2 d2 ["rooms", "doors"] spLEnds) :
    FnOk P w K mg base (CXR P w) 4 f fd ["which", "rooms", "doors", "one", "other"] spDue := by
  refine F.okN sc_l_due (fun vs H Q E h => ?_) (fun cdv A outer s H vs Q E hr h => ?_)
  · obtain ⟨r, l, xs, ds, which, z, y, rfl, _⟩ := h
    rfl
  obtain ⟨r, l, xs, ds, which, z, y, rfl, hl, hd, g, k⟩ := h
  have hr7 := g.1
  refine ⟨_, (pss_cons (ps_if (pt_not (pt_chain op_le op_lt pe_int (pv 3) (pv 1)))
      (pss_one (ps_ret pe_int))
      pss_nil)
    (pss_cons (ps_if (pt_cut (PW.pt (pw_and (PW.pt (pw_or (pt_cmpR op_eq (pv 0) pe_int (nomark _)) (pw_or1 (pt_cmpR op_eq (pv 0) pe_int (nomark _))))) (pw_and1 (pt_not (pt_chain op_le op_lt pe_int (pv 4) (pv 1)))))))
      (pss_one (ps_ret pe_int))
      pss_nil)
    (pss_cons (ps_if (pt_cut (PW.pt (pw_and (pt_cmpR op_lt (pv 0) pe_int (nomark _)) (pw_and1 (pt_not (pt_val (pe_call (c_l_comes.up (by decide)) hr rfl c_l_comes.m c_l_comes.k c_l_comes.b .nil pass0R (pa_cons (pv 1) (pa_cons (pv 2) pa_nil)))))))))
      (pss_one (ps_ret pe_int))
      pss_nil)
    (pss_cons (ps_if (pt_cut (PW.pt (pw_and (pt_cmpR op_eq (pv 0) pe_int (nomark _)) (pw_and1 (pt_cmpR (op_inK (K := K) rfl) (pv 4) (pe_call (c_l_ends.up (by decide)) hr rfl c_l_ends.m c_l_ends.k c_l_ends.b .nil pass0R (pa_cons (pv 1) (pa_cons (pv 2) pa_nil))) rfl)))))
      (pss_one (ps_ret pe_int))
      pss_nil)
    (pss_one (ps_ret pe_int)))))), ?_⟩
  have fin : ∀ {n : Int}, duq which r ds z y = n → ∀ H', Same H H' → Q (.int n) H' := fun e => e ▸ k
  have one : ¬ (0 ≤ z ∧ z < (r : Int)) → Q (.int 1) H := fun h => fin (duq1 h) H (Same.refl _)
  refine ⟨_, rfl, _, _, rfl, rfl, _, rfl, ite2 (fun c => ?_) (fun c => ⟨_, rfl, iteT (one fun q => c (decide_eq_true q.1))⟩)⟩
  have c1 : 0 ≤ z := of_decide_eq_true c
  refine ⟨_, rfl, _, _, rfl, rfl, _, rfl, ite2 (fun c => one fun q => ndT c q.2) (fun c => ?_)⟩
  have c2 : z < (r : Int) := ndF c
  have inz : 0 ≤ z ∧ z < (r : Int) := ⟨c1, c2⟩
  refine ⟨fun b H2 => H = H2 ∧ b = decide ((which = 2 ∨ which = 4) ∧ ¬ (0 ≤ y ∧ y < (r : Int))), ?_, ?_⟩
  · have t : ∀ {b : Bool}, (b = true ↔ ((which = 2 ∨ which = 4) ∧ ¬ (0 ≤ y ∧ y < (r : Int)))) → b = decide ((which = 2 ∨ which = 4) ∧ ¬ (0 ≤ y ∧ y < (r : Int))) := fun h => by rw [Bool.eq_iff_iff, decide_eq_true_iff]; exact h
    have tail : (which = 2 ∨ which = 4) → (tNot (tTest (tChain (rI0 fun i j => V.bl (decide (i ≤ j))) (rI0 fun i j => V.bl (decide (i < j))) (tC (V.int 0)) (tVar 4) (tVar 1)))) [some (.int which), some (.int r), some (.ref l), some (.int z), some (.int y)] H (fun b H2 => H = H2 ∧ b = decide ((which = 2 ∨ which = 4) ∧ ¬ (0 ≤ y ∧ y < (r : Int)))) := fun hw => by
      refine ⟨_, rfl, _, _, rfl, rfl, _, rfl, ite2 (fun c => ?_) (fun c => ⟨_, rfl, rfl, t ⟨fun _ => ⟨hw, fun q => c (decide_eq_true q.1)⟩, fun _ => rfl⟩⟩)⟩
      have d1 : 0 ≤ y := of_decide_eq_true c
      refine ⟨_, rfl, _, _, rfl, rfl, _, rfl, rfl, t ⟨fun q => ⟨hw, fun p => ndT q p.2⟩, fun q => ?_⟩⟩
      by_cases p : y < (r : Int)
      · exact absurd ⟨d1, p⟩ q.2
      · show (!decide (y < (r : Int))) = true
        rw [decide_eq_false p]
        rfl
    refine ⟨_, rfl, rfl, _, rfl, ite2 (fun c => iteT (tail (.inl (eqT c)))) (fun c => ?_)⟩
    refine ⟨_, rfl, rfl, _, rfl, ite2 (fun c' => tail (.inr (eqT c'))) (fun c' => ⟨rfl, t ⟨(fun q => nomatch q), fun q => ?_⟩⟩)⟩
    rcases q.1 with q | q
    · exact absurd q (eqF c)
    · exact absurd q (eqF c')
  rintro b H2 ⟨rfl, rfl⟩
  refine ite2 (fun c => ?_) (fun c => ?_)
  · exact fin (duq1' inz (of_decide_eq_true c)) H (Same.refl _)
  have n2 := dF c
  refine ⟨fun b H2 => Same H H2 ∧ b = decide (which < 3 ∧ comesB r ds = false), ?_, ?_⟩
  · refine ⟨_, rfl, _, _, rfl, rfl, _, rfl, ite2 (fun c => ?_) (fun c => ⟨Same.refl _, by rw [decide_eq_false fun q => dF c q.1]⟩)⟩
    have w3 : which < 3 := of_decide_eq_true c
    refine ⟨_, rfl, _, rfl, r, l, xs, ds, rfl, hl, hd, g, fun H3 s3 => ⟨_, rfl, s3, ?_⟩⟩
    cases e : comesB r ds
    · rw [decide_eq_true ⟨w3, rfl⟩]; rfl
    · rw [decide_eq_false (by simp)]; rfl
  rintro b H2 ⟨s2, rfl⟩
  refine ite2 (fun c => ?_) (fun c => ?_)
  · exact fin (duq2 inz n2 (of_decide_eq_true c)) H2 s2
  have n3 := dF c
  refine ⟨fun b H3 => Same H H3 ∧ b = decide (which = 2 ∧ y ∈ endsOf r ds), ?_, ?_⟩
  · refine ⟨_, rfl, rfl, _, rfl, ite2 (fun c => ?_) (fun c => ⟨s2, by rw [decide_eq_false fun q => eqF c q.1]⟩)⟩
    have w2 : which = 2 := eqT c
    refine ⟨_, rfl, _, rfl, _, rfl, r, l, xs, ds, rfl, s2 _ _ hl, hd.mono (tups_same s2), by (first | lia | omega), fun d h => ⟨(g.2.2 d h).2.1, (g.2.2 d h).2.2.1⟩, fun qe H3 s3 nqe hqe => ⟨qe, _, rfl, .inl (SqL.of hqe), rfl, flat_ints _, _, rfl, s2.trans s3, ?_⟩⟩
    show inV (V.int y) (intsV (endsOf r ds)) = _
    rw [inV_ints, Bool.eq_iff_iff, decide_eq_true_iff, decide_eq_true_iff]
    exact ⟨fun q => ⟨w2, q⟩, fun q => q.2⟩
  rintro b H3 ⟨s3, rfl⟩
  refine ite2 (fun c => ?_) (fun c => ?_)
  · exact fin (duq3 inz n2 n3 (of_decide_eq_true c)) H3 s3
  · exact fin (duq0 inz n2 n3 (dF c)) H3 s3
theorem sc_law : FnScope ["script", "rooms", "doors", "house", "which", "one", "other"] ["script"] (defScope sLaw) := ⟨rfl, rfl, rfl, by decide +kernel, rfl, by decide +kernel, by decide +kernel⟩
theorem ok_law {f f1 f2 f3 f4 f5 : Addr} {fd d1 d2 d3 d4 d5 : FuncData} (B : TB mg) (T : TC K mg C) (F : Fun K "law" "law" sLaw f fd)
    (c_l_cell_at : Cal P w K mg base "_law_cell_at" 1 f1 d1 ["script", "k"] (spCell K)) (c_l_any_by : Cal P w K mg base "_law_any_by" 2 f2 d2 ["script", "most"] (spAnyBy K))
    (k_House : CalK P w K mg base C "House" 3 f3 d3 ["self", "rooms", "doors"] (spInit C cNoHouse)) (c_l_told : Cal P w K mg base "_law_told" 14 f4 d4 ["which", "house", "one", "other"] (spTold C))
    (c_l_due : Cal P w K mg base "_law_due" 4 f5 d5 ["which", "rooms", "doors", "one", "other"] spDue) :
    FnOk P w K mg base (CXR P w) 15 f fd ["script"] (spLaw K) := by
  refine F.okN sc_law (fun vs H Q E h => ?_) (fun cdv A outer s H vs Q E hr h => ?_)
  · obtain ⟨a, ns, rfl, _⟩ := h
    rfl
  obtain ⟨a, ns, rfl, hS, h63, k⟩ := h
  have hu := hu_of hr
  refine ⟨_, (pss_cons (ps_asg (pe_call (c_l_any_by.up (by decide)) hr rfl c_l_any_by.m c_l_any_by.k c_l_any_by.b .nil pass0R (pa_cons (pv 0) (pa_cons pe_int pa_nil))) (pg_tupK (K := K) 2 rfl rfl (pgs_cons (pg_name (i := 1) sc_law.nd rfl (Or.inl rfl)) (pgs_cons (pg_name (i := 2) sc_law.nd rfl (Or.inl rfl)) pgs_nil)) rfl rfl))
    (pss_cut (ps_set (i := 3) sc_law.nd rfl (Or.inl rfl) (pe_make k_House.km (k_House.up (by decide)) hr rfl k_House.m k_House.b .nil pass0R (pa_cons (pv 1) (pa_cons (pe_callTy (call_listK (K := K) rfl) rfl B.list bt_list (pa_cons (pv 2) pa_nil)) pa_nil))))
    (pss_cut (ps_set (i := 4) sc_law.nd rfl (Or.inl rfl) (pe_op op_mod (pe_call (c_l_cell_at.up (by decide)) hr rfl c_l_cell_at.m c_l_cell_at.k c_l_cell_at.b .nil pass0R (pa_cons (pv 0) (pa_cons pe_int pa_nil))) pe_int))
    (pss_cut (ps_set (i := 5) sc_law.nd rfl (Or.inl rfl) (pe_op op_mod (pe_call (c_l_cell_at.up (by decide)) hr rfl c_l_cell_at.m c_l_cell_at.k c_l_cell_at.b .nil pass0R (pa_cons (pv 0) (pa_cons pe_int pa_nil))) (pv 1)))
    (pss_cut (ps_set (i := 6) sc_law.nd rfl (Or.inl rfl) (pe_op op_mod (pe_call (c_l_cell_at.up (by decide)) hr rfl c_l_cell_at.m c_l_cell_at.k c_l_cell_at.b .nil pass0R (pa_cons (pv 0) (pa_cons pe_int pa_nil))) (pv 1)))
    (pss_cut (ps_if (pt_cmpR op_eq (pe_op op_mod (pe_call (c_l_cell_at.up (by decide)) hr rfl c_l_cell_at.m c_l_cell_at.k c_l_cell_at.b .nil pass0R (pa_cons (pv 0) (pa_cons pe_int pa_nil))) pe_int) pe_int (nomark _))
      (pss_one (ps_set (i := 5) sc_law.nd rfl (Or.inl rfl) (pe_ix (ix_listK (K := K) rfl) (pe_lst (pa_cons (pe_un un_neg pe_int) (pa_cons (pv 1) (pa_cons pe_int (pa_cons (pe_un un_neg pe_int) pa_nil))))) (pe_op op_mod (pe_call (c_l_cell_at.up (by decide)) hr rfl c_l_cell_at.m c_l_cell_at.k c_l_cell_at.b .nil pass0R (pa_cons (pv 0) (pa_cons pe_int pa_nil))) pe_int) (fun _ _ => rfl))))
      pss_nil)
    (pss_cut (ps_if (pt_cmpR op_eq (pe_op op_mod (pe_call (c_l_cell_at.up (by decide)) hr rfl c_l_cell_at.m c_l_cell_at.k c_l_cell_at.b .nil pass0R (pa_cons (pv 0) (pa_cons pe_int pa_nil))) pe_int) pe_int (nomark _))
      (pss_one (ps_set (i := 6) sc_law.nd rfl (Or.inl rfl) (pe_ix (ix_listK (K := K) rfl) (pe_lst (pa_cons (pe_un un_neg pe_int) (pa_cons (pv 1) (pa_cons pe_int (pa_cons (pe_un un_neg pe_int) pa_nil))))) (pe_op op_mod (pe_call (c_l_cell_at.up (by decide)) hr rfl c_l_cell_at.m c_l_cell_at.k c_l_cell_at.b .nil pass0R (pa_cons (pv 0) (pa_cons pe_int pa_nil))) pe_int) (fun _ _ => rfl))))
      pss_nil)
    (pss_cons (ps_if (pt_cmpR op_ne (pe_call (c_l_told.up (by decide)) hr rfl c_l_told.m c_l_told.k c_l_told.b .nil pass0R (pa_cons (pv 4) (pa_cons (pv 3) (pa_cons (pv 5) (pa_cons (pv 6) pa_nil))))) (pe_call (c_l_due.up (by decide)) hr rfl c_l_due.m c_l_due.k c_l_due.b .nil pass0R (pa_cons (pv 4) (pa_cons (pv 1) (pa_cons (pv 2) (pa_cons (pv 5) (pa_cons (pv 6) pa_nil)))))) (nomark _))
      (pss_one (ps_ret pe_bl))
      pss_nil)
    (pss_one (ps_ret (pe_and (pe_cmpR op_eq (pe_fldK (K := K) rfl (pv 3) rfl) (pv 1) (nomark _)) (pe_one (pe_cmpR (op_eqLT hu) (pe_fldK (K := K) rfl (pv 3) rfl) (pv 2) (nomark _)))))))))))))), ?_⟩
  refine ⟨_, rfl, a, ns, 7, rfl, hS, by decide, by decide, fun r p l xs ds H1 s1 np nl tp hl hd hr1 hr7 hlen hg => ⟨p, _, rfl, SqT.of tp, rfl, _, _, rfl, _, _, rfl, rfl, ?_⟩⟩
  have g : Gd r ds := ⟨⟨by (first | lia | omega), by (first | lia | omega)⟩, by (first | lia | omega), fun d h => (hg d h).1⟩
  let J5 : St → Hp → Prop := fun σ H4 => ∃ (x lh : Addr), σ = [some (.ref a), some (.int r), some (.ref l), some (.ref x), none, none, none] ∧ Same H H4 ∧ H4 l = some (.lst xs) ∧ DsAt H4 xs ds ∧ HouseAt C H4 x r lh xs
  refine ⟨J5, ?_, ?_⟩
  · refine ⟨_, rfl, _, rfl, l, xs, rfl, .inl (SqL.of hl), fun h nh => ?_⟩
    have s3 := same_new nh (.lst xs)
    intro x dx nx ndx _
    refine house_made nx ndx g upd_same (hd.mono (tups_same s3)) fun lh H4 s4 _ hh => ?_
    exact ⟨x, lh, rfl, (s1.trans s3).trans s4, s4 _ _ (s3 _ _ hl), hd.mono (tups_same (s3.trans s4)), hh⟩
  clear hd hl tp nl np s1
  rintro σ H4 ⟨x, lh, rfl, s4, hl4, hd4, hh⟩
  have hS4 := s4.seq hS
  let J6 : St → Hp → Prop := fun σ H5 => H4 = H5 ∧ ∃ wh : Int, 0 ≤ wh ∧ wh ≤ 4 ∧ σ = [some (.ref a), some (.int r), some (.ref l), some (.ref x), some (.int wh), none, none]
  refine ⟨J6, ?_, ?_⟩
  · refine ⟨_, rfl, a, ns, _, rfl, hS4, by decide, fun z => ⟨_, _, rfl, rfl, (by show (0 : Int) < 5; decide), rfl, _, ?_, ?_, rfl⟩⟩
    · show 0 ≤ z % 5; (first | lia | omega)
    · show z % 5 ≤ 4; (first | lia | omega)
  rintro σ _ ⟨rfl, wh, hw0, hw4, rfl⟩
  let J7 : St → Hp → Prop := fun σ H5 => H4 = H5 ∧ ∃ u : Int, σ = [some (.ref a), some (.int r), some (.ref l), some (.ref x), some (.int wh), some (.int u), none]
  refine ⟨J7, ?_, ?_⟩
  · exact ⟨_, rfl, a, ns, _, rfl, hS4, by decide, fun z => ⟨_, rfl, _, _, rfl, rfl, by show (0 : Int) < r; (first | lia | omega), rfl, _, rfl⟩⟩
  rintro σ _ ⟨rfl, u0, rfl⟩
  let J8 : St → Hp → Prop := fun σ H5 => H4 = H5 ∧ ∃ v : Int, σ = [some (.ref a), some (.int r), some (.ref l), some (.ref x), some (.int wh), some (.int u0), some (.int v)]
  refine ⟨J8, ?_, ?_⟩
  · exact ⟨_, rfl, a, ns, _, rfl, hS4, by decide, fun z => ⟨_, rfl, _, _, rfl, rfl, by show (0 : Int) < r; (first | lia | omega), rfl, _, rfl⟩⟩
  rintro σ _ ⟨rfl, v0, rfl⟩
  let J9 : St → Hp → Prop := fun σ H5 => Same H4 H5 ∧ ∃ u : Int, σ = [some (.ref a), some (.int r), some (.ref l), some (.ref x), some (.int wh), some (.int u), some (.int v0)]
  refine ⟨J9, ?_, ?_⟩
  · refine ⟨_, rfl, a, ns, _, rfl, hS4, by decide, fun z => ⟨_, _, rfl, rfl, (by show (0 : Int) < 5; decide), rfl, _, rfl, ite2 (fun c => ?_) (fun c => ⟨Same.refl _, _, rfl⟩)⟩⟩
    exact ⟨_, rfl, _, rfl, _, rfl, (by show 4 ≤ sizeLine; decide), fun l1 n1 => ⟨_, rfl, a, ns, _, rfl, (same_new n1 _).seq hS4, by decide, fun zc => ⟨_, _, rfl, rfl, (by show (0 : Int) < 4; decide), l1, _, _, _, rfl, rfl, SqL.of upd_same,
      atI_ints (zs := [-1, r, 100, -100]) (by (first | lia | omega)) (by show zc % 4 < 4; (first | lia | omega)), same_new n1 _, _, rfl⟩⟩⟩
  rintro σ H5 ⟨s5, u, rfl⟩
  let J10 : St → Hp → Prop := fun σ H6 => Same H4 H6 ∧ ∃ v : Int, σ = [some (.ref a), some (.int r), some (.ref l), some (.ref x), some (.int wh), some (.int u), some (.int v)]
  refine ⟨J10, ?_, ?_⟩
  · refine ⟨_, rfl, a, ns, _, rfl, s5.seq hS4, by decide, fun z => ⟨_, _, rfl, rfl, (by show (0 : Int) < 5; decide), rfl, _, rfl, ite2 (fun c => ?_) (fun c => ⟨s5, _, rfl⟩)⟩⟩
    exact ⟨_, rfl, _, rfl, _, rfl, (by show 4 ≤ sizeLine; decide), fun l1 n1 => ⟨_, rfl, a, ns, _, rfl, (s5.trans (same_new n1 _)).seq hS4, by decide, fun zc => ⟨_, _, rfl, rfl, (by show (0 : Int) < 4; decide), l1, _, _, _, rfl, rfl, SqL.of upd_same,
      atI_ints (zs := [-1, r, 100, -100]) (by (first | lia | omega)) (by show zc % 4 < 4; (first | lia | omega)), s5.trans (same_new n1 _), _, rfl⟩⟩⟩
  clear s5
  rintro σ H6 ⟨s6, v, rfl⟩
  refine ⟨_, rfl, _, rfl, _, rfl, _, rfl, x, r, lh, xs, ds, wh, u, v, rfl, hh.same s6, hd4.mono (tups_same s6), g, by (first | lia | omega), hw0, hw4, fun H7 s7 => ?_⟩
  have s67 := s6.trans s7
  refine ⟨_, rfl, _, rfl, _, rfl, _, rfl, _, rfl, r, l, xs, ds, wh, u, v, rfl, s67 _ _ hl4, hd4.mono (tups_same s67), g, fun H8 s8 => ⟨rfl, _, rfl, ifNF rfl ?_⟩⟩
  have s68 := s67.trans s8
  have hh8 := hh.same s68
  obtain ⟨⟨dx1, e3⟩, e4⟩ := id hh8
  have hd8 := hd4.mono (tups_same s68)
  refine ⟨_, rfl, x, C, dx1, _, _, rfl, e3, T.cl, T.nR, flds_rooms _ _, _, rfl, rfl, true, by rw [decide_eq_true rfl], iteT ?_⟩
  refine ⟨_, rfl, x, C, dx1, _, _, rfl, e3, T.cl, T.nD, flds_doors _ _, _, rfl, lh, l, xs, xs, _, _, rfl, rfl, SqL.of e4, SqL.of (s68 _ _ hl4), hd8.lstT, hd8.lstT, ?_⟩
  rw [decide_eq_true rfl]
  exact k _
end
end Eh
namespace Eh
open PySem L2
theorem all_mk {l : PySem.W.OpenLaw} {w : World} {K : PySem.W.Frag} {mg : Str → Option Value} {fa C f1 f2 f3 f4 f5 f6 f7 f8 f9 f10 f11 f12 f13 f14 f15 f16 f17 f18 f19 f20 f21 f22 f23 f24 f25 f26 f27 f28 f29 f30 f31 f32 cRoomError cNoFraction cNoHouse cNoRoom cUnending cIsEnd cNoTaking : Addr} {fd1 fd2 fd3 fd4 fd5 fd6 fd7 fd8 fd9 fd10 fd11 fd12 fd13 fd14 fd15 fd16 fd17 fd18 fd19 fd20 fd21 fd22 fd23 fd24 fd25 fd26 fd27 fd28 fd29 fd30 fd31 fd32 : FuncData} {dv23 : Value} (hfa : mg "law" = some (.ref fa))
    (aC : mg "House" = some (.ref C))
    (a1 : mg "greatest_divisor" = some (.ref f1))
    (F1 : Fun K "greatest_divisor" "greatest_divisor" sGreatestDivisor f1 fd1)
    (a2 : mg "check_door" = some (.ref f2))
    (F2 : Fun K "check_door" "check_door" sCheckDoor f2 fd2)
    (a3 : mg "check_room" = some (.ref f3))
    (F3 : Fun K "check_room" "check_room" sCheckRoom f3 fd3)
    (a4 : PySem.W.findIn K (.ref C) "ends" = some (some (.ref f4)))
    (i4 : PySem.W.isFn K (.ref f4) = true)
    (F4 : Fun K "ends" "House.ends" sEnds f4 fd4)
    (a5 : mg "weight_table" = some (.ref f5))
    (F5 : Fun K "weight_table" "weight_table" sWeightTable f5 fd5)
    (a6 : mg "cleared" = some (.ref f6))
    (F6 : Fun K "cleared" "cleared" sCleared f6 fd6)
    (a7 : mg "stepped" = some (.ref f7))
    (F7 : Fun K "stepped" "stepped" sStepped f7 fd7)
    (a8 : mg "_law_cell_at" = some (.ref f8))
    (F8 : Fun K "_law_cell_at" "_law_cell_at" sLawCellAt f8 fd8)
    (a9 : mg "_law_outs" = some (.ref f9))
    (F9 : Fun K "_law_outs" "_law_outs" sLawOuts f9 fd9)
    (a10 : mg "fraction" = some (.ref f10))
    (F10 : Fun K "fraction" "fraction" sFraction f10 fd10)
    (a11 : mg "check_house" = some (.ref f11))
    (F11 : Fun K "check_house" "check_house" sCheckHouse f11 fd11)
    (a12 : mg "comes_to_end" = some (.ref f12))
    (F12 : Fun K "comes_to_end" "comes_to_end" sComesToEnd f12 fd12)
    (a13 : mg "equation_rows" = some (.ref f13))
    (F13 : Fun K "equation_rows" "equation_rows" sEquationRows f13 fd13)
    (a14 : mg "common_multiple" = some (.ref f14))
    (F14 : Fun K "common_multiple" "common_multiple" sCommonMultiple f14 fd14)
    (a15 : mg "staying_table" = some (.ref f15))
    (F15 : Fun K "staying_table" "staying_table" sStayingTable f15 fd15)
    (a16 : mg "_law_any_by" = some (.ref f16))
    (F16 : Fun K "_law_any_by" "_law_any_by" sLawAnyBy f16 fd16)
    (a17 : mg "_law_ends" = some (.ref f17))
    (F17 : Fun K "_law_ends" "_law_ends" sLawEnds f17 fd17)
    (a18 : PySem.W.findIn K (.ref C) "__init__" = some (some (.ref f18)))
    (i18 : PySem.W.isFn K (.ref f18) = true)
    (F18 : Fun K "__init__" "House.__init__" sInit f18 fd18)
    (a19 : mg "check_ending" = some (.ref f19))
    (F19 : Fun K "check_ending" "check_ending" sCheckEnding f19 fd19)
    (a20 : mg "behind" = some (.ref f20))
    (F20 : Fun K "behind" "behind" sBehind f20 fd20)
    (a21 : mg "_law_comes" = some (.ref f21))
    (F21 : Fun K "_law_comes" "_law_comes" sLawComes f21 fd21)
    (a22 : mg "_law_due" = some (.ref f22))
    (F22 : Fun K "_law_due" "_law_due" sLawDue f22 fd22)
    (a23 : mg "determinant" = some (.ref f23))
    (F23 : FunD K "determinant" "determinant" sDeterminant f23 fd23 dv23)
    (vT23 : Vals [V.int 1] [dv23])
    (a24 : mg "solved_above" = some (.ref f24))
    (F24 : Fun K "solved_above" "solved_above" sSolvedAbove f24 fd24)
    (a25 : mg "weight" = some (.ref f25))
    (F25 : Fun K "weight" "weight" sWeight f25 fd25)
    (a26 : mg "choice_weight" = some (.ref f26))
    (F26 : Fun K "choice_weight" "choice_weight" sChoiceWeight f26 fd26)
    (a27 : mg "length" = some (.ref f27))
    (F27 : Fun K "length" "length" sLength f27 fd27)
    (a28 : mg "visits" = some (.ref f28))
    (F28 : Fun K "visits" "visits" sVisits f28 fd28)
    (a29 : mg "end_shares" = some (.ref f29))
    (F29 : Fun K "end_shares" "end_shares" sEndShares f29 fd29)
    (a30 : mg "_law_called" = some (.ref f30))
    (F30 : Fun K "_law_called" "_law_called" sLawCalled f30 fd30)
    (a31 : mg "_law_told" = some (.ref f31))
    (F31 : Fun K "_law_told" "_law_told" sLawTold f31 fd31)
    (a32 : mg "law" = some (.ref f32))
    (F32 : Fun K "law" "law" sLaw f32 fd32)
    (B : TB mg)
    (T : TC K mg C)
    (mk : PySem.W.makesIn K C = true)
    (kc : PySem.W.keepIn K (.ref C) = true)
    (tx_NoHouse : TX K mg "NoHouse" cNoHouse)
    (tx_NoFraction : TX K mg "NoFraction" cNoFraction)
    (tx_NoRoom : TX K mg "NoRoom" cNoRoom)
    (tx_Unending : TX K mg "Unending" cUnending)
    (tx_IsEnd : TX K mg "IsEnd" cIsEnd)
    (tn_RoomError : TN mg "RoomError" cRoomError)
    (tn_IsEnd : TN mg "IsEnd" cIsEnd)
    (tn_NoFraction : TN mg "NoFraction" cNoFraction)
    (tn_NoRoom : TN mg "NoRoom" cNoRoom)
    (tn_NoTaking : TN mg "NoTaking" cNoTaking)
    (tn_Unending : TN mg "Unending" cUnending)
    (tn_NoHouse : TN mg "NoHouse" cNoHouse)
    (te_cNoRoom : TEx K cNoRoom cRoomError cNoFraction cIsEnd cNoHouse cNoRoom cNoTaking cUnending false false false true false false)
    (te_cUnending : TEx K cUnending cRoomError cNoFraction cIsEnd cNoHouse cNoRoom cNoTaking cUnending false false false false false true)
    (te_cIsEnd : TEx K cIsEnd cRoomError cNoFraction cIsEnd cNoHouse cNoRoom cNoTaking cUnending false true false false false false) :
    ∃ fd : FuncData, (∀ (s : Shared) (v : Value), BindsTo s fd ⟨[v], []⟩ [("script", v)]) ∧ ∀ base : Heap, K.In base → base.Ns mainGlobals mg → FnOk l.prog w K mg base (CXR l.prog w) 15 fa fd ["script"] (spLaw K) := by
  have e := hfa.symm.trans a32
  cases e
  refine ⟨fd32, fun s v => by obtain ⟨_, _, _, _, _, _, _, _, _, rfl, _⟩ := F32.ex; exact .of_eq rfl, fun base _ _ => ?_⟩
  have c_greatest_divisor : Cal l.prog w K mg base "greatest_divisor" _ _ _ _ _ := ⟨ok_greatest_divisor (F := F1), F1.binds fun _ _ _ _ _ _ us hl => by obtain ⟨_, _, rfl⟩ := len2 hl; rfl, F1.kp, a1⟩
  have c_check_door : Cal l.prog w K mg base "check_door" _ _ _ _ _ := ⟨ok_check_door (x_NoHouse := tx_NoHouse) (F := F2), F2.binds fun _ _ _ _ _ _ us hl => by obtain ⟨_, _, rfl⟩ := len2 hl; rfl, F2.kp, a2⟩
  have c_check_room : Cal l.prog w K mg base "check_room" _ _ _ _ _ := ⟨ok_check_room (T := T) (x_NoRoom := tx_NoRoom) (F := F3), F3.binds fun _ _ _ _ _ _ us hl => by obtain ⟨_, _, rfl⟩ := len2 hl; rfl, F3.kp, a3⟩
  have m_ends : CalM l.prog w K mg base C "ends" _ _ _ _ _ := ⟨ok_ends (B := B) (T := T) (F := F4), F4.binds fun _ _ _ _ _ _ us hl => by obtain ⟨_, rfl⟩ := len1 hl; rfl, ⟨a4, i4, F4.kp⟩⟩
  have c_weight_table : Cal l.prog w K mg base "weight_table" _ _ _ _ _ := ⟨ok_weight_table (B := B) (T := T) (F := F5), F5.binds fun _ _ _ _ _ _ us hl => by obtain ⟨_, rfl⟩ := len1 hl; rfl, F5.kp, a5⟩
  have c_cleared : Cal l.prog w K mg base "cleared" _ _ _ _ _ := ⟨ok_cleared (B := B) (F := F6), F6.binds fun _ _ _ _ _ _ us hl => by obtain ⟨_, _, _, rfl⟩ := len3 hl; rfl, F6.kp, a6⟩
  have c_stepped : Cal l.prog w K mg base "stepped" _ _ _ _ _ := ⟨ok_stepped (B := B) (F := F7), F7.binds fun _ _ _ _ _ _ us hl => by obtain ⟨_, _, rfl⟩ := len2 hl; rfl, F7.kp, a7⟩
  have c_l_cell_at : Cal l.prog w K mg base "_law_cell_at" _ _ _ _ _ := ⟨ok_l_cell_at (B := B) (F := F8), F8.binds fun _ _ _ _ _ _ us hl => by obtain ⟨_, _, rfl⟩ := len2 hl; rfl, F8.kp, a8⟩
  have c_l_outs : Cal l.prog w K mg base "_law_outs" _ _ _ _ _ := ⟨ok_l_outs (B := B) (F := F9), F9.binds fun _ _ _ _ _ _ us hl => by obtain ⟨_, _, _, rfl⟩ := len3 hl; rfl, F9.kp, a9⟩
  have c_fraction : Cal l.prog w K mg base "fraction" _ _ _ _ _ := ⟨ok_fraction (B := B) (x_NoFraction := tx_NoFraction) (F := F10) (c_greatest_divisor := c_greatest_divisor), F10.binds fun _ _ _ _ _ _ us hl => by obtain ⟨_, _, rfl⟩ := len2 hl; rfl, F10.kp, a10⟩
  have c_check_house : Cal l.prog w K mg base "check_house" _ _ _ _ _ := ⟨ok_check_house (B := B) (x_NoHouse := tx_NoHouse) (F := F11) (c_check_door := c_check_door), F11.binds fun _ _ _ _ _ _ us hl => by obtain ⟨_, _, rfl⟩ := len2 hl; rfl, F11.kp, a11⟩
  have c_comes_to_end : Cal l.prog w K mg base "comes_to_end" _ _ _ _ _ := ⟨ok_comes_to_end (B := B) (T := T) (F := F12) (m_ends := m_ends), F12.binds fun _ _ _ _ _ _ us hl => by obtain ⟨_, rfl⟩ := len1 hl; rfl, F12.kp, a12⟩
  have c_equation_rows : Cal l.prog w K mg base "equation_rows" _ _ _ _ _ := ⟨ok_equation_rows (B := B) (F := F13) (c_weight_table := c_weight_table), F13.binds fun _ _ _ _ _ _ us hl => by obtain ⟨_, rfl⟩ := len1 hl; rfl, F13.kp, a13⟩
  have c_common_multiple : Cal l.prog w K mg base "common_multiple" _ _ _ _ _ := ⟨ok_common_multiple (F := F14) (c_greatest_divisor := c_greatest_divisor), F14.binds fun _ _ _ _ _ _ us hl => by obtain ⟨_, rfl⟩ := len1 hl; rfl, F14.kp, a14⟩
  have c_staying_table : Cal l.prog w K mg base "staying_table" _ _ _ _ _ := ⟨ok_staying_table (B := B) (T := T) (F := F15) (c_weight_table := c_weight_table) (m_ends := m_ends), F15.binds fun _ _ _ _ _ _ us hl => by obtain ⟨_, rfl⟩ := len1 hl; rfl, F15.kp, a15⟩
  have c_l_any_by : Cal l.prog w K mg base "_law_any_by" _ _ _ _ _ := ⟨ok_l_any_by (B := B) (F := F16) (c_l_cell_at := c_l_cell_at), F16.binds fun _ _ _ _ _ _ us hl => by obtain ⟨_, _, rfl⟩ := len2 hl; rfl, F16.kp, a16⟩
  have c_l_ends : Cal l.prog w K mg base "_law_ends" _ _ _ _ _ := ⟨ok_l_ends (B := B) (F := F17) (c_l_outs := c_l_outs), F17.binds fun _ _ _ _ _ _ us hl => by obtain ⟨_, _, rfl⟩ := len2 hl; rfl, F17.kp, a17⟩
  have k_House : CalK l.prog w K mg base C "House" _ _ _ _ _ := ⟨ok_init (B := B) (T := T) (F := F18) (c_check_house := c_check_house), F18.binds fun _ _ _ _ _ _ us hl => by obtain ⟨_, _, _, rfl⟩ := len3 hl; rfl, ⟨mk, a18, i18, kc⟩, aC⟩
  have c_check_ending : Cal l.prog w K mg base "check_ending" _ _ _ _ _ := ⟨ok_check_ending (x_Unending := tx_Unending) (F := F19) (c_comes_to_end := c_comes_to_end), F19.binds fun _ _ _ _ _ _ us hl => by obtain ⟨_, rfl⟩ := len1 hl; rfl, F19.kp, a19⟩
  have c_behind : Cal l.prog w K mg base "behind" _ _ _ _ _ := ⟨ok_behind (B := B) (T := T) (F := F20) (c_check_room := c_check_room) (c_staying_table := c_staying_table) (c_common_multiple := c_common_multiple) (c_stepped := c_stepped) (c_fraction := c_fraction), F20.binds fun _ _ _ _ _ _ us hl => by obtain ⟨_, _, _, rfl⟩ := len3 hl; rfl, F20.kp, a20⟩
  have c_l_comes : Cal l.prog w K mg base "_law_comes" _ _ _ _ _ := ⟨ok_l_comes (B := B) (F := F21) (c_l_ends := c_l_ends), F21.binds fun _ _ _ _ _ _ us hl => by obtain ⟨_, _, rfl⟩ := len2 hl; rfl, F21.kp, a21⟩
  have c_l_due : Cal l.prog w K mg base "_law_due" _ _ _ _ _ := ⟨ok_l_due (F := F22) (c_l_comes := c_l_comes) (c_l_ends := c_l_ends), F22.binds fun _ _ _ _ _ _ us hl => by obtain ⟨_, _, _, _, _, rfl⟩ := len5 hl; rfl, F22.kp, a22⟩
  have c_determinant : CalD l.prog w K mg base "determinant" _ _ _ _ _ _ _ := ⟨ok_determinant (B := B) (F := F23) (hm := a23) (c_cleared := c_cleared), F23.binds (ds := []) fun _ _ _ _ _ _ _ us hl => match us, hl with | [_, _], _ => ⟨_, rfl, rfl⟩, F23.binds (ds := [dv23]) fun _ _ _ _ _ _ _ us hl => match us, hl with | [], hl => absurd hl (by simp) | [_], _ => ⟨_, rfl, rfl⟩ | _ :: _ :: _, hl => absurd hl (by simp), vT23, F23.kp, a23⟩
  have c_solved_above : Cal l.prog w K mg base "solved_above" _ _ _ _ _ := ⟨ok_solved_above (B := B) (F := F24) (c_equation_rows := c_equation_rows) (c_determinant := c_determinant), F24.binds fun _ _ _ _ _ _ us hl => by obtain ⟨_, _, _, rfl⟩ := len3 hl; rfl, F24.kp, a24⟩
  have c_weight : Cal l.prog w K mg base "weight" _ _ _ _ _ := ⟨ok_weight (F := F25) (c_equation_rows := c_equation_rows) (c_determinant := c_determinant), F25.binds fun _ _ _ _ _ _ us hl => by obtain ⟨_, rfl⟩ := len1 hl; rfl, F25.kp, a25⟩
  have c_choice_weight : Cal l.prog w K mg base "choice_weight" _ _ _ _ _ := ⟨ok_choice_weight (B := B) (T := T) (F := F26) (c_check_room := c_check_room) (m_ends := m_ends) (c_solved_above := c_solved_above), F26.binds fun _ _ _ _ _ _ us hl => by obtain ⟨_, _, _, rfl⟩ := len3 hl; rfl, F26.kp, a26⟩
  have c_length : Cal l.prog w K mg base "length" _ _ _ _ _ := ⟨ok_length (B := B) (F := F27) (c_check_room := c_check_room) (c_check_ending := c_check_ending) (c_weight := c_weight) (c_weight_table := c_weight_table) (c_fraction := c_fraction) (c_solved_above := c_solved_above), F27.binds fun _ _ _ _ _ _ us hl => by obtain ⟨_, _, rfl⟩ := len2 hl; rfl, F27.kp, a27⟩
  have c_visits : Cal l.prog w K mg base "visits" _ _ _ _ _ := ⟨ok_visits (B := B) (T := T) (x_IsEnd := tx_IsEnd) (F := F28) (c_check_room := c_check_room) (c_check_ending := c_check_ending) (c_weight := c_weight) (c_weight_table := c_weight_table) (c_fraction := c_fraction) (c_solved_above := c_solved_above) (m_ends := m_ends), F28.binds fun _ _ _ _ _ _ us hl => by obtain ⟨_, _, _, rfl⟩ := len3 hl; rfl, F28.kp, a28⟩
  have c_end_shares : Cal l.prog w K mg base "end_shares" _ _ _ _ _ := ⟨ok_end_shares (B := B) (T := T) (F := F29) (c_check_room := c_check_room) (c_check_ending := c_check_ending) (c_weight := c_weight) (c_choice_weight := c_choice_weight) (c_fraction := c_fraction), F29.binds fun _ _ _ _ _ _ us hl => by obtain ⟨_, _, rfl⟩ := len2 hl; rfl, F29.kp, a29⟩
  have c_l_called : Cal l.prog w K mg base "_law_called" _ _ _ _ _ := ⟨ok_l_called (F := F30) (c_end_shares := c_end_shares) (c_length := c_length) (c_visits := c_visits) (c_behind := c_behind) (c_choice_weight := c_choice_weight), F30.binds fun _ _ _ _ _ _ us hl => by obtain ⟨_, _, _, _, rfl⟩ := len4 hl; rfl, F30.kp, a30⟩
  have c_l_told : Cal l.prog w K mg base "_law_told" _ _ _ _ _ := ⟨ok_l_told (B := B) (F := F31) (c_l_called := c_l_called) (x_RoomError := tn_RoomError) (x_IsEnd := tn_IsEnd) (x_NoFraction := tn_NoFraction) (x_NoRoom := tn_NoRoom) (x_NoTaking := tn_NoTaking) (x_Unending := tn_Unending) (x_NoHouse := tn_NoHouse) (E1 := te_cNoRoom) (E2 := te_cUnending) (E3 := te_cIsEnd), F31.binds fun _ _ _ _ _ _ us hl => by obtain ⟨_, _, _, _, rfl⟩ := len4 hl; rfl, F31.kp, a31⟩
  exact ok_law (B := B) (T := T) (F := F32) (c_l_cell_at := c_l_cell_at) (c_l_any_by := c_l_any_by) (k_House := k_House) (c_l_told := c_l_told) (c_l_due := c_l_due)
theorem walk {l : PySem.W.OpenLaw} {q : Program} {loose : List Str} {XP : (Str → Option Value) → Heap → Prop} {YP : World → Heap → Prop} {d : DefRec} {K : Params → PySem.W.Frag} (hn : l.most = some 63) (hdf : d.params.defaults = [])
    (hY : ∀ (w : World) (h : Heap), YP w h → (K w.params).In h)
    (F : ∀ (w : World) (mg : Str → Option Value) (fa : Addr) (h : Heap), (K w.params).In h → h.Ns mainGlobals mg → mg d.name = some (.ref fa) →
      ∃ fd : FuncData, (∀ (s : Shared) (u : Value), BindsTo s fd ⟨[u], []⟩ [("script", u)]) ∧ ∀ base : Heap, (K w.params).In base → base.Ns mainGlobals mg → FnOk l.prog w (K w.params) mg base (CXR l.prog w) 15 fa fd ["script"] (spLaw (K w.params))) :
    PySem.W.WalkO q loose XP YP l.row.toRowW d [] (fun f vs => PySem.call f vs) :=
  L2.walk_of (n := 63) (k := 15) (x := "script") (CX := fun w => CXR l.prog w) (sp := fun w => spLaw (K w.params)) hn (by decide) hdf ⟨rfl, by decide, by decide⟩ hY F (fun _ _ a ns hl _ hS => ⟨a, ns, rfl, hS, hl, fun _ => rfl⟩) fun _ _ _ _ _ z => by
    obtain ⟨_, _, _, _, _, _, _, _, _, _, _, q⟩ := z
    exact q
end Eh
open PySem PySem.W PyProof.Rows
set_option maxRecDepth 100000 in
set_option maxHeartbeats 0 in
theorem PySem.Challenge.cw_endrooms_k12_walks_refused_holds : PySem.Challenge.rw_endrooms_k12_walks_refused.Holds := by
  w_on; o_law; k_head; (case hw => w_witness2)
  k_fill
  refine Eh.walk (l := PySem.Challenge.rw_endrooms_k12_walks_refused) rfl rfl (fun w h Y => PySem.W.kIn_of Y) ?F
  case F =>
    intro w mg fa h KX G hmg
    refine' Eh.all_mk hmg ?aC ?a1 ?F1 ?a2 ?F2 ?a3 ?F3 ?a4 ?i4 ?F4 ?a5 ?F5 ?a6 ?F6 ?a7 ?F7 ?a8 ?F8 ?a9 ?F9 ?a10 ?F10 ?a11 ?F11 ?a12 ?F12 ?a13 ?F13 ?a14 ?F14 ?a15 ?F15 ?a16 ?F16 ?a17 ?F17 ?a18 ?i18 ?F18 ?a19 ?F19 ?a20 ?F20 ?a21 ?F21 ?a22 ?F22 ?a23 ?F23 ?vT23 ?a24 ?F24 ?a25 ?F25 ?a26 ?F26 ?a27 ?F27 ?a28 ?F28 ?a29 ?F29 ?a30 ?F30 ?a31 ?F31 ?a32 ?F32 ?B ?T ?mk ?kc ?tx_NoHouse ?tx_NoFraction ?tx_NoRoom ?tx_Unending ?tx_IsEnd ?tn_RoomError ?tn_IsEnd ?tn_NoFraction ?tn_NoRoom ?tn_NoTaking ?tn_Unending ?tn_NoHouse ?te_cNoRoom ?te_cUnending ?te_cIsEnd
    (case aC => refine PySem.W.mg_of KX G ?_; k_is)
    (case a1 => refine PySem.W.mg_of KX G ?_; k_is)
    (case F1 => refine' L2.fun_mk ?l ?c ?k; (case l => k_is); (case c => k_is); (case k => k_is))
    (case a2 => refine PySem.W.mg_of KX G ?_; k_is)
    (case F2 => refine' L2.fun_mk ?l ?c ?k; (case l => k_is); (case c => k_is); (case k => k_is))
    (case a3 => refine PySem.W.mg_of KX G ?_; k_is)
    (case F3 => refine' L2.fun_mk ?l ?c ?k; (case l => k_is); (case c => k_is); (case k => k_is))
    (case a4 => k_is)
    (case i4 => k_is)
    (case F4 => refine' L2.fun_mk ?l ?c ?k; (case l => k_is); (case c => k_is); (case k => k_is))
    (case a5 => refine PySem.W.mg_of KX G ?_; k_is)
    (case F5 => refine' L2.fun_mk ?l ?c ?k; (case l => k_is); (case c => k_is); (case k => k_is))
    (case a6 => refine PySem.W.mg_of KX G ?_; k_is)
    (case F6 => refine' L2.fun_mk ?l ?c ?k; (case l => k_is); (case c => k_is); (case k => k_is))
    (case a7 => refine PySem.W.mg_of KX G ?_; k_is)
    (case F7 => refine' L2.fun_mk ?l ?c ?k; (case l => k_is); (case c => k_is); (case k => k_is))
    (case a8 => refine PySem.W.mg_of KX G ?_; k_is)
    (case F8 => refine' L2.fun_mk ?l ?c ?k; (case l => k_is); (case c => k_is); (case k => k_is))
    (case a9 => refine PySem.W.mg_of KX G ?_; k_is)
    (case F9 => refine' L2.fun_mk ?l ?c ?k; (case l => k_is); (case c => k_is); (case k => k_is))
    (case a10 => refine PySem.W.mg_of KX G ?_; k_is)
    (case F10 => refine' L2.fun_mk ?l ?c ?k; (case l => k_is); (case c => k_is); (case k => k_is))
    (case a11 => refine PySem.W.mg_of KX G ?_; k_is)
    (case F11 => refine' L2.fun_mk ?l ?c ?k; (case l => k_is); (case c => k_is); (case k => k_is))
    (case a12 => refine PySem.W.mg_of KX G ?_; k_is)
    (case F12 => refine' L2.fun_mk ?l ?c ?k; (case l => k_is); (case c => k_is); (case k => k_is))
    (case a13 => refine PySem.W.mg_of KX G ?_; k_is)
    (case F13 => refine' L2.fun_mk ?l ?c ?k; (case l => k_is); (case c => k_is); (case k => k_is))
    (case a14 => refine PySem.W.mg_of KX G ?_; k_is)
    (case F14 => refine' L2.fun_mk ?l ?c ?k; (case l => k_is); (case c => k_is); (case k => k_is))
    (case a15 => refine PySem.W.mg_of KX G ?_; k_is)
    (case F15 => refine' L2.fun_mk ?l ?c ?k; (case l => k_is); (case c => k_is); (case k => k_is))
    (case a16 => refine PySem.W.mg_of KX G ?_; k_is)
    (case F16 => refine' L2.fun_mk ?l ?c ?k; (case l => k_is); (case c => k_is); (case k => k_is))
    (case a17 => refine PySem.W.mg_of KX G ?_; k_is)
    (case F17 => refine' L2.fun_mk ?l ?c ?k; (case l => k_is); (case c => k_is); (case k => k_is))
    (case a18 => k_is)
    (case i18 => k_is)
    (case F18 => refine' L2.fun_mk ?l ?c ?k; (case l => k_is); (case c => k_is); (case k => k_is))
    (case a19 => refine PySem.W.mg_of KX G ?_; k_is)
    (case F19 => refine' L2.fun_mk ?l ?c ?k; (case l => k_is); (case c => k_is); (case k => k_is))
    (case a20 => refine PySem.W.mg_of KX G ?_; k_is)
    (case F20 => refine' L2.fun_mk ?l ?c ?k; (case l => k_is); (case c => k_is); (case k => k_is))
    (case a21 => refine PySem.W.mg_of KX G ?_; k_is)
    (case F21 => refine' L2.fun_mk ?l ?c ?k; (case l => k_is); (case c => k_is); (case k => k_is))
    (case a22 => refine PySem.W.mg_of KX G ?_; k_is)
    (case F22 => refine' L2.fun_mk ?l ?c ?k; (case l => k_is); (case c => k_is); (case k => k_is))
    (case a23 => refine PySem.W.mg_of KX G ?_; k_is)
    (case F23 => refine' L2.fund_mk ?l ?t ?c ?k; (case l => k_is); (case t => k_is); (case c => k_is); (case k => k_is))
    (case vT23 => exact .cons ⟨_, rfl⟩ .nil)
    (case a24 => refine PySem.W.mg_of KX G ?_; k_is)
    (case F24 => refine' L2.fun_mk ?l ?c ?k; (case l => k_is); (case c => k_is); (case k => k_is))
    (case a25 => refine PySem.W.mg_of KX G ?_; k_is)
    (case F25 => refine' L2.fun_mk ?l ?c ?k; (case l => k_is); (case c => k_is); (case k => k_is))
    (case a26 => refine PySem.W.mg_of KX G ?_; k_is)
    (case F26 => refine' L2.fun_mk ?l ?c ?k; (case l => k_is); (case c => k_is); (case k => k_is))
    (case a27 => refine PySem.W.mg_of KX G ?_; k_is)
    (case F27 => refine' L2.fun_mk ?l ?c ?k; (case l => k_is); (case c => k_is); (case k => k_is))
    (case a28 => refine PySem.W.mg_of KX G ?_; k_is)
    (case F28 => refine' L2.fun_mk ?l ?c ?k; (case l => k_is); (case c => k_is); (case k => k_is))
    (case a29 => refine PySem.W.mg_of KX G ?_; k_is)
    (case F29 => refine' L2.fun_mk ?l ?c ?k; (case l => k_is); (case c => k_is); (case k => k_is))
    (case a30 => refine PySem.W.mg_of KX G ?_; k_is)
    (case F30 => refine' L2.fun_mk ?l ?c ?k; (case l => k_is); (case c => k_is); (case k => k_is))
    (case a31 => refine PySem.W.mg_of KX G ?_; k_is)
    (case F31 => refine' L2.fun_mk ?l ?c ?k; (case l => k_is); (case c => k_is); (case k => k_is))
    (case a32 => refine PySem.W.mg_of KX G ?_; k_is)
    (case F32 => refine' L2.fun_mk ?l ?c ?k; (case l => k_is); (case c => k_is); (case k => k_is))
    (case B => refine ⟨PySem.W.mg_none_of KX G ?_, PySem.W.mg_none_of KX G ?_, PySem.W.mg_none_of KX G ?_, PySem.W.mg_none_of KX G ?_, PySem.W.mg_none_of KX G ?_, PySem.W.mg_none_of KX G ?_, PySem.W.mg_none_of KX G ?_, PySem.W.mg_none_of KX G ?_, PySem.W.mg_none_of KX G ?_, PySem.W.mg_none_of KX G ?_, PySem.W.mg_none_of KX G ?_, PySem.W.mg_none_of KX G ?_, PySem.W.mg_none_of KX G ?_, PySem.W.mg_none_of KX G ?_, PySem.W.mg_none_of KX G ?_⟩ <;> k_is)
    (case T => refine ⟨⟨?_, ?_, ?_, ?_⟩, (show PySem.W.findIn _ (.ref _) "rooms" = some none from ?_), (show PySem.W.findIn _ (.ref _) "doors" = some none from ?_)⟩ <;> k_is)
    (case mk => k_is)
    (case kc => k_is)
    (case tx_NoHouse => refine' ⟨PySem.W.mg_of KX G ?a, ?b⟩; (case a => k_is); (case b => kernel_rfl!))
    (case tx_NoFraction => refine' ⟨PySem.W.mg_of KX G ?a, ?b⟩; (case a => k_is); (case b => kernel_rfl!))
    (case tx_NoRoom => refine' ⟨PySem.W.mg_of KX G ?a, ?b⟩; (case a => k_is); (case b => kernel_rfl!))
    (case tx_Unending => refine' ⟨PySem.W.mg_of KX G ?a, ?b⟩; (case a => k_is); (case b => kernel_rfl!))
    (case tx_IsEnd => refine' ⟨PySem.W.mg_of KX G ?a, ?b⟩; (case a => k_is); (case b => kernel_rfl!))
    (case tn_RoomError => refine' ⟨PySem.W.mg_of KX G ?a⟩; (case a => k_is))
    (case tn_IsEnd => refine' ⟨PySem.W.mg_of KX G ?a⟩; (case a => k_is))
    (case tn_NoFraction => refine' ⟨PySem.W.mg_of KX G ?a⟩; (case a => k_is))
    (case tn_NoRoom => refine' ⟨PySem.W.mg_of KX G ?a⟩; (case a => k_is))
    (case tn_NoTaking => refine' ⟨PySem.W.mg_of KX G ?a⟩; (case a => k_is))
    (case tn_Unending => refine' ⟨PySem.W.mg_of KX G ?a⟩; (case a => k_is))
    (case tn_NoHouse => refine' ⟨PySem.W.mg_of KX G ?a⟩; (case a => k_is))
    (case te_cNoRoom => refine ⟨?_, ?_, ?_, ?_, ?_, ?_, ?_, ?_, ⟨?_, ?_, ?_, ?_, ?_, ?_, ?_, ?_⟩⟩; (kernel_rfl!); (kernel_rfl!); (kernel_rfl!); (kernel_rfl!); (kernel_rfl!); (kernel_rfl!); (kernel_rfl!); (kernel_rfl!); (k_is); (k_is); (k_is); (k_is); (k_is); (k_is); (k_is); (kernel_rfl!))
    (case te_cUnending => refine ⟨?_, ?_, ?_, ?_, ?_, ?_, ?_, ?_, ⟨?_, ?_, ?_, ?_, ?_, ?_, ?_, ?_⟩⟩; (kernel_rfl!); (kernel_rfl!); (kernel_rfl!); (kernel_rfl!); (kernel_rfl!); (kernel_rfl!); (kernel_rfl!); (kernel_rfl!); (k_is); (k_is); (k_is); (k_is); (k_is); (k_is); (k_is); (kernel_rfl!))
    (case te_cIsEnd => refine ⟨?_, ?_, ?_, ?_, ?_, ?_, ?_, ?_, ⟨?_, ?_, ?_, ?_, ?_, ?_, ?_, ?_⟩⟩; (kernel_rfl!); (kernel_rfl!); (kernel_rfl!); (kernel_rfl!); (kernel_rfl!); (kernel_rfl!); (kernel_rfl!); (kernel_rfl!); (k_is); (k_is); (k_is); (k_is); (k_is); (k_is); (k_is); (kernel_rfl!))
