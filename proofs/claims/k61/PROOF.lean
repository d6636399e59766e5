import PyProof.Rows.All
import Wide.All
import OpenK.AllK
import Wide.FinOn
import Lean
import PyProof.EqAt
import PyProof.EqKinds
import PyProof.TupleCall
import PySem.Challenge.RW_undercells_k61_rows_moved
set_option Elab.async false
set_option linter.all false
set_option maxRecDepth 100000
namespace L2
open PySem PySem.Spec PyProof.Rows
noncomputable abbrev Key := Sum Int Str
noncomputable def keyIs : Key -> Value -> Bool
  | .inl k, v => Value.isInt k v
  | .inr x, v => Value.isStrOf x v
noncomputable def keyH (w : World) : Key -> Int
  | .inl k => hashInt k
  | .inr x => hashStr w x
theorem keyIs_shape : ∀ {k : Key} {v : Value}, keyIs k v = true -> (∃ i t, k = Sum.inl i /\ v = Value.int i t) \/ (∃ x t, k = Sum.inr x /\ v = Value.str x t)
  | .inl i, v, h => by
    obtain ⟨t, e⟩ := Value.isInt_shape (k := i) (v := v) h
    exact .inl ⟨i, t, rfl, e⟩
  | .inr x, v, h => by
    obtain ⟨t, e⟩ := Value.isStrOf_shape (x := x) (v := v) h
    exact .inr ⟨x, t, rfl, e⟩
theorem key_ll (a b : Int) : decide ((Sum.inl a : Key) = Sum.inl b) = (a == b) := by
  by_cases e : a = b
  · subst e; simp
  · have h : ¬ (Sum.inl a : Key) = Sum.inl b := fun q => e (Sum.inl.inj q)
    rw [decide_eq_false h]
    exact (beq_eq_false_iff_ne.mpr e).symm
theorem key_rr (a b : Str) : decide ((Sum.inr a : Key) = Sum.inr b) = decide (a = b) := by
  by_cases e : a = b
  · subst e; simp
  · have h : ¬ (Sum.inr a : Key) = Sum.inr b := fun q => e (Sum.inr.inj q)
    rw [decide_eq_false h, decide_eq_false e]
theorem key_lr (a : Int) (b : Str) : decide ((Sum.inl a : Key) = Sum.inr b) = false := decide_eq_false (fun q => nomatch q)
theorem key_rl (a : Str) (b : Int) : decide ((Sum.inr a : Key) = Sum.inl b) = false := decide_eq_false (fun q => nomatch q)
noncomputable def mixKind (prog : Program) (w : World) : PySem.KeyKind prog w Key where
  is := keyIs
  hash := keyH w
  inj := fun v a b ha hb => by
    rcases keyIs_shape ha with ⟨i, t, rfl, rfl⟩ | ⟨x, t, rfl, rfl⟩
    · rcases keyIs_shape hb with ⟨j, u, rfl, e⟩ | ⟨y, u, rfl, e⟩
      · injection e with e1 _; rw [e1]
      · exact nomatch e
    · rcases keyIs_shape hb with ⟨j, u, rfl, e⟩ | ⟨y, u, rfl, e⟩
      · exact nomatch e
      · injection e with e1 _; rw [e1]
  byValue := fun k v h => by
    rcases keyIs_shape h with ⟨i, t, rfl, rfl⟩ | ⟨x, t, rfl, rfl⟩ <;> rfl
  pyHash := fun hv h => by
    rcases keyIs_shape hv with ⟨i, t, rfl, rfl⟩ | ⟨x, t, rfl, rfl⟩
    · exact wpAny_pyHash_int h
    · exact wpAny_pyHash_str h
  eqBool := fun hu hv h => by
    rcases keyIs_shape hu with ⟨i, t, rfl, rfl⟩ | ⟨x, t, rfl, rfl⟩
    · rcases keyIs_shape hv with ⟨j, u, rfl, rfl⟩ | ⟨y, u, rfl, rfl⟩
      · rw [key_ll] at h; exact wpAny_eqBool_int h
      · rw [key_lr] at h; exact SeqAt.EqAt.int_str i t y u _ _ _ _ h
    · rcases keyIs_shape hv with ⟨j, u, rfl, rfl⟩ | ⟨y, u, rfl, rfl⟩
      · rw [key_rl] at h; exact SeqAt.EqAt.str_int x t j u _ _ _ _ h
      · rw [key_rr] at h; exact wpAny_eqBool_str h
  «strs» := fun k x t v h => by
    rcases keyIs_shape h with ⟨i, u, rfl, e⟩ | ⟨y, u, rfl, e⟩
    · exact nomatch e
    · injection e with e1 _
      subst e1
      cases v <;> rfl
end L2
namespace L2
open PySem PySem.Spec PyProof.Rows
inductive V where
  | non | bl (b : Bool) | int (i : Int) | str (x : Str) | byt (b : Array UInt8) | flt (b : UInt64) | ref (a : Addr) | ty (n : String)
  deriving DecidableEq
noncomputable def RelV : V -> Value -> Prop
  | .non, u => u = Value.none
  | .bl b, u => u = Value.bool b
  | .int i, u => ∃ t, u = Value.int i t
  | .str x, u => ∃ t, u = Value.str x t
  | .byt b, u => ∃ t, u = Value.bytes b t
  | .flt b, u => ∃ t, u = Value.float b t
  | .ref a, u => u = Value.ref a
  | .ty n, u => u = Value.type n
noncomputable abbrev Vals : List V -> List Value -> Prop := Paired RelV
theorem Vals.length {xs : List V} {us : List Value} (r : Vals xs us) : xs.length = us.length := Paired.length r
theorem Vals.get : ∀ {xs : List V} {us : List Value} {i : Nat} {x : V}, Vals xs us -> xs[i]? = some x -> ∃ u, us[i]? = some u /\ RelV x u
  | _, _, _, _, .nil, e => by simp at e
  | _, _, 0, _, .cons r _, e => by simp at e; subst e; exact ⟨_, rfl, r⟩
  | _, _, i + 1, x, .cons _ t, e => by
    obtain ⟨u, h1, h2⟩ := Vals.get (i := i) (x := x) t (by simpa using e)
    exact ⟨u, by simpa using h1, h2⟩
theorem Vals.set {x : V} {u : Value} (r : RelV x u) : ∀ {xs : List V} {us : List Value} (i : Nat), Vals xs us -> Vals (xs.set i x) (us.set i u)
  | _, _, _, .nil => .nil
  | _, _, 0, .cons _ t => .cons r t
  | _, _, i + 1, .cons q t => .cons q (Vals.set r i t)
theorem Vals.append : ∀ {xs ys : List V} {us ws : List Value}, Vals xs us -> Vals ys ws -> Vals (xs ++ ys) (us ++ ws)
  | _, _, _, _, .nil, s => s
  | _, _, _, _, .cons r t, s => .cons r (Vals.append t s)
theorem Vals.take : ∀ {xs : List V} {us : List Value} (n : Nat), Vals xs us -> Vals (xs.take n) (us.take n)
  | _, _, 0, _ => .nil
  | _, _, _ + 1, .nil => .nil
  | _, _, n + 1, .cons r t => .cons r (Vals.take n t)
theorem Vals.drop : ∀ {xs : List V} {us : List Value} (n : Nat), Vals xs us -> Vals (xs.drop n) (us.drop n)
  | _, _, 0, r => r
  | _, _, _ + 1, .nil => .nil
  | _, _, n + 1, .cons _ t => Vals.drop n t
noncomputable def RelO : Option V -> Option Value -> Prop
  | some v, some u => RelV v u
  | none, none => True
  | _, _ => False
noncomputable def KV {κ : Type} : List (κ × V) -> List (κ × Value) -> Prop := Paired fun (p : κ × V) (q : κ × Value) => p.1 = q.1 /\ RelV p.2 q.2
noncomputable def kV : Key -> V
  | .inl i => .int i
  | .inr x => .str x
inductive HO where
  | lst (xs : List V)
  | tup (xs : List V)
  | dK (kvs : List (Key × V)) | dT (kvs : List (List Key × V))
  | set (S : Int -> Bool) (n : Nat)
  | ins (C dx : Addr) (fs : List (Str × V))
  | own (x : Addr)
  | xd (fs : List (Str × V))
  | met (f x : Addr)
  | rng (lo hi : Int)
  | frz (o : Obj) (u : HO)
  | tbl (ps : Array Value)
  | ext (φ : Heap -> Prop)
noncomputable abbrev Hp := Addr -> Option HO
noncomputable def upd (H : Hp) (a : Addr) (o : HO) : Hp := fun b => if b = a then some o else H b
theorem upd_same {H : Hp} {a : Addr} {o : HO} : upd H a o a = some o := by unfold upd; rw [if_pos rfl]
theorem upd_ne {H : Hp} {a b : Addr} {o : HO} (h : b ≠ a) : upd H a o b = H b := by unfold upd; rw [if_neg h]
theorem ne_of_none {H : Hp} {a b : Addr} {o : HO} (h : H a = some o) (h' : H b = none) : a ≠ b := by
  intro e; subst e; rw [h] at h'; cases h'
noncomputable def IsTupD (h : Heap) (a : Addr) (items : Array Value) : Prop := ∃ o, h.get? a = some o /\ o.cls = .type "tuple" /\ o.dict = none /\ ∃ n, o.data = .seq items n
theorem IsTupD.tup {h : Heap} {a : Addr} {items : Array Value} : IsTupD h a items -> IsTup h a items := fun ⟨o, e, c, _, n, d⟩ => ⟨o, e, c, n, d⟩
theorem IsTupD.new (h : Heap) (items : Array Value) : IsTupD (h.push { cls := .type "tuple", data := .seq items }) h.objs.size items := ⟨_, Heap.get?_push_size _ rfl, rfl, rfl, _, rfl⟩
theorem IsTupD.lt {h : Heap} {a : Addr} {items : Array Value} (x : IsTupD h a items) : a < h.objs.size := let ⟨_, ho, _⟩ := x; Heap.lt_size ho
section
variable (P : Program) (w : World)
noncomputable def ObjOk (H : Hp) (h : Heap) (a : Addr) : HO -> Prop
  | .lst xs => xs.length <= sizeLine /\ ∃ (its : List Value) (n : Nat), Vals xs its /\ h.get? a = some { cls := .type "list", data := .seq its.toArray n }
  | .tup xs => xs.length <= sizeLine /\ ∃ its : List Value, Vals xs its /\ IsTupD h a its.toArray
  | .dK kvs => kvs.length <= sizeLine /\ (a == sysModules) = false /\ ∃ vs, KV kvs vs /\ h.DictOf (mixKind P w) a vs
  | .dT kvs => kvs.length <= sizeLine /\ (a == sysModules) = false /\ ∃ xs : List (List Key × Addr × Value),
      Paired (fun (p : List Key × V) (q : List Key × Addr × Value) => p.1 = q.1 /\ H q.2.1 = some (.tup (p.1.map kV)) /\ RelV p.2 q.2.2) kvs xs /\
      ∃ o es ep, h.get? a = some o /\ o.ExactDict /\ o.data = .dict es ep /\ es.toList = xs.map (entryOfKey (tupleKind (mixKind P w))) /\ (xs.map (·.1)).Nodup
  | .set S n => h.SetOf (intKind P w) a S n
  | .ins C dx fs => H dx = some (.own a) /\ fs.length <= 1000 /\ dx ≠ a /\ h.get? a = some (PySem.W.instObj C dx) /\
      ∃ mA, h.Ns1 dx mA /\ (∀ f, RelO (fs.lookup f) (mA f)) /\ PySem.Within mA (fs.map (·.1))
  | .own _ => ∃ o, h.get? a = some o
  | .xd fs => ∃ mA, h.Ns1 a mA /\ ∀ f, RelO (fs.lookup f) (mA f)
  | .rng lo hi => ∃ t u v, h.get? a = some { cls := .type "range", data := .fields #[.int lo t, .int hi u, .int 1 v] }
  | .frz o u => h.get? a = some o /\ ObjOk H h a u
  | .tbl ps => h.get? a = some { cls := .none, data := .fields ps }
  | .met f x => h.get? a = some (PySem.W.methodObj (.ref f) (.ref x))
  | .ext φ => φ h /\ (∃ o, h.get? a = some o) /\ ∀ h1 h2 : Heap, φ h1 -> (∀ o, h1.get? a = some o -> h2.get? a = some o) -> φ h2
noncomputable def HOk (H : Hp) (h : Heap) : Prop := ∀ a o, H a = some o -> ObjOk P w H h a o
end
section
variable {P : Program} {w : World} {H H' : Hp} {h h' : Heap} {a : Addr} {o : HO}
theorem ObjOk.lt (x : ObjOk P w H h a o) : a < h.objs.size := by
  cases o with
  | lst xs => obtain ⟨_, _, _, _, e⟩ := x; exact Heap.lt_size e
  | tup xs => obtain ⟨_, _, _, p⟩ := x; exact IsTupD.lt p
  | dK kvs => obtain ⟨_, _, _, _, o, _, _, e, _⟩ := x; exact Heap.lt_size e
  | dT kvs => obtain ⟨_, _, _, _, o, _, _, e, _⟩ := x; exact Heap.lt_size e
  | set S n => obtain ⟨o, _, _, _, e, _⟩ := x; exact Heap.lt_size e
  | ins C dx fs => obtain ⟨_, _, _, e, _⟩ := x; exact Heap.lt_size e
  | own y => obtain ⟨_, e⟩ := x; exact Heap.lt_size e
  | xd fs => obtain ⟨_, ⟨_, _, _, e, _⟩, _⟩ := x; exact Heap.lt_size e
  | rng lo hi => obtain ⟨_, _, _, e⟩ := x; exact Heap.lt_size e
  | frz ob u => obtain ⟨e, _⟩ := x; exact Heap.lt_size e
  | tbl ps => exact Heap.lt_size (show h.get? a = some _ from x)
  | met f y => exact Heap.lt_size (show h.get? a = some _ from x)
  | ext φ => obtain ⟨_, ⟨_, e⟩, _⟩ := x; exact Heap.lt_size e
theorem Paired.mapP {α β : Type} {F G : α -> β -> Prop} : ∀ {l₁ : List α} {l₂ : List β}, Paired F l₁ l₂ -> (∀ a b, F a b -> G a b) -> Paired G l₁ l₂
  | _, _, .nil, _ => .nil
  | _, _, .cons r t, f => .cons (f _ _ r) (Paired.mapP t f)
theorem ObjOk.stay (x : ObjOk P w H h a o) (k : ∀ b u, (b = a \/ H b = some (.own a)) -> h.get? b = some u -> h'.get? b = some u)
    (ho : ∀ b, H b = some (.own a) -> H' b = some (.own a)) (ht : ∀ b xs, H b = some (.tup xs) -> H' b = some (.tup xs)) : ObjOk P w H' h' a o := by
  induction o with
  | lst xs => obtain ⟨z, its, n, r, e⟩ := x; exact ⟨z, its, n, r, k _ _ (.inl rfl) e⟩
  | tup xs => obtain ⟨z, its, r, ob, e, c⟩ := x; exact ⟨z, its, r, ob, k _ _ (.inl rfl) e, c⟩
  | dK kvs => obtain ⟨z, y, vs, r, ob, es, ep, e, c⟩ := x; exact ⟨z, y, vs, r, ob, es, ep, k _ _ (.inl rfl) e, c⟩
  | dT kvs =>
    obtain ⟨z, y, xs, r, ob, es, ep, e, c⟩ := x
    exact ⟨z, y, xs, Paired.mapP r fun p q z => ⟨z.1, ht _ _ z.2.1, z.2.2⟩, ob, es, ep, k _ _ (.inl rfl) e, c⟩
  | set S n => obtain ⟨ob, es, ep, t, e, c⟩ := x; exact ⟨ob, es, ep, t, k _ _ (.inl rfl) e, c⟩
  | ins C dx fs =>
    obtain ⟨d, z, ne, e, mA, ⟨od, es, ep, e2, c⟩, r⟩ := x
    exact ⟨ho _ d, z, ne, k _ _ (.inl rfl) e, mA, ⟨od, es, ep, k _ _ (.inr d) e2, c⟩, r⟩
  | own y => obtain ⟨ob, e⟩ := x; exact ⟨ob, k _ _ (.inl rfl) e⟩
  | xd fs => obtain ⟨mA, ⟨od, es, ep, e, c⟩, r⟩ := x; exact ⟨mA, ⟨od, es, ep, k _ _ (.inl rfl) e, c⟩, r⟩
  | rng lo hi => obtain ⟨t, u, v, e⟩ := x; exact ⟨t, u, v, k _ _ (.inl rfl) e⟩
  | frz ob u ih => obtain ⟨e, q⟩ := x; exact ⟨k _ _ (.inl rfl) e, ih q⟩
  | tbl ps =>
    have e : h.get? a = some { cls := .none, data := .fields ps } := x
    show h'.get? a = some { cls := .none, data := .fields ps }
    exact k a _ (.inl rfl) e
  | met f y =>
    have e : h.get? a = some (PySem.W.methodObj (.ref f) (.ref y)) := x
    show h'.get? a = some (PySem.W.methodObj (.ref f) (.ref y))
    exact k a _ (.inl rfl) e
  | ext φ => obtain ⟨p, ⟨o, e⟩, st⟩ := x; exact ⟨st _ _ p fun o q => k _ _ (.inl rfl) q, ⟨o, k _ _ (.inl rfl) e⟩, st⟩
theorem HOk.lt (x : HOk P w H h) (e : H a = some o) : a < h.objs.size := (x a o e).lt
theorem HOk.fresh (x : HOk P w H h) (e : h.objs.size <= a) : H a = none := by
  cases q : H a with
  | none => rfl
  | some u => exact absurd (Nat.lt_of_lt_of_le (x.lt q) e) (Nat.lt_irrefl _)
theorem HOk.kept (x : HOk P w H h) (k : ∀ b u, h.get? b = some u -> h'.get? b = some u) : HOk P w H h' := fun a o e =>
  (x a o e).stay (fun b u _ q => k b u q) (fun _ q => q) fun _ _ q => q
theorem HOk.laid (x : HOk P w H h) (k : ∀ b u, h.get? b = some u -> h'.get? b = some u) (hp : h.objs.size <= a) (new : ObjOk P w (upd H a o) h' a o) : HOk P w (upd H a o) h' := fun b u e => by
  have hn := x.fresh hp
  by_cases hb : b = a
  · subst hb; rw [upd_same] at e; cases e; exact new
  · rw [upd_ne hb] at e
    exact (x b u e).stay (fun c v _ q => k c v q) (fun c q => by rw [upd_ne (ne_of_none q hn)]; exact q) fun c xs q => by rw [upd_ne (ne_of_none q hn)]; exact q
end
noncomputable def Rd (H : Hp) (a : Addr) (u : HO) : Prop := H a = some u \/ ∃ o, H a = some (.frz o u)
theorem Rd.of {H : Hp} {a : Addr} {u : HO} (h : H a = some u) : Rd H a u := .inl h
theorem Rd.ok {P : Program} {w : World} {H : Hp} {h : Heap} {a : Addr} {u : HO} (r : Rd H a u) (x : HOk P w H h) : ObjOk P w H h a u := by
  rcases r with r | ⟨o, r⟩
  · exact x a u r
  · obtain ⟨_, q⟩ := x a _ r
    exact q
noncomputable def Mut : Option HO -> Prop
  | some (.lst _) => True
  | some (.dK _) => True
  | some (.dT _) => True
  | some (.set _ _) => True
  | some (.ins _ _ _) => True
  | some (.ext _) => True
  | _ => False
section
variable {P : Program} {w : World} {H : Hp} {h h' : Heap} {x e : Addr} {o' : HO}
theorem HOk.write (ok : HOk P w H h) (mu : Mut (H x)) (he : e = x \/ H e = some (.own x)) (k : ∀ b u, b ≠ e -> h.get? b = some u -> h'.get? b = some u) (heo : ∃ u, h'.get? e = some u)
    (new : ObjOk P w (upd H x o') h' x o') : HOk P w (upd H x o') h' := fun b u q => by
  have nown : ∀ c y, H c = some (.own y) -> c ≠ x := fun c y r z => by subst z; rw [r] at mu; exact mu
  have ntup : ∀ c xs, H c = some (.tup xs) -> c ≠ x := fun c xs r z => by subst z; rw [r] at mu; exact mu
  by_cases hb : b = x
  · subst hb; rw [upd_same] at q; cases q; exact new
  · rw [upd_ne hb] at q
    by_cases hbe : b = e
    · have q' : H b = some (.own x) := by
        rcases he with z | z
        · exact absurd (hbe.trans z) hb
        · rw [hbe]; exact z
      rw [q] at q'; cases q'
      obtain ⟨v, hv⟩ := heo
      exact ⟨v, by rw [hbe]; exact hv⟩
    · refine (ok b u q).stay (fun c v hc r => k c v ?_ r) (fun c r => by rw [upd_ne (nown c b r)]; exact r) fun c xs r => by rw [upd_ne (ntup c xs r)]; exact r
      rcases hc with rfl | hc
      · exact hbe
      · rintro rfl
        rcases he with z | z
        · exact nown c b hc z
        · rw [hc] at z; cases z; exact hb rfl
end
structure Un (fs ex : List Addr) (H H' : Hp) (h h' : Heap) : Prop where
  keep : ∀ b o, h.get? b = some o -> H b = none -> b ∉ fs -> b ∉ ex -> h'.get? b = some o
  slot : ∀ b o, h.get? b = some o -> H b = none -> b ∈ fs -> b ∉ ex -> ∃ sl, h'.get? b = some { o with slots := sl }
  free : ∀ b o, h.get? b = some o -> H b = none -> b ∉ ex -> H' b = none
  there : ∀ b o, h.get? b = some o -> b ∉ ex -> ∃ o', h'.get? b = some o'
  tups : ∀ b xs, H b = some (.tup xs) -> H' b = some (.tup xs)
  frzs : ∀ b o u, H b = some (.frz o u) -> H' b = some (.frz o u)
  tbls : ∀ b ps, H b = some (.tbl ps) -> ∃ more, H' b = some (.tbl (ps ++ more))
section
variable {fs fs' ex ex' : List Addr} {H H1 H2 : Hp} {h h1 h2 h' : Heap} {a x e : Addr} {o : HO}
theorem Un.any (u : Un fs ex H H1 h h1) {b : Addr} {ob : Obj} (q : h.get? b = some ob) (n : H b = none) (hx : b ∉ ex) : ∃ sl, h1.get? b = some { ob with slots := sl } := by
  by_cases hb : b ∈ fs
  · exact u.slot b ob q n hb hx
  · exact ⟨ob.slots, u.keep b ob q n hb hx⟩
theorem Un.trans (a : Un fs ex H H1 h h1) (b : Un fs ex H1 H2 h1 h2) : Un fs ex H H2 h h2 where
  keep := fun c ob q n hc hx => b.keep c ob (a.keep c ob q n hc hx) (a.free c ob q n hx) hc hx
  slot := fun c ob q n hc hx => by
    obtain ⟨sl, e1⟩ := a.slot c ob q n hc hx
    obtain ⟨sl', e2⟩ := b.slot c _ e1 (a.free c ob q n hx) hc hx
    exact ⟨sl', e2⟩
  free := fun c ob q n hx => by
    obtain ⟨o', e1⟩ := a.there c ob q hx
    exact b.free c o' e1 (a.free c ob q n hx) hx
  there := fun c ob q hx => by
    obtain ⟨o', e1⟩ := a.there c ob q hx
    exact b.there c o' e1 hx
  tups := fun c xs q => b.tups c xs (a.tups c xs q)
  frzs := fun c ob xs q => b.frzs c ob xs (a.frzs c ob xs q)
  tbls := fun c ps q => by
    obtain ⟨m1, e1⟩ := a.tbls c ps q
    obtain ⟨m2, e2⟩ := b.tbls c _ e1
    exact ⟨m1 ++ m2, by rw [e2, Array.append_assoc]⟩
theorem Un.kept (k : ∀ b u, h.get? b = some u -> h'.get? b = some u) : Un fs ex H H h h' :=
  ⟨fun b ob q _ _ _ => k b ob q, fun b ob q _ _ _ => ⟨ob.slots, k b ob q⟩, fun _ _ _ n _ => n, fun b ob q _ => ⟨ob, k b ob q⟩, fun _ _ q => q, fun _ _ _ q => q, fun _ ps q => ⟨#[], by rw [q]; simp⟩⟩
theorem Un.refl : Un fs ex H H h h := Un.kept fun _ _ q => q
theorem Un.laid (k : ∀ b u, h.get? b = some u -> h'.get? b = some u) (hp : h.objs.size <= a) (hn : H a = none) : Un fs ex H (upd H a o) h h' where
  keep := fun b u q _ _ _ => k b u q
  slot := fun b u q _ _ _ => ⟨u.slots, k b u q⟩
  free := fun b u q n _ => by rw [upd_ne (Nat.ne_of_lt (Nat.lt_of_lt_of_le (Heap.lt_size q) hp))]; exact n
  there := fun b u q _ => ⟨u, k b u q⟩
  tups := fun b xs q => by rw [upd_ne (ne_of_none q hn)]; exact q
  frzs := fun b u xs q => by rw [upd_ne (ne_of_none q hn)]; exact q
  tbls := fun b ps q => ⟨#[], by rw [upd_ne (ne_of_none q hn), q]; simp⟩
theorem Un.write (mu : Mut (H x)) (he : e = x \/ H e = some (.own x)) (k : ∀ b u, b ≠ e -> h.get? b = some u -> h'.get? b = some u) (heo : ∃ u, h'.get? e = some u) : Un fs ex H (upd H x o) h h' := by
  have hx : ∀ b, H b = none -> b ≠ x := fun b n z => by subst z; rw [n] at mu; exact mu
  have hb : ∀ b, H b = none -> b ≠ e := fun b n z => by
    subst z
    rcases he with r | r
    · exact hx b n r
    · rw [n] at r; cases r
  have hm : ∀ b u, H b = some u -> ¬ Mut (some u) -> b ≠ x := fun b u q nm z => by subst z; rw [q] at mu; exact nm mu
  refine ⟨fun b u q n _ _ => k b u (hb b n) q, fun b u q n _ _ => ⟨u.slots, k b u (hb b n) q⟩, fun b u q n _ => by rw [upd_ne (hx b n)]; exact n, fun b u q _ => ?_,
    fun b xs q => by rw [upd_ne (hm b _ q fun z => z)]; exact q, fun b u xs q => by rw [upd_ne (hm b _ q fun z => z)]; exact q, fun b ps q => ⟨#[], by rw [upd_ne (hm b _ q fun z => z), q]; simp⟩⟩
  by_cases hbe : b = e
  · subst hbe; exact heo
  · exact ⟨u, k b u hbe q⟩
theorem Un.mono (u : Un fs ex H H1 h h1) (hs : ∀ b ∈ fs, b ∈ fs') (hx : ∀ b ∈ ex, b ∈ ex') : Un fs' ex' H H1 h h1 :=
  ⟨fun b ob q n hb he => u.keep b ob q n (fun z => hb (hs b z)) fun z => he (hx b z), fun _ _ q n _ he => u.any q n fun z => he (hx _ z), fun b ob q n he => u.free b ob q n fun z => he (hx b z), fun b ob q he => u.there b ob q fun z => he (hx b z), u.tups, u.frzs, u.tbls⟩
end
noncomputable def trk (h : Heap) (H : Hp) : List Addr := (List.range h.objs.size).filter fun a => (H a).isSome
noncomputable def hidT (h : Heap) (H : Hp) : Heap := PySem.W.hideAll h (trk h H)
theorem hidT_size (h : Heap) (H : Hp) : (hidT h H).objs.size = h.objs.size := PySem.W.hideAll_size _ _
theorem hidT_get {h : Heap} {H : Hp} {b : Addr} {o : Obj} (e : h.get? b = some o) (n : H b = none) : (hidT h H).get? b = some o :=
  PySem.W.hideAll_get _ e fun hm => by
    have q : (H b).isSome = true := (List.mem_filter.mp hm).2
    rw [n] at q; simp at q
theorem of_hidT {h : Heap} {H : Hp} {b : Addr} {o : Obj} (e : (hidT h H).get? b = some o) : h.get? b = some o /\ H b = none := by
  have e' : h.get? b = some o := PySem.W.of_hideAll (trk h H) e
  refine ⟨e', ?_⟩
  cases q : H b with
  | none => rfl
  | some x =>
    have hm : b ∈ trk h H := List.mem_filter.mpr ⟨List.mem_range.mpr (Heap.lt_size e'), by simp [q]⟩
    have z : (hidT h H).get? b = none := PySem.W.hideAll_none (trk h H) hm
    rw [z] at e; cases e
noncomputable def allNews (g h : Heap) (L : Addr) : List (Addr × Obj) := (List.range h.objs.size).filterMap fun a => if a = L \/ (g.get? a).isSome = true then none else (h.get? a).map fun o => (a, o)
noncomputable def rest (g h : Heap) (L d : Addr) : List (Addr × Obj) := (allNews g h L).filter fun p => decide (p.1 ≠ d)
end L2
namespace L2
open PySem PySem.Spec PyProof.Rows
structure Mod (K : PySem.W.Frag) (mg : Str -> Option Value) (base : Heap) : Prop where
  kin : K.In base
  glob : base.Ns mainGlobals mg
  blt : ∃ mb, base.Ns builtinsNs mb /\ ∀ x : Str, x ≠ "__name__" -> mb x = bootBuiltins x
  nolimit : base.NoLimit
structure Cx where
  prog : Program
  w : World
  K : PySem.W.Frag
  mg : Str -> Option Value
  base : Heap
  A : Around
  N : List Str
  s₀ : Shared
  H₀ : Hp
  env : Env
  outer : List Env
  stack : List Env
  ex : List Addr
  fn : Str -> Bool
  calm : Bool
  pn : List (Addr × Obj)
  xe : Value -> Shared -> Prop
noncomputable def frs (l : List Env) : List Addr := l.filterMap (·.frame)
noncomputable abbrev Cx.fs (X : Cx) : List Addr := frs X.outer
noncomputable def Vis (sc : Scope) (x : Str) : Prop := sc.names.lookup x = some .local \/ sc.names.lookup x = some .cell \/ sc.names.lookup x = some .free
noncomputable def Loc (sc : Scope) (x : Str) : Prop := sc.names.lookup x = some .local \/ sc.names.lookup x = some .cell
noncomputable def Look (env : Env) (h : Heap) (m : Str -> Option Value) (x : Str) (u : Value) : Prop :=
  (env.kindOf x = some .local /\ m x = some u) \/ ((env.kindOf x = some .cell \/ env.kindOf x = some .free) /\ ∃ c, env.cells.lookup x = some c /\ h.IsCell c (some u))
structure Cx.Ok (X : Cx) : Prop where
  mod : Mod X.K X.mg X.base
  kind : X.env.scope.kind = .function
  glob : X.env.globals = mainGlobals
  blt : X.env.builtins = builtinsNs
  above : X.s₀.heap.objs.size <= X.env.locals
  inj : ∀ x y c, X.env.cells.lookup x = some c -> X.env.cells.lookup y = some c -> x = y
  has : ∀ x, (X.env.kindOf x = some .cell \/ X.env.kindOf x = some .free) -> ∃ c, X.env.cells.lookup x = some c
  cab : ∀ x c, X.fn x = true -> X.env.cells.lookup x = some c -> X.s₀.heap.objs.size <= c
  hd : X.calm = true -> X.A.handled = none
  frames : X.A.frames = some X.stack
  stk : X.stack = X.outer \/ (X.stack = X.env :: X.outer /\ X.env.frame = some X.env.locals)
  exf : ∀ b ∈ X.ex, b ≠ X.env.locals /\ ∀ x c, X.env.cells.lookup x = some c -> c ≠ b
  bs : ∀ b o, X.base.get? b = some o -> X.s₀.heap.get? b = some o /\ X.H₀ b = none
  bsz : X.base.objs.size <= X.s₀.heap.objs.size
  noex : ∀ b o, X.base.get? b = some o -> b ∉ X.ex
  exfs : ∀ b ∈ X.ex, b ∉ X.fs
  funs : X.s₀.heap.FunFrames X.base X.outer
  frf : ∀ b ∈ X.fs, X.H₀ b = none
structure Inv (X : Cx) (pins : List (Addr × Obj)) (σ : List (Option V)) (H : Hp) (s : Shared) : Prop where
  ok : X.Ok
  os : s.os = X.s₀.os
  bare : AllBare s.gens
  base : Un X.fs X.ex X.H₀ H X.s₀.heap s.heap
  loc : ∃ m, s.heap.Ns X.env.locals m /\ ∀ (i : Nat) (x : Str) (v : V), X.N[i]? = some x -> σ[i]? = some (some v) -> Vis X.env.scope x -> ∃ u, RelV v u /\ Look X.env s.heap m x u
  cell : ∀ x c, X.env.cells.lookup x = some c -> ∃ v, s.heap.IsCell c v
  free : H X.env.locals = none
  freeC : ∀ x c, X.env.cells.lookup x = some c -> H c = none
  pin : ∀ p ∈ X.pn ++ pins, s.heap.get? p.1 = some p.2 /\ H p.1 = none /\ p.1 ≠ X.env.locals /\ p.1 ∉ X.fs /\ ∀ v, p.2.data ≠ .cell v
  hok : HOk X.prog X.w H s.heap
  len : σ.length = X.N.length
section
variable {X : Cx} {pins : List (Addr × Obj)} {σ : List (Option V)} {H H' : Hp} {s : Shared} {h' : Heap}
theorem Cx.Ok.nofr (ok : X.Ok) {b : Addr} {o : Obj} (e : X.base.get? b = some o) : b ∉ X.fs := fun hb => by
  have := (ok.funs.mem hb).1
  rw [e] at this; cases this
theorem Inv.bs (I : Inv X pins σ H s) : ∀ b o, X.base.get? b = some o -> s.heap.get? b = some o /\ H b = none := fun b o e =>
  ⟨I.base.keep b o (I.ok.bs b o e).1 (I.ok.bs b o e).2 (I.ok.nofr e) (I.ok.noex b o e), I.base.free b o (I.ok.bs b o e).1 (I.ok.bs b o e).2 (I.ok.noex b o e)⟩
theorem Inv.bk (I : Inv X pins σ H s) : ∀ b o, X.base.get? b = some o -> s.heap.get? b = some o := fun b o e => (I.bs b o e).1
theorem Inv.mod (I : Inv X pins σ H s) : Mod X.K X.mg X.base := I.ok.mod
theorem Inv.kIn (I : Inv X pins σ H s) : X.K.In s.heap := I.ok.mod.kin.keeps I.bk
theorem Inv.nolimit (I : Inv X pins σ H s) : s.heap.NoLimit := I.ok.mod.nolimit.keeps I.bk
theorem Inv.fr (I : Inv X pins σ H s) : ∃ m, Fr X.base X.env.locals s.heap m :=
  let ⟨m, hn, _⟩ := I.loc
  ⟨m, hn, I.bk, Nat.le_trans I.ok.bsz I.ok.above⟩
theorem Inv.lt (I : Inv X pins σ H s) : X.env.locals < s.heap.objs.size := let ⟨_, hn, _⟩ := I.loc; hn.lt
theorem Inv.sz (I : Inv X pins σ H s) : X.s₀.heap.objs.size <= s.heap.objs.size := Nat.le_trans I.ok.above (Nat.le_of_lt I.lt)
theorem Inv.nofs (I : Inv X pins σ H s) {a : Addr} (h : s.heap.objs.size <= a) : a ∉ X.fs := fun hb => by
  obtain ⟨_, o, ho, _⟩ := I.ok.funs.mem hb
  exact absurd (Nat.lt_of_lt_of_le (Heap.lt_size ho) (Nat.le_trans I.sz h)) (Nat.lt_irrefl _)
theorem Inv.cne (I : Inv X pins σ H s) : ∀ x c, X.env.cells.lookup x = some c -> c ≠ X.env.locals := fun x c e z => by
  obtain ⟨v, o, ho, hd⟩ := I.cell x c e
  obtain ⟨m, ⟨o', es, ep, ho', hd', _⟩, _⟩ := I.loc
  rw [z, ho'] at ho; cases ho; rw [hd'] at hd; cases hd
theorem Inv.funs (I : Inv X pins σ H s) : s.heap.FunFrames X.base X.outer := by
  have all : ∀ (l : List Env), (∀ b ∈ frs l, b ∈ X.fs) -> X.s₀.heap.FunFrames X.base l -> s.heap.FunFrames X.base l := by
    intro l
    induction l with
    | nil => intro _ _; trivial
    | cons env r ih =>
      intro hs hl
      obtain ⟨hk, ⟨L, o, hf, hn, ho, hd⟩, hr⟩ := hl
      have hL : L ∈ X.fs := hs L (by unfold frs; rw [List.filterMap_cons, hf]; exact List.mem_cons_self)
      obtain ⟨sl, e⟩ := I.base.slot L o ho (I.ok.frf L hL) hL fun z => I.ok.exfs L z hL
      exact ⟨hk, ⟨L, _, hf, hn, e, hd⟩, ih (fun b hb => hs b (by unfold frs; rw [List.filterMap_cons, hf]; exact List.mem_cons_of_mem _ hb)) hr⟩
  exact all X.outer (fun _ hb => hb) I.ok.funs
theorem Inv.stack (I : Inv X pins σ H s) : s.heap.FunFrames X.base X.stack := by
  rcases I.ok.stk with e | ⟨e, hf⟩
  · rw [e]; exact I.funs
  · rw [e]
    obtain ⟨m, hn, _⟩ := I.loc
    refine .cons (by rw [I.ok.kind]; decide) hf hn ?_ I.funs
    exact Heap.get?_none_of_le (Nat.le_trans I.ok.bsz I.ok.above)
theorem Inv.stkSub (I : Inv X pins σ H s) : ∀ b ∈ frs X.stack, b ∈ X.env.locals :: X.fs := fun b hb => by
  rcases I.ok.stk with e | ⟨e, hf⟩
  · rw [e] at hb; exact List.mem_cons_of_mem _ hb
  · rw [e] at hb
    unfold frs at hb
    rw [List.filterMap_cons, hf] at hb
    exact hb
theorem Inv.stkFree (I : Inv X pins σ H s) : ∀ b ∈ frs X.stack, H b = none := fun b hb => by
  rcases List.mem_cons.mp (I.stkSub b hb) with e | hb
  · rw [e]; exact I.free
  · obtain ⟨_, o, ho, _⟩ := I.ok.funs.mem hb
    exact I.base.free b o ho (I.ok.frf b hb) fun z => I.ok.exfs b z hb
theorem Inv.step {g' : Array GenState} {t' : Nat} {d' : Drawn} {ch : List Addr} (I : Inv X pins σ H s)
    (hch : ∀ b ∈ ch, (b ∈ X.ex \/ X.s₀.heap.objs.size <= b) /\ b ≠ X.env.locals /\ (∀ x c, X.env.cells.lookup x = some c -> c ≠ b) /\ ∀ p ∈ X.pn ++ pins, p.1 ≠ b)
    (keep : ∀ b o, b ≠ X.env.locals -> b ∉ X.fs -> b ∉ ch -> s.heap.get? b = some o -> H b = none -> h'.get? b = some o)
    (slot : ∀ b o, b ≠ X.env.locals -> b ∈ X.fs -> b ∉ ch -> s.heap.get? b = some o -> H b = none -> ∃ sl, h'.get? b = some { o with slots := sl }) (free : ∀ b o, b ∉ ch -> s.heap.get? b = some o -> H b = none -> H' b = none)
    (there : ∀ b o, b ∉ ch -> s.heap.get? b = some o -> ∃ o', h'.get? b = some o')
    (tups : ∀ b xs, H b = some (.tup xs) -> H' b = some (.tup xs)) (frzs : ∀ b o u, H b = some (.frz o u) -> H' b = some (.frz o u)) (tbls : ∀ b ps, H b = some (.tbl ps) -> ∃ more, H' b = some (.tbl (ps ++ more)))
    (ns : ∀ m, s.heap.Ns X.env.locals m -> h'.Ns X.env.locals m) (hok : HOk X.prog X.w H' h') (hg : AllBare g') :
    Inv X pins σ H' { s with heap := h', gens := g', drawn := d', toks := t' } := by
  have neL : ∀ b o, X.s₀.heap.get? b = some o -> b ≠ X.env.locals := fun b o e => Nat.ne_of_lt (Nat.lt_of_lt_of_le (Heap.lt_size e) I.ok.above)
  have neC : ∀ b o, X.s₀.heap.get? b = some o -> b ∉ X.ex -> b ∉ ch := fun b o e hx hb => by
    rcases (hch b hb).1 with z | z
    · exact hx z
    · exact absurd (Nat.lt_of_lt_of_le (Heap.lt_size e) z) (Nat.lt_irrefl _)
  have cellK : ∀ x c, X.env.cells.lookup x = some c -> ∀ v, s.heap.IsCell c v -> h'.IsCell c v := fun x c e v ⟨o, ho, hd⟩ => by
    have nch : c ∉ ch := fun z => (hch c z).2.2.1 x c e rfl
    by_cases hc : c ∈ X.fs
    · obtain ⟨sl, q⟩ := slot c o (I.cne x c e) hc nch ho (I.freeC x c e)
      exact ⟨_, q, hd⟩
    · exact ⟨o, keep c o (I.cne x c e) hc nch ho (I.freeC x c e), hd⟩
  refine ⟨I.ok, I.os, hg, ⟨fun b o e n hb hx => ?_, fun b o e n hb hx => ?_, fun b o e n hx => ?_, fun b o e hx => ?_, fun b xs e => tups b xs (I.base.tups b xs e), fun b o xs e => frzs b o xs (I.base.frzs b o xs e), fun b ps e => ?_⟩, ?_, fun x c e => ?_, ?_, fun x c e => ?_, fun p hp => ?_, hok, I.len⟩
  · exact keep b o (neL b o e) hb (neC b o e hx) (I.base.keep b o e n hb hx) (I.base.free b o e n hx)
  · obtain ⟨sl, e1⟩ := I.base.slot b o e n hb hx
    obtain ⟨sl', e2⟩ := slot b _ (neL b o e) hb (neC b o e hx) e1 (I.base.free b o e n hx)
    exact ⟨sl', e2⟩
  · obtain ⟨o', e1⟩ := I.base.there b o e hx
    exact free b o' (neC b o e hx) e1 (I.base.free b o e n hx)
  · obtain ⟨o', e1⟩ := I.base.there b o e hx
    exact there b o' (neC b o e hx) e1
  · obtain ⟨m1, e1⟩ := I.base.tbls b ps e
    obtain ⟨m2, e2⟩ := tbls b _ e1
    exact ⟨m1 ++ m2, by rw [e2, Array.append_assoc]⟩
  · obtain ⟨m, hn, hl⟩ := I.loc
    refine ⟨m, ns m hn, fun i x v e1 e2 e3 => ?_⟩
    obtain ⟨u, r, l⟩ := hl i x v e1 e2 e3
    refine ⟨u, r, ?_⟩
    rcases l with l | ⟨k, c, e, z⟩
    · exact .inl l
    · exact .inr ⟨k, c, e, cellK x c e _ z⟩
  · obtain ⟨v, z⟩ := I.cell x c e
    exact ⟨v, cellK x c e v z⟩
  · obtain ⟨m, ⟨o, _, _, ho, _⟩, _⟩ := I.loc
    exact free _ o (fun z => (hch _ z).2.1 rfl) ho I.free
  · obtain ⟨v, o, ho, hd⟩ := I.cell x c e
    exact free c o (fun z => (hch c z).2.2.1 x c e rfl) ho (I.freeC x c e)
  · obtain ⟨e, n, ne, nf, d⟩ := I.pin p hp
    have nch : p.1 ∉ ch := fun z => (hch p.1 z).2.2.2 p hp rfl
    exact ⟨keep p.1 p.2 ne nf nch e n, free p.1 p.2 nch e n, ne, nf, d⟩
theorem Inv.un {t' : Nat} (I : Inv X pins σ H s) (u : Un X.fs [] H H' s.heap h') (hok : HOk X.prog X.w H' h') : Inv X pins σ H' { s with heap := h', toks := t' } := by
  obtain ⟨m, ⟨o, es, ep, ho, r⟩, _⟩ := id I.loc
  obtain ⟨sl, hL⟩ := u.any ho I.free (by simp)
  exact I.step (g' := s.gens) (d' := s.drawn) (ch := []) (fun _ z => nomatch z) (fun b o _ hb _ e n => u.keep b o e n hb (by simp)) (fun b o _ hb _ e n => u.slot b o e n hb (by simp)) (fun b o _ e n => u.free b o e n (by simp)) (fun b o _ e => u.there b o e (by simp)) u.tups u.frzs u.tbls (fun m' hm => by
    obtain ⟨o', es', ep', ho', r'⟩ := hm
    rw [ho] at ho'; cases ho'
    exact ⟨_, es', ep', hL, r'⟩) hok I.bare
theorem Inv.call {g' : Array GenState} {t' : Nat} {d' : Drawn} {ch : List Addr} (I : Inv X pins σ H s) (u : Un (frs X.stack) ch H H' s.heap h') (hok : HOk X.prog X.w H' h') (hg : AllBare g')
    (hch : ∀ b ∈ ch, (b ∈ X.ex \/ X.s₀.heap.objs.size <= b) /\ b ≠ X.env.locals /\ (∀ x c, X.env.cells.lookup x = some c -> c ≠ b) /\ ∀ p ∈ X.pn ++ pins, p.1 ≠ b) :
    Inv X pins σ H' { s with heap := h', gens := g', drawn := d', toks := t' } := by
  obtain ⟨m, ⟨o, es, ep, ho, r⟩, _⟩ := id I.loc
  obtain ⟨sl, hL⟩ := u.any ho I.free fun z => (hch _ z).2.1 rfl
  exact I.step (ch := ch) hch (fun b o hL hb hc e n => u.keep b o e n (fun z => (List.mem_cons.mp (I.stkSub b z)).elim hL hb) hc) (fun b o _ _ hc e n => u.any e n hc) (fun b o hc e n => u.free b o e n hc) (fun b o hc e => u.there b o e hc) u.tups u.frzs u.tbls (fun m' hm => by
    obtain ⟨o', es', ep', ho', r'⟩ := hm
    rw [ho] at ho'; cases ho'
    exact ⟨_, es', ep', hL, r'⟩) hok hg
theorem Inv.turned {t' : Nat} {it : Addr} (I : Inv X pins σ H s) (k : ∀ b o, b ≠ it -> s.heap.get? b = some o -> h'.get? b = some o) (hn : H it = none) (hL : it ≠ X.env.locals)
    (h1 : it ∈ X.ex \/ X.s₀.heap.objs.size <= it) (h2 : ∀ x c, X.env.cells.lookup x = some c -> c ≠ it) (h3 : ∀ p ∈ X.pn ++ pins, p.1 ≠ it) : Inv X pins σ H { s with heap := h', toks := t' } := by
  have nit : ∀ b u, H b = some u -> b ≠ it := fun b u e z => by rw [z, hn] at e; cases e
  refine I.step (g' := s.gens) (d' := s.drawn) (ch := [it]) (fun b hb => ?_) (fun b o _ _ hc e _ => k b o (fun z => hc (by simp [z])) e) (fun b o _ _ hc e _ => ⟨o.slots, k b o (fun z => hc (by simp [z])) e⟩) (fun _ _ _ _ n => n)
    (fun b o hc e => ⟨o, k b o (fun z => hc (by simp [z])) e⟩) (fun _ _ e => e) (fun _ _ _ e => e) (fun b ps e => ⟨#[], by rw [e]; simp⟩) (fun m hm => ?_) (fun b u e => ?_) I.bare
  · have e : b = it := by simpa using hb
    subst e
    exact ⟨h1, hL, h2, h3⟩
  · obtain ⟨o, es, ep, ho, r⟩ := hm
    exact ⟨o, es, ep, k _ o (Ne.symm hL) ho, r⟩
  · refine (I.hok b u e).stay (fun c v hc q => k c v ?_ q) (fun _ q => q) fun _ _ q => q
    rcases hc with z | z
    · rw [z]; exact nit b u e
    · exact nit c _ z
theorem Inv.tok (I : Inv X pins σ H s) (t : Nat) : Inv X pins σ H { s with toks := t } := I.un (h' := s.heap) (t' := t) Un.refl I.hok
theorem Inv.kept {t' : Nat} (I : Inv X pins σ H s) (k : ∀ b u, s.heap.get? b = some u -> h'.get? b = some u) : Inv X pins σ H { s with heap := h', toks := t' } := I.un (Un.kept k) (I.hok.kept k)
theorem Inv.laid {a : Addr} {o : HO} {t' : Nat} (I : Inv X pins σ H s) (k : ∀ b u, s.heap.get? b = some u -> h'.get? b = some u) (hp : s.heap.objs.size <= a) (new : ObjOk X.prog X.w (upd H a o) h' a o) :
    Inv X pins σ (upd H a o) { s with heap := h', toks := t' } := I.un (Un.laid k hp (I.hok.fresh hp)) (I.hok.laid k hp new)
theorem Inv.write {x e : Addr} {o : HO} {t' : Nat} (I : Inv X pins σ H s) (mu : Mut (H x)) (he : e = x \/ H e = some (.own x)) (k : ∀ b u, b ≠ e -> s.heap.get? b = some u -> h'.get? b = some u) (heo : ∃ u, h'.get? e = some u)
    (new : ObjOk X.prog X.w (upd H x o) h' x o) : Inv X pins σ (upd H x o) { s with heap := h', toks := t' } := I.un (Un.write mu he k heo) (I.hok.write mu he k heo new)
theorem Inv.pins_of {pins' : List (Addr × Obj)} (I : Inv X pins σ H s) (h : ∀ p ∈ pins', s.heap.get? p.1 = some p.2 /\ H p.1 = none /\ p.1 ≠ X.env.locals /\ p.1 ∉ X.fs /\ ∀ v, p.2.data ≠ .cell v) : Inv X pins' σ H s :=
  ⟨I.ok, I.os, I.bare, I.base, I.loc, I.cell, I.free, I.freeC, fun p hp => (List.mem_append.mp hp).elim (fun z => I.pin p (List.mem_append_left _ z)) (h p), I.hok, I.len⟩
theorem nodup_ix {N : List Str} (hN : N.Nodup) {i j : Nat} {x : Str} (a : N[i]? = some x) (b : N[j]? = some x) : i = j := by
  obtain ⟨h1, e1⟩ := List.getElem?_eq_some_iff.mp a
  obtain ⟨h2, e2⟩ := List.getElem?_eq_some_iff.mp b
  exact (List.getElem_inj hN).mp (e1.trans e2.symm)
theorem store_ok2 {M : Model} {A : Around} {E : Value -> Shared -> Prop} {i : Nat} {x : Str} {v : V} {u : Value} {Q : Unit -> Shared -> Prop} (I : Inv X pins σ H s) (hN : X.N.Nodup) (hi : X.N[i]? = some x) (hx : Loc X.env.scope x) (r : RelV v u)
    (h : ∀ s', Inv X pins (σ.set i (some v)) H s' -> (∃ a, Heap.SameBut a s.heap s'.heap /\ (a = X.env.locals \/ X.env.cells.lookup x = some a)) -> Q () s') (hf : X.fn x = true \/ X.env.scope.names.lookup x = some .local := by first | exact .inl rfl | exact .inr rfl | assumption) : wpAny M A (storeName X.env x u) Q E s := by
  obtain ⟨m, hn, hl⟩ := id I.loc
  have hcls : (X.env.scope.kind == .class || (X.env.scope.kind == .module && X.env.locals != X.env.globals)) = false := by rw [I.ok.kind]; rfl
  have hiσ : i < σ.length := by rw [I.len]; exact (List.getElem?_eq_some_iff.mp hi).1
  have cne := I.cne
  have tracked : ∀ {a : Addr} {h' : Heap}, (∃ o, s.heap.get? a = some o /\ H a = none) -> Heap.SameBut a s.heap h' -> HOk X.prog X.w H h' := fun {a h'} ha hs b ob e => by
    obtain ⟨_, _, hfree⟩ := ha
    refine (I.hok b ob e).stay (fun c w' hc q => (hs.2 c ?_).trans q) (fun _ q => q) fun _ _ q => q
    rintro rfl
    rcases hc with rfl | hc
    · rw [hfree] at e; cases e
    · rw [hfree] at hc; cases hc
  rcases hx with hk | hk
  · refine wpAny_storeName_local hk hn (fun h' hn' hs => ?_) hcls
    obtain ⟨oL, _, _, hoL, _⟩ := id hn
    refine h _ ⟨I.ok, I.os, I.bare, ⟨fun b o e n hb hx => ?_, fun b o e n hb hx => ?_, I.base.free, fun b o e hx => ?_, I.base.tups, I.base.frzs, I.base.tbls⟩, ⟨_, hn', fun j y v' e1 e2 e3 => ?_⟩, fun y c e => ?_, I.free, I.freeC, fun p hp => ?_, tracked ⟨oL, hoL, I.free⟩ hs, by simpa using I.len⟩ ⟨_, hs, .inl rfl⟩
    · exact (hs.2 b (Nat.ne_of_lt (Nat.lt_of_lt_of_le (Heap.lt_size e) I.ok.above))).trans (I.base.keep b o e n hb hx)
    · obtain ⟨sl, e1⟩ := I.base.slot b o e n hb hx
      exact ⟨sl, (hs.2 b (Nat.ne_of_lt (Nat.lt_of_lt_of_le (Heap.lt_size e) I.ok.above))).trans e1⟩
    · obtain ⟨o', e1⟩ := I.base.there b o e hx
      exact ⟨o', (hs.2 b (Nat.ne_of_lt (Nat.lt_of_lt_of_le (Heap.lt_size e) I.ok.above))).trans e1⟩
    · by_cases hj : j = i
      · subst hj
        rw [hi] at e1; cases e1
        rw [List.getElem?_set_self hiσ] at e2
        cases e2
        exact ⟨u, r, .inl ⟨hk, by simp⟩⟩
      · rw [List.getElem?_set_ne (Ne.symm hj)] at e2
        obtain ⟨u', r', q⟩ := hl j y v' e1 e2 e3
        refine ⟨u', r', ?_⟩
        rcases q with ⟨k, e⟩ | ⟨k, c, e, z⟩
        · refine .inl ⟨k, ?_⟩
          have : y ≠ x := fun e => hj (nodup_ix hN e1 (e ▸ hi))
          simp [this, e]
        · exact .inr ⟨k, c, e, z.sameBut hs (cne y c e)⟩
    · obtain ⟨w', z⟩ := I.cell y c e
      exact ⟨w', z.sameBut hs (cne y c e)⟩
    · obtain ⟨e, n, ne, nf, d⟩ := I.pin p hp
      exact ⟨(hs.2 p.1 ne).trans e, n, ne, nf, d⟩
  · have hfn : X.fn x = true := by
      rcases hf with z | z
      · exact z
      · rw [z] at hk; cases hk
    obtain ⟨c, hc⟩ := I.ok.has x (.inl hk)
    obtain ⟨w', z⟩ := I.cell x c hc
    refine wpAny_storeName_cell I.ok.kind hk hc z (fun h' hc' hs => ?_)
    obtain ⟨oc, hoc, hocd⟩ := id z
    refine h { s with heap := h' } ⟨I.ok, I.os, I.bare, ⟨fun b o e n hb hx => ?_, fun b o e n hb hx => ?_, I.base.free, fun b o e hx => ?_, I.base.tups, I.base.frzs, I.base.tbls⟩, ⟨m, hn.sameBut hs (Ne.symm (cne x c hc)), fun j y v' e1 e2 e3 => ?_⟩, fun y c' e => ?_, I.free, I.freeC, fun p hp => ?_, tracked ⟨oc, hoc, I.freeC x c hc⟩ hs, by simpa using I.len⟩ ⟨c, hs, .inr hc⟩
    · exact (hs.2 b (Nat.ne_of_lt (Nat.lt_of_lt_of_le (Heap.lt_size e) (I.ok.cab x c hfn hc)))).trans (I.base.keep b o e n hb hx)
    · obtain ⟨sl, e1⟩ := I.base.slot b o e n hb hx
      exact ⟨sl, (hs.2 b (Nat.ne_of_lt (Nat.lt_of_lt_of_le (Heap.lt_size e) (I.ok.cab x c hfn hc)))).trans e1⟩
    · obtain ⟨o', e1⟩ := I.base.there b o e hx
      exact ⟨o', (hs.2 b (Nat.ne_of_lt (Nat.lt_of_lt_of_le (Heap.lt_size e) (I.ok.cab x c hfn hc)))).trans e1⟩
    · by_cases hj : j = i
      · subst hj
        rw [hi] at e1; cases e1
        rw [List.getElem?_set_self hiσ] at e2
        cases e2
        exact ⟨u, r, .inr ⟨.inl hk, c, hc, hc'⟩⟩
      · rw [List.getElem?_set_ne (Ne.symm hj)] at e2
        obtain ⟨u', r', q⟩ := hl j y v' e1 e2 e3
        refine ⟨u', r', ?_⟩
        rcases q with q | ⟨k, c', e, z'⟩
        · exact .inl q
        · refine .inr ⟨k, c', e, z'.sameBut hs ?_⟩
          rintro rfl
          exact hj (nodup_ix hN e1 (I.ok.inj _ _ _ e hc ▸ hi))
    · by_cases hcc : c' = c
      · subst hcc; exact ⟨_, hc'⟩
      · obtain ⟨w2, z2⟩ := I.cell y c' e
        exact ⟨w2, z2.sameBut hs hcc⟩
    · obtain ⟨e, n, ne, nf, d⟩ := I.pin p hp
      refine ⟨(hs.2 p.1 ?_).trans e, n, ne, nf, d⟩
      intro q
      rw [q, hoc] at e
      have q' : oc = p.2 := Option.some.inj e
      exact d w' (by rw [<- q']; exact hocd)
theorem store_ok {M : Model} {A : Around} {E : Value -> Shared -> Prop} {i : Nat} {x : Str} {v : V} {u : Value} {Q : Unit -> Shared -> Prop} (I : Inv X pins σ H s) (hN : X.N.Nodup) (hi : X.N[i]? = some x) (hx : Loc X.env.scope x) (r : RelV v u)
    (h : ∀ s', Inv X pins (σ.set i (some v)) H s' -> Q () s') (hf : X.fn x = true \/ X.env.scope.names.lookup x = some .local := by first | exact .inl rfl | exact .inr rfl | assumption) : wpAny M A (storeName X.env x u) Q E s :=
  store_ok2 I hN hi hx r (fun s' I' _ => h s' I') hf
theorem Inv.call' {s' : Shared} {ch : List Addr} (I : Inv X pins σ H s) (ho : s'.os = s.os) (u : Un (frs X.stack) ch H H' s.heap s'.heap) (hok : HOk X.prog X.w H' s'.heap) (hg : AllBare s'.gens)
    (hch : ∀ b ∈ ch, (b ∈ X.ex \/ X.s₀.heap.objs.size <= b) /\ b ≠ X.env.locals /\ (∀ x c, X.env.cells.lookup x = some c -> c ≠ b) /\ ∀ p ∈ X.pn ++ pins, p.1 ≠ b) : Inv X pins σ H' s' := by
  obtain ⟨h', g', d', t', o'⟩ := s'
  have e : o' = s.os := ho
  subst e
  exact I.call (g' := g') (t' := t') (d' := d') u hok hg hch
end
noncomputable abbrev XK := Value -> Option Addr -> Hp -> Prop
noncomputable abbrev St := List (Option V)
noncomputable abbrev VK := V -> Hp -> Prop
noncomputable abbrev TE := St -> Hp -> VK -> Prop
noncomputable abbrev TT := St -> Hp -> (Bool -> Hp -> Prop) -> Prop
noncomputable abbrev TA := St -> Hp -> (List V -> Hp -> Prop) -> Prop
structure Ends where
  nx : St -> Hp -> Prop
  rt : VK
  bk : St -> Hp -> Prop := fun _ _ => False
  ct : St -> Hp -> Prop := fun _ _ => False
noncomputable abbrev TS := Ends -> St -> Hp -> Prop
noncomputable def EP (X : Cx) (pins : List (Addr × Obj)) (σ : St) (Q : VK) (u : Value) (s' : Shared) : Prop := ∃ v H', Inv X pins σ H' s' /\ RelV v u /\ Q v H'
noncomputable def TP (X : Cx) (pins : List (Addr × Obj)) (σ : St) (Q : Bool -> Hp -> Prop) (b : Bool) (s' : Shared) : Prop := ∃ H', Inv X pins σ H' s' /\ Q b H'
noncomputable def AP (X : Cx) (pins : List (Addr × Obj)) (σ : St) (Q : List V -> Hp -> Prop) (us : List Value) (s' : Shared) : Prop := ∃ vs H', Inv X pins σ H' s' /\ Vals vs us /\ Q vs H'
noncomputable def SP (X : Cx) (pins : List (Addr × Obj)) (D : Ends) (f : Flow) (s' : Shared) : Prop :=
  match f with
  | .next => ∃ σ' H', Inv X pins σ' H' s' /\ D.nx σ' H'
  | .brk => ∃ σ' H', Inv X pins σ' H' s' /\ D.bk σ' H'
  | .cont => ∃ σ' H', Inv X pins σ' H' s' /\ D.ct σ' H'
  | .ret u => ∃ v σ' H', Inv X pins σ' H' s' /\ RelV v u /\ D.rt v H'
noncomputable def PE (X : Cx) (e : Expr) (t : TE) : Prop :=
  ∀ (pins : List (Addr × Obj)) (s : Shared) (σ : St) (H : Hp) (Q : VK), Inv X pins σ H s -> t σ H Q -> wpAny (model X.prog X.w) X.A (eval e X.env) (EP X pins σ Q) X.xe s
noncomputable def PT (X : Cx) (e : Expr) (t : TT) : Prop :=
  ∀ (pins : List (Addr × Obj)) (s : Shared) (σ : St) (H : Hp) (Q : Bool -> Hp -> Prop), Inv X pins σ H s -> t σ H Q -> wpAny (model X.prog X.w) X.A (isTrue e X.env (eval e X.env)) (TP X pins σ Q) X.xe s
noncomputable def PW (X : Cx) (e : Expr) (t : TT) : Prop :=
  ∀ (whole : Sem Value) (pins : List (Addr × Obj)) (s : Shared) (σ : St) (H : Hp) (Q : Bool -> Hp -> Prop), Inv X pins σ H s -> t σ H Q -> wpAny (model X.prog X.w) X.A (isTrue e X.env whole) (TP X pins σ Q) X.xe s
theorem PW.pt {X : Cx} {e : Expr} {t : TT} (h : PW X e t) : PT X e t := h _
noncomputable def PA (X : Cx) (es : List Expr) (t : TA) : Prop :=
  ∀ (pos : Pos) (pins : List (Addr × Obj)) (s : Shared) (σ : St) (H : Hp) (Q : List V -> Hp -> Prop), Inv X pins σ H s -> t σ H Q -> wpAny (model X.prog X.w) X.A (spliced (backTo pos (starEach es X.env))) (AP X pins σ Q) X.xe s
noncomputable def PS (X : Cx) (st : Stmt) (t : TS) : Prop :=
  ∀ (pins : List (Addr × Obj)) (s : Shared) (σ : St) (H : Hp) (D : Ends), Inv X pins σ H s -> t D σ H -> wpAny (model X.prog X.w) X.A (exec st X.env) (SP X pins D) X.xe s
noncomputable def PSs (X : Cx) (st : List Stmt) (t : TS) : Prop :=
  ∀ (pins : List (Addr × Obj)) (s : Shared) (σ : St) (H : Hp) (D : Ends), Inv X pins σ H s -> t D σ H -> wpAny (model X.prog X.w) X.A (execs st X.env) (SP X pins D) X.xe s
theorem thn {α : Type} {t : Sem α} {Q Q' : α -> Shared -> Prop} {M : Model} {A : Around} {E : Value -> Shared -> Prop} {s : Shared} (h : wpAny M A t Q E s) (hQ : ∀ a s, Q a s -> Q' a s) : wpAny M A t Q' E s := wpAny_mono h hQ fun _ _ x => x
end L2
namespace L2
open PySem PySem.Spec PyProof.Rows
section
variable {X : Cx}
noncomputable def tVar (i : Nat) : TE := fun σ H Q => ∃ v, σ[i]? = some (some v) /\ Q v H
noncomputable def tC (v : V) : TE := fun _ H Q => Q v H
theorem pe_var {i : Nat} {x : Str} {pos : Pos} (hN : X.N[i]? = some x) (hv : Vis X.env.scope x) (hd : (x == ("__debug__" : Str)) = false := by decide) (hcd : (x == ("__classdict__" : Str)) = false := by decide) : PE X (.Name x pos) (tVar i) := by
  intro pins s σ H Q I h
  obtain ⟨v, e, h⟩ := h
  obtain ⟨m, hn, hl⟩ := I.loc
  obtain ⟨u, r, l⟩ := hl i x v hN e hv
  have fin : EP X pins σ Q u s := ⟨v, H, I, r, h⟩
  rcases l with ⟨hk, hm⟩ | ⟨hk, c, hc, hcell⟩
  · exact wpAny_Name (wpAny_loadName_local I.ok.kind hk hn hm fin) hd
  · rcases hk with hk | hk
    · exact wpAny_Name (wpAny_loadName_cell I.ok.kind hk hc hcell fin) hd
    · exact wpAny_Name (wpAny_loadName_free I.ok.kind hk hc hcell fin hcd) hd
theorem pe_int {i j pos} : PE X (.Constant (.int i) j pos) (tC (.int i)) := fun _ _ _ H _ I h => wpAny_Constant_int ⟨.int i, H, I.tok _, ⟨_, rfl⟩, h⟩
theorem pe_bl {b j pos} : PE X (.Constant (.bool b) j pos) (tC (.bl b)) := fun _ _ _ H _ I h => Constant_bool ⟨.bl b, H, I, rfl, h⟩
noncomputable def Gl (X : Cx) (x : Str) : Prop := X.env.kindOf x = some .globalImplicit
theorem ld_glob {E : Value -> Shared -> Prop} {pins : List (Addr × Obj)} {s : Shared} {σ : St} {H : Hp} {x : Str} {u : Value} {pos : Pos} {Q : Value -> Shared -> Prop} (I : Inv X pins σ H s) (hg : Gl X x) (hm : X.mg x = some u) (h : Q u s)
    (hd : (x == ("__debug__" : Str)) = false := by decide) : wpAny (model X.prog X.w) X.A (eval (.Name x pos) X.env) Q E s :=
  Calls.Name_function_global I.ok.kind hg (Calls.loadGlobal_global (by rw [I.ok.glob]; exact I.mod.glob.keeps I.bk) hm h) hd
theorem ld_blt {E : Value -> Shared -> Prop} {pins : List (Addr × Obj)} {s : Shared} {σ : St} {H : Hp} {x : Str} {u : Value} {pos : Pos} {Q : Value -> Shared -> Prop} (I : Inv X pins σ H s) (hg : Gl X x) (hm : X.mg x = none) (hv : bootBuiltins x = some u) (h : Q u s)
    (hn : x ≠ "__name__" := by decide) (hd : (x == ("__debug__" : Str)) = false := by decide) : wpAny (model X.prog X.w) X.A (eval (.Name x pos) X.env) Q E s := by
  obtain ⟨mb, h1, h2⟩ := I.mod.blt
  exact Calls.Name_function_global I.ok.kind hg (Calls.loadGlobal_builtin (by rw [I.ok.glob]; exact I.mod.glob.keeps I.bk) hm (by rw [I.ok.blt]; exact h1.keeps I.bk) ((h2 x hn).trans hv) h) hd
theorem pe_bltn {x : Str} {v : V} {u : Value} {pos : Pos} (hg : Gl X x) (hm : X.mg x = none) (hv : bootBuiltins x = some u) (r : RelV v u) (hn : x ≠ "__name__" := by decide) (hd : (x == ("__debug__" : Str)) = false := by decide) : PE X (.Name x pos) (tC v) :=
  fun _ _ _ H _ I h => ld_blt I hg hm hv ⟨v, H, I, r, h⟩ hn hd
noncomputable def t2I (ta tb : TE) (k : Int -> Int -> Hp -> Prop) : St -> Hp -> Prop := fun σ H => ta σ H fun x H1 => tb σ H1 fun y H2 => ∃ i j, x = .int i /\ y = .int j /\ k i j H2
noncomputable def tAdd (ta tb : TE) : TE := fun σ H Q => t2I ta tb (fun i j H2 => Q (.int (i + j)) H2) σ H
noncomputable def tSub (ta tb : TE) : TE := fun σ H Q => t2I ta tb (fun i j H2 => Q (.int (i - j)) H2) σ H
noncomputable def tMul (ta tb : TE) : TE := fun σ H Q => t2I ta tb (fun i j H2 => (-(2 ^ 64) < i /\ i < 2 ^ 64) /\ Q (.int (i * j)) H2) σ H
variable {a b : Expr} {ta tb : TE} {pos : Pos}
noncomputable def PC (X : Cx) (op : CmpOp) (a b : Expr) (t : TE) : Prop :=
  ∀ (pins : List (Addr × Obj)) (s : Shared) (σ : St) (H : Hp) (Q : VK), Inv X pins σ H s -> t σ H Q ->
    wpAny (model X.prog X.w) X.A (eval a X.env) (fun v s₁ => wpAny (model X.prog X.w) X.A (eval b X.env) (fun u s₂ => wpAny (model X.prog X.w) X.A (compareOp op v u) (EP X pins σ Q) X.xe s₂) X.xe s₁) X.xe s
noncomputable def tCmp (p : Int -> Int -> Bool) (ta tb : TE) : TE := fun σ H Q => t2I ta tb (fun i j H2 => Q (.bl (p i j)) H2) σ H
noncomputable abbrev tLt : TE -> TE -> TE := tCmp fun i j => decide (i < j)
noncomputable abbrev tLe : TE -> TE -> TE := tCmp fun i j => decide (i <= j)
noncomputable abbrev tGt : TE -> TE -> TE := tCmp fun i j => decide (j < i)
noncomputable abbrev tGe : TE -> TE -> TE := tCmp fun i j => decide (j <= i)
noncomputable abbrev tEqI : TE -> TE -> TE := tCmp fun i j => decide (i = j)
noncomputable abbrev tNeI : TE -> TE -> TE := tCmp fun i j => !decide (i = j)
noncomputable def tIsN (ta : TE) : TE := fun σ H Q => ta σ H fun x H1 => Q (.bl (decide (x = .non))) H1
noncomputable def tNotN (ta : TE) : TE := fun σ H Q => ta σ H fun x H1 => Q (.bl (!decide (x = .non))) H1
noncomputable def tB (t : TE) : TT := fun σ H Q => t σ H fun x H1 => ∃ c, x = .bl c /\ Q c H1
variable {tA tB' : TT} {rest : List Expr}
noncomputable def tAnd (t u : TT) : TT := fun σ H Q => t σ H fun c H1 => if c = true then u σ H1 Q else Q false H1
noncomputable def tOr (t u : TT) : TT := fun σ H Q => t σ H fun c H1 => if c = true then Q true H1 else u σ H1 Q
noncomputable def tNot (t : TT) : TT := fun σ H Q => t σ H fun c H1 => Q (!c) H1
theorem pw_and1 (ha : PT X a tA) : PW X (.BoolOp .And [a] pos) tA := by
  intro wh pins s σ H Q I h
  refine isTrue_and (thn (ha pins s σ H Q I h) fun c s1 e => ?_)
  cases c with
  | true => exact isTrue_and_nil e
  | false => exact e
theorem pw_or1 (ha : PT X a tA) : PW X (.BoolOp .Or [a] pos) tA := by
  intro wh pins s σ H Q I h
  refine isTrue_or (thn (ha pins s σ H Q I h) fun c s1 e => ?_)
  cases c with
  | false => exact isTrue_or_nil e
  | true => exact e
theorem pw_and (ha : PT X a tA) (hb : PW X (.BoolOp .And (b :: rest) pos) tB') : PW X (.BoolOp .And (a :: b :: rest) pos) (tAnd tA tB') := by
  intro wh pins s σ H Q I h
  refine isTrue_and (thn (ha pins s σ H _ I h) fun c s1 ⟨H1, I1, q1⟩ => ?_)
  cases c with
  | true => exact hb wh pins s1 σ H1 Q I1 q1
  | false => exact ⟨H1, I1, q1⟩
theorem pw_or (ha : PT X a tA) (hb : PW X (.BoolOp .Or (b :: rest) pos) tB') : PW X (.BoolOp .Or (a :: b :: rest) pos) (tOr tA tB') := by
  intro wh pins s σ H Q I h
  refine isTrue_or (thn (ha pins s σ H _ I h) fun c s1 ⟨H1, I1, q1⟩ => ?_)
  cases c with
  | true => exact ⟨H1, I1, q1⟩
  | false => exact hb wh pins s1 σ H1 Q I1 q1
theorem pt_not (ha : PT X a tA) : PT X (.UnaryOp .Not a pos) (tNot tA) := by
  intro pins s σ H Q I h
  exact isTrue_not (ha pins s σ H (fun c H1 => Q (!c) H1) I h)
noncomputable def tAndV (ta tb : TE) : TE := fun σ H Q => ta σ H fun x H1 => ∃ c, x = .bl c /\ if c = true then tb σ H1 Q else Q (.bl false) H1
noncomputable def tOrV (ta tb : TE) : TE := fun σ H Q => ta σ H fun x H1 => ∃ c, x = .bl c /\ if c = true then Q (.bl true) H1 else tb σ H1 Q
noncomputable def tNotV (ta : TE) : TE := fun σ H Q => ta σ H fun x H1 => ∃ c, x = .bl c /\ Q (.bl (!c)) H1
theorem pe_one {op} {t : TE} (h : PE X a t) : PE X (.BoolOp op [a] pos) t := fun pins s σ H Q I hw => BoolOp_one (h pins s σ H Q I hw)
theorem pe_and (ha : PE X a ta) (hb : PE X (.BoolOp .And (b :: rest) pos) tb) : PE X (.BoolOp .And (a :: b :: rest) pos) (tAndV ta tb) := by
  intro pins s σ H Q I h
  refine BoolOp_and (thn (ha pins s σ H _ I h) fun v s1 ⟨x, H1, I1, r1, q1⟩ => ?_)
  obtain ⟨c, rfl, q1⟩ := q1
  cases r1
  refine wpAny_truthy_bool ?_
  cases c with
  | true => exact hb pins s1 σ H1 Q I1 q1
  | false => exact ⟨.bl false, H1, I1, rfl, q1⟩
theorem pe_not (ha : PE X a ta) : PE X (.UnaryOp .Not a pos) (tNotV ta) := by
  intro pins s σ H Q I h
  refine UnaryOp_ (thn (ha pins s σ H _ I h) fun v s1 ⟨x, H1, I1, r1, q1⟩ => ?_)
  obtain ⟨c, rfl, q1⟩ := q1
  cases r1
  exact not_of (wpAny_truthy_bool ⟨.bl (!c), H1, I1, rfl, q1⟩)
noncomputable def tIf (t : TT) (ta tb : TE) : TE := fun σ H Q => t σ H fun c H1 => if c = true then ta σ H1 Q else tb σ H1 Q
end
end L2
namespace L2
open PySem PySem.Spec PyProof.Rows
noncomputable def SqL (K : PySem.W.Frag) (H : Hp) (a : Addr) (xs : List V) : Prop :=
  Rd H a (.lst xs) \/
    ∃ (o : Obj) (its : Array Value) (n : Nat), K.lookup a = some o /\ o.cls = .type "list" /\ o.dict = none /\ o.data = .seq its n /\ its.size <= sizeLine /\ Vals xs its.toList
noncomputable def SqT (K : PySem.W.Frag) (H : Hp) (a : Addr) (xs : List V) : Prop :=
  Rd H a (.tup xs) \/
    ∃ (o : Obj) (its : Array Value) (n : Nat), K.lookup a = some o /\ o.cls = .type "tuple" /\ o.dict = none /\ o.data = .seq its n /\ its.size <= sizeLine /\ Vals xs its.toList
noncomputable def absV : Value -> Option V
  | .none => some .non
  | .bool b => some (.bl b)
  | .int i _ => some (.int i)
  | .str x _ => some (.str x)
  | .bytes b _ => some (.byt b)
  | .float b _ => some (.flt b)
  | .ref a => some (.ref a)
  | .type n => some (.ty n)
  | _ => none
theorem RelV.abs {x : V} {u : Value} (r : RelV x u) : absV u = some x := by
  cases x with
  | non => cases r; rfl
  | bl _ => cases r; rfl
  | int _ => obtain ⟨t, rfl⟩ := r; rfl
  | str _ => obtain ⟨t, rfl⟩ := r; rfl
  | byt _ => obtain ⟨t, rfl⟩ := r; rfl
  | flt _ => obtain ⟨t, rfl⟩ := r; rfl
  | ref _ => cases r; rfl
  | ty _ => cases r; rfl
theorem RelV.inj {x y : V} {u : Value} (r : RelV x u) (q : RelV y u) : x = y := Option.some.inj (r.abs.symm.trans q.abs)
theorem Vals.inj : ∀ {xs ys : List V} {us : List Value}, Vals xs us -> Vals ys us -> xs = ys
  | _, _, _, .nil, .nil => rfl
  | _, _, _, .cons r t, .cons r' t' => by rw [r.inj r', Vals.inj t t']
section
variable {X : Cx} {pins : List (Addr × Obj)} {σ : St} {H : Hp} {s : Shared} {a : Addr} {xs ys : List V}
theorem SqL.of {K : PySem.W.Frag} (h : H a = some (.lst xs)) : SqL K H a xs := .inl (.inl h)
theorem SqT.of {K : PySem.W.Frag} (h : H a = some (.tup xs)) : SqT K H a xs := .inl (.inl h)
theorem Inv.list (I : Inv X pins σ H s) (h : SqL X.K H a xs) : ∃ its : List Value, Vals xs its /\ PlainL s.heap a its.toArray /\ xs.length <= sizeLine := by
  rcases h with h | ⟨o, its, n, hk, hc, hd, hs, hz, r⟩
  · obtain ⟨z, its, n, r, e⟩ := h.ok I.hok
    exact ⟨its, r, ⟨_, n, e, rfl, rfl, rfl⟩, z⟩
  · refine ⟨its.toList, r, ⟨o, n, I.kIn a o hk, hc, hd, by simpa using hs⟩, ?_⟩
    have e := r.length
    simp only [Array.length_toList] at e
    omega
theorem Inv.tuple (I : Inv X pins σ H s) (h : SqT X.K H a xs) : ∃ its : List Value, Vals xs its /\ IsTup s.heap a its.toArray /\ xs.length <= sizeLine := by
  rcases h with h | ⟨o, its, n, hk, hc, _, hs, hz, r⟩
  · obtain ⟨z, its, r, p⟩ := h.ok I.hok
    exact ⟨its, r, p.tup, z⟩
  · refine ⟨its.toList, r, ⟨o, I.kIn a o hk, hc, n, by simpa using hs⟩, ?_⟩
    have e := r.length
    simp only [Array.length_toList] at e
    omega
theorem Inv.list_inj (I : Inv X pins σ H s) (h : SqL X.K H a xs) (h' : SqL X.K H a ys) : xs = ys := by
  obtain ⟨its, r, ⟨o, n, e, _, _, d⟩, _⟩ := I.list h
  obtain ⟨its', r', ⟨o', n', e', _, _, d'⟩, _⟩ := I.list h'
  rw [e] at e'; cases e'
  rw [d] at d'
  injection d' with d1 _
  have : its = its' := by simpa using congrArg Array.toList d1
  subst this
  exact r.inj r'
theorem Inv.tuple_inj (I : Inv X pins σ H s) (h : SqT X.K H a xs) (h' : SqT X.K H a ys) : xs = ys := by
  obtain ⟨its, r, ⟨o, e, _, n, d⟩, _⟩ := I.tuple h
  obtain ⟨its', r', ⟨o', e', _, n', d'⟩, _⟩ := I.tuple h'
  rw [e] at e'; cases e'
  rw [d] at d'
  injection d' with d1 _
  have : its = its' := by simpa using congrArg Array.toList d1
  subst this
  exact r.inj r'
end
noncomputable abbrev Cx.wish (X : Cx) (E : Value -> Shared -> Prop) : Cx := { X with xe := E }
noncomputable abbrev Cx.nox (X : Cx) : Cx := X.wish fun _ _ => False
theorem Cx.Ok.wish {X : Cx} (ok : X.Ok) (E : Value -> Shared -> Prop) : (X.wish E).Ok :=
  ⟨ok.mod, ok.kind, ok.glob, ok.blt, ok.above, ok.inj, ok.has, ok.cab, ok.hd, ok.frames, ok.stk, ok.exf, ok.bs, ok.bsz, ok.noex, ok.exfs, ok.funs, ok.frf⟩
theorem Cx.Ok.unwish {X : Cx} {E : Value -> Shared -> Prop} (ok : (X.wish E).Ok) : X.Ok :=
  ⟨ok.mod, ok.kind, ok.glob, ok.blt, ok.above, ok.inj, ok.has, ok.cab, ok.hd, ok.frames, ok.stk, ok.exf, ok.bs, ok.bsz, ok.noex, ok.exfs, ok.funs, ok.frf⟩
section
variable {X : Cx} {pins : List (Addr × Obj)} {σ : St} {H : Hp} {s : Shared} {E : Value -> Shared -> Prop}
theorem Inv.wish (I : Inv X pins σ H s) (E : Value -> Shared -> Prop) : Inv (X.wish E) pins σ H s := ⟨I.ok.wish E, I.os, I.bare, I.base, I.loc, I.cell, I.free, I.freeC, I.pin, I.hok, I.len⟩
theorem Inv.unwish (I : Inv (X.wish E) pins σ H s) : Inv X pins σ H s := ⟨I.ok.unwish, I.os, I.bare, I.base, I.loc, I.cell, I.free, I.freeC, I.pin, I.hok, I.len⟩
theorem SP.unwish {D : Ends} {f : Flow} {s' : Shared} (h : SP (X.wish E) pins D f s') : SP X pins D f s' := by
  cases f with
  | next => obtain ⟨σ', H', I, q⟩ := h; exact ⟨σ', H', I.unwish, q⟩
  | brk => obtain ⟨σ', H', I, q⟩ := h; exact ⟨σ', H', I.unwish, q⟩
  | cont => obtain ⟨σ', H', I, q⟩ := h; exact ⟨σ', H', I.unwish, q⟩
  | ret u => obtain ⟨v, σ', H', I, r, q⟩ := h; exact ⟨v, σ', H', I.unwish, r, q⟩
theorem PE.nox {e : Expr} {t : TE} (h : PE X.nox e t) : PE X e t := fun pins s σ H Q I hw =>
  wpAny_mono (h pins s σ H Q (I.wish _) hw) (fun _ _ ⟨v, H', I', r, q⟩ => ⟨v, H', I'.unwish, r, q⟩) fun _ _ z => False.elim z
theorem PT.nox {e : Expr} {t : TT} (h : PT X.nox e t) : PT X e t := fun pins s σ H Q I hw =>
  wpAny_mono (h pins s σ H Q (I.wish _) hw) (fun _ _ ⟨H', I', q⟩ => ⟨H', I'.unwish, q⟩) fun _ _ z => False.elim z
theorem PSs.nox {st : List Stmt} {t : TS} (h : PSs X.nox st t) : PSs X st t := fun pins s σ H D I hw =>
  wpAny_mono (h pins s σ H D (I.wish _) hw) (fun _ _ q => q.unwish) fun _ _ z => False.elim z
end
section
variable {X : Cx} {st : Stmt} {rest : List Stmt} {t u : TS} {e : Expr} {te : TE} {pos : Pos}
noncomputable def tNext : TS := fun D σ H => D.nx σ H
noncomputable def tSeq (t u : TS) : TS := fun D σ H => t { D with nx := u D } σ H
theorem pss_nil : PSs X [] tNext := fun _ _ σ H _ I h => wpAny_execs_nil ⟨σ, H, I, h⟩
theorem pss_cons (h1 : PS X st t) (h2 : PSs X rest u) : PSs X (st :: rest) (tSeq t u) := by
  intro pins s σ H D I h
  refine wpAny_execs_cons (thn (h1 pins s σ H { D with nx := u D } I h) fun f s1 q => ?_)
  cases f with
  | next =>
    obtain ⟨σ', H', I', q⟩ := q
    exact h2 pins s1 σ' H' D I' q
  | ret v => exact q
  | brk => exact q
  | cont => exact q
theorem pss_one (h1 : PS X st t) : PSs X [st] t := by
  intro pins s σ H D I h
  refine wpAny_execs_cons (thn (h1 pins s σ H D I h) fun f s1 q => ?_)
  cases f with
  | next => exact wpAny_execs_nil q
  | ret v => exact q
  | brk => exact q
  | cont => exact q
noncomputable def tBreak : TS := fun D σ H => D.bk σ H
noncomputable def tCont : TS := fun D σ H => D.ct σ H
theorem Inv.quiet {pins : List (Addr × Obj)} {σ : St} {H : Hp} {s : Shared} (I : Inv X pins σ H s) : interactive X.env = false := by simp [interactive, I.ok.kind]
noncomputable def tDrop (te : TE) : TS := fun D σ H => te σ H fun _ H1 => D.nx σ H1
theorem ps_expr (he : PE X e te) (hs : swapsWith e none pos.line X.env = pure false := by rfl) : PS X (.Expr e pos) (tDrop te) := by
  intro pins s σ H D I h
  exact wpAny_Expr_any (thn (he pins s σ H _ I h) fun v s1 ⟨x, H1, I1, r1, q1⟩ => ⟨σ, H1, I1, q1⟩) I.quiet hs
noncomputable def tRet (te : TE) : TS := fun D σ H => te σ H D.rt
theorem ps_ret (he : PE X e te) : PS X (.Return (some e) pos) (tRet te) := by
  intro pins s σ H D I h
  exact wpAny_Return_some (thn (he pins s σ H _ I h) fun v s1 ⟨x, H1, I1, r1, q1⟩ => ⟨x, σ, H1, I1, r1, q1⟩)
noncomputable def tRetN : TS := fun D _ H => D.rt .non H
noncomputable def tIfS (c : TT) (t u : TS) : TS := fun D σ H => c σ H fun b H1 => if b = true then t D σ H1 else u D σ H1
theorem ps_if {c : Expr} {a b : List Stmt} {tc : TT} (hc : PT X c tc) (ha : PSs X a t) (hb : PSs X b u) : PS X (.If c a b pos) (tIfS tc t u) := by
  intro pins s σ H D I h
  refine wpAny_If (thn (hc pins s σ H _ I h) fun d s1 ⟨H1, I1, q1⟩ => ?_)
  cases d with
  | true => exact ha pins s1 σ H1 D I1 q1
  | false => exact hb pins s1 σ H1 D I1 q1
noncomputable def tNever : TS := fun _ _ _ => False
end
noncomputable abbrev TG := V -> St -> Hp -> (St -> Hp -> Prop) -> Prop
noncomputable abbrev TGs := List V -> St -> Hp -> (St -> Hp -> Prop) -> Prop
noncomputable def PG (X : Cx) (target : Expr) (t : TG) : Prop :=
  ∀ (pins : List (Addr × Obj)) (s : Shared) (σ : St) (H : Hp) (v : V) (u : Value) (Q : St -> Hp -> Prop), Inv X pins σ H s -> RelV v u -> t v σ H Q ->
    wpAny (model X.prog X.w) X.A (assign target X.env u) (fun _ s' => ∃ σ' H', Inv X pins σ' H' s' /\ Q σ' H') X.xe s
noncomputable def PGs (X : Cx) (ts : List Expr) (t : TGs) : Prop :=
  ∀ (pins : List (Addr × Obj)) (s : Shared) (σ : St) (H : Hp) (vs : List V) (us : List Value) (Q : St -> Hp -> Prop), Inv X pins σ H s -> Vals vs us -> t vs σ H Q ->
    wpAny (model X.prog X.w) X.A (assignInOrder ((assignEach ts X.env).map (·.2)) us) (fun _ s' => ∃ σ' H', Inv X pins σ' H' s' /\ Q σ' H') X.xe s
noncomputable abbrev TSet := V -> V -> V -> Hp -> (Hp -> Prop) -> Prop
noncomputable def PSet (X : Cx) (t : TSet) : Prop :=
  ∀ (pins : List (Addr × Obj)) (s : Shared) (σ : St) (H : Hp) (o i v : V) (ov iv u : Value) (Q : Hp -> Prop), Inv X pins σ H s -> RelV o ov -> RelV i iv -> RelV v u -> t o i v H Q ->
    wpAny (model X.prog X.w) X.A (setItem ov iv u) (fun _ s' => ∃ H', Inv X pins σ H' s' /\ Q H') X.xe s
noncomputable abbrev TIp := V -> V -> Hp -> VK -> Prop
noncomputable def PIp (X : Cx) (op : Operator) (t : TIp) : Prop :=
  ∀ (pins : List (Addr × Obj)) (s : Shared) (σ : St) (H : Hp) (x y : V) (v u : Value) (Q : VK), Inv X pins σ H s -> RelV x v -> RelV y u -> t x y H Q ->
    wpAny (model X.prog X.w) X.A (inplaceOp op v u) (EP X pins σ Q) X.xe s
section
variable {X : Cx} {pos : Pos}
noncomputable def gName (i : Nat) : TG := fun v σ H Q => Q (σ.set i (some v)) H
theorem pg_name {i : Nat} {x : Str} (hN : X.N.Nodup) (hi : X.N[i]? = some x) (hx : Loc X.env.scope x) (hf : X.fn x = true \/ X.env.scope.names.lookup x = some .local := by first | exact .inl rfl | exact .inr rfl | assumption) : PG X (.Name x pos) (gName i) := by
  intro pins s σ H v u Q I r h
  exact wpAny_assign_Name (store_ok I hN hi hx r (fun s' I' => ⟨_, H, I', h⟩) hf)
noncomputable def gNil : TGs := fun vs σ H Q => vs = [] /\ Q σ H
noncomputable def gCons (t : TG) (u : TGs) : TGs := fun vs σ H Q => ∃ v r, vs = v :: r /\ t v σ H fun σ' H' => u r σ' H' Q
theorem pgs_nil : PGs X [] gNil := by
  intro pins s σ H vs us Q I r h
  obtain ⟨e, h⟩ := h
  subst e
  cases r
  exact assignInOrder_nil ⟨σ, H, I, h⟩
theorem pgs_cons {e : Expr} {es : List Expr} {t : TG} {u : TGs} (h1 : PG X e t) (h2 : PGs X es u)
    (hs : (assignEach (e :: es) X.env).map (·.2) = assign e X.env :: (assignEach es X.env).map (·.2) := by rfl) : PGs X (e :: es) (gCons t u) := by
  intro pins s σ H vs us Q I r h
  obtain ⟨v, vr, e1, h⟩ := h
  subst e1
  cases r with
  | cons r rr =>
    rw [hs]
    refine assignInOrder_cons (thn (h1 pins s σ H _ _ _ I r h) fun _ s1 ⟨σ1, H1, I1, q1⟩ => ?_)
    exact h2 pins s1 σ1 H1 _ _ Q I1 rr q1
noncomputable def gTup (K : PySem.W.Frag) (n : Nat) (t : TGs) : TG := fun v σ H Q => ∃ a xs, v = .ref a /\ SqT K H a xs /\ xs.length = n /\ t xs σ H Q
theorem pg_tup {es : List Expr} {k : Nat} {t : TGs} {n : Nat} (hc : X.calm = true) (h : PGs X es t)
    (hn : (assignEach es X.env).length = n := by rfl) (hst : (assignEach es X.env).findIdx? (·.1) = none := by rfl) : PG X (.Tuple es k pos) (gTup X.K n t) := by
  intro pins s σ H v u Q I r hw
  obtain ⟨a, xs, e1, hq, hl, hw⟩ := hw
  subst e1
  cases r
  obtain ⟨its, rv, ht, hz⟩ := I.tuple hq
  refine assign_Tuple_tuple (I.ok.hd hc) ht (by simp [hn, <- hl, rv.length]) hst fun h' hx => ?_
  have I1 : Inv X pins σ H { s with heap := h' } := I.kept (t' := s.toks) fun b o e => hx b o (Nat.ne_of_lt (Heap.lt_size e)) e
  exact h pins _ σ H xs _ Q I1 (by simpa using rv) hw
noncomputable def gSub (to ti : TE) (t : TSet) : TG := fun v σ H Q => to σ H fun o H1 => ti σ H1 fun i H2 => t o i v H2 fun H3 => Q σ H3
theorem pg_sub {o i : Expr} {to ti : TE} {t : TSet} (ho : PE X o to) (hi : PE X i ti) (hs : PSet X t)
    (ha : ∀ v, assign (.Subscript o i pos) X.env v = (do
      let ov <- holding [v] (eval o X.env)
      let iv <- holding [v, ov] (eval i X.env)
      standAt pos
      holding [v, ov, iv] (setItem ov iv v)
      release [v, ov, iv] []) := by intro _; rfl) : PG X (.Subscript o i pos) (gSub to ti t) := by
  intro pins s σ H v u Q I r h
  rw [ha]
  refine wpAny_bind (wpAny_holding (thn (ho pins s σ H _ I h) fun ov s1 ⟨x, H1, I1, r1, q1⟩ => ?_))
  refine wpAny_bind (wpAny_holding (thn (hi pins s1 σ H1 _ I1 q1) fun iv s2 ⟨y, H2, I2, r2, q2⟩ => ?_))
  refine wpAny_bind (wpAny_standAt (wpAny_bind (wpAny_holding (thn (hs pins s2 σ H2 x y v ov iv u _ I2 r1 r2 r q2) fun _ s3 ⟨H3, I3, q3⟩ => ?_))))
  exact wpAny_release ⟨σ, H3, I3, q3⟩
noncomputable def tAsg (te : TE) (g : TG) : TS := fun D σ H => te σ H fun x H1 => g x σ H1 D.nx
theorem ps_asg {tg e : Expr} {te : TE} {g : TG} (he : PE X e te) (hg : PG X tg g) (hs : swapsWithSole [tg] e pos.line X.env = pure false := by rfl) (hw : swappedStores [tg] e X.env = pure none := by rfl)
    (h1 : (assignEach [tg] X.env).map (·.2) = [assign tg X.env] := by rfl) : PS X (.Assign [tg] e pos) (tAsg te g) := by
  intro pins s σ H D I h
  refine wpAny_Assign_stores (thn (he pins s σ H _ I h) fun v s1 ⟨x, H1, I1, r1, q1⟩ => ?_) hs hw
  rw [h1]
  exact thn (hg pins s1 σ H1 x v _ I1 r1 q1) fun _ s2 q => q
theorem ps_set {i : Nat} {x : Str} {e : Expr} {te : TE} {pos' : Pos} (hN : X.N.Nodup) (hi : X.N[i]? = some x) (hx : Loc X.env.scope x) (he : PE X e te) (hs : swapsWith e (some (.Name x pos')) pos.line X.env = pure false := by rfl) (hf : X.fn x = true \/ X.env.scope.names.lookup x = some .local := by first | exact .inl rfl | exact .inr rfl | assumption) :
    PS X (.Assign [.Name x pos'] e pos) (tAsg te (gName i)) := by
  intro pins s σ H D I h
  refine wpAny_Assign_Name (thn (he pins s σ H _ I h) fun v s1 ⟨y, H1, I1, r1, q1⟩ => ?_) hs
  exact store_ok I1 hN hi hx r1 (fun s2 I2 => ⟨_, H1, I2, q1⟩) hf
noncomputable def tPar (i j : Nat) (ta : TA) : TS := fun D σ H => ta σ H fun vs H1 => ∃ v w, vs = [v, w] /\ D.nx ((σ.set i (some v)).set j (some w)) H1
noncomputable def tAug (i : Nat) (te : TE) (ti : TIp) : TS := fun D σ H => ∃ x, σ[i]? = some (some x) /\ te σ H fun y H1 => ti x y H1 fun z H2 => D.nx (σ.set i (some z)) H2
theorem ps_aug {i : Nat} {x : Str} {e : Expr} {te : TE} {op : Operator} {ti : TIp} {pos' : Pos} (hN : X.N.Nodup) (hi : X.N[i]? = some x) (hx : Loc X.env.scope x) (he : PE X e te) (ho : PIp X op ti) (hf : X.fn x = true \/ X.env.scope.names.lookup x = some .local := by first | exact .inl rfl | exact .inr rfl | assumption) :
    PS X (.AugAssign (.Name x pos') op e pos) (tAug i te ti) := by
  intro pins s σ H D I h
  obtain ⟨v, e1, h⟩ := h
  obtain ⟨m, hn, hl⟩ := I.loc
  have vis : Vis X.env.scope x := by rcases hx with k | k; exact .inl k; exact .inr (.inl k)
  obtain ⟨u, r, l⟩ := hl i x v hi e1 vis
  refine wpAny_AugAssign_Name ?_
  have go : wpAny (model X.prog X.w) X.A (eval e X.env) (fun w s₂ => wpAny (model X.prog X.w) X.A (inplaceOp op u w) (fun r s₃ => wpAny (model X.prog X.w) X.A (storeName X.env x r) (fun _ => SP X pins D .next) X.xe s₃) X.xe s₂) X.xe s := by
    refine thn (he pins s σ H _ I h) fun w s1 ⟨y, H1, I1, r1, q1⟩ => ?_
    refine thn (ho pins s1 σ H1 v y u w _ I1 r r1 q1) fun z s2 ⟨zv, H2, I2, r2, q2⟩ => ?_
    exact store_ok I2 hN hi hx r2 (fun s3 I3 => ⟨_, H2, I3, q2⟩) hf
  rcases l with ⟨hk, hm⟩ | ⟨hk, c, hc, hcell⟩
  · exact wpAny_loadName_local I.ok.kind hk hn hm go
  · rcases hk with hk | hk
    · exact wpAny_loadName_cell I.ok.kind hk hc hcell go
    · rcases hx with k | k
      · have : X.env.scope.names.lookup x = some .free := hk
        rw [k] at this; cases this
      · have : X.env.scope.names.lookup x = some .free := hk
        rw [k] at this; cases this
noncomputable def tAugS (to ti te : TE) (tget : V -> V -> Hp -> VK -> Prop) (tip : TIp) (tset : TSet) : TS := fun D σ H => to σ H fun o H1 => ti σ H1 fun i H2 => tget o i H2 fun x H3 => te σ H3 fun y H4 => tip x y H4 fun z H5 => tset o i z H5 fun H6 => D.nx σ H6
noncomputable def PGet (X : Cx) (t : V -> V -> Hp -> VK -> Prop) : Prop :=
  ∀ (pins : List (Addr × Obj)) (s : Shared) (σ : St) (H : Hp) (o i : V) (ov iv : Value) (Q : VK), Inv X pins σ H s -> RelV o ov -> RelV i iv -> t o i H Q ->
    wpAny (model X.prog X.w) X.A (getItem ov iv) (EP X pins σ Q) X.xe s
noncomputable def ipI (f : Int -> Int -> Int) : TIp := fun x y H Q => ∃ i j, x = .int i /\ y = .int j /\ Q (.int (f i j)) H
theorem ip_add : PIp X .Add (ipI fun i j => i + j) := by
  intro pins s σ H x y v u Q I r1 r2 h
  obtain ⟨i, j, e1, e2, q⟩ := h
  subst e1; subst e2
  obtain ⟨t, rfl⟩ := r1
  obtain ⟨t', rfl⟩ := r2
  exact iadd_int ⟨.int _, H, I.tok _, ⟨_, rfl⟩, q⟩
end
section
variable {X : Cx} {pos : Pos}
noncomputable def tWhile (c : TT) (tb : TS) : TS := fun D σ H => ∃ W : Nat -> St -> Hp -> Prop, (∃ m, W m σ H) /\ ∀ m σ H, W m σ H ->
  c σ H fun b H1 => if b = true then ∃ N : St -> Hp -> Prop, (∀ σ' H', N σ' H' -> ∃ m', m' < m /\ W m' σ' H') /\ tb { D with nx := N, ct := N, bk := D.nx } σ H1 else D.nx σ H1
theorem ps_while {c : Expr} {body : List Stmt} {tc : TT} {tb : TS} (hp : PassesOwn (model X.prog X.w) X.A X.env X.xe) (hc : PT X c tc) (hb : PSs X body tb) : PS X (.While c body [] pos) (tWhile tc tb) := by
  intro pins s σ H D I h
  obtain ⟨W, ⟨m0, w0⟩, turn⟩ := h
  refine wpAny_While (codeAny_whileLoop (fun n s' => ∃ σ' H', Inv X pins σ' H' s' /\ W n σ' H') ?_ m0 ⟨σ, H, I, w0⟩)
  rintro n s1 ⟨σ1, H1, I1, w1⟩
  refine wpAny_passesOwn hp (thn (hc pins s1 σ1 H1 _ I1 (turn n σ1 H1 w1)) fun b s2 ⟨H2, I2, q2⟩ => ?_)
  cases b with
  | true =>
    obtain ⟨N, hN, q2⟩ := q2
    rw [if_pos rfl]
    refine wpAny_passesOwn hp (thn (hb pins s2 σ1 H2 _ I2 q2) fun f s3 q3 => ?_)
    cases f with
    | next =>
      obtain ⟨σ3, H3, I3, n3⟩ := q3
      obtain ⟨m', hm, w3⟩ := hN σ3 H3 n3
      exact ⟨m', hm, σ3, H3, I3, w3⟩
    | cont =>
      obtain ⟨σ3, H3, I3, n3⟩ := q3
      obtain ⟨m', hm, w3⟩ := hN σ3 H3 n3
      exact ⟨m', hm, σ3, H3, I3, w3⟩
    | brk => exact q3
    | ret v => exact q3
  | false =>
    rw [if_neg Bool.false_ne_true]
    exact wpAny_execs_nil ⟨σ1, H2, I2, q2⟩
end
structure It where
  go : Nat -> Hp -> Prop
  yld : Nat -> Hp -> V -> Hp -> Prop
  stop : Nat -> Hp -> Prop
noncomputable def FpOk (X : Cx) (pins : List (Addr × Obj)) (H : Hp) (b : Addr) : Prop :=
  H b = none /\ b ≠ X.env.locals /\ b ∉ X.fs /\ (b ∈ X.ex \/ X.s₀.heap.objs.size <= b) /\ (∀ x c, X.env.cells.lookup x = some c -> c ≠ b) /\ ∀ p ∈ X.pn ++ pins, p.1 ≠ b
theorem Inv.fpOk {X : Cx} {pins : List (Addr × Obj)} {σ : St} {H H' : Hp} {s : Shared} {b : Addr} (I : Inv X pins σ H s) (hb : s.heap.objs.size <= b) (hn : H' b = none) : FpOk X pins H' b := by
  refine ⟨hn, Nat.ne_of_gt (Nat.lt_of_lt_of_le I.lt hb), I.nofs hb, .inr (Nat.le_trans I.sz hb), fun x c e z => ?_, fun p hp z => ?_⟩
  · obtain ⟨v, q⟩ := I.cell x c e
    exact absurd (Nat.lt_of_lt_of_le q.lt (by rw [z]; exact hb)) (Nat.lt_irrefl _)
  · exact absurd (Nat.lt_of_lt_of_le (Heap.lt_size (I.pin p hp).1) (by rw [z]; exact hb)) (Nat.lt_irrefl _)
structure Turn (P : Program) (w : World) (K : PySem.W.Frag) (tg : Expr) (J : It) (fp : List Addr) (it : Addr) (tn : Nat -> Heap -> Prop) : Prop where
  mem : it ∈ fp
  obj : ∀ i h, tn i h -> ∀ b ∈ fp, ∃ o, h.get? b = some o /\ ∀ v, o.data ≠ .cell v
  keep : ∀ i h h', tn i h -> (∀ b ∈ fp, ∀ o, h.get? b = some o -> h'.get? b = some o) -> tn i h'
  item : ∀ (X : Cx), X.prog = P -> X.w = w -> X.K = K -> X.calm = true -> ∀ (i : Nat) (pins : List (Addr × Obj)) (s : Shared) (σ : St) (H : Hp) (E : Value -> Shared -> Prop), Inv X pins σ H s -> (∀ b ∈ fp, FpOk X pins H b) -> tn i s.heap -> J.go i H ->
    wpAny (model P w) X.A (pyNext (.ref it)) (fun r s1 => ∃ u, r = some u /\
      wpAny (model P w) X.A (letOwnedTupleGo tg (.ref it) u) (fun _ s2 => ∃ x H', Inv X pins σ H' s2 /\ RelV x u /\ J.yld i H x H' /\ tn (i + 1) s2.heap /\ ∀ b ∈ fp, H' b = none) E s1) E s
  done : ∀ (X : Cx), X.prog = P -> X.w = w -> X.K = K -> X.calm = true -> ∀ (i : Nat) (pins : List (Addr × Obj)) (s : Shared) (σ : St) (H : Hp) (E : Value -> Shared -> Prop), Inv X pins σ H s -> (∀ b ∈ fp, FpOk X pins H b) -> tn i s.heap -> J.stop i H ->
    wpAny (model P w) X.A (pyNext (.ref it)) (fun r s1 => r = none /\ Inv X pins σ H s1) E s
  self : ∀ (A : Around) (i : Nat) (s : Shared) (Q : Value -> Shared -> Prop) (E : Value -> Shared -> Prop), tn i s.heap -> Q (.ref it) s -> wpAny (model P w) A (pyIter (.ref it)) Q E s
noncomputable abbrev TI := St -> Hp -> (It -> Hp -> Prop) -> Prop
noncomputable def PIE (X : Cx) (pins : List (Addr × Obj)) (σ : St) (tg : Expr) (R : It -> Hp -> Prop) (itv : Value) (s2 : Shared) : Prop :=
  ∃ (it : Addr) (fp : List Addr) (tn : Nat -> Heap -> Prop) (J : It) (H' : Hp), itv = .ref it /\ Inv X pins σ H' s2 /\ Turn X.prog X.w X.K tg J fp it tn /\ tn 0 s2.heap /\ (∀ b ∈ fp, FpOk X pins H' b) /\ R J H'
noncomputable def PI (X : Cx) (tg iter : Expr) (wi : TI) : Prop :=
  ∀ (pins : List (Addr × Obj)) (s : Shared) (σ : St) (H : Hp) (R : It -> Hp -> Prop), Inv X pins σ H s -> wi σ H R ->
    wpAny (model X.prog X.w) X.A (eval iter X.env) (fun v s1 => wpAny (model X.prog X.w) X.A (pyIter v) (PIE X pins σ tg R) X.xe s1) X.xe s
theorem go_of {M : Model} {A : Around} {E : Value -> Shared -> Prop} {s : Shared} {tg : Expr} {it : Addr} {u : Value} {o : Obj} {n : String} {vs : Array Value} {Q : Unit -> Shared -> Prop} (ho : s.heap.get? it = some o) (hc : o.cls = .type n) (hd : o.data = .fields vs)
    (hn : ["enumerate", "zip", "dict_itemiterator", "dict_reverseitemiterator", "odict_iterator", "itertools.zip_longest", "itertools.pairwise"].contains n = false) (hQ : Q () s) : wpAny M A (letOwnedTupleGo tg (.ref it) u) Q E s := by
  unfold letOwnedTupleGo
  cases tg <;> first
    | exact wpAny_pure hQ
    | (cases u <;> first
        | exact wpAny_pure hQ
        | (refine wpAny_bind (wpAny_load ho ?_)
           rw [hc, hd]
           show wpAny M A (if (["enumerate", "zip", "dict_itemiterator", "dict_reverseitemiterator", "odict_iterator", "itertools.zip_longest", "itertools.pairwise"].contains n && vs[0]? == some (rawInt _)) = true then _ else _) Q E s
           rw [if_neg (by intro h; rw [hn, Bool.false_and] at h; cases h)]
           exact wpAny_pure hQ))
noncomputable def Itl (K : PySem.W.Frag) (a : Addr) : It :=
  ⟨fun i H => ∃ xs x, SqL K H a xs /\ xs[i]? = some x, fun i H x H' => H' = H /\ ∀ xs, SqL K H a xs -> xs[i]? = some x, fun i H => ∃ xs, SqL K H a xs /\ xs.length <= i⟩
noncomputable def Itt (K : PySem.W.Frag) (a : Addr) : It :=
  ⟨fun i H => ∃ xs x, SqT K H a xs /\ xs[i]? = some x, fun i H x H' => H' = H /\ ∀ xs, SqT K H a xs -> xs[i]? = some x, fun i H => ∃ xs, SqT K H a xs /\ xs.length <= i⟩
noncomputable def Itr (lo : Int) (n : Nat) : It := ⟨fun i _ => i < n, fun i H x H' => H' = H /\ x = .int (lo + i), fun i _ => n <= i⟩
theorem turn_list {P : Program} {w : World} {K : PySem.W.Frag} {tg : Expr} (a it : Addr) : Turn P w K tg (Itl K a) [it] it (fun i h => h.IsListIter it a i) where
  mem := by simp
  obj := fun i h st b hb => by
    have e : b = it := by simpa using hb
    subst e
    obtain ⟨o, e, c, d⟩ := st
    exact ⟨o, e, fun v z => by rw [d] at z; cases z⟩
  keep := fun i h h' st k => st.at fun o e => k it (by simp) o e
  item := by
    intro X hP hw hK hc i pins s σ H E I hf st hg
    subst hP hw hK
    obtain ⟨xs, x, hq, hx⟩ := hg
    obtain ⟨its, rv, p, hz⟩ := I.list hq
    obtain ⟨u, hu, ru⟩ := rv.get hx
    obtain ⟨f0, f1, f2, f3, f4, f5⟩ := hf it (by simp)
    refine wpAny_pyNext_list_item st p.isList (x := u) (by simpa using hu) fun h' st' sb => ?_
    have I1 : Inv X pins σ H { s with heap := h' } := I.turned (t' := s.toks) (fun b o hb e => (sb.2 b hb).trans e) f0 f1 f3 f4 f5
    obtain ⟨o, e, c, d⟩ := id st'
    exact ⟨u, rfl, go_of (s := { s with heap := h' }) e c d (by decide) ⟨x, H, I1, ru, ⟨rfl, fun ys hy => by rw [I.list_inj hy hq]; exact hx⟩, st', fun b hb => (hf b hb).1⟩⟩
  done := by
    intro X hP hw hK hc i pins s σ H E I hf st hg
    subst hP hw hK
    obtain ⟨xs, hq, hx⟩ := hg
    obtain ⟨its, rv, p, hz⟩ := I.list hq
    obtain ⟨f0, f1, f2, f3, f4, f5⟩ := hf it (by simp)
    have hl := rv.length
    exact wpAny_pyNext_list_end (I.ok.hd hc) st p.isList (by simp; omega) fun h' eb => ⟨rfl, I.turned (t' := s.toks) (fun b o hb e => eb b o hb e) f0 f1 f3 f4 f5⟩
  self := fun _ _ _ _ _ st h => wpAny_pyIter_listiter st h
theorem turn_tuple {P : Program} {w : World} {K : PySem.W.Frag} {tg : Expr} (a it : Addr) : Turn P w K tg (Itt K a) [it] it (fun i h => h.IsTupleIter it a i) where
  mem := by simp
  obj := fun i h st b hb => by
    have e : b = it := by simpa using hb
    subst e
    obtain ⟨o, e, c, d⟩ := st
    exact ⟨o, e, fun v z => by rw [d] at z; cases z⟩
  keep := fun i h h' st k => st.at fun o e => k it (by simp) o e
  item := by
    intro X hP hw hK hc i pins s σ H E I hf st hg
    subst hP hw hK
    obtain ⟨xs, x, hq, hx⟩ := hg
    obtain ⟨its, rv, p, hz⟩ := I.tuple hq
    obtain ⟨u, hu, ru⟩ := rv.get hx
    obtain ⟨f0, f1, f2, f3, f4, f5⟩ := hf it (by simp)
    refine wpAny_pyNext_tuple_item st (show s.heap.IsTuple a its.toArray from p) (x := u) (by simpa using hu) fun h' st' sb => ?_
    have I1 : Inv X pins σ H { s with heap := h' } := I.turned (t' := s.toks) (fun b o hb e => (sb.2 b hb).trans e) f0 f1 f3 f4 f5
    obtain ⟨o, e, c, d⟩ := id st'
    exact ⟨u, rfl, go_of (s := { s with heap := h' }) e c d (by decide) ⟨x, H, I1, ru, ⟨rfl, fun ys hy => by rw [I.tuple_inj hy hq]; exact hx⟩, st', fun b hb => (hf b hb).1⟩⟩
  done := by
    intro X hP hw hK hc i pins s σ H E I hf st hg
    subst hP hw hK
    obtain ⟨xs, hq, hx⟩ := hg
    obtain ⟨its, rv, p, hz⟩ := I.tuple hq
    obtain ⟨f0, f1, f2, f3, f4, f5⟩ := hf it (by simp)
    have hl := rv.length
    exact wpAny_pyNext_tuple_end (I.ok.hd hc) st (show s.heap.IsTuple a its.toArray from p) (by simp; omega) fun h' eb => ⟨rfl, I.turned (t' := s.toks) (fun b o hb e => eb b o hb e) f0 f1 f3 f4 f5⟩
  self := fun _ _ _ _ _ st h => wpAny_pyIter_tupleiter st h
theorem turn_range {P : Program} {w : World} {K : PySem.W.Frag} {tg : Expr} (it : Addr) (lo : Int) (n : Nat) : Turn P w K tg (Itr lo n) [it] it (fun i h => IsRangeIter h it (lo + (i : Nat) * 1) ((n : Int) - (i : Nat)) 1) where
  mem := by simp
  obj := fun i h st b hb => by
    have e : b = it := by simpa using hb
    subst e
    exact ⟨_, st, fun v z => by
      have z' : Data.fields _ = Data.cell v := z
      cases z'⟩
  keep := fun i h h' st k => k it (by simp) _ st
  item := by
    intro X hP hw hK hc i pins s σ H E I hf st hg
    subst hP hw hK
    obtain ⟨f0, f1, f2, f3, f4, f5⟩ := hf it (by simp)
    have W := Walks.range (prog := X.prog) (w := X.w) (I.ok.hd hc) it lo 1 n
    refine W.item i s _ _ hg st fun v h' tk hv st' kk => ?_
    obtain ⟨t, rfl⟩ := hv
    have I1 : Inv X pins σ H { s with heap := h', toks := tk } := I.turned (fun b o hb e => kk b o (by simpa using hb) e) f0 f1 f3 f4 f5
    refine ⟨_, rfl, go_of (s := { s with heap := h', toks := tk }) (n := "range_iterator") st' rfl rfl (by decide) ⟨.int (lo + i), H, I1, ⟨t, ?_⟩, ⟨rfl, rfl⟩, st', fun b hb => (hf b hb).1⟩⟩
    rw [Int.mul_one]
  done := by
    intro X hP hw hK hc i pins s σ H E I hf st hg
    subst hP hw hK
    obtain ⟨f0, f1, f2, f3, f4, f5⟩ := hf it (by simp)
    exact wpAny_pyNext_range_end (I.ok.hd hc) st (by have : n <= i := hg; omega) fun h' eb => ⟨rfl, I.turned (t' := s.toks) (fun b o hb e => eb b o hb e) f0 f1 f3 f4 f5⟩
  self := fun _ _ _ _ _ st h => wpAny_pyIter_rangeiter st h
end L2
namespace L2
open PySem PySem.Spec PyProof.Rows
section
variable {X : Cx} {tg : Expr}
noncomputable def iList (K : PySem.W.Frag) (tl : TE) : TI := fun σ H R => tl σ H fun x H1 => ∃ a, x = .ref a /\ (∃ xs, SqL K H1 a xs) /\ R (Itl K a) H1
noncomputable def iTup (K : PySem.W.Frag) (tl : TE) : TI := fun σ H R => tl σ H fun x H1 => ∃ a, x = .ref a /\ (∃ xs, SqT K H1 a xs) /\ R (Itt K a) H1
theorem pi_list {l : Expr} {tl : TE} (hl : PE X l tl) : PI X tg l (iList X.K tl) := by
  intro pins s σ H R I h
  refine thn (hl pins s σ H _ I h) fun v s1 ⟨x, H1, I1, r1, q1⟩ => ?_
  obtain ⟨a, e, ⟨xs, hq⟩, q⟩ := q1
  subst e
  cases r1
  obtain ⟨its, rv, p, hz⟩ := I1.list hq
  refine wpAny_pyIter_list p.isList ?_
  refine ⟨s1.heap.objs.size, [s1.heap.objs.size], _, _, H1, rfl, I1.kept (t' := s1.toks) fun b o e => Heap.get?_push_of_some _ e, turn_list a _, ⟨_, Heap.get?_push_size _ rfl, rfl, rfl⟩, fun b hb => ?_, q⟩
  have e : b = s1.heap.objs.size := by simpa using hb
  subst e
  exact I1.fpOk (Nat.le_refl _) (I1.hok.fresh (Nat.le_refl _))
theorem pi_tup {l : Expr} {tl : TE} (hl : PE X l tl) : PI X tg l (iTup X.K tl) := by
  intro pins s σ H R I h
  refine thn (hl pins s σ H _ I h) fun v s1 ⟨x, H1, I1, r1, q1⟩ => ?_
  obtain ⟨a, e, ⟨xs, hq⟩, q⟩ := q1
  subst e
  cases r1
  obtain ⟨its, rv, p, hz⟩ := I1.tuple hq
  refine wpAny_pyIter_tuple (show s1.heap.IsTuple a its.toArray from p) ?_
  refine ⟨s1.heap.objs.size, [s1.heap.objs.size], _, _, H1, rfl, I1.kept (t' := s1.toks) fun b o e => Heap.get?_push_of_some _ e, turn_tuple a _, ⟨_, Heap.get?_push_size _ rfl, rfl, rfl⟩, fun b hb => ?_, q⟩
  have e : b = s1.heap.objs.size := by simpa using hb
  subst e
  exact I1.fpOk (Nat.le_refl _) (I1.hok.fresh (Nat.le_refl _))
theorem range_it {pins : List (Addr × Obj)} {σ : St} {H : Hp} {s : Shared} {R : It -> Hp -> Prop} {E : Value -> Shared -> Prop} {lo hi : Int} {t u v : Tok} {tk : Nat} (I : Inv X pins σ H s) (h1 : -(2 ^ 62) <= lo) (h2 : lo < 2 ^ 62) (h3 : -(2 ^ 62) <= hi) (h4 : hi < 2 ^ 62)
    (q : R (Itr lo (hi - lo).toNat) H) : wpAny (model X.prog X.w) X.A (pyIter (.ref s.heap.objs.size)) (PIE X pins σ tg R) E { s with heap := s.heap.push { cls := .type "range", data := .fields #[.int lo t, .int hi u, .int 1 v] }, toks := tk } := by
  refine wpAny_pyIter_range (IsRange.new ..) (small_one h1 h2 h3 h4) ?_
  have I1 : Inv X pins σ H { s with heap := s.heap.push { cls := .type "range", data := .fields #[.int lo t, .int hi u, .int 1 v] }, toks := tk } := I.kept fun b o e => Heap.get?_push_of_some _ e
  refine ⟨(s.heap.push { cls := .type "range", data := .fields #[.int lo t, .int hi u, .int 1 v] }).objs.size, [(s.heap.push { cls := .type "range", data := .fields #[.int lo t, .int hi u, .int 1 v] }).objs.size], _, _, H, rfl,
    I1.kept (t' := tk) fun b o e => Heap.get?_push_of_some _ e, turn_range _ lo (hi - lo).toNat, ?_, fun b hb => ?_, q⟩
  · have e1 : lo + ((0 : Nat) : Int) * 1 = lo := by simp
    have e2 : (((hi - lo).toNat : Nat) : Int) - ((0 : Nat) : Int) = Builtin.Range.rangeSize lo hi 1 := by rw [rangeSize_one]; split <;> omega
    show IsRangeIter _ _ (lo + ((0 : Nat) : Int) * 1) ((((hi - lo).toNat : Nat) : Int) - ((0 : Nat) : Int)) 1
    rw [e1, e2]
    exact Heap.get?_push_size _ rfl
  · have e : b = (s.heap.push { cls := .type "range", data := .fields #[.int lo t, .int hi u, .int 1 v] }).objs.size := by simpa using hb
    subst e
    exact I1.fpOk (Nat.le_refl _) (I1.hok.fresh (Nat.le_refl _))
noncomputable def iRng1 (ta : TA) : TI := fun σ H R => ta σ H fun vs H1 => ∃ j : Int, vs = [.int j] /\ -(2 ^ 62) <= j /\ j < 2 ^ 62 /\ R (Itr 0 j.toNat) H1
noncomputable def iRng2 (ta : TA) : TI := fun σ H R => ta σ H fun vs H1 => ∃ i j : Int, vs = [.int i, .int j] /\ (-(2 ^ 62) <= i /\ i < 2 ^ 62 /\ -(2 ^ 62) <= j /\ j < 2 ^ 62) /\ R (Itr i (j - i).toNat) H1
theorem pi_range1 {a : Expr} {ta : TA} {p pos : Pos} (hg : Gl X "range") (hm : X.mg "range" = none) (ha : PA X [a] ta) (hs : starEach [a] X.env = [(false, eval a X.env)] := by rfl) : PI X tg (.Call (.Name "range" p) [a] [] pos) (iRng1 ta) := by
  intro pins s σ H R I h
  refine Call_ (ld_blt I hg hm boot_range (PyProof.Rows.callWith_type1 (thn (ha pos pins s σ H _ I h) fun us s1 ⟨vs, H1, I1, r1, q1⟩ => ?_) hs rfl))
  obtain ⟨j, e, q1, q2, q⟩ := q1
  subst e
  cases r1 with
  | cons r rr =>
    cases rr
    obtain ⟨t, rfl⟩ := r
    exact call_range_1 (range_it I1 (by omega) (by omega) q1 q2 (by simpa using q))
noncomputable def tFor (wi : TI) (g : TG) (tb : TS) : TS := fun D σ H => wi σ H fun J H1 => ∃ W : Nat -> Nat -> St -> Hp -> Prop, (∃ m, W 0 m σ H1) /\ ∀ i m σ H, W i m σ H ->
  (J.stop i H /\ D.nx σ H) \/ (J.go i H /\ ∃ N : St -> Hp -> Prop, (∀ σ' H', N σ' H' -> ∃ m', m' < m /\ W (i + 1) m' σ' H') /\ ∀ x H', J.yld i H x H' -> g x σ H' fun σ2 H2 => tb { D with nx := N, ct := N, bk := D.nx } σ2 H2)
noncomputable def pinsAt (fp : List Addr) (h : Heap) : List (Addr × Obj) := fp.filterMap fun b => (h.get? b).map fun o => (b, o)
theorem mem_pinsAt {fp : List Addr} {h : Heap} {b : Addr} {o : Obj} (hb : b ∈ fp) (e : h.get? b = some o) : (b, o) ∈ pinsAt fp h := List.mem_filterMap.mpr ⟨b, hb, by rw [e]; rfl⟩
theorem of_pinsAt {fp : List Addr} {h : Heap} {p : Addr × Obj} (hp : p ∈ pinsAt fp h) : p.1 ∈ fp /\ h.get? p.1 = some p.2 := by
  obtain ⟨b, hb, e⟩ := List.mem_filterMap.mp hp
  cases q : h.get? b with
  | none => rw [q] at e; cases e
  | some o =>
    rw [q] at e
    have e' : (b, o) = p := Option.some.inj e
    subst e'
    exact ⟨hb, q⟩
theorem Inv.pinned {pins : List (Addr × Obj)} {σ : St} {H : Hp} {s : Shared} {fp : List Addr} (I : Inv X pins σ H s) (hf : ∀ b ∈ fp, FpOk X pins H b) (ho : ∀ b ∈ fp, ∃ o, s.heap.get? b = some o /\ ∀ v, o.data ≠ .cell v) : Inv X (pins ++ pinsAt fp s.heap) σ H s :=
  I.pins_of fun p hp => (List.mem_append.mp hp).elim (fun z => I.pin p (List.mem_append_right _ z)) fun z => by
    obtain ⟨hb, e⟩ := of_pinsAt z
    obtain ⟨f0, f1, f2, _⟩ := hf p.1 hb
    obtain ⟨o, e', d⟩ := ho p.1 hb
    rw [e] at e'; cases e'
    exact ⟨e, f0, f1, f2, d⟩
theorem Inv.unpinned {pins pl : List (Addr × Obj)} {σ : St} {H : Hp} {s : Shared} (I : Inv X (pins ++ pl) σ H s) : Inv X pins σ H s := I.pins_of fun p hp => I.pin p (List.mem_append_right _ (List.mem_append_left _ hp))
theorem ps_for {iter : Expr} {body : List Stmt} {wi : TI} {g : TG} {tb : TS} {pos : Pos} (hp : PassesOwn (model X.prog X.w) X.A X.env X.xe) (hc : X.calm = true) (hi : PI X tg iter wi) (hg : PG X tg g) (hb : PSs X body tb)
    (hs : ∀ x, foldedSetIterable iter X.env x = pure x := by intro _; rfl) : PS X (.For tg iter body [] pos) (tFor wi g tb) := by
  intro pins s σ H D I h
  refine wpAny_For (thn (hi pins s σ H _ I h) fun v s1 h1 => thn h1 fun itv s2 h2 => ?_) hs
  obtain ⟨it, fp, tn, J, H2, e, I2, T, st2, f2, W, ⟨m0, w0⟩, turn⟩ := h2
  subst e
  have stat : ∀ {H' : Hp}, (∀ b ∈ fp, H' b = none) -> ∀ b ∈ fp, FpOk X pins H' b := fun hn b hb => ⟨hn b hb, (f2 b hb).2⟩
  refine codeAny_forLoop_any (fun n s' => ∃ i σ' H', Inv X pins σ' H' s' /\ tn i s'.heap /\ (∀ b ∈ fp, H' b = none) /\ W i n σ' H') ?_ m0 ⟨0, σ, H2, I2, st2, fun b hb => (f2 b hb).1, w0⟩
  rintro n s3 ⟨i, σ3, H3, I3, st3, fr3, w3⟩
  rcases turn i n σ3 H3 w3 with ⟨stop, qn⟩ | ⟨go, N, hN, step⟩
  · refine wpAny_passesOwn hp (thn (T.done X rfl rfl rfl hc i pins s3 σ3 H3 X.xe I3 (stat fr3) st3 stop) fun r s4 ⟨hr, I4⟩ => ?_)
    subst hr
    exact wpAny_execs_nil ⟨σ3, H3, I4, qn⟩
  · refine wpAny_passesOwn hp (thn (T.item X rfl rfl rfl hc i pins s3 σ3 H3 X.xe I3 (stat fr3) st3 go) fun r s4 ⟨u, hr, h4⟩ => ?_)
    subst hr
    refine wpAny_passesOwn hp (thn h4 fun _ s5 ⟨x, H5, I5, r5, y5, st5, fr5⟩ => ?_)
    have I5' := I5.pinned (stat fr5) (T.obj _ _ st5)
    refine wpAny_passesOwn hp (thn (hg _ s5 σ3 H5 x u _ I5' r5 (step x H5 y5)) fun _ s6 ⟨σ6, H6, I6, q6⟩ => ?_)
    refine wpAny_passesOwn hp (thn (hb _ s6 σ6 H6 _ I6 q6) fun f s7 q7 => ?_)
    have again : ∀ {σ7 : St} {H7 : Hp}, Inv X (pins ++ pinsAt fp s5.heap) σ7 H7 s7 -> N σ7 H7 -> ∃ m, m < n /\ ∃ i σ' H', Inv X pins σ' H' s7 /\ tn i s7.heap /\ (∀ b ∈ fp, H' b = none) /\ W i m σ' H' := fun {σ7 H7} I7 n7 => by
      obtain ⟨m', hm, w7⟩ := hN σ7 H7 n7
      refine ⟨m', hm, i + 1, σ7, H7, I7.unpinned, T.keep _ _ _ st5 fun b hb o e => (I7.pin (b, o) (List.mem_append_right _ (List.mem_append_right _ (mem_pinsAt hb e)))).1, fun b hb => ?_, w7⟩
      obtain ⟨o, e, d⟩ := T.obj _ _ st5 b hb
      exact (I7.pin (b, o) (List.mem_append_right _ (List.mem_append_right _ (mem_pinsAt hb e)))).2.1
    cases f with
    | next => obtain ⟨σ7, H7, I7, n7⟩ := q7; exact again I7 n7
    | cont => obtain ⟨σ7, H7, I7, n7⟩ := q7; exact again I7 n7
    | brk => obtain ⟨σ7, H7, I7, q7⟩ := q7; exact ⟨σ7, H7, I7.unpinned, q7⟩
    | ret v => obtain ⟨x7, σ7, H7, I7, r7, q7⟩ := q7; exact ⟨x7, σ7, H7, I7.unpinned, r7, q7⟩
end
theorem while_by {c : TT} {tb : TS} {D : Ends} {σ : St} {H : Hp} (Pv : St -> Hp -> Prop) (μ : St -> Hp -> Nat) (h0 : Pv σ H)
    (hs : ∀ σ H, Pv σ H -> c σ H fun b H1 => if b = true then tb { D with nx := fun σ' H' => Pv σ' H' /\ μ σ' H' < μ σ H, ct := fun σ' H' => Pv σ' H' /\ μ σ' H' < μ σ H, bk := D.nx } σ H1 else D.nx σ H1)
    (mono : ∀ σ H Q Q', (∀ b H1, Q b H1 -> Q' b H1) -> c σ H Q -> c σ H Q') : tWhile c tb D σ H := by
  refine ⟨fun m σ H => m = μ σ H /\ Pv σ H, ⟨_, rfl, h0⟩, ?_⟩
  rintro m σ H ⟨rfl, p⟩
  refine mono σ H _ _ (fun b H1 q => ?_) (hs σ H p)
  cases b with
  | true => exact ⟨_, fun σ' H' ⟨p', l⟩ => ⟨_, l, rfl, p'⟩, q⟩
  | false => exact q
end L2
namespace L2
open PySem PySem.Spec PyProof.Rows
noncomputable abbrev R2 := V -> V -> Hp -> VK -> Prop
noncomputable def OpR (X : Cx) (f : Value -> Value -> Sem Value) (r : R2) : Prop :=
  ∀ (pins : List (Addr × Obj)) (s : Shared) (σ : St) (H : Hp) (x y : V) (v u : Value) (Q : VK), Inv X pins σ H s -> RelV x v -> RelV y u -> r x y H Q ->
    wpAny (model X.prog X.w) X.A (f v u) (EP X pins σ Q) X.xe s
noncomputable def UnR (X : Cx) (f : Value -> Sem Value) (r : V -> Hp -> VK -> Prop) : Prop :=
  ∀ (pins : List (Addr × Obj)) (s : Shared) (σ : St) (H : Hp) (x : V) (v : Value) (Q : VK), Inv X pins σ H s -> RelV x v -> r x H Q ->
    wpAny (model X.prog X.w) X.A (f v) (EP X pins σ Q) X.xe s
noncomputable def CallR (X : Cx) (f : Value) (r : List V -> Hp -> VK -> Prop) : Prop :=
  ∀ (pins : List (Addr × Obj)) (s : Shared) (σ : St) (H : Hp) (xs : List V) (us : List Value) (Q : VK), Inv X pins σ H s -> Vals xs us -> r xs H Q ->
    wpAny (model X.prog X.w) X.A (call f us) (EP X pins σ Q) X.xe s
noncomputable def TruR (X : Cx) (r : V -> Hp -> (Bool -> Hp -> Prop) -> Prop) : Prop :=
  ∀ (pins : List (Addr × Obj)) (s : Shared) (σ : St) (H : Hp) (x : V) (v : Value) (Q : Bool -> Hp -> Prop), Inv X pins σ H s -> RelV x v -> r x H Q ->
    wpAny (model X.prog X.w) X.A (truthy v) (TP X pins σ Q) X.xe s
noncomputable def tOp (r : R2) (ta tb : TE) : TE := fun σ H Q => ta σ H fun x H1 => tb σ H1 fun y H2 => r x y H2 Q
noncomputable def tUn (r : V -> Hp -> VK -> Prop) (ta : TE) : TE := fun σ H Q => ta σ H fun x H1 => r x H1 Q
noncomputable def rI (C : Int -> Int -> Prop) (g : Int -> Int -> V) : R2 := fun x y H Q => ∃ i j, x = .int i /\ y = .int j /\ C i j /\ Q (g i j) H
noncomputable def rI0 (g : Int -> Int -> V) : R2 := fun x y H Q => ∃ i j, x = .int i /\ y = .int j /\ Q (g i j) H
noncomputable def rU (g : Int -> V) : V -> Hp -> VK -> Prop := fun x H Q => ∃ i, x = .int i /\ Q (g i) H
section
variable {X : Cx} {a b c : Expr} {ta tb tc : TE} {pos : Pos}
theorem binT (ha : PE X a ta) (hb : PE X b tb) {pins : List (Addr × Obj)} {s : Shared} {σ : St} {H : Hp} {R : V -> V -> Hp -> Prop} (I : Inv X pins σ H s)
    (h : ta σ H fun x H1 => tb σ H1 fun y H2 => R x y H2) {Q : Value -> Shared -> Prop} {f : Value -> Value -> Sem Value}
    (hf : ∀ v u s2 x y H2, Inv X pins σ H2 s2 -> RelV x v -> RelV y u -> R x y H2 -> wpAny (model X.prog X.w) X.A (f v u) Q X.xe s2) :
    wpAny (model X.prog X.w) X.A (eval a X.env) (fun v s₁ => wpAny (model X.prog X.w) X.A (eval b X.env) (fun u s₂ => wpAny (model X.prog X.w) X.A (f v u) Q X.xe s₂) X.xe s₁) X.xe s := by
  refine thn (ha pins s σ H _ I h) fun v s1 ⟨x, H1, I1, r1, q1⟩ => ?_
  refine thn (hb pins s1 σ H1 _ I1 q1) fun u s2 ⟨y, H2, I2, r2, q2⟩ => ?_
  exact hf v u s2 x y H2 I2 r1 r2 q2
theorem pe_op {op : Operator} {r : R2} (ho : OpR X (binaryOp op) r) (ha : PE X a ta) (hb : PE X b tb) : PE X (.BinOp a op b pos) (tOp r ta tb) := by
  intro pins s σ H Q I h
  exact wpAny_BinOp (binT ha hb I h fun v u s2 x y H2 I2 rx ry q => ho pins s2 σ H2 x y v u Q I2 rx ry q)
theorem opI {f : Value -> Value -> Sem Value} {C : Int -> Int -> Prop} {g : Int -> Int -> Int}
    (rule : ∀ (i j : Int) (t u : Tok) (s : Shared) (Q : Value -> Shared -> Prop) (E : Value -> Shared -> Prop), C i j -> Q (.int (g i j) s.toks) { s with toks := s.toks + 1 } -> wpAny (model X.prog X.w) X.A (f (.int i t) (.int j u)) Q E s) :
    OpR X f (rI C fun i j => .int (g i j)) := by
  intro pins s σ H x y v u Q I rx ry h
  obtain ⟨i, j, rfl, rfl, hc, q⟩ := h
  obtain ⟨t, rfl⟩ := rx
  obtain ⟨t', rfl⟩ := ry
  exact rule i j t t' s _ _ hc ⟨.int (g i j), H, I.tok _, ⟨_, rfl⟩, q⟩
theorem opI0 {f : Value -> Value -> Sem Value} {g : Int -> Int -> Int}
    (rule : ∀ (i j : Int) (t u : Tok) (s : Shared) (Q : Value -> Shared -> Prop) (E : Value -> Shared -> Prop), Q (.int (g i j) s.toks) { s with toks := s.toks + 1 } -> wpAny (model X.prog X.w) X.A (f (.int i t) (.int j u)) Q E s) :
    OpR X f (rI0 fun i j => .int (g i j)) := by
  intro pins s σ H x y v u Q I rx ry h
  obtain ⟨i, j, rfl, rfl, q⟩ := h
  obtain ⟨t, rfl⟩ := rx
  obtain ⟨t', rfl⟩ := ry
  exact rule i j t t' s _ _ ⟨.int (g i j), H, I.tok _, ⟨_, rfl⟩, q⟩
theorem opB0 {f : Value -> Value -> Sem Value} {g : Int -> Int -> Bool}
    (rule : ∀ (i j : Int) (t u : Tok) (s : Shared) (Q : Value -> Shared -> Prop) (E : Value -> Shared -> Prop), Q (.bool (g i j)) s -> wpAny (model X.prog X.w) X.A (f (.int i t) (.int j u)) Q E s) :
    OpR X f (rI0 fun i j => .bl (g i j)) := by
  intro pins s σ H x y v u Q I rx ry h
  obtain ⟨i, j, rfl, rfl, q⟩ := h
  obtain ⟨t, rfl⟩ := rx
  obtain ⟨t', rfl⟩ := ry
  exact rule i j t t' s _ _ ⟨.bl (g i j), H, I, rfl, q⟩
noncomputable def CDiv (i j : Int) : Prop := 0 < j /\ j < 1073741824
noncomputable def CDivN (i j : Int) : Prop := j ≠ 0 /\ j.natAbs < 1073741824
noncomputable def CPow (i j : Int) : Prop := 0 <= j /\ j <= 1000000 /\ i.natAbs < 2 ^ 64
noncomputable def CMul (i j : Int) : Prop := (-(2 ^ 64) < i /\ i < 2 ^ 64) \/ (-(2 ^ 64) < j /\ j < 2 ^ 64)
theorem CMul.ok {i j : Int} (h : CMul i j) : IntMulOk i j := by
  rcases h with ⟨h1, h2⟩ | ⟨h1, h2⟩
  · exact .of_left (intBits_le_64 h1 h2)
  · exact .of_right (intBits_le_64 h1 h2)
theorem op_add : OpR X (binaryOp .Add) (rI0 fun i j => .int (i + j)) := opI0 fun _ _ _ _ _ _ _ q => add_int q
theorem op_sub : OpR X (binaryOp .Sub) (rI0 fun i j => .int (i - j)) := opI0 fun _ _ _ _ _ _ _ q => sub_int q
theorem op_mul : OpR X (binaryOp .Mult) (rI CMul fun i j => .int (i * j)) := opI fun _ _ _ _ _ _ _ hc q => mul_int q hc.ok
theorem op_mod : OpR X (binaryOp .Mod) (rI (fun _ j => 0 < j) fun i j => .int (i % j)) := opI fun i j _ _ _ _ _ hc q => by
  have h1 : (0 : Int) < j := hc
  exact mod_int' (by omega) (by rw [Int.fmod_eq_emod_of_nonneg i (by omega)]; exact q)
theorem op_pow : OpR X (binaryOp .Pow) (rI CPow fun i j => .int (i ^ j.toNat)) := opI fun _ _ _ _ _ _ _ hc q => pow_int_small hc.1 hc.2.1 hc.2.2 q
end
noncomputable def scal : V -> V -> Bool
  | .non, .non => true | .non, .int _ => true | .int _, .non => true | .non, .bl _ => true | .bl _, .non => true | .non, .str _ => true | .str _, .non => true
  | .int _, .int _ => true | .bl _, .bl _ => true | .str _, .str _ => true | .byt _, .byt _ => true
  | .int _, .str _ => true | .str _, .int _ => true | .bl _, .str _ => true | .str _, .bl _ => true
  | _, _ => false
noncomputable def rEq : R2 := fun x y H Q => scal x y = true /\ Q (.bl (decide (x = y))) H
noncomputable def rNe : R2 := fun x y H Q => scal x y = true /\ Q (.bl (!decide (x = y))) H
section
variable {X : Cx} {a b c : Expr} {ta tb tc : TE} {pos : Pos}
theorem op_lt : OpR X (compareOp .Lt) (rI0 fun i j => .bl (decide (i < j))) := opB0 fun _ _ _ _ _ _ _ q => lt_int q
theorem op_le : OpR X (compareOp .LtE) (rI0 fun i j => .bl (decide (i <= j))) := opB0 fun _ _ _ _ _ _ _ q => le_int q
theorem op_gt : OpR X (compareOp .Gt) (rI0 fun i j => .bl (decide (j < i))) := opB0 fun _ _ _ _ _ _ _ q => gt_int q
theorem op_ge : OpR X (compareOp .GtE) (rI0 fun i j => .bl (decide (j <= i))) := opB0 fun _ _ _ _ _ _ _ q => ge_int q
noncomputable def isObj : HO -> Bool
  | .lst _ => true
  | .ins _ _ _ => true
  | _ => false
theorem OpR.or {f : Value -> Value -> Sem Value} {r r' : R2} (h : OpR X f r) (h' : OpR X f r') : OpR X f (fun x y H Q => r x y H Q \/ r' x y H Q) := by
  intro pins s σ H x y v u Q I rx ry q
  rcases q with q | q
  · exact h pins s σ H x y v u Q I rx ry q
  · exact h' pins s σ H x y v u Q I rx ry q
theorem nomark (b : Expr) {op : CmpOp} (h : op ≠ .In := by decide) (h2 : op ≠ .NotIn := by decide) : behindInMarks op b = false := by
  have e1 : (op == CmpOp.In) = false := by cases op <;> first | rfl | exact absurd rfl h
  have e2 : (op == CmpOp.NotIn) = false := by cases op <;> first | rfl | exact absurd rfl h2
  cases b <;> simp [behindInMarks, e1, e2]
theorem pe_cmpR {op : CmpOp} {r : R2} (ho : OpR X (compareOp op) r) (ha : PE X a ta) (hb : PE X b tb) (hm : behindInMarks op b = false) : PE X (.Compare a [op] [b] pos) (tOp r ta tb) := by
  intro pins s σ H Q I h
  exact wpAny_Compare1 (binT ha hb I h fun v u s2 x y H2 I2 rx ry q => ho pins s2 σ H2 x y v u Q I2 rx ry q) hm
noncomputable def tTest (t : TE) : TT := fun σ H Q => t σ H fun x H' => ∃ k, x = .bl k /\ Q k H'
theorem pt_cmpR {op : CmpOp} {r : R2} (ho : OpR X (compareOp op) r) (ha : PE X a ta) (hb : PE X b tb) (hm : behindInMarks op b = false) : PT X (.Compare a [op] [b] pos) (tTest (tOp r ta tb)) := by
  intro pins s σ H Q I h
  refine wpAny_isTrue_Compare1 (thn (ha pins s σ H _ I h) fun v s1 ⟨x, H1, I1, r1, q1⟩ => thn (hb pins s1 σ H1 _ I1 q1) fun u s2 ⟨y, H2, I2, r2, q2⟩ =>
    thn (ho pins s2 σ H2 x y v u _ I2 r1 r2 q2) fun c s3 ⟨z, H3, I3, r3, k, e, q3⟩ => ?_) hm
  subst e
  cases r3
  exact wpAny_truthy_bool ⟨H3, I3, q3⟩
noncomputable def tChain (r r' : R2) (ta tb tc : TE) : TE := fun σ H Q => ta σ H fun x H1 => tb σ H1 fun y H2 => r x y H2 fun z H3 => ∃ k, z = .bl k /\
  (if k = true then tc σ H3 fun w' H4 => r' y w' H4 Q else Q (.bl false) H3)
theorem pe_chain {op op' : CmpOp} {r r' : R2} (ho : OpR X (compareOp op) r) (ho' : OpR X (compareOp op') r') (ha : PE X a ta) (hb : PE X b tb) (hc : PE X c tc)
    (hm : lastMarks [op, op'] [b, c] = false := by with_unfolding_all rfl) : PE X (.Compare a [op, op'] [b, c] pos) (tChain r r' ta tb tc) := by
  intro pins s σ H Q I h
  refine Compare_chain (thn (ha pins s σ H _ I h) fun v s1 ⟨x, H1, I1, r1, q1⟩ => chain_link (thn (hb pins s1 σ H1 _ I1 q1) fun u s2 ⟨y, H2, I2, r2, q2⟩ =>
    thn (ho pins s2 σ H2 x y v u _ I2 r1 r2 q2) fun d s3 ⟨z, H3, I3, r3, k, e, q3⟩ => ?_)) hm
  subst e
  cases r3
  refine wpAny_truthy_bool ?_
  cases k with
  | false => exact ite_ff ⟨.bl false, H3, I3, rfl, q3⟩
  | true => exact ite_tt (chain_last (thn (hc pins s3 σ H3 _ I3 q3) fun w' s4 ⟨z', H4, I4, r4, q4⟩ => ho' pins s4 σ H4 y z' u w' Q I4 r2 r4 q4))
theorem pt_chain {op op' : CmpOp} {r r' : R2} (ho : OpR X (compareOp op) r) (ho' : OpR X (compareOp op') r') (ha : PE X a ta) (hb : PE X b tb) (hc : PE X c tc)
    (hm : lastMarks [op, op'] [b, c] = false := by with_unfolding_all rfl) : PT X (.Compare a [op, op'] [b, c] pos) (tTest (tChain r r' ta tb tc)) := by
  intro pins s σ H Q I h
  refine isTrue_chain (thn (ha pins s σ H _ I h) fun v s1 ⟨x, H1, I1, r1, q1⟩ => test_link (thn (hb pins s1 σ H1 _ I1 q1) fun u s2 ⟨y, H2, I2, r2, q2⟩ =>
    thn (ho pins s2 σ H2 x y v u _ I2 r1 r2 q2) fun d s3 ⟨z, H3, I3, r3, k, e, q3⟩ => ?_)) hm
  subst e
  cases r3
  refine wpAny_truthy_bool ?_
  cases k with
  | false =>
    obtain ⟨k', e', q'⟩ := q3
    cases e'
    exact ite_ff ⟨H3, I3, q'⟩
  | true =>
    refine ite_tt (test_last (thn (hc pins s3 σ H3 _ I3 q3) fun w' s4 ⟨z', H4, I4, r4, q4⟩ => thn (ho' pins s4 σ H4 y z' u w' _ I4 r2 r4 q4) fun d' s5 ⟨z2, H5, I5, r5, k2, e2, q5⟩ => ?_))
    subst e2
    cases r5
    exact wpAny_truthy_bool ⟨H5, I5, q5⟩
noncomputable def TruV (K : PySem.W.Frag) (x : V) (H : Hp) (k : Bool) : Prop :=
  match x with
  | .non => k = false
  | .bl b => k = b
  | .int i => k = (i != 0)
  | .str y => y.length <= sizeLine /\ k = ((y.length : Int) != 0)
  | .byt y => y.size <= sizeLine /\ k = ((y.size : Int) != 0)
  | .ref p => (∃ xs, SqL K H p xs /\ k = !xs.isEmpty) \/ (∃ xs, SqT K H p xs /\ k = !xs.isEmpty) \/ ∃ kvs, H p = some (.dK kvs) /\ k = !kvs.isEmpty
  | _ => False
theorem isEmpty_kv {κ : Type} {kvs : List (κ × V)} {vs : List (κ × Value)} (r : KV kvs vs) : (!vs.isEmpty) = !kvs.isEmpty := by
  cases r <;> rfl
theorem isEmpty_of {xs : List V} {its : List Value} (r : Vals xs its) : (!its.toArray.isEmpty) = !xs.isEmpty := by
  cases r <;> simp
theorem line63 : (sizeLine : Nat) < 2 ^ 63 := by rw [sizeLine_eq]; decide
theorem tru_ok : TruR X (fun x H Q => ∃ k, TruV X.K x H k /\ Q k H) := by
  intro pins s σ H x v Q I rx h
  obtain ⟨k, e, q⟩ := h
  have hl := line63
  have hs : sizeLine = 16777216 := sizeLine_eq
  cases x with
  | non =>
    cases rx
    have e' : k = false := e
    subst e'
    exact truthy_none ⟨H, I, q⟩
  | bl b =>
    cases rx
    have e' : k = b := e
    subst e'
    exact wpAny_truthy_bool ⟨H, I, q⟩
  | int i =>
    obtain ⟨t, rfl⟩ := rx
    have e' : k = (i != 0) := e
    subst e'
    exact PySem.P.truthy_int ⟨H, I, q⟩
  | str y =>
    obtain ⟨t, rfl⟩ := rx
    obtain ⟨hy, e'⟩ : y.length <= sizeLine /\ k = ((y.length : Int) != 0) := e
    subst e'
    exact PySem.P.truthy_str (by omega) ⟨H, I.tok _, q⟩
  | byt y =>
    obtain ⟨t, rfl⟩ := rx
    obtain ⟨hy, e'⟩ : y.size <= sizeLine /\ k = ((y.size : Int) != 0) := e
    subst e'
    exact PySem.W.truthy_bytes (by omega) ⟨H, I.tok _, q⟩
  | ref p =>
    cases rx
    have e' : (∃ xs, SqL X.K H p xs /\ k = !xs.isEmpty) \/ (∃ xs, SqT X.K H p xs /\ k = !xs.isEmpty) \/ ∃ kvs, H p = some (.dK kvs) /\ k = !kvs.isEmpty := e
    rcases e' with ⟨xs, hx, e'⟩ | ⟨xs, hx, e'⟩ | ⟨kvs, hx, e'⟩
    · subst e'
      obtain ⟨its, r, pl, hz⟩ := I.list hx
      have hlen := r.length
      exact wpAny_truthy_list pl.isList (by simp only [List.size_toArray]; omega) ⟨H, I.tok _, by rw [isEmpty_of r]; exact q⟩
    · subst e'
      obtain ⟨its, r, pl, hz⟩ := I.tuple hx
      have hlen := r.length
      exact truthy_tuple pl (by simp only [List.size_toArray]; omega) ⟨H, I.tok _, by rw [isEmpty_of r]; exact q⟩
    · subst e'
      obtain ⟨hz, hS, vs, r, m⟩ : kvs.length <= sizeLine /\ (p == sysModules) = false /\ ∃ vs, KV kvs vs /\ s.heap.DictOf (mixKind X.prog X.w) p vs := I.hok p _ hx
      have hlen : kvs.length = vs.length := Paired.length r
      exact wpAny_truthy_dict hS m (by omega) ⟨H, I.tok _, by rw [isEmpty_kv r]; exact q⟩
  | _ => exact (show False from e).elim
theorem pt_truth (ha : PE X a ta) (he : ∀ whole, isTrue a X.env whole = (do let v <- whole; standAt a.pos; holding [v] (truthy v))) :
    PT X a (fun σ H Q => ta σ H fun x H' => ∃ k, TruV X.K x H' k /\ Q k H') := by
  intro pins s σ H Q I h
  exact isTrue_plain (thn (ha pins s σ H _ I h) fun v s1 ⟨x, H1, I1, r1, q1⟩ => tru_ok pins s1 σ H1 x v Q I1 r1 q1) (he _)
theorem op_add_str : OpR X (binaryOp .Add) (fun x y H Q => ∃ i j, x = .str i /\ y = .str j /\ i.length + j.length <= sizeLine /\ Q (.str (i ++ j)) H) := by
  intro pins s σ H x y v u Q I rx ry h
  obtain ⟨i, j, rfl, rfl, hz, q⟩ := h
  obtain ⟨t, rfl⟩ := rx
  obtain ⟨t', rfl⟩ := ry
  exact add_str (fun t' tk => ⟨.str (i ++ j), H, I.tok _, ⟨_, rfl⟩, q⟩) hz
noncomputable def PlainIxT (b : Expr) : Prop := ∀ o i, subscripted b false o i = operate [o, i] (getItem o i)
theorem vals1 {x : V} {us : List Value} (r : Vals [x] us) : ∃ u, us = [u] /\ RelV x u := by
  cases r with
  | cons r1 r2 => cases r2; exact ⟨_, rfl, r1⟩
theorem vals2 {x y : V} {us : List Value} (r : Vals [x, y] us) : ∃ u w', us = [u, w'] /\ RelV x u /\ RelV y w' := by
  cases r with
  | cons r1 r2 =>
    cases r2 with
    | cons r3 r4 => cases r4; exact ⟨_, _, rfl, r1, r3⟩
theorem call_max2 (hc : X.calm = true) : CallR X (.builtin "max") (fun xs H Q => ∃ i j, xs = [.int i, .int j] /\ Q (.int (if j > i then j else i)) H) := by
  intro pins s σ H xs us Q I r h
  obtain ⟨i, j, rfl, q⟩ := h
  obtain ⟨u, w', rfl, ⟨t, rfl⟩, ⟨t', rfl⟩⟩ := vals2 r
  refine max_two_ints (I.ok.hd hc) fun h' tk k => ⟨_, H, I.kept k, ?_, q⟩
  by_cases hj : j > i
  · rw [if_pos hj, if_pos hj]; exact ⟨_, rfl⟩
  · rw [if_neg hj, if_neg hj]; exact ⟨_, rfl⟩
theorem call_min2 (hc : X.calm = true) : CallR X (.builtin "min") (fun xs H Q => ∃ i j, xs = [.int i, .int j] /\ Q (.int (if j < i then j else i)) H) := by
  intro pins s σ H xs us Q I r h
  obtain ⟨i, j, rfl, q⟩ := h
  obtain ⟨u, w', rfl, ⟨t, rfl⟩, ⟨t', rfl⟩⟩ := vals2 r
  refine min_two_ints (I.ok.hd hc) fun h' tk k => ⟨_, H, I.kept k, ?_, q⟩
  by_cases hj : j < i
  · rw [if_pos hj, if_pos hj]; exact ⟨_, rfl⟩
  · rw [if_neg hj, if_neg hj]; exact ⟨_, rfl⟩
theorem call_int1 : CallR X (.type "int") (fun xs H Q => (∃ i, xs = [.int i] /\ Q (.int i) H) \/ ∃ k, xs = [.bl k] /\ Q (.int (if k then 1 else 0)) H) := by
  intro pins s σ H xs us Q I r h
  rcases h with ⟨i, rfl, q⟩ | ⟨k, rfl, q⟩
  · obtain ⟨u, rfl, t, rfl⟩ := vals1 r
    exact call_int_int ⟨.int i, H, I, ⟨_, rfl⟩, q⟩
  · obtain ⟨u, rfl, r1⟩ := vals1 r
    cases r1
    exact call_int_bool ⟨.int (if k then 1 else 0), H, I.tok _, ⟨_, rfl⟩, q⟩
noncomputable def LenV (K : PySem.W.Frag) (x : V) (H : Hp) (n : Nat) : Prop :=
  match x with
  | .str y => y.length <= sizeLine /\ n = y.length
  | .byt y => y.size <= sizeLine /\ n = y.size
  | .ref p => (∃ xs, SqL K H p xs /\ n = xs.length) \/ ∃ xs, SqT K H p xs /\ n = xs.length
  | _ => False
theorem call_len : CallR X (.builtin "len") (fun xs H Q => ∃ x n, xs = [x] /\ LenV X.K x H n /\ Q (.int n) H) := by
  intro pins s σ H xs us Q I r h
  obtain ⟨x, n, rfl, e, q⟩ := h
  obtain ⟨u, rfl, rx⟩ := vals1 r
  have hl := line63
  have hs : sizeLine = 16777216 := sizeLine_eq
  cases x with
  | str y =>
    obtain ⟨t, rfl⟩ := rx
    obtain ⟨hy, e'⟩ : y.length <= sizeLine /\ n = y.length := e
    subst e'
    exact len_str (by omega) ⟨.int _, H, I.tok _, ⟨_, rfl⟩, q⟩
  | byt y =>
    obtain ⟨t, rfl⟩ := rx
    obtain ⟨hy, e'⟩ : y.size <= sizeLine /\ n = y.size := e
    subst e'
    exact PySem.W.len_bytes (by omega) ⟨.int _, H, I.tok _, ⟨_, rfl⟩, q⟩
  | ref p =>
    cases rx
    have e' : (∃ xs, SqL X.K H p xs /\ n = xs.length) \/ ∃ xs, SqT X.K H p xs /\ n = xs.length := e
    rcases e' with ⟨xs, hx, e'⟩ | ⟨xs, hx, e'⟩
    · subst e'
      obtain ⟨its, r', pl, hz⟩ := I.list hx
      have hlen := r'.length
      exact Calls.call_len_list pl.isList (by simp only [List.size_toArray]; omega) ⟨.int xs.length, H, I.tok _, ⟨_, by simp only [List.size_toArray]; rw [hlen]⟩, q⟩
    · subst e'
      obtain ⟨its, r', pl, hz⟩ := I.tuple hx
      have hlen := r'.length
      exact len_tuple pl (by simp only [List.size_toArray]; omega) ⟨.int xs.length, H, I.tok _, ⟨_, by simp only [List.size_toArray]; rw [hlen]⟩, q⟩
  | _ => exact (show False from e).elim
end
end L2
namespace L2
open PySem PySem.Spec PyProof.Rows
structure ObjM (h : Heap) (x dx C : Addr) (mA : Str -> Option Value) : Prop where
  obj : h.get? x = some (PySem.W.instObj C dx)
  ns : h.Ns1 dx mA
  ne : dx ≠ x
theorem lookIn_ns {h : Heap} {dx : Addr} {mA : Str -> Option Value} (n : h.Ns1 dx mA) : ∃ od, h.get? dx = some od /\ ∀ name, PySem.W.lookIn name od = some (mA name) := by
  obtain ⟨o, es, ep, ho, hd, hk, _, hm⟩ := n
  refine ⟨o, ho, fun name => ?_⟩
  have e := hm name
  unfold nsFind findBy at e
  rw [<- Array.find?_toList] at e
  unfold PySem.W.lookIn
  rw [hd]
  dsimp only
  split
  · rename_i y q
    rw [q] at e
    exact congrArg some e
  · rename_i q
    rw [q] at e
    have a : es.toList.any (·.refKey) = false := by
      rw [List.any_eq_false]
      intro y hy
      obtain ⟨z, t, hkey⟩ := hk y (Array.mem_toList_iff.mp hy)
      simp [DictEntry.refKey, hkey]
    have a' : ¬ es.toList.any (·.refKey) = true := by rw [a]; exact Bool.false_ne_true
    rw [if_neg a']
    exact congrArg some e
theorem ObjM.look {h : Heap} {x dx C : Addr} {mA : Str -> Option Value} (I : ObjM h x dx C mA) : ∃ od, PySem.W.InstAt h x (PySem.W.instObj C dx) C (some od) /\ ∀ name, PySem.W.lookIn name od = some (mA name) :=
  let ⟨od, ho, hl⟩ := lookIn_ns I.ns
  ⟨od, ⟨I.obj, rfl, rfl, ho⟩, hl⟩
section
variable {prog : Program} {w : World} {A : Around} {E : Value -> Shared -> Prop} {s : Shared} {K : PySem.W.Frag} {x dx C f : Addr} {mA : Str -> Option Value} {name : Str} {v : Value}
end
noncomputable def putF (f : Str) (v : V) : List (Str × V) -> List (Str × V)
  | [] => [(f, v)]
  | (g, x) :: r => if g = f then (g, v) :: r else (g, x) :: putF f v r
section
variable {P : Program} {w : World} {H H' : Hp} {h h' : Heap} {a C dx : Addr} {fs fs' : List (Str × V)}
theorem ins_get (hok : HOk P w H h) (e : H a = some (.ins C dx fs)) : ∃ mA, ObjM h a dx C mA /\ (∀ f, RelO (fs.lookup f) (mA f)) /\ PySem.Within mA (fs.map (·.1)) /\ fs.length <= 1000 /\ H dx = some (.own a) := by
  obtain ⟨d, z, ne, ob, mA, n, r, q⟩ := (show ObjOk P w H h a (.ins C dx fs) from hok a _ e)
  exact ⟨mA, ⟨ob, n, ne⟩, r, q, z, d⟩
end
structure Cls (K : PySem.W.Frag) (C : Addr) : Prop where
  pg : PySem.W.plainGet K C Str.empty = true
  hd : PySem.W.hasDictIn K C = true
  po : PySem.W.plainOver K C = true
  sa : PySem.W.findIn K (.ref C) "__setattr__" = some (some (.builtin "object.__setattr__"))
theorem Cls.get {K : PySem.W.Frag} {C : Addr} (c : Cls K C) (f : Str) : PySem.W.plainGet K C f = true := c.pg
noncomputable def NoAttr (K : PySem.W.Frag) (C : Addr) (f : Str) : Prop := PySem.W.findIn K (.ref C) f = some none
structure Con (K : PySem.W.Frag) (C : Addr) (f : Str) (v : V) (u : Value) : Prop where
  at_ : PySem.W.findIn K (.ref C) f = some (some u)
  rel : RelV v u
  get : PySem.W.specialIn K u "__get__" = some none
  cp : PySem.W.copiedNames.contains f = false
structure Meth (K : PySem.W.Frag) (C : Addr) (m : Str) (f : Addr) : Prop where
  at_ : PySem.W.findIn K (.ref C) m = some (some (.ref f))
  fn : PySem.W.isFn K (.ref f) = true
  kp : PySem.W.keepIn K (.ref f) = true
section
variable {X : Cx} {pins : List (Addr × Obj)} {σ : St} {H : Hp} {s : Shared} {a C dx : Addr} {fs : List (Str × V)} {f : Str} {v : V} {A : Around} {E : Value -> Shared -> Prop}
theorem Inv.made (I : Inv X pins σ H s) : Inv X pins σ (upd (upd H s.heap.objs.size (.own (s.heap.objs.size + 1))) (s.heap.objs.size + 1) (.ins C s.heap.objs.size []))
    { s with heap := (s.heap.push PySem.W.emptyDict).push (PySem.W.instObj C s.heap.objs.size) } := by
  have e1 : (s.heap.push PySem.W.emptyDict).get? s.heap.objs.size = some PySem.W.emptyDict := Heap.get?_push_size s.heap rfl
  have e2 : ((s.heap.push PySem.W.emptyDict).push (PySem.W.instObj C s.heap.objs.size)).get? (s.heap.objs.size + 1) = some (PySem.W.instObj C s.heap.objs.size) := by
    have := Heap.get?_push_size (s.heap.push PySem.W.emptyDict) (o := PySem.W.instObj C s.heap.objs.size) rfl
    rwa [Heap.size_push] at this
  have e3 : (s.heap.push PySem.W.emptyDict).Ns s.heap.objs.size (fun _ => none) := ⟨PySem.W.emptyDict, #[], _, e1, rfl, (fun e he => absurd he (by simp)), fun _ => rfl⟩
  have I1 := I.laid (a := s.heap.objs.size) (o := .own (s.heap.objs.size + 1)) (h' := s.heap.push PySem.W.emptyDict) (t' := s.toks) (fun b u q => Heap.get?_push_of_some _ q) (Nat.le_refl _) ⟨_, e1⟩
  refine I1.laid (a := s.heap.objs.size + 1) (o := .ins C s.heap.objs.size []) (t' := s.toks) (fun b u q => Heap.get?_push_of_some _ q) (Nat.le_of_eq (Heap.size_push _ _)) ?_
  have ne : s.heap.objs.size ≠ s.heap.objs.size + 1 := Nat.ne_of_lt (Nat.lt_succ_self _)
  refine ⟨by rw [upd_ne ne, upd_same], Nat.zero_le _, ne, e2, fun _ => none, (Heap.Ns1.of_empty e3).at fun o q => Heap.get?_push_of_some _ q, fun _ => True.intro, fun y hy => absurd rfl hy⟩
end
noncomputable def tFld (K : PySem.W.Frag) (ta : TE) (f : Str) : TE := fun σ H Q => ta σ H fun x H1 => ∃ a C dx fs v, x = .ref a /\ H1 a = some (.ins C dx fs) /\ Cls K C /\ NoAttr K C f /\ fs.lookup f = some v /\ Q v H1
noncomputable def tCon (K : PySem.W.Frag) (ta : TE) (f : Str) : TE := fun σ H Q => ta σ H fun x H1 => ∃ a C dx fs v u, x = .ref a /\ H1 a = some (.ins C dx fs) /\ Cls K C /\ Con K C f v u /\ fs.lookup f = none /\ Q v H1
noncomputable def sFld (K : PySem.W.Frag) (ta tv : TE) (f : Str) : TS := fun D σ H => tv σ H fun y H1 => ta σ H1 fun x H2 => ∃ a C dx fs, x = .ref a /\ H2 a = some (.ins C dx fs) /\ Cls K C /\ NoAttr K C f /\ fs.length < 1000 /\
  D.nx σ (upd H2 a (.ins C dx (putF f y fs)))
noncomputable def InOp (X : Cx) (op : Operator) (rd : V -> V -> Hp -> VK -> Prop) : Prop :=
  ∀ (pins : List (Addr × Obj)) (s : Shared) (σ : St) (H : Hp) (x y : V) (u v : Value) (Q : VK), Inv X pins σ H s -> RelV x u -> RelV y v -> rd x y H Q -> wpAny (model X.prog X.w) X.A (inplaceOp op u v) (EP X pins σ Q) X.xe s
noncomputable def sFldAug (K : PySem.W.Frag) (ta tv : TE) (rd : V -> V -> Hp -> VK -> Prop) (f : Str) : TS := fun D σ H => ta σ H fun x H1 => ∃ a C dx fs v, x = .ref a /\ H1 a = some (.ins C dx fs) /\ Cls K C /\ NoAttr K C f /\ fs.lookup f = some v /\
  tv σ H1 fun y H2 => rd v y H2 fun z H3 => ∃ dx' fs', H3 a = some (.ins C dx' fs') /\ fs'.length < 1000 /\ D.nx σ (upd H3 a (.ins C dx' (putF f z fs')))
section
variable {X : Cx} {o e value : Expr} {f : Str} {pos pos' tpos : Pos} {ta tv : TE}
noncomputable def rAdd : V -> V -> Hp -> VK -> Prop := fun x y H Q => ∃ i j, x = .int i /\ y = .int j /\ Q (.int (i + j)) H
noncomputable def rSub : V -> V -> Hp -> VK -> Prop := fun x y H Q => ∃ i j, x = .int i /\ y = .int j /\ Q (.int (i - j)) H
end
section
variable {X : Cx} {pins : List (Addr × Obj)} {σ : St} {H : Hp} {s : Shared} {A : Around} {E : Value -> Shared -> Prop} {Q : Value -> Shared -> Prop} {c : Value} {b : Bool}
inductive TyOf (K : PySem.W.Frag) (H : Hp) : V -> Value -> Prop where
  | non : TyOf K H .non (.type "NoneType")
  | bl (x : Bool) : TyOf K H (.bl x) (.type "bool")
  | int (i : Int) : TyOf K H (.int i) (.type "int")
  | str (x : Str) : TyOf K H (.str x) (.type "str")
  | flt (x : UInt64) : TyOf K H (.flt x) (.type "float")
  | lst {a : Addr} {xs : List V} (e : H a = some (.lst xs)) : TyOf K H (.ref a) (.type "list")
  | frz {a : Addr} {o : Obj} {xs : List V} (e : H a = some (.frz o (.lst xs))) : TyOf K H (.ref a) (.type "list")
  | tup {a : Addr} {xs : List V} (e : H a = some (.tup xs)) : TyOf K H (.ref a) (.type "tuple")
  | dK {a : Addr} {kvs : List (Key × V)} (e : H a = some (.dK kvs)) : TyOf K H (.ref a) (.type "dict")
  | dT {a : Addr} {kvs : List (List Key × V)} (e : H a = some (.dT kvs)) : TyOf K H (.ref a) (.type "dict")
  | ins {a C dx : Addr} {fs : List (Str × V)} (e : H a = some (.ins C dx fs)) (cl : Cls K C) (ha : PySem.W.findIn K (.ref C) "__class__" = some (some (.builtin "object.__class__")))
      (hn : PySem.W.specialIn K (.builtin "object.__class__") "__get__" = some (some (.builtin "getset_descriptor.__get__"))) (htk : PySem.W.takesIn K (.builtin "object.__class__") = some true)
      (hm : PySem.W.mroIn K C (.type "object") = some true) : TyOf K H (.ref a) (.ref C)
theorem isinst_ok {x : V} {u t : Value} (I : Inv X pins σ H s) (rx : RelV x u) (ty : TyOf X.K H x t) (e : PySem.W.kitOne X.K t c = some b) (h : ∀ tk, Q (.bool b) { s with toks := tk }) :
    wpAny (model X.prog X.w) A (call (.builtin "isinstance") [u, c]) Q E s := by
  cases ty with
  | non => cases (show u = Value.none from rx); exact PySem.W.kia_one PySem.W.kitx_none I.kIn True.intro e (fun z => nomatch z) h
  | bl y => cases (show u = Value.bool y from rx); exact PySem.W.kia_one PySem.W.kitx_bool I.kIn True.intro e (fun z => nomatch z) h
  | int i => obtain ⟨t, q⟩ := (show ∃ t, u = Value.int i t from rx); cases q; exact PySem.W.kia_one PySem.W.kitx_int I.kIn True.intro e (fun z => nomatch z) h
  | str y => obtain ⟨t, q⟩ := (show ∃ t, u = Value.str y t from rx); cases q; exact PySem.W.kia_one PySem.W.kitx_str I.kIn True.intro e (fun z => nomatch z) h
  | flt y => obtain ⟨t, q⟩ := (show ∃ t, u = Value.float y t from rx); cases q; exact PySem.W.kia_one PySem.W.kitx_float I.kIn True.intro e (fun z => nomatch z) h
  | @lst a xs ea =>
    cases (show u = Value.ref a from rx)
    obtain ⟨_, _, n, _, h1⟩ := (show ObjOk X.prog X.w H s.heap a (.lst xs) from I.hok a _ ea)
    exact PySem.W.kia_one PySem.W.kitx_list I.kIn ⟨_, h1, rfl⟩ e (fun z => nomatch z) h
  | @frz a ob xs ea =>
    cases (show u = Value.ref a from rx)
    obtain ⟨_, _, _, n, _, h1⟩ := (show ObjOk X.prog X.w H s.heap a (.frz ob (.lst xs)) from I.hok a _ ea)
    exact PySem.W.kia_one PySem.W.kitx_list I.kIn ⟨_, h1, rfl⟩ e (fun z => nomatch z) h
  | @tup a xs ea =>
    cases (show u = Value.ref a from rx)
    obtain ⟨_, _, _, p⟩ := (show ObjOk X.prog X.w H s.heap a (.tup xs) from I.hok a _ ea)
    obtain ⟨o, h1, h2, _⟩ := p
    exact PySem.W.kia_one PySem.W.kitx_tuple I.kIn ⟨o, h1, h2⟩ e (fun z => nomatch z) h
  | @dK a kvs ea =>
    cases (show u = Value.ref a from rx)
    obtain ⟨_, _, vs, _, p⟩ := (show ObjOk X.prog X.w H s.heap a (.dK kvs) from I.hok a _ ea)
    obtain ⟨o, es, ep, h1, h2, _⟩ := p
    exact PySem.W.kia_one PySem.W.kitx_dict I.kIn ⟨o, h1, h2.1⟩ e (fun z => nomatch z) h
  | @dT a kvs ea =>
    cases (show u = Value.ref a from rx)
    obtain ⟨_, _, xs, _, o, es, ep, h1, h2, _⟩ := (show ObjOk X.prog X.w H s.heap a (.dT kvs) from I.hok a _ ea)
    exact PySem.W.kia_one PySem.W.kitx_dict I.kIn ⟨o, h1, h2.1⟩ e (fun z => nomatch z) h
  | @ins a C dx fs ea cl ha hn htk hm =>
    cases (show u = Value.ref a from rx)
    obtain ⟨mA, O, _⟩ := ins_get I.hok ea
    obtain ⟨od, J, _⟩ := O.look
    exact PySem.W.kia_one (PySem.W.kitx_own (cl.get _) cl.hd ha hn htk hm) I.kIn J e (fun z => nomatch z) h
end
end L2
namespace L2
open PySem PySem.Spec PyProof.Rows
structure Room (k : Nat) (A : Around) : Prop where
  hd : A.handled = none
  dp : A.depth + 3 * k + 5 < recursionLimit
  un : A.units + 16 * k + 200 < cLine
theorem Room.mono {j k : Nat} {A : Around} (r : Room k A) (h : j <= k) : Room j A := ⟨r.hd, by have := r.dp; omega, by have := r.un; omega⟩
theorem Room.deeper {k : Nat} {A : Around} (r : Room (k + 1) A) (env : Env) : Room k (A.deeper env) :=
  ⟨r.hd, by have := r.dp; show A.depth + 1 + 3 * k + 5 < _; omega, by have := r.un; show A.units + 3 + 16 * k + 200 < _; omega⟩
theorem Room.in1 {k : Nat} {A : Around} (r : Room (k + 1) A) : Room k A.in1 :=
  ⟨r.hd, by have := r.dp; show A.depth + 3 * k + 5 < _; omega, by have := r.un; show A.units + 1 + 16 * k + 200 < _; omega⟩
theorem Room.depth {k : Nat} {A : Around} (r : Room k A) : A.depth < recursionLimit := by have := r.dp; omega
theorem Room.units {k : Nat} {A : Around} (r : Room k A) : A.units + 64 < cLine := by have := r.un; omega
noncomputable def tNil : TA := fun _ H Q => Q [] H
noncomputable def tCons (ta : TE) (tr : TA) : TA := fun σ H Q => ta σ H fun x H1 => tr σ H1 fun xs H2 => Q (x :: xs) H2
section
variable {X : Cx} {e : Expr} {es : List Expr} {te : TE} {t : TA} {pos : Pos}
theorem pa_nil : PA X [] tNil := fun _ _ _ _ H Q I h => Calls.spliced_nil ⟨[], H, I, .nil, h⟩
theorem pa_cons (ha : PE X e te) (hr : PA X es t) (hs : starEach (e :: es) X.env = (false, eval e X.env) :: starEach es X.env := by rfl) : PA X (e :: es) (tCons te t) := by
  intro pos pins s σ H Q I h
  rw [hs]
  show wpAny _ _ (spliced ((false, eval e X.env) :: backTo pos (starEach es X.env))) _ _ s
  refine Calls.spliced_cons (thn (ha pins s σ H _ I h) fun u s1 ⟨x, H1, I1, r1, q1⟩ => ?_)
  exact thn (hr pos pins s1 σ H1 _ I1 q1) fun us s2 ⟨xs, H2, I2, r2, q2⟩ => ⟨x :: xs, H2, I2, .cons r1 r2, q2⟩
noncomputable def tTup (t : TA) : TE := fun σ H Q => t σ H fun xs H1 => xs.length <= sizeLine /\ ∀ p, H1 p = none -> Q (.ref p) (upd H1 p (.tup xs))
noncomputable def tLst (t : TA) : TE := fun σ H Q => t σ H fun xs H1 => xs.length <= sizeLine /\ ∀ p, H1 p = none -> Q (.ref p) (upd H1 p (.lst xs))
theorem pe_tup {x1} (h : PA X es t) : PE X (.Tuple es x1 pos) (tTup t) := by
  intro pins s σ H Q I hq
  refine wpAny_Tuple_spliced (thn (h pos pins s σ H _ I hq) fun us s1 ⟨xs, H1, I1, r, z, q⟩ => ⟨by rw [<- r.length]; exact z, ?_⟩)
  have hf : H1 s1.heap.objs.size = none := I1.hok.fresh (Nat.le_refl _)
  refine ⟨.ref s1.heap.objs.size, upd H1 s1.heap.objs.size (.tup xs), I1.laid (t' := s1.toks) (fun b u e => Heap.get?_push_of_some _ e) (Nat.le_refl _) ?_, rfl, q _ hf⟩
  exact ⟨z, us, r, ⟨_, Heap.get?_push_size _ rfl, rfl, rfl, _, rfl⟩⟩
theorem pe_lst (h : PA X es t) : PE X (.List es pos) (tLst t) := by
  intro pins s σ H Q I hq
  refine wpAny_List_spliced (thn (h pos pins s σ H _ I hq) fun us s1 ⟨xs, H1, I1, r, z, q⟩ => ⟨by rw [<- r.length]; exact z, ?_⟩)
  have hf : H1 s1.heap.objs.size = none := I1.hok.fresh (Nat.le_refl _)
  refine ⟨.ref s1.heap.objs.size, upd H1 s1.heap.objs.size (.lst xs), I1.laid (t' := s1.toks) (fun b u e => Heap.get?_push_of_some _ e) (Nat.le_refl _) ?_, rfl, q _ hf⟩
  exact ⟨z, us, 0, r, Heap.get?_push_size _ rfl⟩
end
noncomputable abbrev Sp := List V -> Hp -> VK -> XK -> Prop
noncomputable abbrev CXT := List Env -> Hp -> Shared -> XK -> Value -> Shared -> Prop
structure Env0 (P : Program) (w : World) (K : PySem.W.Frag) (mg : Str -> Option Value) (base : Heap) (A : Around) (outer : List Env) (s : Shared) (H : Hp) : Prop where
  frames : A.frames = some outer
  mod : Mod K mg base
  bs : ∀ b o, base.get? b = some o -> s.heap.get? b = some o /\ H b = none
  bsz : base.objs.size <= s.heap.objs.size
  funs : s.heap.FunFrames base outer
  frf : ∀ b ∈ frs outer, H b = none
  hok : HOk P w H s.heap
  bare : AllBare s.gens
noncomputable def CE (outer : List Env) (P : Program) (w : World) (H : Hp) (s : Shared) (Q : VK) (u : Value) (s' : Shared) : Prop :=
  ∃ v H', s'.os = s.os /\ AllBare s'.gens /\ Un (frs outer) [] H H' s.heap s'.heap /\ HOk P w H' s'.heap /\ RelV v u /\ Q v H'
noncomputable def CR (CX : CXT) (outer : List Env) (P : Program) (w : World) (H : Hp) (s : Shared) (Q : VK) (E : XK) (r : Result) (s' : Shared) : Prop :=
  match r with
  | .ok (.ret u) => CE outer P w H s Q u s'
  | .ok _ => False
  | .error e => CX outer H s E e s'
structure FnOk (P : Program) (w : World) (K : PySem.W.Frag) (mg : Str -> Option Value) (base : Heap) (CX : CXT) (k : Nat) (f : Addr) (fd : FuncData) (ps : List Str) (sp : Sp) : Prop where
  len : ∀ vs H Q E, sp vs H Q E -> vs.length = ps.length
  run : ∀ (A : Around) (outer : List Env) (s : Shared) (H : Hp) (args : Args) (us : List Value) (vs : List V) (Q : VK) (E : XK), Room k A -> Env0 P w K mg base A outer s H -> BindsTo s fd args (ps.zip us) -> Vals vs us -> sp vs H Q E ->
    codeAny (model P w) A (.call (.ref f) args) (CR CX outer P w H s Q E) s
theorem FnOk.mono {P : Program} {w : World} {K : PySem.W.Frag} {mg : Str -> Option Value} {base : Heap} {CX : CXT} {j k : Nat} {f : Addr} {fd : FuncData} {ps : List Str} {sp : Sp} (F : FnOk P w K mg base CX j f fd ps sp) (h : j <= k) :
    FnOk P w K mg base CX k f fd ps sp := ⟨F.len, fun A outer s H args us vs Q E hr => F.run A outer s H args us vs Q E (hr.mono h)⟩
theorem FnOk.imp {P : Program} {w : World} {K : PySem.W.Frag} {mg : Str -> Option Value} {base : Heap} {CX : CXT} {k : Nat} {f : Addr} {fd : FuncData} {ps : List Str} {sp sp' : Sp} (F : FnOk P w K mg base CX k f fd ps sp)
    (h : ∀ vs H Q E, sp' vs H Q E -> sp vs H Q E) : FnOk P w K mg base CX k f fd ps sp' :=
  ⟨fun vs H Q E q => F.len vs H Q E (h _ _ _ _ q), fun A outer s H args us vs Q E hr he hb hv hs => F.run A outer s H args us vs Q E hr he hb hv (h _ _ _ _ hs)⟩
theorem Env0.in1 {P : Program} {w : World} {K : PySem.W.Frag} {mg : Str -> Option Value} {base : Heap} {A : Around} {outer : List Env} {s : Shared} {H : Hp} (e : Env0 P w K mg base A outer s H) :
    Env0 P w K mg base A.in1 outer s H := ⟨e.frames, e.mod, e.bs, e.bsz, e.funs, e.frf, e.hok, e.bare⟩
section
variable {X : Cx} {pins : List (Addr × Obj)} {σ : St} {H : Hp} {s s' : Shared}
theorem Inv.env0 (I : Inv X pins σ H s) : Env0 X.prog X.w X.K X.mg X.base X.A X.stack s H :=
  ⟨I.ok.frames, I.ok.mod, I.bs, Nat.le_trans I.ok.bsz I.sz, I.stack, I.stkFree, I.hok, I.bare⟩
theorem Inv.after {Q : VK} {u : Value} (I : Inv X pins σ H s) (h : CE X.stack X.prog X.w H s Q u s') : EP X pins σ Q u s' := by
  obtain ⟨v, H', os, bare, un, hok, r, q⟩ := h
  obtain ⟨hh, g, d, t, os'⟩ := s'
  obtain rfl : os' = s.os := os
  exact ⟨v, H', I.call (h' := hh) (g' := g) (d' := d) (t' := t) (ch := []) un hok bare (fun b z => absurd z (by simp)), r, q⟩
end
noncomputable def tCall (sp : Sp) (dvs : List V) (E : XK) (t : TA) : TE := fun σ H Q => t σ H fun vs H1 => sp (vs ++ dvs) H1 Q E
noncomputable def tMeth (C : Addr) (m : Str) (sp : Sp) (dvs : List V) (E : XK) (ta : TE) (t : TA) : TE := fun σ H Q => ta σ H fun x H1 => ∃ a dx fs, x = .ref a /\ H1 a = some (.ins C dx fs) /\ fs.lookup m = none /\
  t σ H1 fun vs H2 => sp (x :: (vs ++ dvs)) H2 Q E
noncomputable def tMake (C : Addr) (sp : Sp) (dvs : List V) (E : XK) (t : TA) : TE := fun σ H Q => t σ H fun vs H1 => ∀ x dx, H1 x = none -> H1 dx = none -> dx ≠ x ->
  sp (.ref x :: (vs ++ dvs)) (upd (upd H1 dx (.own x)) x (.ins C dx [])) (fun v H2 => v = .non /\ Q (.ref x) H2) E
noncomputable def Binds (K : PySem.W.Frag) (fd : FuncData) (ps : List Str) (ds : List Value) : Prop :=
  ∀ (s : Shared) (us : List Value), K.In s.heap -> (us ++ ds).length = ps.length -> BindsTo s fd ⟨us, []⟩ (ps.zip (us ++ ds))
theorem Binds.all {K : PySem.W.Frag} {fd : FuncData} {ps : List Str} (h : ∀ us : List Value, us.length = ps.length -> bindArgs fd ⟨us, []⟩ = pure (ps.zip us)) : Binds K fd ps [] := fun s us _ hl => by
  rw [List.append_nil] at hl ⊢
  exact .of_eq (h us hl)
noncomputable def Passes (CX : CXT) (X : Cx) (E : XK) : Prop := ∀ (pins : List (Addr × Obj)) (σ : St) (H : Hp) (s : Shared) (e : Value) (s' : Shared), Inv X pins σ H s -> CX X.stack H s E e s' -> X.xe e s'
section
variable {X : Cx} {CX : CXT} {k : Nat} {f C : Addr} {fd : FuncData} {ps : List Str} {sp : Sp} {dvs : List V} {ds : List Value} {E : XK} {x m : Str} {p pos apos : Pos} {e o : Expr} {es : List Expr} {ta : TE} {t : TA}
theorem run_fn {pins : List (Addr × Obj)} {σ : St} {H : Hp} {s : Shared} {Q : VK} {us : List Value} {vs : List V} (F : FnOk X.prog X.w X.K X.mg X.base CX k f fd ps sp) (hr : Room k X.A) (hb : Binds X.K fd ps ds) (hd : Vals dvs ds) (hx : Passes CX X E)
    (I : Inv X pins σ H s) (r : Vals vs us) (h : sp (vs ++ dvs) H Q E) : wpAny (model X.prog X.w) X.A (call (.ref f) us) (EP X pins σ Q) X.xe s := by
  have r2 : Vals (vs ++ dvs) (us ++ ds) := r.append hd
  have hl : (us ++ ds).length = ps.length := by rw [<- r2.length]; exact F.len _ _ _ _ h
  refine wpAny_call (codeAny_mono (F.run X.A X.stack s H ⟨us, []⟩ (us ++ ds) (vs ++ dvs) Q E hr I.env0 (hb s us I.kIn hl) r2 h) fun r s' hq => ?_)
  cases r with
  | error e => exact hx pins σ H s e s' I hq
  | ok fl =>
    cases fl with
    | ret u => exact I.after hq
    | next => exact False.elim hq
    | brk => exact False.elim hq
    | cont => exact False.elim hq
theorem pe_call (F : FnOk X.prog X.w X.K X.mg X.base CX k f fd ps sp) (hr : Room k X.A) (hg : Gl X x) (hm : X.mg x = some (.ref f)) (hk : PySem.W.keepIn X.K (.ref f) = true) (hb : Binds X.K fd ps ds) (hd : Vals dvs ds) (hx : Passes CX X E)
    (ha : PA X (e :: es) t) (hdb : (x == ("__debug__" : Str)) = false := by decide) (he : starEach (e :: es) X.env = (false, eval e X.env) :: starEach es X.env := by rfl) (hpl : (backTo pos (starEach es X.env)).any (·.1) = false := by rfl) :
    PE X (.Call (.Name x p) (e :: es) [] pos) (tCall sp dvs E t) := by
  intro pins s σ H Q I h
  refine wpAny_Call_Name_kw (ld_glob I hg hm ?_ hdb)
  refine PySem.W.callWith_K (h₀ := X.base) I.ok.mod.kin hk (thn (ha pos pins s σ H _ I h) fun us s1 ⟨vs, H1, I1, r, q⟩ => ⟨I1.kIn, ?_⟩) he hpl
  exact run_fn F hr hb hd hx I1 r q
structure Mk (K : PySem.W.Frag) (C f : Addr) : Prop where
  makes : PySem.W.makesIn K C = true
  init : PySem.W.findIn K (.ref C) "__init__" = some (some (.ref f))
  fn : PySem.W.isFn K (.ref f) = true
  kp : PySem.W.keepIn K (.ref C) = true
end
noncomputable def PK (X : Cx) (kws : List Keyword) (t : TA) : Prop :=
  ∀ (pos : Pos) (pins : List (Addr × Obj)) (s : Shared) (σ : St) (H : Hp) (Q : List V -> Hp -> Prop), Inv X pins σ H s -> t σ H Q -> wpAny (model X.prog X.w) X.A (evalAll ((backToKw pos (keywordEach kws X.env)).map (·.2))) (AP X pins σ Q) X.xe s
section
variable {X : Cx} {CX : CXT} {k : Nat} {f C : Addr} {fd : FuncData} {ps ks : List Str} {sp : Sp} {E : XK} {x m : Str} {p pos apos kpos : Pos} {e o : Expr} {es : List Expr} {kws : List Keyword} {te ta : TE} {t tk : TA} {nm : Option Str}
structure KBinds (K : PySem.W.Frag) (fd : FuncData) (ps ks : List Str) (g : List Value -> List Value -> List Value) (gV : List V -> List V -> List V) : Prop where
  to : ∀ (s : Shared) (us ws : List Value), K.In s.heap -> (g us ws).length = ps.length -> BindsTo s fd ⟨us, ks.zip ws⟩ (ps.zip (g us ws))
  rel : ∀ {vs : List V} {us : List Value} {zs : List V} {ws : List Value}, Vals vs us -> Vals zs ws -> Vals (gV vs zs) (g us ws)
noncomputable def tCallK (sp : Sp) (gV : List V -> List V -> List V) (E : XK) (t tk : TA) : TE := fun σ H Q => t σ H fun vs H1 => tk σ H1 fun zs H2 => sp (gV vs zs) H2 Q E
variable {g : List Value -> List Value -> List Value} {gV : List V -> List V -> List V}
end
structure FnScope (N P : List Str) (sc : Scope) : Prop where
  kind : sc.kind = .function
  co : sc.isCoroutine = false
  gen : sc.isGenerator = false
  nd : N.Nodup
  pre : N.take P.length = P
  par : ∀ x ∈ P, sc.names.lookup x = some .local \/ sc.names.lookup x = some .cell
  nofree : ∀ y ∈ sc.names, y.2 ≠ .free
theorem bindL_out {kindOf : Str -> Option NameKind} {x : Str} : ∀ {binds : List (Str × Value)} {m : Str -> Option Value}, (∀ v, (x, v) ∉ binds) -> bindL kindOf binds m x = m x
  | [], _, _ => rfl
  | (n, v) :: r, m, h => by
    unfold bindL
    rw [bindL_out fun w hw => h w (List.mem_cons_of_mem _ hw)]
    split
    · have : x ≠ n := by rintro rfl; exact h v List.mem_cons_self
      simp [this]
    · rfl
theorem bindC_out {kindOf : Str -> Option NameKind} {x : Str} : ∀ {binds : List (Str × Value)} {m : Str -> Option Value}, (∀ v, (x, v) ∉ binds) -> bindC kindOf binds m x = m x
  | [], _, _ => rfl
  | (n, v) :: r, m, h => by
    unfold bindC
    rw [bindC_out fun w hw => h w (List.mem_cons_of_mem _ hw)]
    split
    · rfl
    · have : x ≠ n := by rintro rfl; exact h v List.mem_cons_self
      simp [this]
theorem bindL_get {kindOf : Str -> Option NameKind} {x : Str} {v : Value} : ∀ {P : List Str} {vs : List Value} {i : Nat} {m : Str -> Option Value}, P.Nodup -> P[i]? = some x -> vs[i]? = some v -> kindOf x = some .local ->
    bindL kindOf (P.zip vs) m x = some v
  | [], _, _, _, _, h, _, _ => by simp at h
  | _ :: _, [], _, _, _, _, h, _ => by simp at h
  | p :: P, w :: vs, 0, m, nd, h1, h2, hk => by
    simp at h1 h2; subst h1; subst h2
    show bindL kindOf ((p, w) :: P.zip vs) m p = _
    unfold bindL
    rw [bindL_out fun v hv => (List.nodup_cons.mp nd).1 (List.of_mem_zip hv).1, if_pos hk]
    simp
  | p :: P, w :: vs, i + 1, m, nd, h1, h2, hk => by
    show bindL kindOf ((p, w) :: P.zip vs) m x = _
    unfold bindL
    exact bindL_get (i := i) (List.nodup_cons.mp nd).2 (by simpa using h1) (by simpa using h2) hk
theorem bindC_get {kindOf : Str -> Option NameKind} {x : Str} {v : Value} : ∀ {P : List Str} {vs : List Value} {i : Nat} {m : Str -> Option Value}, P.Nodup -> P[i]? = some x -> vs[i]? = some v -> kindOf x ≠ some .local ->
    bindC kindOf (P.zip vs) m x = some v
  | [], _, _, _, _, h, _, _ => by simp at h
  | _ :: _, [], _, _, _, _, h, _ => by simp at h
  | p :: P, w :: vs, 0, m, nd, h1, h2, hk => by
    simp at h1 h2; subst h1; subst h2
    show bindC kindOf ((p, w) :: P.zip vs) m p = _
    unfold bindC
    rw [bindC_out fun v hv => (List.nodup_cons.mp nd).1 (List.of_mem_zip hv).1, if_neg hk]
    simp
  | p :: P, w :: vs, i + 1, m, nd, h1, h2, hk => by
    show bindC kindOf ((p, w) :: P.zip vs) m x = _
    unfold bindC
    exact bindC_get (i := i) (List.nodup_cons.mp nd).2 (by simpa using h1) (by simpa using h2) hk
noncomputable def start (N : List Str) (vs : List V) : St := vs.map some ++ List.replicate (N.length - vs.length) none
noncomputable def cxOf (CX : CXT) (P : Program) (w : World) (K : PySem.W.Frag) (mg : Str -> Option Value) (base : Heap) (N : List Str) (qual : Str) (scope : Scope) (f : Addr) (cd : Value) (A : Around) (outer : List Env) (s : Shared) (H : Hp) (E : XK) : Cx where
  prog := P
  w := w
  K := K
  mg := mg
  base := base
  A := A.deeper (envOfC qual scope s.heap.objs.size f cd)
  N := N
  s₀ := s
  H₀ := H
  env := envOfC qual scope s.heap.objs.size f cd
  outer := outer
  stack := envOfC qual scope s.heap.objs.size f cd :: outer
  ex := []
  calm := true
  fn := fun _ => true
  pn := []
  xe := fun e s' => wpAny (model P w) (A.deeper (envOfC qual scope s.heap.objs.size f cd)) (leaving (envOfC qual scope s.heap.objs.size f cd) e) (fun _ s'' => CX outer H s E e s'') (fun e' s'' => CX outer H s E e' s'') s'
theorem cell_has {sc : Scope} {n : Nat} {x : Str} (h : sc.names.lookup x = some .cell) : ∃ c, (cellsFrom n sc.names []).lookup x = some c := by
  have q := PySem.W.cellsFrom_some sc.names n [] (.inl h)
  exact Option.isSome_iff_exists.mp q
theorem inv_start {CX : CXT} {P : Program} {w : World} {K : PySem.W.Frag} {mg : Str -> Option Value} {base : Heap} {N ps : List Str} {qual : Str} {scope : Scope} {f : Addr} {cd : Value} {A : Around} {outer : List Env} {s s1 : Shared} {H : Hp} {E : XK} {us : List Value} {vs : List V}
    (S : FnScope N ps scope) (hd : A.handled = none) (e0 : Env0 P w K mg base A outer s H) (hl : vs.length = ps.length) (r : Vals vs us)
    (x : InCallC s s.heap.objs.size (bindL (envOfC qual scope s.heap.objs.size f cd).kindOf (ps.zip us) fun _ => none) (cellsFrom (s.heap.objs.size + 1) scope.names []) (bindC (envOfC qual scope s.heap.objs.size f cd).kindOf (ps.zip us) fun _ => none) s1) :
    Inv (cxOf CX P w K mg base N qual scope f cd A outer s H E) [] (start N vs) H s1 := by
  have hpl : ps.length <= N.length := by have := congrArg List.length S.pre; rw [List.length_take] at this; omega
  obtain ⟨h1, tk, rfl, hk⟩ := x.done
  have noA : ∀ b : Addr, b ∉ (cxOf CX P w K mg base N qual scope f cd A outer s H E).ex := fun b z => absurd (show b ∈ ([] : List Addr) from z) (by simp)
  refine ⟨⟨e0.mod, S.kind, rfl, rfl, Nat.le_refl _, fun y z c h1 h2 => ?_, fun y hy => ?_, fun y c _ h => ?_, fun _ => hd, Around.frames_deeper e0.frames, .inr ⟨rfl, rfl⟩, fun b z => absurd z (noA b), e0.bs, e0.bsz, fun b _ _ => noA b, fun b z => absurd z (noA b), e0.funs, e0.frf⟩,
    rfl, e0.bare, Un.kept hk, ⟨_, x.toInCall.ns, fun i y v h1 h2 h3 => ?_⟩, fun y c h => ⟨_, x.cell y c h⟩, e0.hok.fresh (Nat.le_refl _), fun y c h => ?_, fun p hp => absurd (show p ∈ ([] : List (Addr × Obj)) from hp) (by simp), e0.hok.kept hk, ?_⟩
  · exact name_of_addr x.apart (PySem.mem_of_lookup h1) (PySem.mem_of_lookup h2)
  · have hy : scope.names.lookup y = some .cell \/ scope.names.lookup y = some .free := hy
    rcases hy with hy | hy
    · exact cell_has hy
    · exact absurd rfl (S.nofree _ (PySem.mem_of_lookup hy))
  · exact Nat.le_of_lt (x.above y c (PySem.mem_of_lookup h))
  · have hi : i < vs.length := by
      unfold start at h2
      by_cases hi : i < vs.length
      · exact hi
      · rw [List.getElem?_append_right (by simpa using hi)] at h2
        rw [List.getElem?_replicate] at h2
        split at h2 <;> cases h2
    have ha : vs[i]? = some v := by
      unfold start at h2
      rw [List.getElem?_append_left (by simpa using hi), List.getElem?_map] at h2
      cases e : vs[i]? with
      | none => rw [e] at h2; cases h2
      | some a => rw [e] at h2; cases h2; rfl
    obtain ⟨u, hu, rv⟩ := r.get ha
    have hp : ps[i]? = some y := by
      rw [<- S.pre, List.getElem?_take_of_lt (by omega)]; exact h1
    have ndP : ps.Nodup := by rw [<- S.pre]; exact S.nd.sublist (List.take_sublist _ _)
    refine ⟨u, rv, ?_⟩
    rcases S.par y (List.mem_of_getElem? hp) with k | k
    · exact .inl ⟨k, bindL_get ndP hp hu k⟩
    · obtain ⟨c, e⟩ := cell_has (n := s.heap.objs.size + 1) k
      refine .inr ⟨.inl k, c, e, ?_⟩
      have q := x.cell y c e
      rw [bindC_get ndP hp hu (by show scope.names.lookup y ≠ _; rw [k]; decide)] at q
      exact q
  · exact e0.hok.fresh (Nat.le_of_lt (x.above y c (PySem.mem_of_lookup h)))
  · unfold start
    show _ = N.length
    rw [List.length_append, List.length_map, List.length_replicate]
    omega
theorem fn_of {CX : CXT} {P : Program} {w : World} {K : PySem.W.Frag} {mg : Str -> Option Value} {base : Heap} {k : Nat} {f : Addr} {name qual : Str} {params : Arguments} {body : List Stmt} {scope : Scope} {dV kV doc pm cdv ct oc : Value} {an od : Option Addr}
    {osl : Array (Option Value)} {N ps : List Str} {sp : Sp} (lk : K.lookup f = some ⟨oc, od, .func (PySem.W.fnOf name qual params body scope dV kV doc pm an cdv ct), osl⟩) (hcd : PySem.W.codeIn K cdv qual = true) (S : FnScope N ps scope)
    (len : ∀ vs H Q E, sp vs H Q E -> vs.length = ps.length)
    (hbody : ∀ (A : Around) (outer : List Env) (s : Shared) (H : Hp) (vs : List V) (Q : VK) (E : XK), Room k (A.deeper (envOfC qual scope s.heap.objs.size f cdv)) -> sp vs H Q E ->
      ∃ t, PSs (cxOf CX P w K mg base N qual scope f cdv A outer s H E) body t /\ t { nx := fun _ H' => Q .non H', rt := Q } (start N vs) H) :
    FnOk P w K mg base CX (k + 1) f (PySem.W.fnOf name qual params body scope dV kV doc pm an cdv ct) ps sp := by
  refine ⟨len, fun A outer s H args us vs Q E hr e0 hb r hsp => ?_⟩
  have hl := len _ _ _ _ hsp
  have KX : K.In s.heap := e0.mod.kin.keeps fun b o e => (e0.bs b o e).1
  have lim : s.heap.NoLimit := e0.mod.nolimit.keeps fun b o e => (e0.bs b o e).1
  have hkind : ∀ y ∈ ps.zip us, scope.names.lookup y.1 = some .local \/ (scope.names.lookup y.1 = some .cell /\ ((cellsFrom (s.heap.objs.size + 1) scope.names []).lookup y.1).isSome = true) := fun ⟨n, v⟩ hy => by
    rcases S.par n (List.of_mem_zip hy).1 with q | q
    · exact .inl q
    · exact .inr ⟨q, PySem.W.cellsFrom_some _ _ _ (.inl q)⟩
  refine codeAny_call_function hr.depth (KX _ _ lk) rfl S.co S.gen rfl (PySem.W.codeRec_of KX hcd) (hb _ _ _ _ ?_)
  refine wpAny_newFunctionEnv_cells S.kind hkind fun env he s1 x => ?_
  subst he
  refine ⟨lim.keeps x.toInCall.keep, codeAny_func ?_⟩
  obtain ⟨t, ht, hq⟩ := hbody A outer s H vs Q E (hr.deeper _) hsp
  have I : Inv (cxOf CX P w K mg base N qual scope f cdv A outer s H E) [] (start N vs) H s1 := inv_start S hr.hd e0 hl r x
  refine wpAny_mono (ht [] s1 (start N vs) H _ I hq) (fun fl s' hs => ?_) fun e s' hs => hs
  have fin : ∀ {σ' : St} {H' : Hp} {v : V} {u : Value}, Inv (cxOf CX P w K mg base N qual scope f cdv A outer s H E) [] σ' H' s' -> RelV v u -> Q v H' -> CE outer P w H s Q u s' :=
    fun {σ' H' v u} J rv q => ⟨v, H', J.os, J.bare, J.base, J.hok, rv, q⟩
  cases fl with
  | ret u =>
    obtain ⟨v, σ', H', J, rv, q⟩ := hs
    exact fin J rv q
  | next =>
    obtain ⟨σ', H', J, q⟩ := hs
    exact fin (v := V.non) (u := Value.none) J rfl q
  | brk =>
    obtain ⟨_, _, _, q⟩ := hs
    exact False.elim q
  | cont =>
    obtain ⟨_, _, _, q⟩ := hs
    exact False.elim q
end L2
namespace L2
open PySem PySem.Spec PyProof.Rows
section
variable {X : Cx} {x : Str} {p pos : Pos} {e : Expr} {es : List Expr} {t : TA} {id T : String} {r : List V -> Hp -> VK -> Prop}
noncomputable def tCB (r : List V -> Hp -> VK -> Prop) (t : TA) : TE := fun σ H Q => t σ H fun vs H1 => r vs H1 Q
theorem pe_callB (hc : CallR X (.builtin id) r) (hg : Gl X x) (hm : X.mg x = none) (hv : bootBuiltins x = some (.builtin id)) (ha : PA X (e :: es) t) (hn : x ≠ "__name__" := by decide) (hdb : (x == ("__debug__" : Str)) = false := by decide)
    (he : starEach (e :: es) X.env = (false, eval e X.env) :: starEach es X.env := by rfl) (hpl : (backTo pos (starEach es X.env)).any (·.1) = false := by rfl) : PE X (.Call (.Name x p) (e :: es) [] pos) (tCB r t) := by
  intro pins s σ H Q I h
  refine wpAny_Call_Name_kw (ld_blt I hg hm hv ?_ hn hdb)
  exact PyProof.Rows.callWith_builtin1 (thn (ha pos pins s σ H _ I h) fun us s1 ⟨vs, H1, I1, r1, q1⟩ => hc pins s1 σ H1 vs us Q I1 r1 q1) he hpl
theorem pe_callTy (hc : CallR X (.type T) r) (hg : Gl X x) (hm : X.mg x = none) (hv : bootBuiltins x = some (.type T)) (ha : PA X (e :: es) t) (hn : x ≠ "__name__" := by decide) (hdb : (x == ("__debug__" : Str)) = false := by decide)
    (he : starEach (e :: es) X.env = (false, eval e X.env) :: starEach es X.env := by rfl) (hpl : (backTo pos (starEach es X.env)).any (·.1) = false := by rfl) : PE X (.Call (.Name x p) (e :: es) [] pos) (tCB r t) := by
  intro pins s σ H Q I h
  refine wpAny_Call_Name_kw (ld_blt I hg hm hv ?_ hn hdb)
  exact PyProof.Rows.callWith_type1 (thn (ha pos pins s σ H _ I h) fun us s1 ⟨vs, H1, I1, r1, q1⟩ => hc pins s1 σ H1 vs us Q I1 r1 q1) he hpl
end
end L2
namespace HT
open PySem PyProof.Rows
noncomputable def lexLt : List Int -> List Int -> Bool
  | [], [] => false
  | [], _ :: _ => true
  | _ :: _, [] => false
  | x :: xs, y :: ys => if x = y then lexLt xs ys else decide (x < y)
theorem lexLt_cons (x y : Int) (xs ys : List Int) : lexLt (x :: xs) (y :: ys) = if x = y then lexLt xs ys else decide (x < y) := rfl
theorem lexLt_nil_nil : lexLt [] [] = false := rfl
theorem lexLt_nil_cons (y : Int) (ys : List Int) : lexLt [] (y :: ys) = true := rfl
theorem lexLt_cons_nil (x : Int) (xs : List Int) : lexLt (x :: xs) [] = false := rfl
theorem eqAt_int (A : Around) (s : Shared) (a : Int) (t : Tok) (c : Int) (u : Tok) : ∃ e, SeqAt.EqAt A s (.int a t) (.int c u) e /\ (e = true ↔ a = c) :=
  ⟨(a == c), SeqAt.EqAt.int_int a t c u, by simp⟩
theorem rcLt_int (A : Around) (s : Shared) (a : Int) (t : Tok) (c : Int) (u : Tok) (prog : Program) (w : World) (E : Value -> Shared -> Prop) (Q : Value -> Shared -> Prop) (h : Q (.bool (decide (a < c))) s) :
    wpAny (model prog w) A (richCompare .Lt (.int a t) (.int c u)) Q E s :=
  (PyProof.Rows.lt_int h : wpAny (model prog w) A (compareOp .Lt (.int a t) (.int c u)) Q E s)
section
open PySem.SeqAt
open PySem.AutoSeq1 (wpAny_loadPart')
open PySem.MeetsSeq PySem.MeetsSeq2 PySem.MeetsSeq3
theorem tuple_lt_ints (l b : Addr) (items items2 : Array Value) (n n2 : Nat) (dd dd2 : Option Addr) (sl sl2 : Array (Option Value)) (ns ms : List Int) (hi : IntsAre items.toList ns) (hj : IntsAre items2.toList ms) :
    Meets (Builtin.«tuple.__lt__» ⟨[.ref l, .ref b], []⟩)
      (fun _ R s => s.heap.get? l = some { cls := .type "tuple", dict := dd, data := .seq items n, slots := sl } /\ s.heap.get? b = some { cls := .type "tuple", dict := dd2, data := .seq items2 n2, slots := sl2 } /\
        R (.ok (.ret (.bool (lexLt ns ms)))) s) :=
  .of_wp fun prog w A R s h => by
    obtain ⟨hp, g, d, tk, os⟩ := s; obtain ⟨hl, hb, h⟩ := h
    have f2 := AutoSeq1.sub_tuple_tuple
    have z1 : items.size = ns.length := by rw [<- hi.length]; simp
    have z2 : items2.size = ms.length := by rw [<- hj.length]; simp
    wp_walk using wpAny_loadPart' hl, wpAny_loadPart' hb, wpAny_forIn_list _ (fun rest b s' => b.1 = none /\ s' = ⟨hp, g, d, tk, os⟩ /\ ∃ (vs ws : List Value) (ns' ms' : List Int), rest = vs.zip ws /\
      IntsAre vs ns' /\ IntsAre ws ms' /\ ns'.length + items2.size = ms'.length + items.size /\ R (.ok (.ret (.bool (lexLt ns' ms')))) ⟨hp, g, d, tk, os⟩) _
    case turn =>
      rintro ⟨y, x⟩ rest b s' ⟨hb', rfl, vs, ws, ns', ms', hz, hvi, hwi, hlen, hR⟩
      cases hvi with
      | nil => rw [List.zip_nil_left] at hz; cases hz
      | cons a t hvi' =>
        cases hwi with
        | nil => rw [List.zip_nil_right] at hz; cases hz
        | cons c u hwi' =>
          rw [List.zip_cons_cons] at hz
          injection hz with hyx hrest
          injection hyx with hy hx
          subst hy hx
          rw [lexLt_cons] at hR
          simp only [List.length_cons] at hlen
          obtain ⟨e, he, hiff⟩ := eqAt_int A.in1 ⟨hp, g, d, tk, os⟩ a t c u
          refine wpAny_bind (he prog w _ _ ?_)
          cases e with
          | true =>
            rw [if_pos (hiff.mp rfl)] at hR
            wp_walk
            exact ⟨rfl, rfl, _, _, _, _, hrest, hvi', hwi', by omega, hR⟩
          | false =>
            rw [if_neg (fun q => absurd (hiff.mpr q) Bool.false_ne_true)] at hR
            have hri := rcLt_int A.in1 ⟨hp, g, d, tk, os⟩ a t c u prog w
            wp_walk using hri
            exact ⟨_, rfl, by simpa using hR⟩
    case fin =>
      rintro ⟨b1, b2⟩ s' ⟨hb', rfl, vs, ws, ns', ms', hz, hvi, hwi, hlen, hR⟩
      simp only at hb'
      subst hb'
      have hv : lexLt ns' ms' = decide (items.size < items2.size) := by
        cases hvi with
        | nil =>
          cases hwi with
          | nil =>
            simp only [List.length_nil] at hlen
            rw [lexLt_nil_nil]
            exact (decide_eq_false (by omega)).symm
          | cons c u hw =>
            simp only [List.length_nil, List.length_cons] at hlen
            rw [lexLt_nil_cons]
            exact (decide_eq_true (by omega)).symm
        | cons a t hv =>
          cases hwi with
          | nil =>
            simp only [List.length_nil, List.length_cons] at hlen
            rw [lexLt_cons_nil]
            exact (decide_eq_false (by omega)).symm
          | cons c u hw =>
            rw [List.zip_cons_cons] at hz
            cases hz
      rw [hv] at hR
      wp_walk
      exact ⟨_, rfl, by simpa [Builtin.Tuple.tupleCompareSizes] using hR⟩
    case h =>
      exact ⟨rfl, rfl, items.toList, items2.toList, ns, ms, rfl, hi, hj, by omega, h⟩
end
section
variable {prog : Program} {w : World} {A : Around} {E : Value -> Shared -> Prop} {s : Shared}
theorem lt_tupInts {l b : Addr} {items items2 : Array Value} {ns ms : List Int} {Q : Value -> Shared -> Prop} (hl : IsTup s.heap l items) (hb : IsTup s.heap b items2) (hi : IntsAre items.toList ns) (hj : IntsAre items2.toList ms)
    (hu : A.units < cLine) (h : Q (.bool (lexLt ns ms)) s) : wpAny (model prog w) A (compareOp .Lt (.ref l) (.ref b)) Q E s := by
  obtain ⟨⟨cls, dd, data, sl⟩, ho, hc, n, hd⟩ := id hl
  obtain ⟨⟨cls2, dd2, data2, sl2⟩, ho2, hc2, n2, hd2⟩ := id hb
  simp only at hc hd hc2 hd2
  subst hc hd hc2 hd2
  exact richCompare_meets_room (op := .Lt) ⟨_, ho, rfl⟩ ⟨_, ho2, rfl⟩ PySem.F.slot_tuple_lt PySem.F.entry_tuple_lt (PySem.F.args_tuple_lt_2 _ _) (tuple_lt_ints l b items items2 n n2 dd dd2 sl sl2 ns ms hi hj)
    ⟨ho, ho2, show Value.bool (lexLt ns ms) ≠ Value.notImplemented /\ Q (.bool (lexLt ns ms)) s from ⟨(fun x => nomatch x), h⟩⟩ hu
theorem cat_tup {t b : Addr} {vs ws : List Value} {Q : Value -> Shared -> Prop} (ht : IsTup s.heap t vs.toArray) (hb : IsTup s.heap b ws.toArray) (hv : vs ≠ [])
    (h1 : ws = [] -> Q (.ref t) s) (h2 : ws ≠ [] -> Q (.ref s.heap.objs.size) { s with heap := s.heap.push { cls := .type "tuple", data := .seq (vs ++ ws).toArray } })
    (hsz : vs.length + ws.length <= sizeLine) : wpAny (model prog w) A (binaryOp .Add (.ref t) (.ref b)) Q E s := by
  obtain ⟨⟨cls, dd, data, sl⟩, ho, hc, n, hd⟩ := id ht
  obtain ⟨⟨cls2, dd2, data2, sl2⟩, ho2, hc2, n2, hd2⟩ := id hb
  simp only at hc hd hc2 hd2
  subst hc hd hc2 hd2
  have e : vs.toArray ++ ws.toArray = (vs ++ ws).toArray := by simp
  by_cases hw : ws = []
  · exact concat_meets ⟨_, ho, rfl⟩ ⟨_, ho2, rfl⟩ noFill_tuple_add seq_tuple_add PySem.F.slot_tuple_add PySem.F.entry_tuple_add (PySem.F.args_tuple_add_2 _ _)
      (tuple_addW1 t b vs.toArray ws.toArray n n2 dd dd2 sl sl2 (by simpa using hv) (by simp [hw])) ⟨ho, ho2, h1 hw⟩
  · refine concat_meets ⟨_, ho, rfl⟩ ⟨_, ho2, rfl⟩ noFill_tuple_add seq_tuple_add PySem.F.slot_tuple_add PySem.F.entry_tuple_add (PySem.F.args_tuple_add_2 _ _)
      (tuple_addW2 t b vs.toArray ws.toArray n n2 dd dd2 sl sl2 (by simpa using hv) (by simpa using hw) (by rw [List.size_toArray, List.size_toArray]; exact hsz)) ⟨ho, ho2, ?_⟩
    rw [e]
    exact h2 hw
noncomputable def sIx (n d : Nat) : Option Int -> Nat
  | none => d
  | some v => if v < 0 then (v + (n : Int)).toNat else min v.toNat n
theorem sIx_none (n d : Nat) : sIx n d none = d := rfl
theorem sIx_nat (n d k : Nat) : sIx n d (some (k : Int)) = min k n := by
  show (if (k : Int) < 0 then ((k : Int) + (n : Int)).toNat else min (k : Int).toNat n) = min k n
  rw [if_neg (by omega), Int.toNat_natCast]
theorem sIx_le (n d : Nat) (hd : d <= n) (o : Option Int) : sIx n d o <= n := by
  cases o with
  | none => exact hd
  | some v =>
    show (if v < 0 then (v + (n : Int)).toNat else min v.toNat n) <= n
    by_cases hv : v < 0
    · rw [if_pos hv]; omega
    · rw [if_neg hv]; exact Nat.min_le_right _ _
theorem clip_eq (v : Int) (n d : Nat) : (if v < 0 then max (v + (n : Int)) 0 else min v (n : Int)) = ((sIx n d (some v) : Nat) : Int) := by
  show (if v < 0 then max (v + (n : Int)) 0 else min v (n : Int)) = (((if v < 0 then (v + (n : Int)).toNat else min v.toNat n) : Nat) : Int)
  by_cases hv : v < 0
  · simp only [if_pos hv]; omega
  · simp only [if_neg hv]; omega
theorem adjust_gen (lo hi : Option Int) (n : Nat) : Builtin.Slice.sliceAdjust lo hi 1 (n : Int) = (((sIx n 0 lo : Nat) : Int), ((sIx n n hi : Nat) : Int)) := by
  have h1 : ¬ ((1 : Int) < 0) := by omega
  unfold Builtin.Slice.sliceAdjust
  simp only [h1, if_false]
  refine Prod.ext ?_ ?_
  · cases lo with
    | none => rfl
    | some v => exact clip_eq v n 0
  · cases hi with
    | none => rfl
    | some v => exact clip_eq v n n
theorem places_gen (i j : Nat) : Builtin.Slice.slicePlaces (i : Int) (j : Int) 1 = j - i := by
  unfold Builtin.Slice.slicePlaces
  have h1 : (1 : Int) > 0 := by omega
  simp only [h1, if_true, Int.ediv_one]
  split <;> omega
theorem slicePart_ {v : Value} {o : Option Int} {Q : Option Int -> Shared -> Prop} (p : IsPart v o) (h : Q o s) : wpAny (model prog w) A (Builtin.Slice.slicePartIndex v) Q E s := by
  cases p with
  | none => exact slicePart_none h
  | int i t => exact slicePart_int h
theorem sliceApplied_gen {sl : Addr} {vl vu : Value} {lo hi : Option Int} {n : Nat} {Q : Int × Int × Nat -> Shared -> Prop} (hs : s.heap.IsSliceOf sl vl vu .none) (pl : IsPart vl lo) (pu : IsPart vu hi)
    (h : Q (((sIx n 0 lo : Nat) : Int), 1, sIx n n hi - sIx n 0 lo) s) : wpAny (model prog w) A (Builtin.Slice.sliceApplied (.ref sl) (pure (n : Int))) Q E s := by
  obtain ⟨os, hos, hcs, hds⟩ := id hs
  unfold Builtin.Slice.sliceApplied Builtin.Slice.sliceFields
  refine wpAny_bind (wpAny_bind (wpAny_field hos hds (x := vl) rfl (wpAny_bind (wpAny_field hos hds (x := vu) rfl (wpAny_bind (wpAny_field hos hds (x := .none) rfl (wpAny_pure ?_)))))))
  refine wpAny_bind (slicePart_none ?_)
  show wpAny _ _ (if ((1 : Int) == 0) = true then _ else _) _ _ s
  rw [if_neg (by decide)]
  refine wpAny_bind (slicePart_ pl (wpAny_bind (slicePart_ pu (wpAny_bind (wpAny_pure ?_)))))
  show wpAny _ _ (match Builtin.Slice.sliceAdjust lo hi 1 (n : Int) with | (lo, hi) => pure (lo, (1 : Int), Builtin.Slice.slicePlaces lo hi 1)) _ _ s
  rw [adjust_gen lo hi n]
  show wpAny _ _ (pure (((sIx n 0 lo : Nat) : Int), (1 : Int), Builtin.Slice.slicePlaces ((sIx n 0 lo : Nat) : Int) ((sIx n n hi : Nat) : Int) 1)) _ _ s
  rw [places_gen]
  exact wpAny_pure h
theorem pick_gen (xs : Array Value) (i k : Nat) : ((List.range k).filterMap fun (m : Nat) => xs[((i : Int) + (m : Int) * 1).toNat]?).toArray = ((xs.toList.drop i).take k).toArray := by
  have e : (fun (m : Nat) => xs[((i : Int) + (m : Int) * 1).toNat]?) = fun m => xs[i + m]? := by
    funext m
    have : ((i : Int) + (m : Int) * 1).toNat = i + m := by omega
    rw [this]
  rw [e]
  have := pick_run xs i k
  rw [List.filterMap_map] at this
  have e2 : ((fun x => xs[x]?) ∘ fun x => i + x) = fun m => xs[i + m]? := rfl
  rw [e2] at this
  rw [this]
theorem getItem_tuple_cut {t sl : Addr} {items : Array Value} {vl vu : Value} {lo hi : Option Int} {Q : Value -> Shared -> Prop} (ht : IsTup s.heap t items) (hs : s.heap.IsSliceOf sl vl vu .none) (pl : IsPart vl lo) (pu : IsPart vu hi)
    (hw : ¬ (sIx items.size 0 lo = 0 /\ sIx items.size items.size hi = items.size))
    (h : Q (.ref s.heap.objs.size) { s with heap := s.heap.push { cls := .type "tuple", data := .seq ((items.toList.drop (sIx items.size 0 lo)).take (sIx items.size items.size hi - sIx items.size 0 lo)).toArray } })
    (hsz : items.size <= sizeLine) : wpAny (model prog w) A (getItem (.ref t) (.ref sl)) Q E s := by
  have htake : sizeOk (.seq ((items.toList.drop (sIx items.size 0 lo)).take (sIx items.size items.size hi - sIx items.size 0 lo)).toArray) := by
    show ((items.toList.drop (sIx items.size 0 lo)).take (sIx items.size items.size hi - sIx items.size 0 lo)).toArray.size <= sizeLine
    rw [List.size_toArray, List.length_take, List.length_drop, Array.length_toList]
    omega
  have hj : sIx items.size items.size hi <= items.size := sIx_le _ _ (Nat.le_refl _) hi
  obtain ⟨os, hos, hcs, hds⟩ := id hs
  have hTs : s.TypeIs (.ref sl) "slice" := ⟨os, hos, hcs⟩
  unfold getItem
  try with_reducible refine wpAny_holding ?_
  first | refine wpAny_bind (wpAny_pure ?_) | skip
  refine wpAny_bind (wpAny_sequenceKey ht.typeIs (by decide) ?_)
  refine wpAny_bind (wpAny_callSpecial?_slot (name := Str.ofString "__getitem__") ht.typeIs PyProof.Rows.slot_tuple_getitem
    (wpAny_call_entry PyProof.Rows.slot_tuple_getitem ht.typeIs entry_tuple_getitem ?_ (args_tuple_getitem _ _)))
  show wpAny _ _ (Builtin.Tuple.tupleItemsOf (.ref t) >>= _) _ _ s
  refine wpAny_bind (tupleItemsOf_ ht ?_)
  refine wpAny_bind (wpAny_typeOf hTs ?_)
  rw [if_pos (by decide)]
  refine wpAny_bind (sliceApplied_gen hs pl pu ?_)
  have hno : ¬ ((((sIx items.size 0 lo : Nat) : Int) == 0 && (1 : Int) == 1 && (sIx items.size items.size hi - sIx items.size 0 lo) == items.size) = true) := by
    intro q
    rw [Bool.and_eq_true, Bool.and_eq_true] at q
    have q1 : ((sIx items.size 0 lo : Nat) : Int) = 0 := eq_of_beq q.1.1
    have q2 : sIx items.size items.size hi - sIx items.size 0 lo = items.size := eq_of_beq q.2
    exact hw ⟨by omega, by omega⟩
  show wpAny _ _ (if (((sIx items.size 0 lo : Nat) : Int) == 0 && (1 : Int) == 1 && (sIx items.size items.size hi - sIx items.size 0 lo) == items.size) = true then _ else _) _ _ s
  rw [if_neg hno, pick_gen]
  first
    | exact wpAny_bind (m := Builtin.Tuple.tupleExact _) (wpAny_newObj_type (wpAny_pure ⟨_, rfl, wpAny_pure h⟩) htake)
    | exact wpAny_bind (m := Builtin.Tuple.tupleExact _) (wpAny_newObj_type (wpAny_bind (wpAny_pure (wpAny_pure ⟨_, rfl, wpAny_pure h⟩))) htake)
    | exact wpAny_bind (wpAny_bind (m := Builtin.Tuple.tupleExact _) (wpAny_newObj_type (wpAny_pure (wpAny_pure ⟨_, rfl, wpAny_pure h⟩)) htake))
    | exact wpAny_bind (wpAny_bind (m := Builtin.Tuple.tupleExact _) (wpAny_newObj_type (wpAny_pure ⟨_, rfl, wpAny_pure h⟩) htake))
end
end HT
namespace L2
open PySem PySem.Spec PyProof.Rows
noncomputable abbrev TO := St -> Hp -> (Option Int -> Hp -> Prop) -> Prop
noncomputable def PO (X : Cx) (e : Option Expr) (t : TO) : Prop :=
  ∀ (pins : List (Addr × Obj)) (s : Shared) (σ : St) (H : Hp) (Q : Option Int -> Hp -> Prop), Inv X pins σ H s -> t σ H Q ->
    wpAny (model X.prog X.w) X.A (evalPart e X.env) (fun u s' => ∃ o H', Inv X pins σ H' s' /\ IsPart u o /\ Q o H') X.xe s
noncomputable def tNoPart : TO := fun _ H Q => Q none H
noncomputable def tPart (t : TE) : TO := fun σ H Q => t σ H fun x H1 => ∃ i, x = .int i /\ Q (some i) H1
theorem intsAre_of {ns : List Int} : ∀ {us : List Value}, Vals (ns.map V.int) us -> IntsAre us ns := by
  induction ns with
  | nil => intro us r; rw [List.map_nil] at r; cases r; exact .nil
  | cons n ns ih =>
    intro us r
    rw [List.map_cons] at r
    cases r with
    | cons r1 r2 =>
      obtain ⟨t, e⟩ := r1
      subst e
      exact .cons n t (ih r2)
section
variable {X : Cx} {e : Expr} {te : TE} {lo hi : Option Expr} {tl th : TO} {pos p2 : Pos}
theorem po_none : PO X none tNoPart := by
  intro pins s σ H Q I h
  rw [evalPart_none]
  exact wpAny_pure ⟨none, H, I, .none, h⟩
theorem po_some (h : PE X e te) : PO X (some e) (tPart te) := by
  intro pins s σ H Q I hw
  rw [evalPart_some]
  refine thn (h pins s σ H _ I hw) fun u s1 ⟨x, H1, I1, r1, q1⟩ => ?_
  obtain ⟨i, rfl, q⟩ := q1
  obtain ⟨t, rfl⟩ := r1
  exact ⟨some i, H1, I1, .int i t, q⟩
noncomputable def SlR (X : Cx) (r : V -> Option Int -> Option Int -> Hp -> VK -> Prop) : Prop :=
  ∀ (pins : List (Addr × Obj)) (s : Shared) (σ : St) (H : Hp) (x : V) (v vl vu : Value) (lo hi : Option Int) (sl : Addr) (Q : VK), Inv X pins σ H s -> RelV x v -> s.heap.IsSliceOf sl vl vu .none -> IsPart vl lo -> IsPart vu hi -> r x lo hi H Q ->
    ∃ T id, typeLookup (.type T) "__getitem__" = pure (some (.builtin id)) /\ s.TypeIs v T /\ wpAny (model X.prog X.w) X.A (getItem v (.ref sl)) (EP X pins σ Q) X.xe s
theorem SlR.or {r r' : V -> Option Int -> Option Int -> Hp -> VK -> Prop} (h : SlR X r) (h' : SlR X r') : SlR X (fun x lo hi H Q => r x lo hi H Q \/ r' x lo hi H Q) := by
  intro pins s σ H x v vl vu lo hi sl Q I rx hs pl pu q
  rcases q with q | q
  · exact h pins s σ H x v vl vu lo hi sl Q I rx hs pl pu q
  · exact h' pins s σ H x v vl vu lo hi sl Q I rx hs pl pu q
noncomputable def tSl (r : V -> Option Int -> Option Int -> Hp -> VK -> Prop) (te : TE) (tl th : TO) : TE := fun σ H Q => te σ H fun x H1 => tl σ H1 fun l H2 => th σ H2 fun u H3 => r x l u H3 Q
theorem pe_slice {r : V -> Option Int -> Option Int -> Hp -> VK -> Prop} (hr : SlR X r) (he : PE X e te) (hl : PO X lo tl) (hu : PO X hi th) : PE X (.Subscript e (.Slice lo hi none p2) pos) (tSl r te tl th) := by
  intro pins s σ H Q I h
  refine Subscript_ (thn (he pins s σ H _ I h) fun v s1 ⟨x, H1, I1, r1, q1⟩ => ?_)
  refine wpAny_Slice (thn (hl pins s1 σ H1 _ I1 q1) fun vl s2 ⟨l, H2, I2, pl, q2⟩ => thn (hu pins s2 σ H2 _ I2 q2) fun vu s3 ⟨u, H3, I3, pu, q3⟩ => ?_)
  rw [evalPart_none]
  refine wpAny_pure ?_
  have I4 : Inv X pins σ H3 { s3 with heap := s3.heap.push { cls := .type "slice", data := .fields #[vl, vu, .none] } } := I3.kept (t' := s3.toks) fun b ob q => Heap.get?_push_of_some _ q
  obtain ⟨T, id, hT, ht, hg⟩ := hr pins { s3 with heap := s3.heap.push { cls := .type "slice", data := .fields #[vl, vu, .none] } } σ H3 x v vl vu l u s3.heap.objs.size Q I4 r1 (Heap.IsSliceOf.new ..) pl pu q3
  show wpAny (model X.prog X.w) X.A (subscriptTail e (.Slice lo hi none p2) v (.ref s3.heap.objs.size)) (EP X pins σ Q) X.xe { s3 with heap := s3.heap.push { cls := .type "slice", data := .fields #[vl, vu, .none] } }
  exact tail_any (ops := [.ref s3.heap.objs.size, v]) ht hT hg (by with_unfolding_all rfl)
noncomputable def cutV (xs : List V) (lo hi : Option Int) : List V := (xs.drop (HT.sIx xs.length 0 lo)).take (HT.sIx xs.length xs.length hi - HT.sIx xs.length 0 lo)
theorem cutV_length (xs : List V) (lo hi : Option Int) : (cutV xs lo hi).length <= xs.length := by
  unfold cutV
  rw [List.length_take, List.length_drop]
  omega
noncomputable def rSlT (K : PySem.W.Frag) : V -> Option Int -> Option Int -> Hp -> VK -> Prop := fun x lo hi H Q => ∃ a xs, x = .ref a /\ SqT K H a xs /\
  ¬ (HT.sIx xs.length 0 lo = 0 /\ HT.sIx xs.length xs.length hi = xs.length) /\ ∀ p, H p = none -> Q (.ref p) (upd H p (.tup (cutV xs lo hi)))
theorem sl_tup : SlR X (rSlT X.K) := by
  intro pins s σ H x v vl vu lo hi sl Q I rx hs pl pu h
  obtain ⟨a, xs, rfl, hx, hw, q⟩ := h
  cases rx
  obtain ⟨its, r, ht, hz⟩ := I.tuple hx
  have hlen : its.toArray.size = xs.length := by rw [List.size_toArray]; exact r.length.symm
  refine ⟨"tuple", _, PyProof.Rows.slot_tuple_getitem.lookup, ht.typeIs, ?_⟩
  refine HT.getItem_tuple_cut ht hs pl pu (by rw [hlen]; exact hw) ?_ (by rw [hlen]; exact hz)
  rw [hlen]
  refine ⟨.ref s.heap.objs.size, _, I.laid (t' := s.toks) (o := .tup (cutV xs lo hi)) (fun b ob q => Heap.get?_push_of_some _ q) (Nat.le_refl _) ?_, rfl, q _ (I.hok.fresh (Nat.le_refl _))⟩
  exact ⟨Nat.le_trans (cutV_length xs lo hi) hz, _, (r.drop (HT.sIx xs.length 0 lo)).take (HT.sIx xs.length xs.length hi - HT.sIx xs.length 0 lo), IsTupD.new _ _⟩
noncomputable def rLtT (K : PySem.W.Frag) : R2 := fun x y H Q => ∃ a b ns ms, x = .ref a /\ y = .ref b /\ SqT K H a (ns.map V.int) /\ SqT K H b (ms.map V.int) /\ Q (.bl (HT.lexLt ns ms)) H
theorem op_ltT (hu : X.A.units < cLine) : OpR X (compareOp .Lt) (rLtT X.K) := by
  intro pins s σ H x y v u Q I rx ry h
  obtain ⟨a, b, ns, ms, rfl, rfl, ha, hb, q⟩ := h
  cases rx
  cases ry
  obtain ⟨its, r1, p1, _⟩ := I.tuple ha
  obtain ⟨its2, r2, p2, _⟩ := I.tuple hb
  have i1 : IntsAre its.toArray.toList ns := intsAre_of r1
  have i2 : IntsAre its2.toArray.toList ms := intsAre_of r2
  exact HT.lt_tupInts p1 p2 i1 i2 hu ⟨.bl (HT.lexLt ns ms), H, I, rfl, q⟩
noncomputable def rCatT (K : PySem.W.Frag) : R2 := fun x y H Q => ∃ a b xs ys, x = .ref a /\ y = .ref b /\ SqT K H a xs /\ SqT K H b ys /\ xs ≠ [] /\ xs.length + ys.length <= sizeLine /\
  (ys = [] -> Q (.ref a) H) /\ (ys ≠ [] -> ∀ p, H p = none -> Q (.ref p) (upd H p (.tup (xs ++ ys))))
theorem Vals.nil_iff {xs : List V} {us : List Value} (r : Vals xs us) : us = [] ↔ xs = [] := by
  cases r with
  | nil => simp
  | cons _ _ => simp
theorem op_catT : OpR X (binaryOp .Add) (rCatT X.K) := by
  intro pins s σ H x y v u Q I rx ry h
  obtain ⟨a, b, xs, ys, rfl, rfl, ha, hb, hx, hz, q1, q2⟩ := h
  cases rx
  cases ry
  obtain ⟨its, r1, p1, _⟩ := I.tuple ha
  obtain ⟨its2, r2, p2, _⟩ := I.tuple hb
  refine HT.cat_tup p1 p2 (fun z => hx (r1.nil_iff.mp z)) (fun z => ⟨.ref a, H, I, rfl, q1 (r2.nil_iff.mp z)⟩) (fun z => ?_) (by rw [<- r1.length, <- r2.length]; exact hz)
  refine ⟨.ref s.heap.objs.size, _, I.laid (t' := s.toks) (o := .tup (xs ++ ys)) (fun b ob q => Heap.get?_push_of_some _ q) (Nat.le_refl _) ?_, rfl, q2 (fun w => z (r2.nil_iff.mpr w)) _ (I.hok.fresh (Nat.le_refl _))⟩
  exact ⟨by rw [List.length_append]; exact hz, _, r1.append r2, IsTupD.new _ _⟩
end
end L2
namespace L2
open PySem PySem.Spec PyProof.Rows
noncomputable def ixN (n : Nat) (i : Int) : Option Nat := if 0 <= i then (if i < n then some i.toNat else none) else if -(n : Int) <= i then some (i + n).toNat else none
noncomputable def atI {α : Type} (xs : List α) (i : Int) : Option α := (ixN xs.length i).bind fun j => xs[j]?
theorem ixN_seq {n : Nat} {i : Int} {j : Nat} (h : ixN n i = some j) : seqIndex? i n = some j /\ j < n /\ -(n : Int) <= i /\ i < n := by
  unfold ixN at h
  by_cases h0 : 0 <= i
  · rw [if_pos h0] at h
    by_cases h1 : i < n
    · rw [if_pos h1] at h
      have e : i.toNat = j := Option.some.inj h
      exact ⟨by rw [seqIndex_of h0 h1, e], by omega, by omega, h1⟩
    · rw [if_neg h1] at h; cases h
  · rw [if_neg h0] at h
    by_cases h1 : -(n : Int) <= i
    · rw [if_pos h1] at h
      have e : (i + n).toNat = j := Option.some.inj h
      exact ⟨by rw [seqIndex_neg (by omega) h1, e], by omega, h1, by omega⟩
    · rw [if_neg h1] at h; cases h
theorem atI_get {α : Type} {xs : List α} {i : Int} {v : α} (h : atI xs i = some v) : ∃ j, seqIndex? i xs.length = some j /\ xs[j]? = some v /\ j < xs.length /\ -(xs.length : Int) <= i /\ i < xs.length := by
  unfold atI at h
  cases e : ixN xs.length i with
  | none => rw [e] at h; cases h
  | some j =>
    rw [e] at h
    obtain ⟨h1, h2, h3, h4⟩ := ixN_seq e
    exact ⟨j, h1, h, h2, h3, h4⟩
theorem atI_nat {α : Type} {xs : List α} {j : Nat} {v : α} (h : xs[j]? = some v) : atI xs (j : Int) = some v := by
  have hj : j < xs.length := (List.getElem?_eq_some_iff.mp h).1
  have e : ixN xs.length (j : Int) = some j := by
    unfold ixN
    rw [if_pos (by omega), if_pos (by omega)]; simp
  unfold atI; rw [e]; exact h
noncomputable def PlainIx (b : Expr) : Prop := ∀ o i, subscripted b false o i = operate [o, i] (getItem o i)
noncomputable def IxR (X : Cx) (r : R2) : Prop :=
  ∀ (value slice : Expr) (pins : List (Addr × Obj)) (s : Shared) (σ : St) (H : Hp) (x y : V) (v u : Value) (Q : VK), Inv X pins σ H s -> RelV x v -> RelV y u -> r x y H Q ->
    subscripted slice false v u = operate [v, u] (getItem v u) -> wpAny (model X.prog X.w) X.A (subscriptTail value slice v u) (EP X pins σ Q) X.xe s
noncomputable def MtR (X : Cx) (id : String) (r : V -> List V -> Hp -> VK -> Prop) : Prop :=
  ∀ (pins : List (Addr × Obj)) (s : Shared) (σ : St) (H : Hp) (x : V) (xs : List V) (v : Value) (us : List Value) (Q : VK), Inv X pins σ H s -> RelV x v -> Vals xs us -> r x xs H Q ->
    wpAny (model X.prog X.w) X.A (call (.builtin id) (v :: us)) (EP X pins σ Q) X.xe s
section
variable {X : Cx} {a b : Expr} {ta tb : TE} {pos : Pos}
theorem IxR.or {r r' : R2} (h : IxR X r) (h' : IxR X r') : IxR X (fun x y H Q => r x y H Q \/ r' x y H Q) := by
  intro value slice pins s σ H x y v u Q I rx ry q hs
  rcases q with q | q
  · exact h value slice pins s σ H x y v u Q I rx ry q hs
  · exact h' value slice pins s σ H x y v u Q I rx ry q hs
theorem MtR.or {id : String} {r r' : V -> List V -> Hp -> VK -> Prop} (h : MtR X id r) (h' : MtR X id r') : MtR X id (fun x xs H Q => r x xs H Q \/ r' x xs H Q) := by
  intro pins s σ H x xs v us Q I rx rs q
  rcases q with q | q
  · exact h pins s σ H x xs v us Q I rx rs q
  · exact h' pins s σ H x xs v us Q I rx rs q
theorem pe_ix {r : R2} (hr : IxR X r) (ha : PE X a ta) (hb : PE X b tb) (hs : PlainIx b) : PE X (.Subscript a b pos) (tOp r ta tb) := by
  intro pins s σ H Q I h
  exact Subscript_ (binT ha hb I h fun v u s2 x y H2 I2 rx ry q => hr a b pins s2 σ H2 x y v u Q I2 rx ry q (hs _ _))
noncomputable def rIxL (K : PySem.W.Frag) : R2 := fun x y H Q => ∃ p xs i v, x = .ref p /\ y = .int i /\ SqL K H p xs /\ atI xs i = some v /\ Q v H
noncomputable def rIxT (K : PySem.W.Frag) : R2 := fun x y H Q => ∃ p xs i v, x = .ref p /\ y = .int i /\ SqT K H p xs /\ atI xs i = some v /\ Q v H
noncomputable def rIxS : R2 := fun x y H Q => ∃ z i c, x = .str z /\ y = .int i /\ z.length <= sizeLine /\ atI z.cps.toList i = some c /\ Q (.str ⟨#[c]⟩) H
theorem ix_list : IxR X (rIxL X.K) := by
  intro value slice pins s σ H x y v u Q I rx ry h hs
  obtain ⟨p, xs, i, z, rfl, rfl, hq, he, q⟩ := h
  cases rx
  obtain ⟨t, rfl⟩ := ry
  obtain ⟨its, r, pl, hz⟩ := I.list hq
  obtain ⟨j, h1, h2, h3, h4, h5⟩ := atI_get he
  obtain ⟨w, ew, rw'⟩ := r.get h2
  have hl := r.length
  have hn := line63
  have fin : EP X pins σ Q w s := ⟨z, H, I, rw', q⟩
  by_cases h0 : 0 <= i
  · have hj : i.toNat = j := by
      rw [seqIndex_of h0 h5] at h1
      exact Option.some.inj h1
    exact item_listR pl.isList h0 (by omega) (by rw [hj]; simpa using ew) fin hs
  · have hj : (i + (its.toArray.size : Int)).toNat = j := by
      rw [seqIndex_neg (by omega) h4] at h1
      rw [List.size_toArray, <- hl]
      exact Option.some.inj h1
    exact subscriptTail_builtinR (x := w) pl.isList.typeIs slot_list_getitem.lookup
      (wpAny_getItem_list_neg (Q := fun r s' => r = w /\ EP X pins σ Q r s') pl.isList (by omega) (by rw [List.size_toArray] <;> omega) (by omega) (by rw [hj]; simpa using ew) ⟨rfl, fin⟩) hs
theorem ix_tup : IxR X (rIxT X.K) := by
  intro value slice pins s σ H x y v u Q I rx ry h hs
  obtain ⟨p, xs, i, z, rfl, rfl, hq, he, q⟩ := h
  cases rx
  obtain ⟨t, rfl⟩ := ry
  obtain ⟨its, r, pl, hz⟩ := I.tuple hq
  obtain ⟨j, h1, h2, h3, h4, h5⟩ := atI_get he
  obtain ⟨w, ew, rw'⟩ := r.get h2
  have hl := r.length
  have hn := line63
  have fin : EP X pins σ Q w s := ⟨z, H, I, rw', q⟩
  exact subscriptTail_builtinR (x := w) pl.typeIs slot_tuple_getitem.lookup
    (getItem_tuple (j := j) (Q := fun r s' => r = w /\ EP X pins σ Q r s') pl (by omega) (by omega) (by rw [List.size_toArray, <- hl]; exact h1) (by simpa using ew) ⟨rfl, fin⟩) hs
theorem ix_str : IxR X rIxS := by
  intro value slice pins s σ H x y v u Q I rx ry h hs
  obtain ⟨z, i, c, rfl, rfl, hz, he, q⟩ := h
  obtain ⟨t, rfl⟩ := rx
  obtain ⟨t', rfl⟩ := ry
  obtain ⟨j, h1, h2, h3, h4, h5⟩ := atI_get he
  have hl : z.cps.toList.length = z.length := by simp [Str.length]
  rw [hl] at h1 h4 h5
  have hn := line63
  exact tail_any (typeIs_str s z t) slot_str_getitem.lookup (getItem_str (c := c) (by
    have e1 : decide (i < -(2 ^ 63 : Int)) = false := decide_eq_false (by omega)
    have e2 : decide (i >= 2 ^ 63) = false := decide_eq_false (by omega)
    rw [e1, e2, Bool.or_false]) (by rw [h1]; simpa using h2) ⟨.str ⟨#[c]⟩, H, I.tok _, ⟨_, rfl⟩, q⟩) hs
noncomputable def rIx (K : PySem.W.Frag) : R2 := fun x y H Q => rIxL K x y H Q \/ rIxT K x y H Q \/ rIxS x y H Q
theorem mapSeq_set (its : List Value) (n j : Nat) (u : Value) : Obj.mapSeq (·.setIfInBounds j u) { cls := .type "list", data := .seq its.toArray n } = { cls := .type "list", data := .seq (its.set j u).toArray n } := by
  simp [Obj.mapSeq]
theorem Inv.lst {pins : List (Addr × Obj)} {σ : St} {H : Hp} {s : Shared} {p : Addr} {xs : List V} (I : Inv X pins σ H s) (h : H p = some (.lst xs)) :
    ∃ (its : List Value) (n : Nat), Vals xs its /\ s.heap.get? p = some { cls := .type "list", data := .seq its.toArray n } /\ xs.length <= sizeLine := by
  obtain ⟨z, its, n, r, e⟩ := I.hok p _ h
  exact ⟨its, n, r, e, z⟩
theorem Inv.lstUpd {pins : List (Addr × Obj)} {σ : St} {H : Hp} {s : Shared} {p : Addr} {xs ys : List V} {its its' : List Value} {n n' : Nat} {f : Obj -> Obj} (I : Inv X pins σ H s) (h : H p = some (.lst xs))
    (ho : s.heap.get? p = some { cls := .type "list", data := .seq its.toArray n }) (hf : f { cls := .type "list", data := .seq its.toArray n } = { cls := .type "list", data := .seq its'.toArray n' }) (r : Vals ys its') (hz : ys.length <= sizeLine) (t : Nat) :
    Inv X pins σ (upd H p (.lst ys)) { s with heap := s.heap.update p f, toks := t } := by
  have e : (s.heap.update p f).get? p = some { cls := .type "list", data := .seq its'.toArray n' } := by
    rw [Heap.get?_update_self f ho (by rw [hf] <;> rfl), hf]
  refine I.write (x := p) (e := p) (by rw [h]; trivial) (.inl rfl) (fun b u hb q => (Heap.get?_update_other _ _ (Ne.symm hb)).trans q) ⟨_, e⟩ ?_
  exact ⟨hz, its', n', r, e⟩
noncomputable def rSetL : V -> V -> V -> Hp -> (Hp -> Prop) -> Prop := fun o i v H Q => ∃ p xs k j, o = .ref p /\ i = .int k /\ H p = some (.lst xs) /\ ixN xs.length k = some j /\ Q (upd H p (.lst (xs.set j v)))
theorem set_list : PSet X rSetL := by
  intro pins s σ H o i v ov iv u Q I ro ri rv h
  obtain ⟨p, xs, k, j, rfl, rfl, hp, hj, q⟩ := h
  cases ro
  obtain ⟨t, rfl⟩ := ri
  obtain ⟨its, n, r, ho, hz⟩ := I.lst hp
  obtain ⟨h1, h2, h3, h4⟩ := ixN_seq hj
  have hl := r.length
  have hn := line63
  have I' : Inv X pins σ (upd H p (.lst (xs.set j v))) { s with heap := s.heap.update p (Obj.mapSeq (·.setIfInBounds j u)) } :=
    I.lstUpd hp ho (mapSeq_set its n j u) (r.set rv j) (by rw [List.length_set]; exact hz) s.toks
  by_cases h0 : 0 <= k
  · have hk : k.toNat = j := by
      rw [seqIndex_of h0 h4] at h1
      exact Option.some.inj h1
    exact PySem.W.ki_setAt ho h0 (by omega) (by rw [List.size_toArray, <- hl]; exact h4) (by rw [hk]; exact ⟨_, I', q⟩)
  · have hk : (k + (its.toArray.size : Int)).toNat = j := by
      rw [seqIndex_neg (by omega) h3] at h1
      rw [List.size_toArray, <- hl]
      exact Option.some.inj h1
    exact PySem.W.ki_setBack ho (by omega) (by rw [List.size_toArray, <- hl]; exact h3) (by omega) (by rw [hk]; exact ⟨_, I', q⟩)
theorem slice_bounds (lo hi : Option Int) (n : Nat) : (sliceBounds lo hi none n).1 = ((HT.sIx n 0 lo : Nat) : Int) /\ (sliceBounds lo hi none n).2.1 = ((HT.sIx n n hi : Nat) : Int) /\ (sliceBounds lo hi none n).2.2 = 1 := by
  refine ⟨?_, ?_, rfl⟩
  · cases lo with
    | none => simp [sliceBounds, HT.sIx]
    | some i =>
      simp only [sliceBounds, HT.sIx, Option.getD_none, show (1 : Int) > 0 by decide, if_true]
      by_cases h : i < 0
      · simp only [h, if_true] <;> omega
      · simp only [h, if_false] <;> omega
  · cases hi with
    | none => simp [sliceBounds, HT.sIx]
    | some i =>
      simp only [sliceBounds, HT.sIx, Option.getD_none, show (1 : Int) > 0 by decide, if_true]
      by_cases h : i < 0
      · simp only [h, if_true] <;> omega
      · simp only [h, if_false] <;> omega
theorem slicePick_cut (its : List Value) (lo hi : Option Int) : slicePick its.toArray lo hi none = ((its.drop (HT.sIx its.length 0 lo)).take (HT.sIx its.length its.length hi - HT.sIx its.length 0 lo)).toArray := by
  obtain ⟨h1, h2, h3⟩ := slice_bounds lo hi its.toArray.size
  unfold slicePick
  rw [h1, h2, h3]
  simp only [sliceRange_one, pick_run, List.size_toArray] <;> rfl
noncomputable def rSlL (K : PySem.W.Frag) : V -> Option Int -> Option Int -> Hp -> VK -> Prop := fun x lo hi H Q => ∃ a xs, x = .ref a /\ SqL K H a xs /\ ∀ p, H p = none -> Q (.ref p) (upd H p (.lst (cutV xs lo hi)))
theorem sl_list : SlR X (rSlL X.K) := by
  intro pins s σ H x v vl vu lo hi sl Q I rx hs pl pu h
  obtain ⟨a, xs, rfl, hx, q⟩ := h
  cases rx
  obtain ⟨its, r, ht, hz⟩ := I.list hx
  have hlen := r.length
  refine ⟨"list", _, slot_list_getitem.lookup, ht.isList.typeIs, ?_⟩
  refine wpAny_getItem_list_slice ht.isList hs pl pu .none (by simp) ?_ (by rw [List.size_toArray] <;> omega)
  rw [slicePick_cut, <- hlen]
  refine ⟨.ref s.heap.objs.size, _, I.laid (t' := s.toks) (o := .lst (cutV xs lo hi)) (fun b ob q => Heap.get?_push_of_some _ q) (Nat.le_refl _) ?_, rfl, q _ (I.hok.fresh (Nat.le_refl _))⟩
  exact ⟨Nat.le_trans (cutV_length xs lo hi) hz, _, 0, (r.drop (HT.sIx xs.length 0 lo)).take (HT.sIx xs.length xs.length hi - HT.sIx xs.length 0 lo), Heap.get?_push_size _ rfl⟩
noncomputable def flatV : V -> Bool
  | .non => true
  | .bl _ => true
  | .int _ => true
  | .str _ => true
  | _ => false
noncomputable def eqV : V -> V -> Bool
  | .non, .non => true
  | .bl a, .bl b => a == b
  | .bl a, .int b => (if a then 1 else 0) == b
  | .int a, .bl b => a == (if b then 1 else 0)
  | .int a, .int b => a == b
  | .str a, .str b => a == b
  | _, _ => false
noncomputable def eqU (x : V) (u : Value) : Bool := match u with
  | .none => eqV .non x
  | .bool b => eqV (.bl b) x
  | .int i _ => eqV (.int i) x
  | .str z _ => eqV (.str z) x
  | _ => false
noncomputable def inV (x : V) (xs : List V) : Bool := xs.any fun y => eqV y x
noncomputable def rIn (K : PySem.W.Frag) (neg : Bool) : R2 := fun x y H Q => ∃ p xs, y = .ref p /\ (SqL K H p xs \/ SqT K H p xs) /\ flatV x = true /\ xs.all flatV = true /\ Q (.bl (if neg then !inV x xs else inV x xs)) H
theorem CallR.or {f : Value} {r r' : List V -> Hp -> VK -> Prop} (h : CallR X f r) (h' : CallR X f r') : CallR X f (fun xs H Q => r xs H Q \/ r' xs H Q) := by
  intro pins s σ H xs us Q I rs q
  rcases q with q | q
  · exact h pins s σ H xs us Q I rs q
  · exact h' pins s σ H xs us Q I rs q
theorem call_list_of : CallR X (.type "list") (fun xs H Q => ∃ p ys, xs = [.ref p] /\ (SqL X.K H p ys \/ SqT X.K H p ys) /\ ∀ l, H l = none -> Q (.ref l) (upd H l (.lst ys))) := by
  intro pins s σ H xs us Q I r h
  obtain ⟨p, ys, rfl, hq, q⟩ := h
  obtain ⟨u, rfl, rx⟩ := vals1 r
  cases rx
  have fin : ∀ (its : List Value), Vals ys its -> ys.length <= sizeLine -> ∀ (h' : Heap) (c' : Nat), (∀ b o', s.heap.get? b = some o' -> h'.get? b = some o') ->
      h'.get? s.heap.objs.size = some { cls := .type "list", dict := none, data := .seq its.toArray c', slots := #[] } -> EP X pins σ Q (.ref s.heap.objs.size) { s with heap := h' } := fun its r' hz h' c' kp e =>
    ⟨.ref s.heap.objs.size, _, I.laid (t' := s.toks) kp (Nat.le_refl _) (show ObjOk X.prog X.w _ h' _ (.lst ys) from ⟨hz, its, c', r', e⟩), rfl, q _ (I.hok.fresh (Nat.le_refl _))⟩
  rcases hq with hq | hq
  · obtain ⟨its, r', pl, hz⟩ := I.list hq
    have hlen := r'.length
    obtain ⟨o, ho, hc, n, hd⟩ := pl.isList
    exact call_list_seq p (.inl rfl) ho hc hd (fun h' c' kp e => fin its r' hz h' c' kp e) (by simp only [List.size_toArray] <;> omega)
  · obtain ⟨its, r', pl, hz⟩ := I.tuple hq
    have hlen := r'.length
    obtain ⟨o, ho, hc, n, hd⟩ := pl
    exact call_list_seq p (.inr rfl) ho hc hd (fun h' c' kp e => fin its r' hz h' c' kp e) (by simp only [List.size_toArray] <;> omega)
noncomputable def tyV (K : PySem.W.Frag) (T : String) (x : V) (H : Hp) : Prop := match x with
  | .str _ => T = "str"
  | .int _ => T = "int"
  | .ref p => (T = "list" /\ ∃ xs, SqL K H p xs) \/ (T = "tuple" /\ ∃ o, K.lookup p = some o /\ o.cls = .type "tuple" /\ o.dict = none) \/
      (T = "dict" /\ ((∃ kvs, H p = some (.dK kvs)) \/ ∃ kvs, H p = some (.dT kvs))) \/ (T = "set" /\ ∃ S n, H p = some (.set S n))
  | _ => False
theorem tyV_is {pins : List (Addr × Obj)} {σ : St} {H : Hp} {s : Shared} {T : String} {x : V} {v : Value} (I : Inv X pins σ H s) (r : RelV x v) (ty : tyV X.K T x H) :
    s.TypeIs v T /\ ∀ a, v = .ref a -> ∃ ob, s.heap.get? a = some ob /\ ob.dict = none := by
  cases x with
  | str z =>
    obtain ⟨t, rfl⟩ := r
    cases (show T = "str" from ty)
    exact ⟨typeIs_str s z t, fun _ e => nomatch e⟩
  | int i =>
    obtain ⟨t, rfl⟩ := r
    cases (show T = "int" from ty)
    exact ⟨typeIs_int s i t, fun _ e => nomatch e⟩
  | ref p =>
    cases r
    rcases ty with ⟨rfl, xs, hq⟩ | ⟨rfl, o, hk, hc, hd⟩ | ⟨rfl, hk⟩ | ⟨rfl, S, n, hk⟩
    · obtain ⟨its, _, pl, _⟩ := I.list hq
      refine ⟨pl.isList.typeIs, fun a e => ?_⟩
      cases e
      obtain ⟨o, n, e, c, hd, _⟩ := pl
      exact ⟨o, e, hd⟩
    · refine ⟨⟨o, I.kIn p o hk, hc⟩, fun a e => ?_⟩
      cases e
      exact ⟨o, I.kIn _ o hk, hd⟩
    · have z : ∃ o, s.heap.get? p = some o /\ o.ExactDict := by
        rcases hk with ⟨kvs, hk⟩ | ⟨kvs, hk⟩
        · obtain ⟨_, _, _, _, o, _, _, e, ex, _⟩ := I.hok p _ hk
          exact ⟨o, e, ex⟩
        · obtain ⟨_, _, _, _, o, _, _, e, ex, _⟩ := I.hok p _ hk
          exact ⟨o, e, ex⟩
      obtain ⟨o, e, ex⟩ := z
      refine ⟨⟨o, e, ex.1⟩, fun a e2 => ?_⟩
      cases e2
      exact ⟨o, e, ex.2.1⟩
    · obtain ⟨o, _, _, _, e, ex, _⟩ := I.hok p _ hk
      refine ⟨⟨o, e, ex.1⟩, fun a e2 => ?_⟩
      cases e2
      exact ⟨o, e, ex.2.1⟩
  | _ => exact False.elim ty
noncomputable def tBM0 (K : PySem.W.Frag) (T : String) (r : V -> List V -> Hp -> VK -> Prop) (to : TE) : TE := fun σ H Q => to σ H fun x H1 => tyV K T x H1 /\ r x [] H1 Q
noncomputable def tBM (K : PySem.W.Frag) (T : String) (r : V -> List V -> Hp -> VK -> Prop) (to : TE) (t : TA) : TE := fun σ H Q => to σ H fun x H1 => tyV K T x H1 /\ t σ H1 fun xs H2 => r x xs H2 Q
variable {o e : Expr} {es : List Expr} {to : TE} {t : TA} {name : Str} {apos cpos : Pos} {T id : String} {r : V -> List V -> Hp -> VK -> Prop}
theorem pe_bm (pa : PlainAttrs T) (slot : Slot T name id) (hty : typeOf (.builtin id) = pure (.type "method_descriptor")) (hm : MtR X id r) (ho : PE X o to) (ha : PA X (e :: es) t)
    (hbase : attributeBase o name X.env (eval o X.env) = eval o X.env := by rfl)
    (hfew : ((backTo cpos (starEach (e :: es) X.env)).all (fun x => !x.1) && (backToKw cpos (keywordEach [] X.env)).all (fun x => x.1.isSome)
      && decide ((e :: es).length + ([] : List Keyword).length + (if ([] : List Keyword).isEmpty then 0 else 1) < 30)) = true := by rfl)
    (hline : (apos.endLine == cpos.line) = true := by rfl) (hs : starEach (e :: es) X.env = (false, eval e X.env) :: starEach es X.env := by rfl) (hplain : (backTo cpos (starEach es X.env)).any (·.1) = false := by rfl) :
    PE X (.Call (.Attribute o name apos) (e :: es) [] cpos) (tBM X.K T r to t) := by
  intro pins s σ H Q I h
  refine wpAny_Call_method_late hbase hfew hline rfl (thn (ho pins s σ H _ I h) fun v s1 ⟨x, H1, I1, r1, ty, q1⟩ => ?_)
  obtain ⟨h1, h2⟩ := tyV_is I1 r1 ty
  refine ⟨T, id, pa, slot, hty, h1, h2, ?_⟩
  have hA := ha cpos pins s1 σ H1 _ I1 q1
  rw [hs] at hA ⊢
  refine Calls.callWith_builtin (by show (false || (backTo cpos (starEach es X.env)).any (·.1)) = false; rw [hplain] <;> rfl) (Calls.evalArgs_plain ?_)
  exact thn hA fun us s2 ⟨vs, H2, I2, r2, q2⟩ => hm pins s2 σ H2 x vs v us Q I2 r1 r2 q2
end
end L2
namespace L2
open PySem PySem.Spec PyProof.Rows
noncomputable def MtM (X : Cx) (id : String) (r : V -> List V -> Hp -> VK -> Prop) : Prop :=
  ∀ (pins : List (Addr × Obj)) (s : Shared) (σ : St) (H : Hp) (x : V) (xs : List V) (v : Value) (us : List Value) (Q : VK), Inv X pins σ H s -> RelV x v -> Vals xs us -> r x xs H Q ->
    wpAny (model X.prog X.w) X.A (call (.builtin id) (v :: us)) (EP X pins σ Q) X.xe s
theorem Vals.one : ∀ {x : V} {us : List Value}, Vals [x] us -> ∃ u, us = [u] /\ RelV x u
  | _, _, .cons r .nil => ⟨_, rfl, r⟩
theorem Vals.two : ∀ {x y : V} {us : List Value}, Vals [x, y] us -> ∃ u v, us = [u, v] /\ RelV x u /\ RelV y v
  | _, _, _, .cons r (.cons q .nil) => ⟨_, _, rfl, r, q⟩
theorem Vals.zero : ∀ {us : List Value}, Vals [] us -> us = []
  | _, .nil => rfl
theorem Vals.dropLast {xs : List V} {us : List Value} (h : Vals xs us) : Vals xs.dropLast us.dropLast := by
  induction h with
  | nil => exact .nil
  | cons r t ih =>
    cases t with
    | nil => exact .nil
    | cons q t' => exact .cons r ih
theorem Vals.eraseIdx : ∀ {xs : List V} {us : List Value} (i : Nat), Vals xs us -> Vals (xs.eraseIdx i) (us.eraseIdx i)
  | _, _, _, .nil => .nil
  | _, _, 0, .cons _ t => t
  | _, _, i + 1, .cons r t => .cons r (Vals.eraseIdx i t)
theorem Vals.reverse {xs : List V} {us : List Value} (h : Vals xs us) : Vals xs.reverse us.reverse := by
  induction h with
  | nil => exact .nil
  | cons r t ih => rw [List.reverse_cons, List.reverse_cons]; exact Vals.append ih (.cons r .nil)
theorem Vals.rep {xs : List V} {us : List Value} (h : Vals xs us) : ∀ k : Nat, Vals (List.replicate k xs).flatten (List.replicate k us).flatten
  | 0 => .nil
  | k + 1 => by
    rw [List.replicate_succ, List.replicate_succ, List.flatten_cons, List.flatten_cons]
    exact Vals.append h (Vals.rep h k)
theorem foldl_rep (its : List Value) : ∀ (k : Nat) (acc : List Value),
    List.foldl (fun x1 x2 => x1 ++ x2) acc.toArray (List.replicate k its.toArray) = (acc ++ (List.replicate k its).flatten).toArray
  | 0, acc => by simp
  | k + 1, acc => by
    have e : acc.toArray ++ its.toArray = (acc ++ its).toArray := by simp
    have e2 : (acc ++ its) ++ (List.replicate k its).flatten = acc ++ (List.replicate (k + 1) its).flatten := by
      rw [List.replicate_succ, List.flatten_cons, List.append_assoc]
    rw [<- e2, <- foldl_rep its k (acc ++ its), <- e, List.replicate_succ, List.foldl_cons]
section
variable {X : Cx} {pins : List (Addr × Obj)} {σ : St} {H : Hp} {s : Shared} {l b : Addr} {xs ys zs : List V}
theorem Inv.lset {its its' : List Value} {n : Nat} {f : Array Value -> Array Value} {t' : Nat} (I : Inv X pins σ H s) (hH : H l = some (.lst xs))
    (e : s.heap.get? l = some { cls := .type "list", data := .seq its.toArray n }) (hf : f its.toArray = its'.toArray) (hv : Vals ys its') (hz : ys.length <= sizeLine) :
    Inv X pins σ (upd H l (.lst ys)) { s with heap := s.heap.update l (Obj.mapSeq f), toks := t' } := by
  have q := PySem.IsL.update e f
  rw [hf] at q
  refine I.write (x := l) (e := l) (by rw [hH]; exact trivial) (.inl rfl) (fun b' u hb hu => (Heap.get?_update_other s.heap (Obj.mapSeq f) (Ne.symm hb)).trans hu) ⟨_, q⟩ ?_
  exact ⟨hz, its', _, hv, q⟩
theorem Inv.lnew {its : List Value} {t' : Nat} (I : Inv X pins σ H s) (hv : Vals ys its) (hz : ys.length <= sizeLine) :
    Inv X pins σ (upd H s.heap.objs.size (.lst ys)) { s with heap := s.heap.push { cls := .type "list", data := .seq its.toArray }, toks := t' } :=
  I.laid (fun _ _ q => Heap.get?_push_of_some _ q) (Nat.le_refl _) ⟨hz, its, 0, hv, Heap.get?_push_size _ rfl⟩
theorem Inv.fresh (I : Inv X pins σ H s) : H s.heap.objs.size = none := I.hok.fresh (Nat.le_refl _)
theorem Inv.lstM (I : Inv X pins σ H s) (hH : H l = some (.lst xs)) : xs.length <= sizeLine /\ ∃ (its : List Value) (n : Nat), Vals xs its /\ xs.length = its.length /\ s.heap.get? l = some { cls := .type "list", data := .seq its.toArray n } := by
  obtain ⟨z, its, n, r, e⟩ := I.hok l _ hH
  exact ⟨z, its, n, r, r.length, e⟩
theorem notLongL {n : Nat} (h : n <= sizeLine) : Builtin.List.listTooLong n = false := by
  unfold Builtin.List.listTooLong
  exact decide_eq_false (by omega)
end
section
variable {X : Cx}
noncomputable def rAppend : V -> List V -> Hp -> VK -> Prop := fun x vs H Q => ∃ l xs y, x = .ref l /\ vs = [y] /\ H l = some (.lst xs) /\ xs.length < sizeLine /\ Q .non (upd H l (.lst (xs ++ [y])))
theorem mt_append : MtM X "list.append" rAppend := by
  intro pins s σ H x vs v us Q I rx rv h
  obtain ⟨l, xs, y, rfl, rfl, hH, hz, q⟩ := h
  cases rx
  obtain ⟨u, rfl, ru⟩ := rv.one
  obtain ⟨z, its, n, r, hl, e⟩ := I.lstM hH
  refine call_meets F.slot_list_append ⟨_, e, rfl⟩ F.entry_list_append (F.args_list_append_2 _ _) (PySem.list_append l its.toArray n u (by rw [List.size_toArray]; omega)) ⟨e, ?_⟩
  refine ⟨.non, _, I.lset (its' := its ++ [u]) hH e (by simp) (r.append (.cons ru .nil)) ?_, rfl, q⟩
  rw [List.length_append, List.length_singleton]
  omega
noncomputable def rExtend : V -> List V -> Hp -> VK -> Prop := fun x vs H Q => ∃ l b xs zs, x = .ref l /\ vs = [.ref b] /\ H l = some (.lst xs) /\ H b = some (.lst zs) /\ xs.length + zs.length <= sizeLine /\ Q .non (upd H l (.lst (xs ++ zs)))
noncomputable def rPop : V -> List V -> Hp -> VK -> Prop := fun x vs H Q => ∃ l xs y, x = .ref l /\ vs = [] /\ H l = some (.lst xs) /\ xs[xs.length - 1]? = some y /\ Q y (upd H l (.lst xs.dropLast))
noncomputable def rPopAt : V -> List V -> Hp -> VK -> Prop := fun x vs H Q => ∃ l xs i k y, x = .ref l /\ vs = [.int i] /\ H l = some (.lst xs) /\ -(2 ^ 63) <= i /\ i < 2 ^ 63 /\ seqIndex? i xs.length = some k /\ xs[k]? = some y /\ Q y (upd H l (.lst (xs.eraseIdx k)))
noncomputable def rReverse : V -> List V -> Hp -> VK -> Prop := fun x vs H Q => ∃ l xs, x = .ref l /\ vs = [] /\ H l = some (.lst xs) /\ Q .non (upd H l (.lst xs.reverse))
noncomputable def rClear : V -> List V -> Hp -> VK -> Prop := fun x vs H Q => ∃ l xs, x = .ref l /\ vs = [] /\ H l = some (.lst xs) /\ Q .non (upd H l (.lst []))
noncomputable def rCat : R2 := fun x y H Q => ∃ l b xs zs, x = .ref l /\ y = .ref b /\ H l = some (.lst xs) /\ H b = some (.lst zs) /\ xs.length + zs.length <= sizeLine /\ ∀ p, H p = none -> Q (.ref p) (upd H p (.lst (xs ++ zs)))
theorem op_cat : OpR X (binaryOp .Add) rCat := by
  intro pins s σ H x y v u Q I rx ry h
  obtain ⟨l, b, xs, zs, rfl, rfl, hH, hB, hz, q⟩ := h
  cases rx
  cases ry
  obtain ⟨z, its, n, r, hl, e⟩ := I.lstM hH
  obtain ⟨z2, its2, n2, r2, hl2, e2⟩ := I.lstM hB
  refine PySem.P.add_list e e2 ?_ (by rw [List.size_toArray, List.size_toArray]; omega)
  have ea : its.toArray ++ its2.toArray = (its ++ its2).toArray := by simp
  rw [ea]
  exact ⟨.ref _, _, I.lnew (t' := s.toks) (r.append r2) (by rw [List.length_append]; omega), rfl, q _ I.fresh⟩
noncomputable def rRep : R2 := fun x y H Q => ∃ l k xs, x = .ref l /\ y = .int k /\ H l = some (.lst xs) /\ -(2 ^ 63) <= k /\ k < 2 ^ 63 /\ xs.length * k.toNat <= sizeLine /\
  ∀ p, H p = none -> Q (.ref p) (upd H p (.lst (List.replicate k.toNat xs).flatten))
theorem len_rep {α : Type} (xs : List α) (k : Nat) : (List.replicate k xs).flatten.length = k * xs.length := by
  induction k with
  | zero => simp
  | succ k ih => rw [List.replicate_succ, List.flatten_cons, List.length_append, ih, Nat.succ_mul, Nat.add_comm]
theorem op_rep : OpR X (binaryOp .Mult) rRep := by
  intro pins s σ H x y v u Q I rx ry h
  obtain ⟨l, k, xs, rfl, rfl, hH, h1, h2, hz, q⟩ := h
  cases rx
  obtain ⟨t, rfl⟩ := ry
  obtain ⟨z, its, n, r, hl, e⟩ := I.lstM hH
  have hlen : its.toArray.size * k.toNat <= sizeLine := by rw [List.size_toArray, <- hl]; exact hz
  have hcap : ¬ its.toArray.size * k.toNat > (2 ^ 63 - 1) / 8 := by
    have : (sizeLine : Nat) <= (2 ^ 63 - 1) / 8 := by decide
    omega
  have hfit : ¬ (!Builtin.List.listFitsIndex k) = true := by
    rw [fitsIndex_both h1 h2]
    exact Bool.false_ne_true
  have hlong : ¬ Builtin.List.listTooLong (its.toArray.size * k.toNat) = true := by
    rw [notLongL hlen]
    exact Bool.false_ne_true
  have hnew : List.foldl (fun x1 x2 => x1 ++ x2) #[] (List.replicate (if its.toArray.isEmpty = true then 0 else k.toNat) its.toArray) = (List.replicate k.toNat its).flatten.toArray := by
    have f0 : ∀ m : Nat, List.foldl (fun x1 x2 => x1 ++ x2) #[] (List.replicate m its.toArray) = (List.replicate m its).flatten.toArray := fun m => by
      have := foldl_rep its m []
      rw [List.nil_append] at this
      exact this
    rw [f0]
    cases its with
    | nil => simp
    | cons a r' => rw [if_neg (by simp)]
  refine wpAny_binaryOp_repeat_ref (T := "list") (U := "int") (by decide) ⟨_, e, rfl⟩ (fun s' => typeIs_int s' k t) noFill_list_mul F.fills_int_mul F.slot_int_rmul repeat_list F.slot_int_index.lookup
    (call_meets F.slot_int_rmul (typeIs_int s k t) F.entry_int_rmul (F.args_int_rmul_2 _ _) (int___rmul___int_list k t l its.toArray n)
      ⟨e, rfl, ⟨_, e, rfl⟩, call_meets F.slot_list_mul ⟨_, e, rfl⟩ F.entry_list_mul (F.args_list_mul_2 _ _) (AutoListH.list___mul___list_int_3 l its.toArray n k t hfit hcap hlong) ⟨e, ?_⟩⟩)
  rw [hnew]
  exact ⟨.ref _, _, I.lnew (t' := s.toks) (r.rep k.toNat) (by rw [len_rep, Nat.mul_comm]; exact hz), rfl, q _ I.fresh⟩
end
section
variable {prog : Program} {w : World} {A : Around} {E : Value -> Shared -> Prop} {s : Shared}
end
section
variable {X : Cx}
end
end L2
namespace Att
open PySem PySem.W PySem.Calls PyProof.Rows
theorem ints_of_wellAll {P : Params} {h : Heap} : ∀ (ns : List Int) (vs : List Value), WellAll P h vs (ns.map WData.int) -> IntsAre vs ns := by
  intro ns
  induction ns with
  | nil =>
    intro vs w
    rw [List.map_nil] at w
    cases w
    exact .nil
  | cons n ns ih =>
    intro vs w
    rw [List.map_cons] at w
    cases w with
    | cons a b =>
      cases a
      exact .cons _ _ (ih _ b)
theorem script_of {l : OpenLaw} {n : Nat} (hn : l.most = some n) {P : Params} {h : Heap} {args : List WData} {vals : List Value}
    (hpre : l.row.toRowW.claim.pre args = true) (hwl : WellAll P h vals args) :
    ∃ a vs ns, vals = [Value.ref a] /\ args = [WData.list (ns.map WData.int)] /\ h.get? a = some { cls := .type "list", data := .seq vs.toArray } /\ IntsAre vs ns /\ ns.length <= n := by
  have hsh : WShape.hasAll [] args [.list .int] = true := (pre_splitW hpre).1
  have hc : l.pre.holds [] { args := args } = true := (pre_splitW hpre).2
  obtain ⟨d, r, rfl, h1, h2⟩ := hasAllW_cons hsh
  obtain rfl := hasAllW_nil h2
  obtain ⟨xs, rfl, h3⟩ := hasW_list h1
  obtain ⟨ns, rfl⟩ := items_int h3
  have hlen : ns.length <= n := by
    unfold OpenLaw.pre at hc
    have h4 : (WTm.not (.lt (.lit (.int (n : Int))) (.len (.arg 0)))).holds [] { args := [.list (ns.map .int)] } = true := by
      have h4 := (holds_andW hc).1
      rw [hn] at h4
      exact h4
    have h5 := condW_of h4 (w_not (w_lt w_lit (w_len_list (w_arg rfl))))
    rw [List.length_map] at h5
    refine Nat.le_of_not_lt fun q => ?_
    have q' : (n : Int) < ((ns.length : Nat) : Int) := by omega
    first
      | (rw [decide_eq_true q'] at h5; exact absurd h5 (by decide))
      | (simp at h5; omega)
  cases hwl with
  | cons w1 w2 =>
    cases w2
    cases w1 with
    | list ho hall => exact ⟨_, _, ns, rfl, rfl, ho, ints_of_wellAll ns _ hall, hlen⟩
theorem post_true (l : OpenLaw) (args : List WData) : l.row.toRowW.claim.post args (.bool true) args = true :=
  postW_of (r := l.row.toRowW) (X := (true == true))
    (show WShape.has [] (.bool true) .bool = true by first | rfl | decide | simp [WShape.has, WShape.arms, WShape.armsAll])
    (show (WTm.eq .res (.lit (.bool true))).value [] { args := args, res := some (.bool true), after := args } = some (.bool (true == true)) from w_eq_bool (w_res rfl) w_lit) rfl
theorem attach_call {l : OpenLaw} {n : Nat} {q : Program} {loose : List Str} {XP : (Str -> Option Value) -> Heap -> Prop} {YP : World -> Heap -> Prop} {d : DefRec}
    (hn : l.most = some n) (hdf : d.params.defaults = [])
    (call : ∀ (w : World) (s₀ s₁ : Shared) (mg mb : Str -> Option Value) (fa : Addr) (o : Obj) (pm cd doc : Value) (a : Addr) (vs : List Value) (ns : List Int),
      Ground q loose [] XP w s₀ mg mb s₁.heap -> YP w s₁.heap ->
      s₁.heap.get? fa = some o -> o.data = .func (docDef d.name d.params d.body d.scope pm cd doc) -> s₁.heap.CodeRec cd d.name -> mg d.name = some (.ref fa) ->
      s₁.heap.get? a = some { cls := .type "list", data := .seq vs.toArray } -> IntsAre vs ns -> ns.length <= n -> s₁.gens = #[] ->
      codeAny (model l.prog w) callerA (.call (.ref fa) ⟨[.ref a], []⟩) (fun r s' => r = .ok (.ret (.bool true)) /\ OldK s₁.heap s'.heap /\ s'.os = s₁.os /\ AllBare s'.gens) s₁) :
    WalkO q loose XP YP l.row.toRowW d [] (fun f vs => PySem.call f vs) := by
  intro w s₀ s₁ mg mb G Y fa o pm cd doc dV kV ho hd hcd hD hmg hg args vals as hpre hlay hrd hwl hlo
  obtain rfl : dV = .none := Dflts.none hD hdf
  obtain rfl : kV = .none := Dflts.noKw hD
  obtain ⟨a, vs, ns, rfl, rfl, hobj, hints, hlen⟩ := script_of hn hpre hwl
  refine enter_call (codeAny_mono (call w s₀ s₁ mg mb fa o pm cd doc a vs ns G Y ho (fd_plain hd) hcd hmg hobj hints hlen hg) fun r s' hq => ?_)
  obtain ⟨rfl, h2, h3, h4⟩ := hq
  exact ⟨.inl ⟨.bool true, .bool true, [], rfl, fun _ => rfl, .bool true, post_true l _, fun _ => ⟨List.Pairwise.nil, fun _ hm => (nomatch hm)⟩⟩, h2, h3, h4⟩
section
variable {prog : Program} {w : World} {A : Around} {E : Value -> Shared -> Prop} {s : Shared} {K : Frag}
noncomputable def noObjs (h : Heap) : Heap := { h with objs := #[] }
noncomputable def ledger (h : Heap) (L d : Addr) : List (Addr × Obj) := (List.range h.objs.size).filterMap fun a => if a = L \/ a = d then none else (h.get? a).map fun o => (a, o)
end
end Att
namespace L2
open PySem PySem.Spec PyProof.Rows
theorem vals_ints : ∀ {vs : List Value} {ns : List Int}, IntsAre vs ns -> Vals (ns.map V.int) vs
  | _, _, .nil => .nil
  | _, _, .cons n t h => .cons ⟨t, rfl⟩ (vals_ints h)
noncomputable def Only (H : Hp) : Prop := ∀ b, H b = none \/ ∃ o xs, H b = some (.frz o (.lst xs))
theorem law_call {P : Program} {w : World} {K : PySem.W.Frag} {mg mb : Str -> Option Value} {CX : CXT} {k : Nat} {fa a : Addr} {fd : FuncData} {x : Str} {sp : Sp} {s₁ : Shared} {vs : List Value} {ns : List Int}
    (KX : K.In s₁.heap) (hns : s₁.heap.Ns mainGlobals mg) (hb : s₁.heap.Ns builtinsNs mb) (hbb : ∀ x : Str, x ≠ "__name__" -> mb x = bootBuiltins x) (hlim : s₁.heap.NoLimit) (hg : s₁.gens = #[])
    (ha : s₁.heap.get? a = some { cls := .type "list", data := .seq vs.toArray }) (hi : IntsAre vs ns) (hl : ns.length <= sizeLine) (hr : Room k callerA)
    (F : ∀ base : Heap, K.In base -> base.Ns mainGlobals mg -> FnOk P w K mg base CX k fa fd [x] sp) (hbind : ∀ (s : Shared) (u : Value), BindsTo s fd ⟨[u], []⟩ [(x, u)])
    (hsp : ∀ H : Hp, Only H -> SqL K H a (ns.map V.int) -> sp [.ref a] H (fun v _ => v = .bl true) fun _ _ _ => False)
    (hCX : ∀ H e s', CX [] H s₁ (fun _ _ _ => False) e s' -> False) :
    codeAny (model P w) callerA (.call (.ref fa) ⟨[.ref a], []⟩) (fun r s' => r = .ok (.ret (.bool true)) /\ OldK s₁.heap s'.heap /\ s'.os = s₁.os /\ AllBare s'.gens) s₁ := by
  have rv := vals_ints hi
  have lenV := hi.length
  have core : ∀ H : Hp, Only H -> SqL K H a (ns.map V.int) -> HOk P w H s₁.heap -> (∀ b, H b ≠ none -> b = a) -> (H a ≠ none -> K.lookup a = none) ->
      codeAny (model P w) callerA (.call (.ref fa) ⟨[.ref a], []⟩) (fun r s' => r = .ok (.ret (.bool true)) /\ OldK s₁.heap s'.heap /\ s'.os = s₁.os /\ AllBare s'.gens) s₁ := by
    intro H hO hS hok hA hK
    have base_of : ∀ {b : Addr} {o : Obj}, s₁.heap.get? b = some o -> H b = none -> (hidT s₁.heap H).get? b = some o := fun e n => hidT_get e n
    have noA : ∀ {b : Addr} {o : Obj} {es : Array DictEntry} {ep : Nat}, s₁.heap.get? b = some o -> o.data = .dict es ep -> H b = none := fun {b o es ep} e d => by
      cases q : H b with
      | none => rfl
      | some u =>
        have e' : b = a := hA b (by rw [q]; simp)
        subst e'
        rw [ha] at e; cases e
        have d' : Data.seq vs.toArray _ = Data.dict es ep := d
        cases d'
    have nsK : ∀ {b : Addr} {m : Str -> Option Value}, s₁.heap.Ns b m -> (hidT s₁.heap H).Ns b m := fun {b m} ⟨o, es, ep, e, d, r⟩ => ⟨o, es, ep, base_of e (noA e d), d, r⟩
    have hKb : K.In (hidT s₁.heap H) := fun b o e => base_of (KX b o e) (by
      cases q : H b with
      | none => rfl
      | some u =>
        have e' : b = a := hA b (by rw [q]; simp)
        subst e'
        rw [hK (by rw [q]; simp)] at e; cases e)
    have hM : Mod K mg (hidT s₁.heap H) := ⟨hKb, nsK hns, ⟨mb, nsK hb, hbb⟩, let ⟨mc, h1, h2⟩ := hlim; ⟨mc, nsK h1, h2⟩⟩
    have e0 : Env0 P w K mg (hidT s₁.heap H) callerA [] s₁ H := ⟨rfl, hM, fun b o e => of_hidT e, Nat.le_of_eq (hidT_size _ _), trivial, fun b hb => absurd (show b ∈ ([] : List Addr) from hb) (by simp), hok, .of_eq hg⟩
    refine codeAny_mono ((F _ hKb (nsK hns)).run callerA [] s₁ H ⟨[.ref a], []⟩ [.ref a] [.ref a] _ _ hr e0 (hbind s₁ (.ref a)) (.cons rfl .nil) (hsp H hO hS)) fun r s' h => ?_
    cases r with
    | error e => exact (hCX H e s' h).elim
    | ok fl =>
      cases fl with
      | next => exact False.elim h
      | brk => exact False.elim h
      | cont => exact False.elim h
      | ret u =>
        obtain ⟨v, H', os, bare, un, hok', r', q⟩ := h
        have q' : v = .bl true := q
        subst q'
        obtain rfl : u = Value.bool true := r'
        refine ⟨rfl, OldK.of_keep fun b o e => ?_, os, bare⟩
        cases q : H b with
        | none => exact un.keep b o e q (by intro z; exact absurd (show b ∈ ([] : List Addr) from z) (by simp)) (by simp)
        | some u =>
          rcases hO b with z | ⟨ob, xs, z⟩
          · rw [q] at z; cases z
          · have z2 := un.frzs b ob _ z
            obtain ⟨e1, _⟩ := hok b _ z
            obtain ⟨e2, _⟩ := hok' b _ z2
            rw [e] at e1; cases e1
            exact e2
  cases hk : K.lookup a with
  | some o =>
    have e := KX a o hk
    rw [ha] at e
    cases e
    refine core (fun _ => none) (fun _ => .inl rfl) (.inr ⟨_, vs.toArray, _, hk, rfl, rfl, rfl, by rw [List.size_toArray, lenV]; exact hl, by simpa using rv⟩) (fun b u z => by have z' : (none : Option HO) = some u := z; cases z') (fun b z => absurd rfl z) fun z => absurd rfl z
  | none =>
    refine core (fun b => if b = a then some (.frz { cls := .type "list", data := .seq vs.toArray } (.lst (ns.map V.int))) else none) (fun b => ?_) (.inl (.inr ⟨{ cls := .type "list", data := .seq vs.toArray }, if_pos rfl⟩)) (fun b u z => ?_) (fun b z => ?_) fun _ => hk
    · by_cases hb : b = a
      · exact .inr ⟨_, _, if_pos hb⟩
      · exact .inl (if_neg hb)
    · by_cases hb : b = a
      · have z' := (if_pos hb).symm.trans z
        cases z'
        subst hb
        exact ⟨ha, by rw [List.length_map]; exact hl, vs, _, rv, ha⟩
      · have z' := (if_neg hb).symm.trans z
        cases z'
    · by_cases hb : b = a
      · exact hb
      · exact absurd (if_neg hb) z
end L2
namespace L2
open PySem PySem.Spec PyProof.Rows
noncomputable abbrev KOf {K : PySem.W.Frag} {h : Heap} (_ : K.In h) : PySem.W.Frag := K
theorem walk_of {l : PySem.W.OpenLaw} {n k : Nat} {q : Program} {loose : List Str} {XP : (Str -> Option Value) -> Heap -> Prop} {YP : World -> Heap -> Prop} {d : DefRec} {K : Params -> PySem.W.Frag} {CX : World -> CXT} {sp : World -> Sp} {x : Str}
    (hn : l.most = some n) (hn2 : n <= sizeLine) (hdf : d.params.defaults = []) (hr : Room k callerA)
    (hY : ∀ (w : World) (h : Heap), YP w h -> (K w.params).In h)
    (F : ∀ (w : World) (mg : Str -> Option Value) (fa : Addr) (h : Heap), (K w.params).In h -> h.Ns mainGlobals mg -> mg d.name = some (.ref fa) ->
      ∃ fd : FuncData, (∀ (s : Shared) (u : Value), BindsTo s fd ⟨[u], []⟩ [(x, u)]) /\
        ∀ base : Heap, (K w.params).In base -> base.Ns mainGlobals mg -> FnOk l.prog w (K w.params) mg base (CX w) k fa fd [x] (sp w))
    (hsp : ∀ (w : World) (H : Hp) (a : Addr) (ns : List Int), ns.length <= n -> Only H -> SqL (K w.params) H a (ns.map V.int) -> sp w [.ref a] H (fun v _ => v = .bl true) fun _ _ _ => False)
    (hCX : ∀ (w : World) (H : Hp) (s : Shared) (e : Value) (s' : Shared), CX w [] H s (fun _ _ _ => False) e s' -> False) :
    PySem.W.WalkO q loose XP YP l.row.toRowW d [] (fun f vs => PySem.call f vs) := by
  refine Att.attach_call hn hdf fun w s₀ s₁ mg mb fa o pm cd doc a vs ns G Y ho hd hcd hmg hobj hints hlen hg => ?_
  have KX := hY w _ Y
  obtain ⟨fd, hb, hF⟩ := F w mg fa _ KX G.T.g hmg
  exact law_call KX G.T.g G.T.b G.T.builtins G.T.nolimit hg hobj hints (Nat.le_trans hlen hn2) hr hF hb (fun H hO hS => hsp w H a ns hlen hO hS) fun H e s' => hCX w H s₁ e s'
end L2
namespace L2
open PySem PySem.Spec PyProof.Rows
noncomputable def inClass (s : Stmt) (j : Nat) : Stmt := match s with
  | .ClassDef _ _ _ body _ _ _ _ _ _ _ => body.getD j (.Pass ⟨0, 0, 0, 0⟩)
  | _ => .Pass ⟨0, 0, 0, 0⟩
noncomputable def defArgs (s : Stmt) : Arguments := match s with
  | .FunctionDef _ a _ _ _ _ _ _ _ _ => a
  | _ => { posonlyargs := [], args := [], vararg := none, kwonlyargs := [], kw_defaults := [], kwarg := none, defaults := [] }
noncomputable def defBody (s : Stmt) : List Stmt := match s with
  | .FunctionDef _ _ b _ _ _ _ _ _ _ => b
  | _ => []
noncomputable def defScope (s : Stmt) : Scope := match s with
  | .FunctionDef _ _ _ _ _ _ sc _ _ _ => sc
  | _ => { kind := .function, names := [], isGenerator := false, isCoroutine := false }
noncomputable abbrev CX0 : CXT := fun _ _ _ _ _ _ => False
noncomputable abbrev E0 : XK := fun _ _ _ => False
theorem pass0 {X : Cx} : Passes CX0 X E0 := fun _ _ _ _ _ _ _ h => h.elim
structure Fun (K : PySem.W.Frag) (x qual : Str) (st : Stmt) (f : Addr) (fd : FuncData) : Prop where
  ex : ∃ (oc : Value) (od : Option Addr) (kV doc pm : Value) (an : Option Addr) (cdv ct : Value) (osl : Array (Option Value)),
    fd = PySem.W.fnOf x qual (defArgs st) (defBody st) (defScope st) .none kV doc pm an cdv ct /\ K.lookup f = some ⟨oc, od, .func fd, osl⟩ /\ PySem.W.codeIn K cdv qual = true
  kp : PySem.W.keepIn K (.ref f) = true
section
variable {P : Program} {w : World} {K : PySem.W.Frag} {mg : Str -> Option Value} {base : Heap}
theorem Fun.ok {x qual : Str} {st : Stmt} {f : Addr} {fd : FuncData} {N ps : List Str} {k : Nat} {sp : Sp} (F : Fun K x qual st f fd) (S : FnScope N ps (defScope st)) (len : ∀ vs H Q E, sp vs H Q E -> vs.length = ps.length)
    (hbody : ∀ (cdv : Value) (A : Around) (outer : List Env) (s : Shared) (H : Hp) (vs : List V) (Q : VK) (E : XK), Room k (A.deeper (envOfC qual (defScope st) s.heap.objs.size f cdv)) -> sp vs H Q E ->
      ∃ t, PSs (cxOf CX0 P w K mg base N qual (defScope st) f cdv A outer s H E).nox (defBody st) t /\ t { nx := fun _ H' => Q .non H', rt := Q } (start N vs) H) : FnOk P w K mg base CX0 (k + 1) f fd ps sp := by
  obtain ⟨oc, od, kV, doc, pm, an, cdv, ct, osl, rfl, lk, hcd⟩ := F.ex
  refine fn_of lk hcd S len fun A outer s H vs Q E hr hsp => ?_
  obtain ⟨t, h, q⟩ := hbody cdv A outer s H vs Q E hr hsp
  exact ⟨t, h.nox, q⟩
theorem Fun.binds {x qual : Str} {st : Stmt} {f : Addr} {fd : FuncData} {ps : List Str} (F : Fun K x qual st f fd)
    (h : ∀ (kV doc pm : Value) (an : Option Addr) (cdv ct : Value) (us : List Value), us.length = ps.length -> bindArgs (PySem.W.fnOf x qual (defArgs st) (defBody st) (defScope st) .none kV doc pm an cdv ct) ⟨us, []⟩ = pure (ps.zip us)) : Binds K fd ps [] := by
  obtain ⟨oc, od, kV, doc, pm, an, cdv, ct, osl, rfl, lk, hcd⟩ := F.ex
  exact .all (h kV doc pm an cdv ct)
theorem fun_mk {x qual : Str} {st : Stmt} {f : Addr} {oc : Value} {od an : Option Addr} {osl : Array (Option Value)} {kV doc pm cdv ct : Value} (l : K.lookup f = some ⟨oc, od, .func (PySem.W.fnOf x qual (defArgs st) (defBody st) (defScope st) .none kV doc pm an cdv ct), osl⟩)
    (c : PySem.W.codeIn K cdv qual = true) (k : PySem.W.keepIn K (.ref f) = true) : Fun K x qual st f (PySem.W.fnOf x qual (defArgs st) (defBody st) (defScope st) .none kV doc pm an cdv ct) := ⟨⟨oc, od, kV, doc, pm, an, cdv, ct, osl, rfl, l, c⟩, k⟩
end
section
variable {X : Cx}
theorem pv (i : Nat) {x : Str} {pos : Pos} (hN : X.N[i]? = some x := by rfl) (hv : Vis X.env.scope x := by first | exact Or.inl rfl | exact Or.inr (Or.inl rfl) | exact Or.inr (Or.inr rfl)) (hd : (x == ("__debug__" : Str)) = false := by decide)
    (hcd : (x == ("__classdict__" : Str)) = false := by decide) : PE X (.Name x pos) (tVar i) := pe_var hN hv hd hcd
end
noncomputable def Same (H H' : Hp) : Prop := ∀ b o, H b = some o -> H' b = some o
theorem Same.refl (H : Hp) : Same H H := fun _ _ h => h
theorem Same.trans {H H1 H2 : Hp} (a : Same H H1) (b : Same H1 H2) : Same H H2 := fun c o h => b c o (a c o h)
theorem Same.free {H H' : Hp} (e : Same H H') {l : Addr} (h : H' l = Option.none) : H l = Option.none := by
  cases q : H l with
  | none => rfl
  | some o =>
    rw [e l o q] at h
    cases h
theorem Same.seq {K : PySem.W.Frag} {H H' : Hp} {a : Addr} {xs : List V} (e : Same H H') (h : SqL K H a xs) : SqL K H' a xs := by
  rcases h with (h | ⟨o, h⟩) | h
  · exact .inl (.inl (e _ _ h))
  · exact .inl (.inr ⟨o, e _ _ h⟩)
  · exact .inr h
end L2
set_option Elab.async false
set_option linter.all false
set_option maxRecDepth 100000
set_option maxHeartbeats 4000000
namespace L2
open PySem PySem.Spec PyProof.Rows
noncomputable def capV (σ : St) : Option Nat -> Option V
  | some j => (σ[j]?).getD none
  | none => none
noncomputable def clOf (env : Env) : List (Str × NameKind) -> List (Str × Addr) -> List (Str × Addr)
  | [], cs => cs
  | (n, k) :: r, cs => clOf env r (if k == .free then (n, (env.cells.lookup n).getD 0) :: cs else cs)
theorem closure_ok {scope : Scope} {env : Env} (h : ∀ y ∈ scope.names, y.2 = .free -> ∃ c, env.cells.lookup y.1 = some c) : closureFor scope env = pure (clOf env scope.names []) := by
  have key : ∀ (l : List (Str × NameKind)) (cs : List (Str × Addr)), (∀ y ∈ l, y.2 = .free -> ∃ c, env.cells.lookup y.1 = some c) ->
      (forIn l cs (fun (x : Str × NameKind) (r : List (Str × Addr)) => (match x with
        | (name, kind) => if (kind == NameKind.free) = true then (do let c <- cellOf env name; pure (ForInStep.yield ((name, c) :: r))) else pure (ForInStep.yield r) : Sem (ForInStep (List (Str × Addr)))))) = (pure (clOf env l cs) : Sem (List (Str × Addr))) := by
    intro l
    induction l with
    | nil => intro cs _; rfl
    | cons y r ih =>
      intro cs hl
      obtain ⟨n, k⟩ := y
      rw [List.forIn_cons]
      by_cases hk : k = .free
      · subst hk
        obtain ⟨c, hc⟩ := hl (n, .free) List.mem_cons_self rfl
        have e1 : cellOf env n = pure c := by
          unfold cellOf
          rw [hc]
        simp only [beq_self_eq_true, if_true, e1, pure_bind]
        rw [ih _ (fun z hz => hl z (List.mem_cons_of_mem _ hz))]
        simp only [clOf, beq_self_eq_true, if_true, hc, Option.getD_some]
      · have hb : (k == NameKind.free) = false := by simpa using hk
        simp only [hb, Bool.false_eq_true, if_false, pure_bind]
        rw [ih _ (fun z hz => hl z (List.mem_cons_of_mem _ hz))]
        simp only [clOf, hb, Bool.false_eq_true, if_false]
  have := key scope.names [] h
  exact (congrArg (fun z => z >>= fun cs => (pure cs : Sem (List (Str × Addr)))) this).trans (pure_bind _ _)
theorem mem_look : ∀ {l : List (Str × NameKind)} {x : Str} {k : NameKind}, l.lookup x = some k -> (x, k) ∈ l
  | [], _, _, h => nomatch h
  | (n, k') :: r, x, k, h => by
    rw [List.lookup_cons] at h
    cases hx : x == n with
    | true =>
      rw [hx] at h
      have e : x = n := by simpa using hx
      subst e
      cases h
      exact List.mem_cons_self
    | false => rw [hx] at h; exact List.mem_cons_of_mem _ (mem_look h)
theorem clOf_look {env : Env} {x : Str} {c : Addr} : ∀ {l : List (Str × NameKind)} {cs : List (Str × Addr)}, (∀ y ∈ l, y.2 = .free -> ∃ c, env.cells.lookup y.1 = some c) -> (clOf env l cs).lookup x = some c -> env.cells.lookup x = some c \/ cs.lookup x = some c
  | [], cs, _, h => .inr h
  | (n, k) :: r, cs, hl, h => by
    have h' := clOf_look (l := r) (fun z hz => hl z (List.mem_cons_of_mem _ hz)) h
    rcases h' with h' | h'
    · exact .inl h'
    · by_cases hk : k = .free
      · subst hk
        simp only [beq_self_eq_true, if_true] at h'
        obtain ⟨c', hc⟩ := hl (n, .free) List.mem_cons_self rfl
        rw [hc, Option.getD_some, List.lookup_cons] at h'
        cases hx : x == n with
        | true =>
          rw [hx] at h'
          have e : x = n := by simpa using hx
          subst e
          left
          rw [hc]; exact h'
        | false => rw [hx] at h'; exact .inr h'
      · have hb : (k == NameKind.free) = false := by simpa using hk
        simp only [hb, Bool.false_eq_true, if_false] at h'
        exact .inr h'
theorem clOf_has' {env : Env} {x : Str} : ∀ {l : List (Str × NameKind)} {cs : List (Str × Addr)}, (cs.lookup x).isSome = true -> ((clOf env l cs).lookup x).isSome = true
  | [], cs, h => h
  | (n, k) :: r, cs, h => by
    show ((clOf env r _).lookup x).isSome = true
    refine clOf_has' (l := r) ?_
    by_cases hk : (k == NameKind.free) = true
    · rw [if_pos hk, List.lookup_cons]
      cases hx : x == n with
      | true => rfl
      | false => exact h
    · rw [if_neg hk]; exact h
theorem clOf_has {env : Env} {x : Str} : ∀ {l : List (Str × NameKind)} {cs : List (Str × Addr)}, (x, NameKind.free) ∈ l -> ((clOf env l cs).lookup x).isSome = true
  | [], _, h => nomatch h
  | (n, k) :: r, cs, h => by
    rcases List.mem_cons.mp h with e | h
    · cases e
      show ((clOf env r _).lookup x).isSome = true
      refine clOf_has' (l := r) ?_
      rw [if_pos (by rfl), List.lookup_cons]
      simp
    · exact clOf_has (l := r) h
noncomputable def cpCx (X : Cx) (scope : Scope) (N : List Str) (C : Addr) (s₀ : Shared) (H₀ : Hp) (ex : List Addr) : Cx where
  prog := X.prog
  w := X.w
  K := X.K
  mg := X.mg
  base := X.base
  A := X.A
  N := N
  s₀ := s₀
  H₀ := H₀
  env := compEnvC scope (clOf X.env scope.names []) C X.env
  outer := X.stack
  stack := X.stack
  ex := ex
  fn := fun _ => false
  calm := X.calm
  pn := []
  xe := fun _ _ => False
structure CpScope (X : Cx) (scope : Scope) (N : List Str) (cap : List (Option Nat)) : Prop where
  kind : scope.kind = .function
  nocell : ∀ y ∈ scope.names, y.2 ≠ .cell
  nm : ∀ y ∈ scope.names, y.2 = .local -> scope.names.lookup y.1 = some .local
  fr : ∀ y ∈ scope.names, y.2 = .free -> X.env.kindOf y.1 = some .cell \/ X.env.kindOf y.1 = some .free
  rl : ∀ y, ((relabel scope X.env).names.lookup y = some .cell \/ (relabel scope X.env).names.lookup y = some .free) -> (y, NameKind.free) ∈ scope.names
  len : cap.length = N.length
  nolf : ∀ x, (x, NameKind.free) ∈ scope.names -> scope.names.lookup x ≠ some .local
  cp : ∀ (i j : Nat) (x : Str), N[i]? = some x -> cap[i]? = some (some j) -> X.N[j]? = some x /\ (x, NameKind.free) ∈ scope.names
theorem cp_inv {X : Cx} {scope : Scope} {N : List Str} {cap : List (Option Nat)} {pins : List (Addr × Obj)} {σ : St} {H : Hp} {s : Shared} {fp : List Addr} {h₁ : Heap} {m : Str -> Option Value} {tk : Nat} (S : CpScope X scope N cap) (I : Inv X pins σ H s)
    (hf : ∀ b ∈ fp, FpOk X pins H b) (ho : ∀ b ∈ fp, ∃ o, s.heap.get? b = some o) (hn : h₁.Ns s.heap.objs.size m) (hk : ∀ b o, s.heap.get? b = some o -> h₁.get? b = some o) :
    Inv (cpCx X scope N s.heap.objs.size s H fp) [] (cap.map (capV σ)) H { s with heap := h₁, toks := tk } := by
  have hfree : ∀ y ∈ scope.names, y.2 = .free -> ∃ c, X.env.cells.lookup y.1 = some c := fun y hy e => I.ok.has _ (S.fr y hy e)
  have lk : ∀ x c, (clOf X.env scope.names []).lookup x = some c -> X.env.cells.lookup x = some c := fun x c e => by
    rcases clOf_look hfree e with z | z
    · exact z
    · cases z
  have lt : ∀ b o, s.heap.get? b = some o -> b ≠ s.heap.objs.size := fun b o e => Nat.ne_of_lt (Heap.lt_size e)
  refine ⟨⟨I.ok.mod, ?_, I.ok.glob, I.ok.blt, Nat.le_refl _, ?_, ?_, ?_, I.ok.hd, I.ok.frames, .inl rfl, ?_, I.bs, Nat.le_trans I.ok.bsz I.sz, ?_, ?_, I.stack, I.stkFree⟩, rfl, I.bare, Un.kept hk, ?_, ?_, I.hok.fresh (Nat.le_refl _), ?_, ?_, I.hok.kept hk, ?_⟩
  · exact S.kind
  · intro x y c e1 e2
    exact I.ok.inj x y c (lk x c e1) (lk y c e2)
  · intro x e
    have hm := S.rl x e
    have := clOf_has (env := X.env) (cs := []) hm
    exact Option.isSome_iff_exists.mp this
  · intro x c e _
    exact absurd e (by simp [cpCx])
  · intro b hb
    obtain ⟨o, e⟩ := ho b hb
    refine ⟨lt b o e, fun x c e2 => (hf b hb).2.2.2.2.1 x c (lk x c e2)⟩
  · intro b o e hb
    obtain ⟨_, _, _, h3, _⟩ := hf b hb
    rcases h3 with z | z
    · exact I.ok.noex b o e z
    · exact absurd (Nat.lt_of_lt_of_le (Heap.lt_size (I.ok.bs b o e).1) z) (Nat.lt_irrefl _)
  · intro b hb hz
    obtain ⟨_, h1, h2, _⟩ := hf b hb
    rcases List.mem_cons.mp (I.stkSub b hz) with z | z
    · exact h1 z
    · exact h2 z
  · refine ⟨m, hn, fun i x v e1 e2 e3 => ?_⟩
    rw [List.getElem?_map] at e2
    cases hc : cap[i]? with
    | none => rw [hc] at e2; cases e2
    | some oj =>
      rw [hc] at e2
      cases oj with
      | none => cases e2
      | some j =>
        have e2' : (σ[j]?).getD none = some v := Option.some.inj e2
        obtain ⟨hj, hm⟩ := S.cp i j x e1 hc
        obtain ⟨m0, hn0, hl0⟩ := I.loc
        have hσ : σ[j]? = some (some v) := by
          cases h : σ[j]? with
          | none => rw [h] at e2'; cases e2'
          | some z => rw [h, Option.getD_some] at e2'; rw [e2']
        have hkd := S.fr (x, .free) hm rfl
        have hv : Vis X.env.scope x := .inr hkd
        obtain ⟨u, ru, lo⟩ := hl0 j x v hj hσ hv
        refine ⟨u, ru, ?_⟩
        rcases lo with ⟨lo, _⟩ | ⟨_, c, ec, ic⟩
        · rcases hkd with z | z <;> (rw [z] at lo; cases lo)
        · have h2 := clOf_has (env := X.env) (cs := []) hm
          obtain ⟨c', hc'⟩ := Option.isSome_iff_exists.mp h2
          have : c' = c := Option.some.inj ((lk x c' hc').symm.trans ec)
          subst this
          refine .inr ⟨?_, c', hc', ?_⟩
          · rcases e3 with z | z | z
            · exfalso
              have : (relabel scope X.env).names.lookup x = some .local := z
              have hloc : scope.names.lookup x = some .local := by
                have hmem : ∃ k, (x, k) ∈ (relabel scope X.env).names /\ k = .local := by
                  clear hc' h2
                  have := mem_look this
                  exact ⟨_, this, rfl⟩
                obtain ⟨k, hk1, rfl⟩ := hmem
                obtain ⟨⟨n', k'⟩, hm1, hm2⟩ := List.mem_map.mp hk1
                dsimp only at hm2
                split at hm2
                · cases hm2
                · cases hm2
                  exact S.nm (x, .local) hm1 rfl
              exact False.elim (S.nolf x hm hloc)
            · exact .inl z
            · exact .inr z
          · obtain ⟨o, ho', hd⟩ := ic
            exact ⟨o, hk _ _ ho', hd⟩
  · intro x c e
    obtain ⟨v, o, ho', hd⟩ := I.cell x c (lk x c e)
    exact ⟨v, o, hk _ _ ho', hd⟩
  · intro x c e
    exact I.freeC x c (lk x c e)
  · intro p hp
    cases hp
  · rw [List.length_map, S.len]
    rfl
noncomputable def PTs (X : Cx) (ifs : List Expr) (t : TT) : Prop :=
  ∀ (pins : List (Addr × Obj)) (s : Shared) (σ : St) (H : Hp) (Q : Bool -> Hp -> Prop), Inv X pins σ H s -> t σ H Q ->
    wpAny (model X.prog X.w) X.A (forIn ifs true fun c r => if r = true then do let ok <- isTrue c X.env (eval c X.env); pure (ForInStep.yield ok) else pure (ForInStep.yield r)) (TP X pins σ Q) X.xe s
noncomputable def tYes : TT := fun _ H Q => Q true H
theorem pts_nil {X : Cx} : PTs X [] tYes := fun _ _ _ H _ I h => wpAny_tests_nil ⟨H, I, h⟩
theorem pts_one {X : Cx} {c : Expr} {t : TT} (h : PT X c t) : PTs X [c] t := fun pins s σ H Q I q => wpAny_tests_one (h pins s σ H Q I q)
noncomputable def LcGoal (cap : List (Option Nat)) (g : TG) (tc : TT) (te : TE) (σ : St) (Q : VK) (J : It) (H1 : Hp) : Prop := ∀ D, H1 D = none ->
  ∃ W : Nat -> Nat -> St -> Hp -> Prop, (∃ m, W 0 m (cap.map (capV σ)) (upd H1 D (.lst []))) /\ ∀ i m σ' H', W i m σ' H' ->
    (J.stop i H' /\ Q (.ref D) H') \/ (J.go i H' /\ ∀ x H2, J.yld i H' x H2 -> g x σ' H2 fun σ3 H3 => tc σ3 H3 fun b H4 =>
      if b = true then te σ3 H4 fun y H5 => ∃ ys, H5 D = some (.lst ys) /\ ys.length < sizeLine /\ ∃ m', m' < m /\ W (i + 1) m' σ3 (upd H5 D (.lst (ys ++ [y])))
      else ∃ m', m' < m /\ W (i + 1) m' σ3 H4)
noncomputable def tLC (cap : List (Option Nat)) (wi : TI) (g : TG) (tc : TT) (te : TE) : TE := fun σ H Q => wi σ H (LcGoal cap g tc te σ Q)
theorem thnF {α : Type} {t : Sem α} {Q Q' : α -> Shared -> Prop} {M : Model} {A : Around} {E : Value -> Shared -> Prop} {s : Shared} (h : wpAny M A t Q (fun _ _ => False) s) (hQ : ∀ a s, Q a s -> Q' a s) : wpAny M A t Q' E s :=
  wpAny_mono h hQ fun _ _ f => f.elim
theorem pe_lc {X : Cx} {tg iter elt : Expr} {ifs : List Expr} {scope : Scope} {pos : Pos} {N : List Str} {cap : List (Option Nat)} {wi : TI} {g : TG} {tc : TT} {te : TE} (hc : X.calm = true) (S : CpScope X scope N cap) (hi : PI X tg iter wi)
    (hg : ∀ C s₀ H₀ ex, PG (cpCx X scope N C s₀ H₀ ex) tg g) (ht : ∀ C s₀ H₀ ex, PTs (cpCx X scope N C s₀ H₀ ex) ifs tc) (he : ∀ C s₀ H₀ ex, PE (cpCx X scope N C s₀ H₀ ex) elt te)
    (hs : ∀ x, foldedSetIterable iter X.env x = pure x := by intro _; rfl) : PE X (.ListComp elt [⟨tg, iter, ifs, 0⟩] scope pos) (tLC cap wi g tc te) := by
  intro pins s σ H Q I h
  have hfree : ∀ y ∈ scope.names, y.2 = .free -> ∃ c, X.env.cells.lookup y.1 = some c := fun y hy e => I.ok.has _ (S.fr y hy e)
  rw [eval_ListComp]
  refine wpAny_comprehension_free (use := none) rfl hs (closure_ok hfree) S.kind S.nm (thn (hi pins s σ H _ I h) fun xv s1 h1 => thn h1 fun itv s2 h2 => ?_)
  obtain ⟨it, fp, tn, J, H2, rfl, I2, T, st2, f2, h2⟩ := h2
  refine wpAny_newObj_type (wpAny_newFunctionEnv S.nocell (by intro y hy; simp at hy) (fun h₁ hns₁ hsb₁ => ?_) S.kind)
  obtain ⟨W, ⟨m0, w0⟩, turn⟩ := h2 s2.heap.objs.size I2.fresh
  dsimp only at hns₁ hsb₁ ⊢
  have I3 : Inv X pins σ (upd H2 s2.heap.objs.size (.lst [])) { s2 with heap := s2.heap.push { cls := .type "list", data := .seq ([] : List Value).toArray } } := I2.lnew (t' := s2.toks) (its := []) .nil (Nat.zero_le _)
  have hfp : ∀ b ∈ fp, ∃ o, s2.heap.get? b = some o := fun b hb => by
    obtain ⟨o, e, _⟩ := T.obj 0 _ st2 b hb
    exact ⟨o, e⟩
  have neD : ∀ b ∈ fp, b ≠ s2.heap.objs.size := fun b hb => by
    obtain ⟨o, e⟩ := hfp b hb
    exact Nat.ne_of_lt (Heap.lt_size e)
  have f3 : ∀ b ∈ fp, FpOk X pins (upd H2 s2.heap.objs.size (.lst [])) b := fun b hb => ⟨by rw [upd_ne (neD b hb)]; exact (f2 b hb).1, (f2 b hb).2⟩
  have hDC : s2.heap.objs.size ≠ (s2.heap.push { cls := .type "list", data := .seq ([] : List Value).toArray }).objs.size := by rw [Heap.size_push]; exact Nat.ne_of_lt (Nat.lt_succ_self _)
  have old : ∀ b o, (s2.heap.push { cls := .type "list", data := .seq ([] : List Value).toArray }).get? b = some o -> h₁.get? b = some o := fun b o e => hsb₁.extBut b o (Nat.ne_of_lt (Heap.lt_size e)) (Heap.get?_push_of_some _ e)
  have I4 := cp_inv (tk := s2.toks + ([] : List (Str × Value)).length) (fp := fp) S I3 f3 (fun b hb => by
    obtain ⟨o, e⟩ := hfp b hb
    exact ⟨o, Heap.get?_push_of_some _ e⟩) hns₁ old
  have st4 : tn 0 h₁ := T.keep _ _ _ st2 fun b hb o e => old b o (Heap.get?_push_of_some _ e)
  have stat : ∀ {H' : Hp}, (∀ b ∈ fp, H' b = none) -> ∀ b ∈ fp, FpOk (cpCx X scope N (s2.heap.push { cls := .type "list", data := .seq ([] : List Value).toArray }).objs.size { s2 with heap := s2.heap.push { cls := .type "list", data := .seq ([] : List Value).toArray } } (upd H2 s2.heap.objs.size (.lst [])) fp) [] H' b := fun hn b hb => by
    have ok := I4.ok
    refine ⟨hn b hb, (ok.exf b hb).1, ok.exfs b hb, .inl hb, fun x c e => (ok.exf b hb).2 x c e, fun p hp => nomatch hp⟩
  have loop : ∀ s4 : Shared, s4 = { s2 with heap := h₁, toks := s2.toks + ([] : List (Str × Value)).length } ->
      codeAny (model X.prog X.w) X.A (.compLoop (.ListComp elt [⟨tg, iter, ifs, 0⟩] scope pos) 0 (.ref it) (.ref s2.heap.objs.size) (compEnvC scope (clOf X.env scope.names []) (s2.heap.push { cls := .type "list", data := .seq ([] : List Value).toArray }).objs.size X.env))
        (compPost (model X.prog X.w) X.A X.xe none (EP X pins σ Q) (.ref s2.heap.objs.size) (s2.heap.push { cls := .type "list", data := .seq ([] : List Value).toArray }).objs.size) s4 := by
    rintro s4 rfl
    refine codeAny_loop rfl (fun n s' => ∃ i σ' H', Inv (cpCx X scope N (s2.heap.push { cls := .type "list", data := .seq ([] : List Value).toArray }).objs.size { s2 with heap := s2.heap.push { cls := .type "list", data := .seq ([] : List Value).toArray } } (upd H2 s2.heap.objs.size (.lst [])) fp) [] σ' H' s' /\ tn i s'.heap /\ (∀ b ∈ fp, H' b = none) /\ W i n σ' H') (fun n s5 hI => ?_) m0 ⟨0, _, _, I4, st4, fun b hb => (f3 b hb).1, w0⟩
    obtain ⟨i, σ5, H5, I5, st5, fr5, w5⟩ := hI
    show wpAny _ X.A ((compTurn (.ListComp elt [⟨tg, iter, ifs, 0⟩] scope pos) 0 (.ref it) (.ref s2.heap.objs.size) (compEnvC scope (clOf X.env scope.names []) (s2.heap.push { cls := .type "list", data := .seq ([] : List Value).toArray }).objs.size X.env)).onRaise (fun x => do noteFrame x _; theTreesLotGoes x)) _ _ s5
    refine wpAny_noted ?_
    rw [compTurn_list]
    refine wpAny_bind (wpAny_standAt (wpAny_bind ?_))
    rcases turn i n σ5 H5 w5 with ⟨stop, q⟩ | ⟨go, step⟩
    · refine thn (T.done (cpCx X scope N (s2.heap.push { cls := .type "list", data := .seq ([] : List Value).toArray }).objs.size { s2 with heap := s2.heap.push { cls := .type "list", data := .seq ([] : List Value).toArray } } (upd H2 s2.heap.objs.size (.lst [])) fp) rfl rfl rfl hc i [] s5 σ5 H5 _ I5 (stat fr5) st5 stop) fun r s6 ⟨hr, I6⟩ => ?_
      subst hr
      obtain ⟨m6, hn6, _⟩ := I6.loc
      refine wpAny_pure ⟨m6, hn6, fun h' sb => ?_⟩
      have u6 := I6.base
      have nC : ∀ b o, (s2.heap.push { cls := .type "list", data := .seq ([] : List Value).toArray }).get? b = some o -> b ≠ (s2.heap.push { cls := .type "list", data := .seq ([] : List Value).toArray }).objs.size := fun b o e => Nat.ne_of_lt (Heap.lt_size e)
      refine ⟨.ref s2.heap.objs.size, H5, ?_, rfl, q⟩
      refine I3.call' (ch := fp) I6.os ⟨fun b o e n hb hx => ?_, fun b o e n hb hx => ?_, fun b o e n hx => ?_, fun b o e hx => ?_, u6.tups, u6.frzs, u6.tbls⟩ ?_ I6.bare ?_
      · exact sb.extBut b o (nC b o e) (u6.keep b o e n hb hx)
      · obtain ⟨sl, z⟩ := u6.slot b o e n hb hx
        exact ⟨sl, sb.extBut b _ (nC b o e) z⟩
      · exact u6.free b o e n hx
      · obtain ⟨o', z⟩ := u6.there b o e hx
        exact ⟨o', sb.extBut b _ (nC b o e) z⟩
      · intro b o e
        have hb : ∀ c v, H5 c = some v -> c ≠ (s2.heap.push { cls := .type "list", data := .seq ([] : List Value).toArray }).objs.size := fun c v e z => by
          rw [z] at e
          have := I6.free
          rw [show H5 (s2.heap.push { cls := .type "list", data := .seq ([] : List Value).toArray }).objs.size = none from this] at e
          cases e
        refine (I6.hok b o e).stay (fun c v hc q => sb.extBut c v ?_ q) (fun _ q => q) fun _ _ q => q
        rcases hc with z | z
        · rw [z]; exact hb b o e
        · exact hb c _ z
      · intro b hb
        obtain ⟨_, z1, _, z3, z4, z5⟩ := f3 b hb
        exact ⟨z3, z1, z4, z5⟩
    · refine thn (T.item (cpCx X scope N (s2.heap.push { cls := .type "list", data := .seq ([] : List Value).toArray }).objs.size { s2 with heap := s2.heap.push { cls := .type "list", data := .seq ([] : List Value).toArray } } (upd H2 s2.heap.objs.size (.lst [])) fp) rfl rfl rfl hc i [] s5 σ5 H5 _ I5 (stat fr5) st5 go) fun r s6 ⟨u, hr, h6⟩ => ?_
      subst hr
      refine wpAny_bind (thn h6 fun _ s7 ⟨x, H7, I7, r7, y7, st7, fr7⟩ => ?_)
      have I7' := I7.pinned (stat fr7) (T.obj _ _ st7)
      refine wpAny_bind (thnF (hg _ _ _ fp _ s7 σ5 H7 x u _ I7' r7 (step x H7 y7)) fun _ s8 ⟨σ8, H8, I8, q8⟩ => ?_)
      refine wpAny_bind (thnF (ht _ _ _ fp _ s8 σ8 H8 _ I8 q8) fun ok s9 ⟨H9, I9, q9⟩ => ?_)
      have again : ∀ {s10 : Shared} {H10 : Hp}, Inv (cpCx X scope N (s2.heap.push { cls := .type "list", data := .seq ([] : List Value).toArray }).objs.size { s2 with heap := s2.heap.push { cls := .type "list", data := .seq ([] : List Value).toArray } } (upd H2 s2.heap.objs.size (.lst [])) fp) ([] ++ pinsAt fp s7.heap) σ8 H10 s10 -> (∃ m', m' < n /\ W (i + 1) m' σ8 H10) ->
          ∃ m, m < n /\ ∃ i σ' H', Inv (cpCx X scope N (s2.heap.push { cls := .type "list", data := .seq ([] : List Value).toArray }).objs.size { s2 with heap := s2.heap.push { cls := .type "list", data := .seq ([] : List Value).toArray } } (upd H2 s2.heap.objs.size (.lst [])) fp) [] σ' H' s10 /\ tn i s10.heap /\ (∀ b ∈ fp, H' b = none) /\ W i m σ' H' := fun {s10 H10} I10 ⟨m', hm, w10⟩ => by
        refine ⟨m', hm, i + 1, σ8, H10, I10.unpinned, T.keep _ _ _ st7 fun b hb o e => (I10.pin (b, o) (List.mem_append_right _ (List.mem_append_right _ (mem_pinsAt hb e)))).1, fun b hb => ?_, w10⟩
        obtain ⟨o, e, d⟩ := T.obj _ _ st7 b hb
        exact (I10.pin (b, o) (List.mem_append_right _ (List.mem_append_right _ (mem_pinsAt hb e)))).2.1
      cases ok with
      | false =>
        rw [if_neg Bool.false_ne_true] at q9
        exact wpAny_pure ⟨rfl, again I9 q9⟩
      | true =>
        rw [if_pos rfl] at q9
        refine wpAny_bind (wpAny_bind (thnF (he _ _ _ fp _ s9 σ8 H9 _ I9 q9) fun y s10 ⟨v10, H10, I10, r10, ys, hD, hz, w10⟩ => ?_))
        refine wpAny_bind (thnF (mt_append _ s10 σ8 H10 (.ref s2.heap.objs.size) [v10] _ [y] (fun _ H' => H' = upd H10 s2.heap.objs.size (.lst (ys ++ [v10]))) I10 rfl (.cons r10 .nil) ⟨_, ys, v10, rfl, rfl, hD, hz, rfl⟩) fun _ s11 ⟨_, H11, I11, _, e11⟩ => ?_)
        subst e11
        exact wpAny_pure (wpAny_pure ⟨rfl, again I11 w10⟩)
  exact codeAny_compStart_list (loop _ rfl) (T.self _ 0 _ _ _ st4 (loop _ rfl))
end L2
set_option Elab.async false
set_option linter.all false
set_option maxRecDepth 100000
set_option maxHeartbeats 4000000
namespace L2
open PySem PySem.Spec PyProof.Rows
section
variable {X : Cx}
theorem bools_of {bs : List Bool} : ∀ {us : List Value}, Vals (bs.map V.bl) us -> LSm.BoolsAre us bs := by
  induction bs with
  | nil => intro us r; cases r; exact .nil
  | cons b bs ih =>
    intro us r
    cases r with
    | cons h t =>
      have e : _ = Value.bool b := h
      subst e
      exact .cons b (ih t)
theorem call_allL (hc : X.calm = true) : CallR X (.builtin "all") (fun xs H Q => ∃ (p : Addr) (bs : List Bool), xs = [.ref p] /\ SqL X.K H p (bs.map V.bl) /\ Q (.bl (bs.all id)) H) := by
  intro pins s σ H xs us Q I r h
  obtain ⟨p, bs, rfl, hq, q⟩ := h
  obtain ⟨u, rfl, rx⟩ := vals1 r
  cases rx
  obtain ⟨its, rv, pl, hz⟩ := I.list hq
  have hb := bools_of rv
  have hl := pl.isList
  have hlt : p < s.heap.objs.size := by obtain ⟨_, e, _⟩ := hl; exact Heap.lt_size e
  refine call_all_walk (wpAny_pyIter_list hl ?_)
  refine ⟨s.heap.objs.size, [s.heap.objs.size, p], [s.heap.objs.size], its.toArray.size, _, _, fun i => (bs[i]?).getD true, rfl, Walks.list (A := X.A.in1) (I.ok.hd hc) _ p (Nat.ne_of_lt hlt) its.toArray,
    ⟨⟨_, Heap.get?_push_size _ rfl, rfl, rfl⟩, hl.push _⟩, fun i v s' Q' E' hP hQ => ?_, fun h' tk hk => ?_⟩
  · obtain ⟨b, e, rfl⟩ := hb.get i v (by simpa using hP)
    simp only [e, Option.getD_some] at hQ
    exact wpAny_truthy_bool hQ
  · have e : ((List.range its.toArray.size).all fun i => (bs[i]?).getD true) = bs.all id := by
      rw [List.size_toArray, hb.length]; exact LSm.range_all bs
    rw [e]
    exact ⟨.bl _, H, I.kept (LSm.kept_iter hk), rfl, q⟩
noncomputable def eqL : List V -> List V -> Bool
  | [], [] => true
  | x :: xs, y :: ys => eqV x y && eqL xs ys
  | _, _ => false
noncomputable def eAt (xs ys : List V) (j : Nat) : Bool := match xs[j]?, ys[j]? with | some x, some y => eqV x y | _, _ => true
noncomputable def rEqS (K : PySem.W.Frag) (neg : Bool) : R2 := fun x y H Q => ∃ p q xs ys, x = .ref p /\ y = .ref q /\ ((SqL K H p xs /\ SqL K H q ys) \/ (SqT K H p xs /\ SqT K H q ys)) /\ xs.all flatV = true /\ ys.all flatV = true /\ Q (.bl (if neg then !eqL xs ys else eqL xs ys)) H
noncomputable def rngL (i j : Int) : List Int := (List.range (j - i).toNat).map fun k : Nat => i + (k : Int)
theorem rngL_len (i j : Int) : (rngL i j).length = (j - i).toNat := by unfold rngL; rw [List.length_map, List.length_range]
theorem vals_items {i : Int} {n : Nat} {acc : Array Value} (h : ItemsOf (fun k v => ∃ t, v = Value.int (i + (k : Int) * 1) t) acc n) : Vals (((List.range n).map fun k : Nat => i + (k : Int)).map V.int) acc.toList := by
  obtain ⟨hs, hv⟩ := h
  have gen : ∀ (l : List Value) (b : Nat), (∀ j v, l[j]? = some v -> ∃ t, v = Value.int (i + ((b + j : Nat) : Int)) t) -> Vals (((List.range' b l.length).map fun k : Nat => i + (k : Int)).map V.int) l := by
    intro l
    induction l with
    | nil => intro b _; exact .nil
    | cons v l ih =>
      intro b hb
      rw [List.length_cons, List.range'_succ, List.map_cons, List.map_cons]
      refine .cons ?_ ?_
      · obtain ⟨t, e⟩ := hb 0 v rfl
        exact ⟨t, by rw [e]; simp⟩
      · refine ih (b + 1) fun j w hw => ?_
        obtain ⟨t, e⟩ := hb (j + 1) w hw
        exact ⟨t, by rw [e, show b + (j + 1) = b + 1 + j by omega]⟩
  have := gen acc.toList 0 fun j v hj => by
    obtain ⟨t, e⟩ := hv j v (by simpa using hj)
    exact ⟨t, by rw [e, Nat.zero_add, Int.mul_one]⟩
  rw [Array.length_toList, hs, <- List.range_eq_range'] at this
  exact this
theorem rangeN {i j : Int} : Builtin.Range.rangeSize i j 1 = (((j - i).toNat : Nat) : Int) := by rw [rangeSize_one]; split <;> omega
theorem call_list_rng (hc : X.calm = true) : CallR X (.type "list") (fun xs H Q => ∃ p i j, xs = [.ref p] /\ H p = some (.rng i j) /\ (-(2 ^ 62) <= i /\ i < 2 ^ 62 /\ -(2 ^ 62) <= j /\ j < 2 ^ 62) /\ (j - i).toNat <= 1000 /\ ∀ l, H l = none -> Q (.ref l) (upd H l (.lst ((rngL i j).map V.int)))) := by
  intro pins s σ H xs us Q I r h
  obtain ⟨p, i, j, rfl, hp, ⟨b1, b2, b3, b4⟩, hn, q⟩ := h
  obtain ⟨u, rfl, rx⟩ := vals1 r
  cases rx
  obtain ⟨t, u', v, e⟩ := I.hok p _ hp
  refine call_list_range (n := (j - i).toNat) (I.ok.hd hc) e (small_one b1 b2 b3 b4) rangeN (by omega) fun h' tk acc' c' hk hS hacc => ?_
  refine ⟨.ref s.heap.objs.size, _, I.laid (o := .lst ((rngL i j).map V.int)) hk (Nat.le_refl _) ⟨?_, acc'.toList, c', vals_items hacc, by rw [hS]⟩, rfl, q _ I.fresh⟩
  rw [List.length_map, rngL_len, sizeLine_eq]; omega
end
end L2
set_option Elab.async false
set_option linter.all false
set_option maxRecDepth 100000
set_option maxHeartbeats 4000000
namespace L2
open PySem PySem.Spec PyProof.Rows
section
variable {X : Cx}
noncomputable def tRev (K : PySem.W.Frag) (te : TE) : TE := fun σ H Q => te σ H fun x H1 => ∃ a xs, x = .ref a /\ SqL K H1 a xs /\ ∀ p, H1 p = none -> Q (.ref p) (upd H1 p (.lst xs.reverse))
theorem call_isinst {c : String} : CallR X (.builtin "isinstance") (fun xs H Q => ∃ x t b, xs = [x, .ty c] /\ TyOf X.K H x t /\ PySem.W.kitOne X.K t (.type c) = some b /\ Q (.bl b) H) := by
  intro pins s σ H xs us Q I r h
  obtain ⟨x, t, b, rfl, ty, e, q⟩ := h
  obtain ⟨u, w', rfl, rx, rc⟩ := vals2 r
  cases rc
  exact isinst_ok I rx ty e fun tk => ⟨.bl b, H, I.tok tk, rfl, q⟩
noncomputable def rCatT0 (K : PySem.W.Frag) : R2 := fun x y H Q => ∃ a b ys, x = .ref a /\ y = .ref b /\ SqT K H a [] /\ SqT K H b ys /\ Q (.ref b) H
theorem op_catT0 : OpR X (binaryOp .Add) (rCatT0 X.K) := by
  intro pins s σ H x y v u Q I rx ry h
  obtain ⟨a, b, ys, rfl, rfl, h1, h2, q⟩ := h
  cases rx
  cases ry
  obtain ⟨us, r1, p1, _⟩ := I.tuple h1
  obtain ⟨ws, r2, p2, _⟩ := I.tuple h2
  cases r1
  obtain ⟨⟨cls, dd, data, sl⟩, ho, hc, n, hd⟩ := id p1
  obtain ⟨⟨cls2, dd2, data2, sl2⟩, ho2, hc2, n2, hd2⟩ := id p2
  simp only at hc hd hc2 hd2
  subst hc hd hc2 hd2
  exact concat_meets ⟨_, ho, rfl⟩ ⟨_, ho2, rfl⟩ noFill_tuple_add seq_tuple_add PySem.F.slot_tuple_add PySem.F.entry_tuple_add (PySem.F.args_tuple_add_2 _ _)
      (tuple_addW0 a b _ ws.toArray n n2 dd dd2 sl sl2 (by simp)) ⟨ho, ho2, ⟨.ref b, H, I, rfl, q⟩⟩
noncomputable def rJoin (K : PySem.W.Frag) : V -> List V -> Hp -> VK -> Prop := fun x vs H Q => ∃ z p ys, x = .str z /\ vs = [.ref p] /\ SqL K H p (ys.map V.str) /\ (ys.map (·.length)).sum + ys.length * z.length <= 16777216 /\ Q (.str (Txt.join z ys)) H
end
end L2
set_option Elab.async false
set_option linter.all false
set_option maxRecDepth 100000
set_option maxHeartbeats 4000000
namespace L2
open PySem PySem.Spec PyProof.Rows
theorem bt_len : bootBuiltins "len" = some (.builtin "len") := by decide +kernel
theorem bt_all : bootBuiltins "all" = some (.builtin "all") := by decide +kernel
theorem bt_max : bootBuiltins "max" = some (.builtin "max") := by decide +kernel
theorem bt_min : bootBuiltins "min" = some (.builtin "min") := by decide +kernel
theorem bt_sorted : bootBuiltins "sorted" = some (.builtin "sorted") := by decide +kernel
theorem bt_isinstance : bootBuiltins "isinstance" = some (.builtin "isinstance") := by decide +kernel
theorem bt_int : bootBuiltins "int" = some (.type "int") := by decide +kernel
theorem bt_bool : bootBuiltins "bool" = some (.type "bool") := by decide +kernel
theorem bt_list : bootBuiltins "list" = some (.type "list") := by decide +kernel
structure Blt (mg : Str -> Option Value) : Prop where
  len : mg "len" = none
  abs : mg "abs" = none
  all : mg "all" = none
  any : mg "any" = none
  max : mg "max" = none
  min : mg "min" = none
  sorted : mg "sorted" = none
  isinstance : mg "isinstance" = none
  int : mg "int" = none
  bool : mg "bool" = none
  str : mg "str" = none
  list : mg "list" = none
  tuple : mg "tuple" = none
  range : mg "range" = none
theorem Same.upd {H H' : Hp} {a : Addr} {o : HO} (e : Same H H') (h : H a = none) : Same H (L2.upd H' a o) := fun b u q => by
  rw [upd_ne (ne_of_none q h)]
  exact e b u q
theorem Same.new {H : Hp} {a : Addr} {o : HO} (h : H a = none) : Same H (L2.upd H a o) := (Same.refl H).upd h
section
variable {X : Cx}
end
theorem rngL_nodup (i j : Int) : (rngL i j).Nodup := by
  unfold rngL
  rw [List.Nodup, List.pairwise_map]
  exact List.pairwise_lt_range.imp fun h => by omega
noncomputable def Kn (P : Program) (w : World) (K : PySem.W.Frag) (mg : Str -> Option Value) (base : Heap) (k : Nat) (x : Str) (ps : List Str) (sp : Sp) : Prop :=
  ∃ (f : Addr) (fd : FuncData), FnOk P w K mg base CX0 k f fd ps sp /\ mg x = some (.ref f) /\ PySem.W.keepIn K (.ref f) = true /\ Binds K fd ps []
theorem pe_kn {X : Cx} {k : Nat} {x : Str} {ps : List Str} {sp : Sp} {e : Expr} {es : List Expr} {t : TA} {p pos : Pos} (G : Kn X.prog X.w X.K X.mg X.base k x ps sp) (hr : Room k X.A) (ha : PA X (e :: es) t) (hg : Gl X x := by rfl)
    (hdb : (x == ("__debug__" : Str)) = false := by decide) (hs : starEach (e :: es) X.env = (false, eval e X.env) :: starEach es X.env := by rfl) (hplain : (backTo pos (starEach es X.env)).any (·.1) = false := by rfl) :
    PE X (.Call (.Name x p) (e :: es) [] pos) (tCall sp [] E0 t) := by
  obtain ⟨f, fd, F, hm, hk, hb⟩ := G
  exact pe_call F hr hg hm hk hb .nil pass0 ha hdb hs hplain
noncomputable def CpOk (XN fs : List Str) : List Str -> List (Option Nat) -> Prop
  | [], [] => True
  | _ :: N, none :: c => CpOk XN fs N c
  | x :: N, some j :: c => XN[j]? = some x /\ x ∈ fs /\ CpOk XN fs N c
  | _, _ => False
theorem CpOk.len {XN fs : List Str} : ∀ {N : List Str} {c : List (Option Nat)}, CpOk XN fs N c -> c.length = N.length
  | [], [], _ => rfl
  | _ :: N, none :: c, h => congrArg (· + 1) (CpOk.len (N := N) (c := c) h)
  | _ :: N, some j :: c, h => congrArg (· + 1) (CpOk.len (N := N) (c := c) h.2.2)
  | [], _ :: _, h => h.elim
  | _ :: _, [], h => h.elim
theorem CpOk.cp {XN fs : List Str} : ∀ {N : List Str} {c : List (Option Nat)}, CpOk XN fs N c -> ∀ (i j : Nat) (x : Str), N[i]? = some x -> c[i]? = some (some j) -> XN[j]? = some x /\ x ∈ fs
  | [], [], _, i, j, x, h1, _ => by simp at h1
  | y :: N, none :: c, h, i, j, x, h1, h2 => by
    cases i with
    | zero => simp at h2
    | succ i => exact CpOk.cp (N := N) (c := c) h i j x (by simpa using h1) (by simpa using h2)
  | y :: N, some k :: c, h, i, j, x, h1, h2 => by
    cases i with
    | zero =>
      simp at h1 h2
      subst h1 h2
      exact ⟨h.1, h.2.1⟩
    | succ i => exact CpOk.cp (N := N) (c := c) h.2.2 i j x (by simpa using h1) (by simpa using h2)
  | [], _ :: _, h, _, _, _, _, _ => h.elim
  | _ :: _, [], h, _, _, _, _, _ => h.elim
theorem cp_mk {X : Cx} {scope : Scope} {N : List Str} {cap : List (Option Nat)} (fs : List Str) (kind : scope.kind = .function) (nocell : ∀ y ∈ scope.names, y.2 ≠ .cell) (nm : ∀ y ∈ scope.names, y.2 = .local -> scope.names.lookup y.1 = some .local)
    (nolf : ∀ y ∈ scope.names, y.2 = .free -> scope.names.lookup y.1 ≠ some .local) (hf : ∀ y ∈ scope.names, y.2 = .free -> y.1 ∈ fs) (hfs : ∀ x ∈ fs, (x, NameKind.free) ∈ scope.names) (hk : ∀ x ∈ fs, X.env.kindOf x = some .cell \/ X.env.kindOf x = some .free) (cp : CpOk X.N fs N cap) : CpScope X scope N cap where
  kind := kind
  nocell := nocell
  nm := nm
  fr := fun y hy e => hk _ (hf y hy e)
  rl := fun y h => by
    have go : ∀ k, (k = NameKind.cell \/ k = NameKind.free) -> (relabel scope X.env).names.lookup y = some k -> (y, NameKind.free) ∈ scope.names := fun k hk e => by
      obtain ⟨⟨n', k'⟩, hm1, hm2⟩ := List.mem_map.mp (mem_look e)
      dsimp only at hm2
      split at hm2
      · rename_i hc
        cases hm2
        have : k' = .free := by
          simp only [Bool.and_eq_true] at hc
          simpa using hc.1.1
        subst this
        exact hm1
      · cases hm2
        rcases hk with rfl | rfl
        · exact absurd rfl (nocell _ hm1)
        · exact hm1
    rcases h with h | h
    · exact go _ (.inl rfl) h
    · exact go _ (.inr rfl) h
  len := cp.len
  nolf := fun x hx => nolf (x, .free) hx rfl
  cp := fun i j x h1 h2 => by
    obtain ⟨a, b⟩ := cp.cp i j x h1 h2
    exact ⟨a, hfs x b⟩
inductive Kd where
  | non | bl | int | str | lst | tup
  deriving DecidableEq
noncomputable def Kd.ty : Kd -> Value
  | .non => .type "NoneType" | .bl => .type "bool" | .int => .type "int" | .str => .type "str" | .lst => .type "list" | .tup => .type "tuple"
noncomputable def IsKd (H : Hp) (x : V) : Kd -> Prop
  | .non => x = .non
  | .bl => ∃ b, x = .bl b
  | .int => ∃ i, x = .int i
  | .str => ∃ s, x = .str s
  | .lst => ∃ a xs, x = .ref a /\ H a = some (.lst xs)
  | .tup => ∃ a xs, x = .ref a /\ H a = some (.tup xs)
theorem IsKd.tyOf {K : PySem.W.Frag} {H : Hp} {x : V} {k : Kd} (h : IsKd H x k) : TyOf K H x k.ty := by
  cases k with
  | non => cases h; exact .non
  | bl => obtain ⟨b, rfl⟩ := h; exact .bl b
  | int => obtain ⟨b, rfl⟩ := h; exact .int b
  | str => obtain ⟨b, rfl⟩ := h; exact .str b
  | lst => obtain ⟨a, xs, rfl, e⟩ := h; exact .lst e
  | tup => obtain ⟨a, xs, rfl, e⟩ := h; exact .tup e
theorem IsKd.same {H H' : Hp} {x : V} {k : Kd} (h : IsKd H x k) (s : Same H H') : IsKd H' x k := by
  cases k with
  | non => exact h
  | bl => exact h
  | int => exact h
  | str => exact h
  | lst => obtain ⟨a, xs, rfl, e⟩ := h; exact ⟨a, xs, rfl, s _ _ e⟩
  | tup => obtain ⟨a, xs, rfl, e⟩ := h; exact ⟨a, xs, rfl, s _ _ e⟩
theorem kit_int {K : PySem.W.Frag} (k : Kd) : PySem.W.kitOne K k.ty (.type "int") = some (decide (k = .int \/ k = .bl)) := by cases k <;> rfl
theorem kit_bool {K : PySem.W.Frag} (k : Kd) : PySem.W.kitOne K k.ty (.type "bool") = some (decide (k = .bl)) := by cases k <;> rfl
theorem kit_tuple {K : PySem.W.Frag} (k : Kd) : PySem.W.kitOne K k.ty (.type "tuple") = some (decide (k = .tup)) := by cases k <;> rfl
theorem kit_list {K : PySem.W.Frag} (k : Kd) : PySem.W.kitOne K k.ty (.type "list") = some (decide (k = .lst)) := by cases k <;> rfl
end L2
set_option Elab.async false
set_option linter.all false
set_option maxRecDepth 100000
set_option maxHeartbeats 4000000
namespace L2
open PySem PySem.Spec PyProof.Rows
section
variable {prog : Program} {w : World} {A : Around} {E : Value -> Shared -> Prop} {s : Shared}
end
noncomputable def Ite (K : PySem.W.Frag) (a : Addr) : It :=
  ⟨fun i H => ∃ xs x, SqT K H a xs /\ xs[i]? = some x, fun i H x H' => ∃ T, H T = none /\ x = .ref T /\ ∀ xs y, SqT K H a xs -> xs[i]? = some y -> H' = upd H T (.tup [.int i, y]), fun i H => ∃ xs, SqT K H a xs /\ xs.length = i⟩
theorem bt_enumerate : bootBuiltins "enumerate" = some (.type "enumerate") := by decide +kernel
section
variable {X : Cx}
noncomputable def iEnum (K : PySem.W.Frag) (ta : TA) : TI := fun σ H R => ta σ H fun vs H1 => ∃ a xs, vs = [.ref a] /\ SqT K H1 a xs /\ R (Ite K a) H1
end
end L2
set_option Elab.async false
set_option linter.all false
set_option maxRecDepth 100000
set_option maxHeartbeats 4000000
namespace L2
open PySem PySem.Spec PyProof.Rows
section
variable {prog : Program} {w : World} {A : Around} {E : Value -> Shared -> Prop} {s : Shared}
end
section
variable {X : Cx}
noncomputable def tRevT (K : PySem.W.Frag) (te : TE) : TE := fun σ H Q => te σ H fun x H1 => ∃ a xs, x = .ref a /\ SqT K H1 a xs /\ ∀ p, H1 p = none -> Q (.ref p) (upd H1 p (.tup xs.reverse))
noncomputable def rGetL (K : PySem.W.Frag) : V -> V -> Hp -> VK -> Prop := fun o i H Q => ∃ p xs k v, o = .ref p /\ i = .int k /\ SqL K H p xs /\ 0 <= k /\ xs[k.toNat]? = some v /\ Q v H
end
end L2
set_option Elab.async false
set_option linter.all false
set_option maxRecDepth 100000
set_option maxHeartbeats 4000000
namespace L2
open PySem PySem.Spec PyProof.Rows
section
variable {prog : Program} {w : World} {A : Around} {R : Result -> Shared -> Prop} {s : Shared}
end
noncomputable def InGoal (g : TG) (tc : TT) (te : TE) (D : Addr) (Nn : L2.St -> Hp -> Prop) (σ : L2.St) (J : It) (H1 : Hp) : Prop :=
  ∃ V : Nat -> Nat -> L2.St -> Hp -> Prop, (∃ m, V 0 m σ H1) /\ ∀ i m σ' H', V i m σ' H' ->
    (J.stop i H' /\ Nn σ' H') \/ (J.go i H' /\ ∀ x H2, J.yld i H' x H2 -> g x σ' H2 fun σ3 H3 => tc σ3 H3 fun b H4 =>
      if b = true then te σ3 H4 fun y H5 => ∃ ys, H5 D = some (.lst ys) /\ ys.length < sizeLine /\ ∃ m', m' < m /\ V (i + 1) m' σ3 (upd H5 D (.lst (ys ++ [y])))
      else ∃ m', m' < m /\ V (i + 1) m' σ3 H4)
noncomputable def LcGoal2 (cap : List (Option Nat)) (g : TG) (tc : TT) (wi2 : TI) (g2 : TG) (tc2 : TT) (te : TE) (σ : L2.St) (Q : VK) (J : It) (H1 : Hp) : Prop := ∀ D, H1 D = none ->
  ∃ W : Nat -> Nat -> L2.St -> Hp -> Prop, (∃ m, W 0 m (cap.map (capV σ)) (upd H1 D (.lst []))) /\ ∀ i m σ' H', W i m σ' H' ->
    (J.stop i H' /\ Q (.ref D) H') \/ (J.go i H' /\ ∀ x H2, J.yld i H' x H2 -> g x σ' H2 fun σ3 H3 => tc σ3 H3 fun b H4 =>
      if b = true then wi2 σ3 H4 (InGoal g2 tc2 te D (fun σ5 H5 => ∃ m', m' < m /\ W (i + 1) m' σ5 H5) σ3)
      else ∃ m', m' < m /\ W (i + 1) m' σ3 H4)
noncomputable def tLC2 (cap : List (Option Nat)) (wi : TI) (g : TG) (tc : TT) (wi2 : TI) (g2 : TG) (tc2 : TT) (te : TE) : TE := fun σ H Q => wi σ H (LcGoal2 cap g tc wi2 g2 tc2 te σ Q)
end L2
set_option Elab.async false
set_option linter.all false
set_option maxRecDepth 100000
set_option maxHeartbeats 4000000
namespace L2
open PySem PySem.Spec PyProof.Rows
open PySem.SeqAt
open PySem.AutoSeq1 (wpAny_loadPart')
open PySem.MeetsSeq PySem.MeetsSeq2 PySem.MeetsSeq3 PySem.SeqAt
theorem ints_get : ∀ {vs : List Value} {ns : List Int} {i : Nat}, IntsAre vs ns -> i < vs.length -> ∃ a t, vs[i]? = some (.int a t) /\ ns.drop i = a :: ns.drop (i + 1)
  | _, _, _, .nil, h => absurd h (by simp)
  | _, _, 0, .cons a t _, _ => ⟨a, t, rfl, rfl⟩
  | _, _, i + 1, .cons a t q, h => by
    obtain ⟨b, u, e, f⟩ := ints_get q (i := i) (by simpa using h)
    exact ⟨b, u, by simpa using e, by simpa using f⟩
theorem rcGt_int (A : Around) (s : Shared) (a : Int) (t : Tok) (c : Int) (u : Tok) (prog : Program) (w : World) (E : Value -> Shared -> Prop) (Q : Value -> Shared -> Prop) (h : Q (.bool (decide (c < a))) s) :
    wpAny (model prog w) A (richCompare .Gt (.int a t) (.int c u)) Q E s :=
  (PyProof.Rows.gt_int h : wpAny (model prog w) A (compareOp .Gt (.int a t) (.int c u)) Q E s)
theorem gt_loopI (l b : Addr) (items items2 : Array Value) (n n2 : Nat) (dd dd2 : Option Addr) (sl sl2 : Array (Option Value)) (ns ms : List Int) (hi : IntsAre items.toList ns) (hj : IntsAre items2.toList ms) (k : Nat) :
    ∀ i : Nat, items.size - i = k -> i <= items.size -> i <= items2.size -> Meets (Builtin.«list.__eq__.loop» ⟨[.ref l, .ref b, rawInt i, rawInt 4], []⟩)
      (fun _ R s => s.heap.get? l = some { cls := .type "list", dict := dd, data := .seq items n, slots := sl } /\ s.heap.get? b = some { cls := .type "list", dict := dd2, data := .seq items2 n2, slots := sl2 } /\
        R (.ok (.ret (.bool (HT.lexLt (ms.drop i) (ns.drop i))))) s) := by
  have z1 : items.size = ns.length := by rw [<- hi.length]; simp
  have z2 : items2.size = ms.length := by rw [<- hj.length]; simp
  have fin : ∀ i : Nat, i <= items.size -> i <= items2.size -> (i = items.size \/ i = items2.size) -> HT.lexLt (ms.drop i) (ns.drop i) = decide (items.size > items2.size) := fun i h1 h2 h => by
    rcases h with h | h
    · rw [List.drop_eq_nil_of_le (show ns.length <= i by omega), decide_eq_false (by omega)]
      cases ms.drop i <;> rfl
    · rw [List.drop_eq_nil_of_le (show ms.length <= i by omega)]
      by_cases c : i < ns.length
      · rw [decide_eq_true (by omega), List.drop_eq_getElem_cons c]; rfl
      · rw [decide_eq_false (by omega), List.drop_eq_nil_of_le (by omega)]; rfl
  induction k with
  | zero =>
    intro i hk h1 h2 prog w A R s h
    obtain ⟨hp, g, d, tk, os⟩ := s; obtain ⟨hl, hb, h⟩ := h
    wp_walk using wpAny_loadPart' hl, wpAny_loadPart' hb
    have hi1 : items[((i : Nat) : Int).toNat]? = none := by simp; omega
    rw [hi1]
    wp_walk using wpAny_loadPart' hl, wpAny_loadPart' hb
    rw [fin i h1 h2 (by omega)] at h
    exact h
  | succ k ih =>
    intro i hk h1 h2 prog w A R s h
    obtain ⟨hp, g, d, tk, os⟩ := s; obtain ⟨hl, hb, h⟩ := h
    wp_walk using wpAny_loadPart' hl, wpAny_loadPart' hb
    obtain ⟨a, t, ea, da⟩ := ints_get hi (i := i) (by simp; omega)
    have hi1 : items[((i : Nat) : Int).toNat]? = some (.int a t) := by simpa using ea
    rw [hi1]
    by_cases c : i < items2.size
    · obtain ⟨a', t', ea', da'⟩ := ints_get hj (i := i) (by simp; omega)
      have hi2 : items2[((i : Nat) : Int).toNat]? = some (.int a' t') := by simpa using ea'
      rw [hi2]
      have hc : ((i : Int) + 1) = ((i + 1 : Nat) : Int) := by push_cast; rfl
      rw [da, da', HT.lexLt_cons] at h
      obtain ⟨e, he, hiff⟩ := HT.eqAt_int A.in1 ⟨hp, g, d, tk, os⟩ a t a' t'
      refine wpAny_bind (he prog w _ _ ?_)
      cases e with
      | true =>
        rw [if_pos (hiff.mp rfl).symm] at h
        wp_walk
        rw [hc]
        exact ⟨plainId_quiet plain_eq_loop _, codeAny_builtin entry_eq_loop (by
          rw [Around.under_plainId plain_eq_loop _]
          exact ih (i + 1) (by omega) (by omega) (by omega) prog w A R _ ⟨hl, hb, h⟩)⟩
      | false =>
        rw [if_neg (fun q => absurd (hiff.mpr q.symm) Bool.false_ne_true)] at h
        wp_walk using wpAny_loadPart' hl, wpAny_loadPart' hb
        rw [hi1, hi2]
        have hri := rcGt_int A.in1 ⟨hp, g, d, tk, os⟩ a t a' t' prog w
        wp_walk using hri
        exact h
    · have hi2 : items2[((i : Nat) : Int).toNat]? = none := by simp; omega
      rw [hi2]
      wp_walk using wpAny_loadPart' hl, wpAny_loadPart' hb
      rw [fin i h1 h2 (by omega)] at h
      exact h
theorem list_gtI (l b : Addr) (items items2 : Array Value) (n n2 : Nat) (dd dd2 : Option Addr) (sl sl2 : Array (Option Value)) (ns ms : List Int) (hi : IntsAre items.toList ns) (hj : IntsAre items2.toList ms) :
    Meets (Builtin.«list.__gt__» ⟨[.ref l, .ref b], []⟩)
      (fun A R s => s.heap.get? l = some { cls := .type "list", dict := dd, data := .seq items n, slots := sl } /\ s.heap.get? b = some { cls := .type "list", dict := dd2, data := .seq items2 n2, slots := sl2 } /\
        R (.ok (.ret (.bool (HT.lexLt ms ns)))) s) := by
  intro prog w A R s h
  obtain ⟨hp, g, d, tk, os⟩ := s; obtain ⟨hl, hb, h⟩ := h
  have f3 := AutoSeq1.sub_list_list
  wp_walk using wpAny_loadPart' hl, wpAny_loadPart' hb
  exact ⟨plainId_quiet plain_eq_loop _, codeAny_builtin entry_eq_loop (by
    rw [Around.under_plainId plain_eq_loop _]
    exact gt_loopI l b items items2 n n2 dd dd2 sl sl2 ns ms hi hj _ 0 rfl (Nat.zero_le _) (Nat.zero_le _) prog w A R _ ⟨hl, hb, h⟩)⟩
section
variable {prog : Program} {w : World} {A : Around} {E : Value -> Shared -> Prop} {s : Shared}
theorem gt_lists {l b : Addr} {items items2 : Array Value} {ns ms : List Int} {Q : Value -> Shared -> Prop} (hl : s.heap.IsList l items) (hb : s.heap.IsList b items2) (hi : IntsAre items.toList ns) (hj : IntsAre items2.toList ms)
    (hu : A.units < cLine) (h : Q (.bool (HT.lexLt ms ns)) s) : wpAny (model prog w) A (compareOp .Gt (.ref l) (.ref b)) Q E s := by
  obtain ⟨⟨cls, dd, data, sl⟩, ho, hc, n, hd⟩ := id hl
  obtain ⟨⟨cls2, dd2, data2, sl2⟩, ho2, hc2, n2, hd2⟩ := id hb
  simp only at hc hd hc2 hd2
  subst hc hd hc2 hd2
  exact richCompare_meets_room (op := .Gt) ⟨_, ho, rfl⟩ ⟨_, ho2, rfl⟩ PySem.F.slot_list_gt PySem.F.entry_list_gt (PySem.F.args_list_gt_2 _ _) (list_gtI l b items items2 n n2 dd dd2 sl sl2 ns ms hi hj)
    ⟨ho, ho2, show Value.bool (HT.lexLt ms ns) ≠ Value.notImplemented /\ Q (.bool (HT.lexLt ms ns)) s from ⟨(fun x => nomatch x), h⟩⟩ hu
end
section
variable {X : Cx}
theorem op_fdivW : OpR X (binaryOp .FloorDiv) (rI (fun _ j => 0 < j /\ j < 18446744073709551616) fun i j => .int (i / j)) := opI fun i j _ _ _ _ _ hc q => by
  have h1 : (0 : Int) < j := hc.1
  have h2 : j < 18446744073709551616 := hc.2
  refine floordiv_int (by omega) (by rw [Int.fdiv_eq_ediv_of_nonneg i (by omega)]; exact q) (.inl (PyProof.noPylong_of_log2 ?_))
  exact Nat.lt_of_lt_of_le ((Nat.log2_lt (by omega)).mpr (show j.natAbs < 2 ^ 64 by omega)) (by decide)
noncomputable def rGtL (K : PySem.W.Frag) : R2 := fun x y H Q => ∃ a b ns ms, x = .ref a /\ y = .ref b /\ SqL K H a (ns.map V.int) /\ SqL K H b (ms.map V.int) /\ Q (.bl (HT.lexLt ms ns)) H
theorem op_gtL (hu : X.A.units < cLine) : OpR X (compareOp .Gt) (rGtL X.K) := by
  intro pins s σ H x y v u Q I rx ry h
  obtain ⟨a, b, ns, ms, rfl, rfl, ha, hb, q⟩ := h
  cases rx
  cases ry
  obtain ⟨its, r1, ⟨o1, n1, g1, c1, d1, s1⟩, _⟩ := I.list ha
  obtain ⟨its2, r2, ⟨o2, n2, g2, c2, d2, s2⟩, _⟩ := I.list hb
  have i1 : IntsAre its.toArray.toList ns := intsAre_of r1
  have i2 : IntsAre its2.toArray.toList ms := intsAre_of r2
  exact gt_lists ⟨o1, g1, c1, n1, s1⟩ ⟨o2, g2, c2, n2, s2⟩ i1 i2 hu ⟨.bl (HT.lexLt ms ns), H, I, rfl, q⟩
end
end L2
set_option Elab.async false
set_option linter.all false
set_option maxRecDepth 100000
set_option maxHeartbeats 4000000
namespace L2
open PySem PySem.Spec PyProof.Rows
noncomputable def Its (x : Str) : It := ⟨fun i _ => i < x.cps.size, fun i H v H' => H' = H /\ ∃ c, x.cps[i]? = some c /\ v = .str ⟨#[c]⟩, fun i _ => i = x.cps.size⟩
theorem turn_str {P : Program} {w : World} {K : PySem.W.Frag} {tg : Expr} (x : Str) (t : Tok) (it : Addr) : Turn P w K tg (Its x) [it] it (fun i h => h.IsStrIter it "str_ascii_iterator" x t i) where
  mem := by simp
  obj := fun i h st b hb => by
    have e : b = it := by simpa using hb
    subst e
    obtain ⟨o, e, c, d⟩ := st
    exact ⟨o, e, fun v z => by rw [d] at z; cases z⟩
  keep := fun i h h' st k => let ⟨o, ho, r⟩ := st; ⟨o, k it (by simp) o ho, r⟩
  item := by
    intro X hP hw hK hc i pins s σ H E I hf st hg
    subst hP hw hK
    obtain ⟨f0, f1, f2, f3, f4, f5⟩ := hf it (by simp)
    have W := Walks.strAscii (prog := X.prog) (w := X.w) (I.ok.hd hc) it x t
    refine W.item i s _ _ hg st fun v h' tk hv st' kk => ?_
    obtain ⟨c, u, hcx, rfl⟩ := hv
    have I1 : Inv X pins σ H { s with heap := h', toks := tk } := I.turned (fun b o hb e => kk b o (by simpa using hb) e) f0 f1 f3 f4 f5
    obtain ⟨o, e, cc, d⟩ := id st'
    exact ⟨_, rfl, go_of (s := { s with heap := h', toks := tk }) e cc d (by decide) ⟨.str ⟨#[c]⟩, H, I1, ⟨u, rfl⟩, ⟨rfl, c, hcx, rfl⟩, st', fun b hb => (hf b hb).1⟩⟩
  done := by
    intro X hP hw hK hc i pins s σ H E I hf st hg
    subst hP hw hK
    obtain ⟨f0, f1, f2, f3, f4, f5⟩ := hf it (by simp)
    have hg : i = x.cps.size := hg
    subst hg
    have W := Walks.strAscii (prog := X.prog) (w := X.w) (I.ok.hd hc) it x t
    exact W.done s _ _ st fun h' tk kk => ⟨rfl, I.turned (fun b o hb e => kk b o (by simpa using hb) e) f0 f1 f3 f4 f5⟩
  self := fun _ _ _ _ _ st h => wpAny_pyIter_striter_ascii st h
section
variable {X : Cx} {tg : Expr}
noncomputable def iStr (tl : TE) : TI := fun σ H R => tl σ H fun x H1 => ∃ y : Str, x = .str y /\ y.cps.all (· < 128) = true /\ R (Its y) H1
theorem pi_str {l : Expr} {tl : TE} (hl : PE X l tl) : PI X tg l (iStr tl) := by
  intro pins s σ H R I h
  refine thn (hl pins s σ H _ I h) fun v s1 ⟨x, H1, I1, r1, q1⟩ => ?_
  obtain ⟨y, e, ha, q⟩ := q1
  subst e
  obtain ⟨t, rfl⟩ := r1
  refine wpAny_pyIter_ascii ha ?_
  refine ⟨s1.heap.objs.size, [s1.heap.objs.size], _, _, H1, rfl, I1.kept (t' := s1.toks) fun b o e => Heap.get?_push_of_some _ e, turn_str y t _, ⟨_, Heap.get?_push_size _ rfl, rfl, rfl⟩, fun b hb => ?_, q⟩
  have e : b = s1.heap.objs.size := by simpa using hb
  subst e
  exact I1.fpOk (Nat.le_refl _) (I1.hok.fresh (Nat.le_refl _))
theorem call_intS : CallR X (.type "int") (fun xs H Q => ∃ (y : Str) (n : Int), xs = [.str y] /\ y.length <= 640 /\ PySem.intText? y = some n /\ Q (.int n) H) := by
  intro pins s σ H xs us Q I rv h
  obtain ⟨y, n, rfl, hl, hn, q⟩ := h
  obtain ⟨w, rfl, rw'⟩ := vals1 rv
  obtain ⟨u, rfl⟩ := rw'
  exact PySem.W.KIN.call_text hn hl ⟨.int n, H, I.tok _, ⟨_, rfl⟩, q⟩
end
end L2
set_option Elab.async false
set_option linter.all false
set_option maxRecDepth 100000
set_option maxHeartbeats 4000000
namespace L2
open PySem PySem.Spec PyProof.Rows
section
variable {κ : Type} [DecidableEq κ]
noncomputable def valV (kvs : List (κ × V)) (k : κ) : Option V := (kvs.find? fun kv => decide (kv.1 = k)).map (·.2)
noncomputable def putK (kvs : List (κ × V)) (k : κ) (v : V) : List (κ × V) :=
  if (kvs.any fun kv => decide (kv.1 = k)) = true then kvs.map (fun kv => if kv.1 = k then (kv.1, v) else kv) else kvs ++ [(k, v)]
noncomputable def dropK (kvs : List (κ × V)) (k : κ) : List (κ × V) := kvs.filter fun kv => decide (kv.1 ≠ k)
theorem valV_pos {p : κ × V} {r : List (κ × V)} {k : κ} (e : p.1 = k) : valV (p :: r) k = some p.2 := by simp [valV, List.find?_cons, e]
theorem valV_neg {p : κ × V} {r : List (κ × V)} {k : κ} (e : ¬ p.1 = k) : valV (p :: r) k = valV r k := by simp [valV, List.find?_cons, e]
theorem valV_any (k : κ) : ∀ kvs : List (κ × V), (kvs.any fun kv => decide (kv.1 = k)) = (valV kvs k).isSome
  | [] => rfl
  | p :: r => by
    rw [List.any_cons]
    by_cases e : p.1 = k
    · simp only [valV_pos e, decide_eq_true e, Bool.true_or, Option.isSome_some]
    · rw [valV_neg e, decide_eq_false e, Bool.false_or]; exact valV_any k r
theorem RelO.isSome_eq {o : Option V} {u : Option Value} (r : RelO o u) : o.isSome = u.isSome := by
  cases o with
  | none => cases u with
    | none => rfl
    | some _ => exact (show False from r).elim
  | some _ => cases u with
    | none => exact (show False from r).elim
    | some _ => rfl
theorem RelO.getD {o : Option V} {u : Option Value} {d : V} {d' : Value} (r : RelO o u) (rd : RelV d d') : RelV (o.getD d) (u.getD d') := by
  cases o with
  | none => cases u with
    | none => exact rd
    | some _ => exact (show False from r).elim
  | some _ => cases u with
    | none => exact (show False from r).elim
    | some _ => exact r
theorem KV.val {kvs : List (κ × V)} {vs : List (κ × Value)} (r : KV kvs vs) (k : κ) : RelO (valV kvs k) (valueAt vs k) := by
  unfold KV at r
  induction r with
  | nil => exact True.intro
  | @cons p q ps qs h t ih =>
    obtain ⟨h1, h2⟩ := h
    by_cases e : p.1 = k
    · have e' : q.1 = k := h1.symm.trans e
      have b : valueAt (q :: qs) k = some q.2 := by simp [valueAt, List.find?_cons, e']
      rw [valV_pos e, b]; exact h2
    · have e' : ¬ q.1 = k := fun z => e (h1.trans z)
      have b : valueAt (q :: qs) k = valueAt qs k := by simp [valueAt, List.find?_cons, e']
      rw [valV_neg e, b]; exact ih
theorem KV.any {kvs : List (κ × V)} {vs : List (κ × Value)} (r : KV kvs vs) (k : κ) : (kvs.any fun kv => decide (kv.1 = k)) = vs.any fun kv => decide (kv.1 = k) := by
  unfold KV at r
  induction r with
  | nil => rfl
  | cons h t ih => rw [List.any_cons, List.any_cons, ih, h.1]
theorem KV.repl {kvs : List (κ × V)} {vs : List (κ × Value)} (r : KV kvs vs) (k : κ) {y : V} {u : Value} (ry : RelV y u) :
    KV (kvs.map fun kv => if kv.1 = k then (kv.1, y) else kv) (vs.map fun kv => if kv.1 = k then (kv.1, u) else kv) := by
  unfold KV at r ⊢
  induction r with
  | nil => exact .nil
  | @cons p q ps qs h t ih =>
    rw [List.map_cons, List.map_cons]
    refine .cons ?_ ih
    obtain ⟨h1, h2⟩ := h
    by_cases e : p.1 = k
    · rw [if_pos e, if_pos (h1.symm.trans e)]; exact ⟨h1, ry⟩
    · rw [if_neg e, if_neg (fun z => e (h1.trans z))]; exact ⟨h1, h2⟩
theorem KV.put {kvs : List (κ × V)} {vs : List (κ × Value)} (r : KV kvs vs) (k : κ) {y : V} {u : Value} (ry : RelV y u) : KV (putK kvs k y) (stored vs k u) := by
  unfold putK stored
  rw [r.any k]
  by_cases e : (vs.any fun kv => decide (kv.1 = k)) = true
  · rw [if_pos e, if_pos e]; exact r.repl k ry
  · rw [if_neg e, if_neg e]; exact Paired.snoc r ⟨rfl, ry⟩
theorem KV.drop {kvs : List (κ × V)} {vs : List (κ × Value)} (r : KV kvs vs) (k : κ) : KV (dropK kvs k) (without vs k) := by
  unfold KV at r ⊢
  unfold dropK without
  induction r with
  | nil => exact .nil
  | @cons p q ps qs h t ih =>
    obtain ⟨h1, h2⟩ := h
    rw [List.filter_cons, List.filter_cons]
    by_cases e : p.1 = k
    · have a : ¬ decide (p.1 ≠ k) = true := by simp [e]
      have b : ¬ decide (q.1 ≠ k) = true := by simp [h1.symm.trans e]
      rw [if_neg a, if_neg b]; exact ih
    · have e' : ¬ q.1 = k := fun z => e (h1.trans z)
      have a : decide (p.1 ≠ k) = true := by simp [e]
      have b : decide (q.1 ≠ k) = true := by simp [e']
      rw [if_pos a, if_pos b]; exact .cons ⟨h1, h2⟩ ih
theorem KV.keys {kvs : List (κ × V)} {vs : List (κ × Value)} (r : KV kvs vs) : kvs.map (·.1) = vs.map (·.1) := by
  unfold KV at r
  induction r with
  | nil => rfl
  | cons h t ih => rw [List.map_cons, List.map_cons, ih, h.1]
theorem KV.length {kvs : List (κ × V)} {vs : List (κ × Value)} (r : KV kvs vs) : kvs.length = vs.length := Paired.length r
end
noncomputable abbrev KT (H : Hp) : List (List Key × V) -> List (List Key × Addr × Value) -> Prop := Paired fun p q => p.1 = q.1 /\ H q.2.1 = some (.tup (p.1.map kV)) /\ RelV p.2 q.2.2
theorem KT.val {H : Hp} {kvs : List (List Key × V)} {xs : List (List Key × Addr × Value)} (r : KT H kvs xs) (k : List Key) : RelO (valV kvs k) ((atKey xs k).map (·.2)) := by
  induction r with
  | nil => exact True.intro
  | @cons p q ps qs h t ih =>
    obtain ⟨h1, _, h2⟩ := h
    by_cases e : p.1 = k
    · have e' : q.1 = k := h1.symm.trans e
      have b : atKey (q :: qs) k = some q.2 := by simp [atKey, List.find?_cons, e']
      rw [valV_pos e, b]; exact h2
    · have e' : ¬ q.1 = k := fun z => e (h1.trans z)
      have b : atKey (q :: qs) k = atKey qs k := by simp [atKey, List.find?_cons, e']
      rw [valV_neg e, b]; exact ih
theorem KT.repl {H : Hp} {kvs : List (List Key × V)} {xs : List (List Key × Addr × Value)} (r : KT H kvs xs) (k : List Key) {y : V} {u : Value} (ry : RelV y u) :
    KT H (kvs.map fun kv => if kv.1 = k then (kv.1, y) else kv) (xs.map (putAt k u)) := by
  induction r with
  | nil => exact .nil
  | @cons p q ps qs h t ih =>
    rw [List.map_cons, List.map_cons]
    refine .cons ?_ ih
    obtain ⟨h1, h2, h3⟩ := h
    unfold putAt
    by_cases e : p.1 = k
    · rw [if_pos e, if_pos (h1.symm.trans e)]; exact ⟨h1, h2, ry⟩
    · rw [if_neg e, if_neg (fun z => e (h1.trans z))]; exact ⟨h1, h2, h3⟩
theorem KT.put {H : Hp} {kvs : List (List Key × V)} {xs : List (List Key × Addr × Value)} (r : KT H kvs xs) (k : List Key) {b : Addr} {y : V} {u : Value} (hb : H b = some (.tup (k.map kV))) (ry : RelV y u) :
    KT H (putK kvs k y) (storedH xs k b u) := by
  have e : (kvs.any fun kv => decide (kv.1 = k)) = (atKey xs k).isSome := by
    rw [valV_any, (r.val k).isSome_eq, Option.isSome_map]
  unfold putK storedH
  rw [e]
  by_cases q : (atKey xs k).isSome = true
  · rw [if_pos q, if_pos q]; exact r.repl k ry
  · rw [if_neg q, if_neg q]; exact Paired.snoc r ⟨rfl, hb, ry⟩
theorem KT.keeps {H H' : Hp} {kvs : List (List Key × V)} {xs : List (List Key × Addr × Value)} (r : KT H kvs xs) (ht : ∀ b ys, H b = some (.tup ys) -> H' b = some (.tup ys)) : KT H' kvs xs :=
  Paired.mapP r fun _ _ z => ⟨z.1, ht _ _ z.2.1, z.2.2⟩
section
variable {P : Program} {w : World} {H : Hp} {h : Heap} {a : Addr}
end
noncomputable def DGet (H : Hp) (a : Addr) (y : V) (r : Option V) : Prop :=
  (∃ kvs k, Rd H a (.dK kvs) /\ y = kV k /\ r = valV kvs k) \/ ∃ kvs k b, Rd H a (.dT kvs) /\ y = .ref b /\ H b = some (.tup (k.map kV)) /\ r = valV kvs k
noncomputable def DPut (H : Hp) (a : Addr) (y v : V) (H' : Hp) : Prop :=
  (∃ kvs k, H a = some (.dK kvs) /\ y = kV k /\ kvs.length < sizeLine /\ H' = upd H a (.dK (putK kvs k v))) \/
  ∃ kvs k b, H a = some (.dT kvs) /\ y = .ref b /\ H b = some (.tup (k.map kV)) /\ kvs.length < sizeLine /\ H' = upd H a (.dT (putK kvs k v))
theorem DGet.k {H : Hp} {a : Addr} {kvs : List (Key × V)} {k : Key} (e : H a = some (.dK kvs)) : DGet H a (kV k) (valV kvs k) := .inl ⟨kvs, k, .inl e, rfl, rfl⟩
theorem DGet.t {H : Hp} {a b : Addr} {kvs : List (List Key × V)} {k : List Key} (e : H a = some (.dT kvs)) (eb : H b = some (.tup (k.map kV))) : DGet H a (.ref b) (valV kvs k) := .inr ⟨kvs, k, b, .inl e, rfl, eb, rfl⟩
theorem DPut.k {H : Hp} {a : Addr} {kvs : List (Key × V)} {k : Key} {v : V} (e : H a = some (.dK kvs)) (hl : kvs.length < sizeLine) : DPut H a (kV k) v (upd H a (.dK (putK kvs k v))) := .inl ⟨kvs, k, e, rfl, hl, rfl⟩
theorem DPut.t {H : Hp} {a b : Addr} {kvs : List (List Key × V)} {k : List Key} {v : V} (e : H a = some (.dT kvs)) (eb : H b = some (.tup (k.map kV))) (hl : kvs.length < sizeLine) :
    DPut H a (.ref b) v (upd H a (.dT (putK kvs k v))) := .inr ⟨kvs, k, b, e, rfl, eb, hl, rfl⟩
section
variable {X : Cx} {pins : List (Addr × Obj)} {σ : St} {H : Hp} {s : Shared} {a : Addr} {y v : V} {u r : Value} {o : Option V} {A : Around} {E : Value -> Shared -> Prop}
end
section
variable {X : Cx} {pins : List (Addr × Obj)} {σ : St} {H : Hp} {s : Shared} {a : Addr} {kvs : List (Key × V)} {k : Key} {u : Value} {A : Around} {E : Value -> Shared -> Prop}
end
noncomputable def NoSl (i : Expr) : Prop := ∀ ov iv, subscripted i false ov iv = operate [ov, iv] (getItem ov iv)
noncomputable def tDGet (td ty : TE) : TE := fun σ H Q => td σ H fun x H1 => ty σ H1 fun y H2 => ∃ a v, x = .ref a /\ DGet H2 a y (some v) /\ Q v H2
noncomputable def tDIn (ty td : TE) : TE := fun σ H Q => ty σ H fun y H1 => td σ H1 fun x H2 => ∃ a o, x = .ref a /\ DGet H2 a y o /\ Q (.bl o.isSome) H2
noncomputable def tDNotIn (ty td : TE) : TE := fun σ H Q => ty σ H fun y H1 => td σ H1 fun x H2 => ∃ a o, x = .ref a /\ DGet H2 a y o /\ Q (.bl (!o.isSome)) H2
noncomputable def sDPut (td ty tv : TE) : TS := fun D σ H => tv σ H fun v H1 => td σ H1 fun x H2 => ty σ H2 fun y H3 => ∃ a H4, x = .ref a /\ DPut H3 a y v H4 /\ D.nx σ H4
noncomputable def sDAug (td ty tv : TE) (rd : V -> V -> Hp -> VK -> Prop) : TS := fun D σ H => td σ H fun x H1 => ty σ H1 fun y H2 => ∃ a v, x = .ref a /\ DGet H2 a y (some v) /\
  tv σ H2 fun y2 H3 => rd v y2 H3 fun z H4 => ∃ H5, DPut H4 a y z H5 /\ D.nx σ H5
noncomputable def sDDel (td ty : TE) : TS := fun D σ H => td σ H fun x H1 => ty σ H1 fun y H2 => ∃ a kvs k, x = .ref a /\ H2 a = some (.dK kvs) /\ y = kV k /\ (valV kvs k).isSome = true /\ D.nx σ (upd H2 a (.dK (dropK kvs k)))
section
variable {X : Cx} {o i e value : Expr} {pos pos' tpos : Pos} {td ty tv : TE}
end
noncomputable def tDNewK : TE := fun _ H Q => ∀ p, H p = none -> Q (.ref p) (upd H p (.dK []))
noncomputable def tDNewT : TE := fun _ H Q => ∀ p, H p = none -> Q (.ref p) (upd H p (.dT []))
section
variable {X : Cx} {pos : Pos}
end
noncomputable def tPairs : List (TE × TE) -> St -> Hp -> (List (V × V) -> Hp -> Prop) -> Prop
  | [], _, H, Q => Q [] H
  | (tk, tv) :: r, σ, H, Q => tk σ H fun x H1 => tv σ H1 fun y H2 => tPairs r σ H2 fun ps H3 => Q ((x, y) :: ps) H3
noncomputable abbrev VV : List (V × V) -> List (Value × Value) -> Prop := Paired fun p q => RelV p.1 q.1 /\ RelV p.2 q.2
noncomputable def PPs (X : Cx) (pos : Pos) (keys : List (Option Expr)) (values : List Expr) (trs : List (TE × TE)) : Prop :=
  ∀ (pins : List (Addr × Obj)) (s : Shared) (σ : St) (H : Hp) (Q : List (V × V) -> Hp -> Prop), Inv X pins σ H s -> tPairs trs σ H Q ->
    wpAny (model X.prog X.w) X.A (evalPairs (pairTrees keys values X.env pos)) (fun vs s' => ∃ ps H', Inv X pins σ H' s' /\ VV ps vs /\ Q ps H') X.xe s
noncomputable def mergeK (kvs more : List (Key × V)) : List (Key × V) := more.foldl (fun acc kv => putK acc kv.1 kv.2) kvs
theorem KV.merge : ∀ {more : List (Key × V)} {rs : List (Key × Value)} {kvs : List (Key × V)} {vs : List (Key × Value)}, KV more rs -> KV kvs vs -> KV (mergeK kvs more) (merged vs rs) := by
  intro more rs kvs vs r
  unfold KV at r
  induction r generalizing kvs vs with
  | nil => intro q; exact q
  | @cons p q ps qs h t ih =>
    intro r0
    have e : KV (putK kvs p.1 p.2) (stored vs q.1 q.2) := by
      have := r0.put p.1 h.2
      rw [<- h.1]; exact this
    exact ih e
noncomputable def tDisp (trs : List (TE × TE)) : TE := fun σ H Q => ∀ p, H p = none -> tPairs trs σ (upd H p (.dK [])) fun ps H2 => H2 p = some (.dK []) /\ ∃ kvs : List (Key × V), ps = kvs.map (fun kv => (kV kv.1, kv.2)) /\ kvs.length <= 15 /\ Q (.ref p) (upd H2 p (.dK (mergeK [] kvs)))
structure M1 (X : Cx) (o : Expr) (m : Str) (apos : Pos) (e : Expr) (cpos : Pos) : Prop where
  base : attributeBase o m X.env (eval o X.env) = eval o X.env
  few : ((backTo cpos (starEach [e] X.env)).all (fun x => !x.1) && (backToKw cpos (keywordEach [] X.env)).all (fun x => x.1.isSome)
    && decide (([e] : List Expr).length + ([] : List Keyword).length + (if ([] : List Keyword).isEmpty then 0 else 1) < 30)) = true
  line : (apos.endLine == cpos.line) = true
  trees : backTo cpos (starEach [e] X.env) = [(false, eval e X.env)]
structure M2 (X : Cx) (o : Expr) (m : Str) (apos : Pos) (e f : Expr) (cpos : Pos) : Prop where
  base : attributeBase o m X.env (eval o X.env) = eval o X.env
  few : ((backTo cpos (starEach [e, f] X.env)).all (fun x => !x.1) && (backToKw cpos (keywordEach [] X.env)).all (fun x => x.1.isSome)
    && decide (([e, f] : List Expr).length + ([] : List Keyword).length + (if ([] : List Keyword).isEmpty then 0 else 1) < 30)) = true
  line : (apos.endLine == cpos.line) = true
  trees : backTo cpos (starEach [e, f] X.env) = [(false, eval e X.env), (false, eval f X.env)]
noncomputable def IsD (H : Hp) (a : Addr) : Prop := (∃ kvs, Rd H a (.dK kvs)) \/ ∃ kvs, Rd H a (.dT kvs)
section
variable {X : Cx} {pins : List (Addr × Obj)} {σ : St} {H : Hp} {s : Shared} {a : Addr} {y d : V} {u r : Value} {o : Option V} {A : Around} {E : Value -> Shared -> Prop}
end
noncomputable def tDGet1 (td ty : TE) : TE := fun σ H Q => td σ H fun x H1 => ∃ a, x = .ref a /\ IsD H1 a /\ ty σ H1 fun y H2 => ∃ o, DGet H2 a y o /\ Q (o.getD .non) H2
noncomputable def tDGet2 (td ty tx : TE) : TE := fun σ H Q => td σ H fun x H1 => ∃ a, x = .ref a /\ IsD H1 a /\ ty σ H1 fun y H2 => tx σ H2 fun z H3 => ∃ o, DGet H3 a y o /\ Q (o.getD z) H3
noncomputable def tDPop1 (td ty : TE) : TE := fun σ H Q => td σ H fun x H1 => ∃ a, x = .ref a /\ IsD H1 a /\ ty σ H1 fun y H2 => ∃ kvs k v, H2 a = some (.dK kvs) /\ y = kV k /\ valV kvs k = some v /\ Q v (upd H2 a (.dK (dropK kvs k)))
noncomputable def tDPop2 (td ty tx : TE) : TE := fun σ H Q => td σ H fun x H1 => ∃ a, x = .ref a /\ IsD H1 a /\ ty σ H1 fun y H2 => tx σ H2 fun z H3 => ∃ kvs k, H3 a = some (.dK kvs) /\ y = kV k /\
  (∀ v, valV kvs k = some v -> Q v (upd H3 a (.dK (dropK kvs k)))) /\ (valV kvs k = none -> Q z H3)
section
variable {X : Cx} {o e f : Expr} {apos cpos : Pos} {td ty tx : TE}
end
section
variable {X : Cx} {pins : List (Addr × Obj)} {σ : St} {H : Hp} {s : Shared} {a : Addr} {kvs : List (Key × V)} {A : Around} {E : Value -> Shared -> Prop}
end
section
variable {X : Cx} {pins : List (Addr × Obj)} {σ : St} {H : Hp} {s : Shared} {a : Addr} {y : V} {u : Value} {A : Around} {E : Value -> Shared -> Prop}
end
end L2
set_option Elab.async false
set_option linter.all false
set_option maxRecDepth 100000
set_option maxHeartbeats 4000000
namespace L2
open PySem PySem.Spec PyProof.Rows
section
variable {X : Cx}
noncomputable def tDispT (tk tv : TE) : TE := fun σ H Q => ∀ p, H p = none -> tk σ (upd H p (.dT [])) fun x H1 => tv σ H1 fun y H2 => H2 p = some (.dT []) /\ ∃ b ks, x = .ref b /\ H2 b = some (.tup (ks.map kV)) /\ Q (.ref p) (upd H2 p (.dT [(ks, y)]))
noncomputable def rGetT : V -> List V -> Hp -> VK -> Prop := fun x vs H Q => ∃ a b ks kvs y, x = .ref a /\ vs = [.ref b, y] /\ H a = some (.dT kvs) /\ H b = some (.tup (ks.map kV)) /\ Q ((valV kvs ks).getD y) H
end
end L2
set_option Elab.async false
set_option linter.all false
set_option maxRecDepth 100000
set_option maxHeartbeats 4000000
namespace L2
open PySem PySem.Spec PyProof.Rows
section
variable {P : Program} {w : World} {A : Around} {E : Value -> Shared -> Prop} {s : Shared} {it d : Addr} {i ep : Nat} {es : Array DictEntry} {o : Obj} {k0 v0 : Value}
end
noncomputable def Itd (d : Addr) (o : Obj) (u : HO) (ps : List (Addr × V)) : It :=
  ⟨fun i H => ∃ a v, ps[i]? = some (a, v) /\ H d = some (.frz o u), fun i H x H' => ∃ T, H T = none /\ x = .ref T /\ ∀ a v, ps[i]? = some (a, v) -> H' = upd H T (.tup [.ref a, v]), fun i H => i = ps.length /\ H d = some (.frz o u)⟩
section
variable {X : Cx}
end
end L2
set_option Elab.async false
set_option linter.all false
set_option maxRecDepth 100000
set_option maxHeartbeats 4000000
namespace L2
open PySem PySem.Spec PyProof.Rows
section
variable {X : Cx}
noncomputable def iItems (to : TE) : TI := fun σ H R => to σ H fun x H1 => ∃ d kvs, x = .ref d /\ H1 d = some (.dT kvs) /\ ∀ (o : Obj) (ps : List (Addr × V)), ps.length = kvs.length -> (∀ (i : Nat) a v, ps[i]? = some (a, v) -> ∃ ks : List Key, kvs[i]? = some (ks, v) /\ H1 a = some (.tup (ks.map kV))) -> R (Itd d o (.dT kvs) ps) (upd H1 d (.frz o (.dT kvs)))
end
end L2
set_option Elab.async false
set_option linter.all false
set_option maxRecDepth 100000
set_option maxHeartbeats 4000000
namespace L2
open PySem PySem.Spec PyProof.Rows
noncomputable def C0 (e : Addr) (h : Heap) : Prop := ∃ o vs, h.get? e = some o /\ o.data = .fields vs /\ vs[2]? = some .none /\ o.dict = none
noncomputable def Kp2 (e : Addr) {α : Type} (m : Sem α) : Prop := ∀ (M : Model) (Γ : PySem.Ctx) (Q : α -> Pos -> Shared -> Prop) (E : Value -> Pos -> Shared -> Prop) (p : Pos) (s : Shared), Sem.wp M Γ m Q E p s -> C0 e s.heap -> Sem.wp M Γ m (fun a p s => Q a p s /\ C0 e s.heap) (fun v p s => E v p s /\ C0 e s.heap) p s
section
variable {e : Addr} {α β : Type}
theorem Kp2.bind {m : Sem α} {f : α -> Sem β} (h1 : Kp2 e m) (h2 : ∀ a, Kp2 e (f a)) : Kp2 e (m >>= f) := by
  intro M Γ Q E p s h c
  rw [Sem.wp_bind'] at h ⊢
  exact Sem.wp_mono M Γ m (fun a p' s' z => h2 a M Γ Q E p' s' z.1 z.2) (fun _ _ _ z => z) p s (h1 M Γ _ _ p s h c)
theorem Kp2.pure (a : α) : Kp2 e (pure a : Sem α) := fun M Γ Q E p s h c => by rw [Sem.wp_pure'] at h ⊢; exact ⟨h, c⟩
theorem Kp2.uns (w : String) : Kp2 e (PySem.unsupported w : Sem α) := fun M Γ Q E p s h c => by
  have h : Sem.wp M Γ (.unsupported w : Sem α) Q E p s := h
  rw [Sem.wp_unsupported] at h; exact h.elim
theorem Kp2.load (a : Addr) : Kp2 e (PySem.load a) := fun M Γ Q E p s h c => by
  have h : Sem.wp M Γ (.load a none .pure) Q E p s := h
  show Sem.wp M Γ (.load a none .pure) _ _ p s
  rw [Sem.wp_load] at h ⊢
  obtain ⟨o, ho, h⟩ := h
  rw [Sem.wp_pure] at h
  exact ⟨o, ho, by rw [Sem.wp_pure]; exact ⟨h, c⟩⟩
theorem C0.update {h : Heap} {a : Addr} {f : Obj -> Obj} (c : C0 e h) (hf : ∀ o vs, o.data = .fields vs -> vs[2]? = some .none -> ∃ ws, (f o).data = .fields ws /\ ws[2]? = some .none /\ (f o).dict = o.dict) : C0 e (h.update a f) := by
  obtain ⟨o, vs, h1, h2, h3, h4⟩ := c
  by_cases z : a = e
  · subst z
    obtain ⟨ws, w1, w2, w3⟩ := hf o vs h2 h3
    exact ⟨f o, ws, Heap.get?_update_self f h1 (Obj.isFreed_of_fields w1), w1, w2, w3.trans h4⟩
  · exact ⟨o, vs, by rw [Heap.get?_update_other _ _ z]; exact h1, h2, h3, h4⟩
theorem Kp2.update (a : Addr) (f : Obj -> Obj) (hf : ∀ o vs, o.data = .fields vs -> vs[2]? = some .none -> ∃ ws, (f o).data = .fields ws /\ ws[2]? = some .none /\ (f o).dict = o.dict) : Kp2 e (PySem.update a f) := fun M Γ Q E p s h c => by
  have h : Sem.wp M Γ (.update a none f .pure) Q E p s := h
  show Sem.wp M Γ (.update a none f .pure) _ _ p s
  rw [Sem.wp_update] at h ⊢
  obtain ⟨ho, h⟩ := h
  rw [Sem.wp_pure] at h
  exact ⟨ho, by rw [Sem.wp_pure]; exact ⟨h, c.update hf⟩⟩
theorem Kp2.alloc (o : Obj) : Kp2 e (PySem.alloc o) := fun M Γ Q E p s h c => by
  have h : Sem.wp M Γ (.alloc o .pure) Q E p s := h
  show Sem.wp M Γ (.alloc o .pure) _ _ p s
  rw [Sem.wp_alloc, Sem.wp_pure] at h ⊢
  obtain ⟨ob, vs, h1, h2, h3, h4⟩ := c
  exact ⟨h, ob, vs, Heap.get?_push_of_some _ h1, h2, h3, h4⟩
theorem Kp2.stack : Kp2 e PySem.stack := fun M Γ Q E p s h c => by
  have h : Sem.wp M Γ (.stack .pure) Q E p s := h
  show Sem.wp M Γ (.stack .pure) _ _ p s
  rw [Sem.wp_stack, Sem.wp_pure] at h ⊢
  exact ⟨h, c⟩
theorem Kp2.ite {c : Prop} [Decidable c] {a b : Sem α} (h1 : Kp2 e a) (h2 : Kp2 e b) : Kp2 e (if c then a else b) := by
  split
  · exact h1
  · exact h2
theorem Kp2.field (v : Value) (i : Nat) : Kp2 e (PySem.field v i) := by
  unfold PySem.field PySem.fieldsOf
  refine Kp2.bind ?_ fun vs => ?_
  · split
    · refine Kp2.bind (Kp2.load _) fun o => ?_
      split
      · exact Kp2.pure _
      · exact Kp2.uns _
    · exact Kp2.uns _
  · split
    · exact Kp2.pure _
    · exact Kp2.uns _
theorem Kp2.behind (env : Env) (outer : List Env) : Kp2 e (behindIsImport env outer) := by
  unfold behindIsImport
  refine Kp2.ite (Kp2.pure _) (Kp2.ite (Kp2.pure _) (Kp2.bind (Kp2.field _ _) fun _ => Kp2.pure _))
theorem Kp2.under : Kp2 e underTheClaimsCaller := by
  unfold underTheClaimsCaller
  exact Kp2.bind Kp2.stack fun _ => Kp2.pure _
theorem Kp2.kept (env : Env) (b : Bool) (l : List Env) : Kp2 e (keptBack env b l) := by
  unfold keptBack
  split
  · refine Kp2.ite (Kp2.pure _) (Kp2.bind Kp2.under fun _ => Kp2.pure _)
  · exact Kp2.pure _
theorem Kp2.place (f : Addr) (b : Bool) : Kp2 e (entryPlaceOf f b) := by
  unfold entryPlaceOf
  refine Kp2.bind Kp2.stack fun _ => ?_
  split
  · exact Kp2.pure _
  · exact Kp2.pure _
theorem Kp2.entry (a b c d f : Value) (l : List Value) : Kp2 e (EntryCells.newEntry a b c d f l) := by
  unfold EntryCells.newEntry newFields newObj
  repeat (first | exact Kp2.pure _ | exact Kp2.uns _ | refine Kp2.bind (Kp2.alloc _) fun _ => ?_ | refine Kp2.bind (Kp2.uns _) fun _ => ?_ | refine Kp2.ite ?_ ?_ | (refine Kp2.bind ?_ fun _ => ?_))
theorem Kp2.any {m : Sem α} {M : Model} {A : Around} {Q : α -> Shared -> Prop} {E : Value -> Shared -> Prop} {s : Shared} (k : Kp2 e m) (h : wpAny M A m Q E s) (c : C0 e s.heap) : wpAny M A m (fun a s' => Q a s' /\ C0 e s'.heap) (fun v s' => E v s' /\ C0 e s'.heap) s :=
  fun Γ p hΓ => k M Γ _ _ p s (h Γ p hΓ) c
end
end L2
set_option Elab.async false
set_option linter.all false
set_option maxRecDepth 100000
set_option maxHeartbeats 4000000
namespace L2
open PySem PySem.Spec PyProof.Rows
theorem ObjOk.here {P : Program} {w : World} {H : Hp} {h : Heap} {a : Addr} {o : HO} (x : ObjOk P w H h a o) : ∃ ob, h.get? a = some ob := by
  cases o with
  | lst xs => obtain ⟨_, _, _, _, e⟩ := x; exact ⟨_, e⟩
  | tup xs => obtain ⟨_, _, _, p⟩ := x; obtain ⟨o, e, _⟩ := p; exact ⟨_, e⟩
  | dK kvs => obtain ⟨_, _, _, _, o, _, _, e, _⟩ := x; exact ⟨_, e⟩
  | dT kvs => obtain ⟨_, _, _, _, o, _, _, e, _⟩ := x; exact ⟨_, e⟩
  | set S n => obtain ⟨o, _, _, _, e, _⟩ := x; exact ⟨_, e⟩
  | ins C dx fs => obtain ⟨_, _, _, e, _⟩ := x; exact ⟨_, e⟩
  | own y => exact x
  | xd fs => obtain ⟨_, ⟨_, _, _, e, _⟩, _⟩ := x; exact ⟨_, e⟩
  | rng lo hi => obtain ⟨_, _, _, e⟩ := x; exact ⟨_, e⟩
  | frz ob u => obtain ⟨e, _⟩ := x; exact ⟨_, e⟩
  | tbl ps => exact ⟨_, (show h.get? a = some _ from x)⟩
  | met f y => exact ⟨_, (show h.get? a = some _ from x)⟩
  | ext φ => obtain ⟨_, ⟨o, e⟩, _⟩ := x; exact ⟨_, e⟩
structure Fly (l : List Env) (g : Heap) (pn : List (Addr × Obj)) (H : Hp) (e : Addr) (cls : Value) (h : Heap) : Prop where
  ex : ∃ (B : Heap) (a0 : Value), Heap.FlyingW B l e cls a0 h /\ (∀ a u, H a = some u -> ∃ o, B.get? a = some o) /\ (∀ b o, g.get? b = some o -> b ∉ frs l -> ∃ o', B.get? b = some o') /\ (∀ p ∈ pn, ∃ o', B.get? p.1 = some o') /\ C0 e h
structure Made (X : Cx) (H : Hp) (e : Addr) (cls : Value) (g : Heap) (h : Heap) : Prop where
  ex : ∃ (g' : Heap) (vs : List Value), Heap.MadeExcOf g' h e cls vs /\ g'.FunFrames X.base X.stack /\ (∀ a u, H a = some u -> ∃ o, g'.get? a = some o) /\ (∀ b o, g.get? b = some o -> ∃ o', g'.get? b = some o') /\ (∀ p ∈ X.pn, ∃ o', g'.get? p.1 = some o')
noncomputable def Raised (X : Cx) (H : Hp) (e : Addr) (cls : Value) (s' : Shared) : Prop := Made X H e cls X.s₀.heap s'.heap \/ Fly X.stack X.s₀.heap X.pn H e cls s'.heap
section
variable {X : Cx} {pins : List (Addr × Obj)} {σ : L2.St} {H : Hp} {s' : Shared} {e : Addr} {cls : Value}
end
noncomputable def CXA (P : Program) (w : World) : CXT := fun outer H s E e s'' => ∃ ea cls H', e = .ref ea /\ s''.os = s.os /\ AllBare s''.gens /\ Un (frs outer) [] H H' s.heap s''.heap /\ HOk P w H' s''.heap /\ Fly outer s.heap [] H' ea cls s''.heap /\ E cls none H'
section
variable {P : Program} {w : World} {K : PySem.W.Frag} {mg : Str -> Option Value} {base : Heap} {N : List Str} {qual : Str} {scope : Scope} {f : Addr} {cd : Value} {A : Around} {outer : List Env} {s : Shared} {H : Hp} {E : XK}
noncomputable def EX (X : Cx) : XK := fun cls _ H' => X.ex = [] /\ ∀ pins σ' s' e, Inv X pins σ' H' s' -> Raised X H' e cls s' -> X.xe (.ref e) s'
noncomputable def tRaise (X : Cx) (C : Addr) (t : TA) : TS := fun _ σ H => t σ H fun vs H' => vs.length <= sizeLine /\ EX X (.ref C) none H'
end
end L2
set_option Elab.async false
set_option linter.all false
set_option maxRecDepth 100000
set_option maxHeartbeats 4000000
namespace L2
open PySem PySem.Spec PyProof.Rows
noncomputable def tParts : List (Str ⊕ TE) -> St -> Hp -> (Hp -> Prop) -> Prop
  | [], _, H, k => k H
  | .inl x :: ps, σ, H, k => x.length <= 1000 /\ tParts ps σ H k
  | .inr t :: ps, σ, H, k => t σ H fun v H' => ∃ i, v = .int i /\ i.natAbs.log2 < 64 /\ tParts ps σ H' k
inductive FParts (X : Cx) : List Expr -> List (Str ⊕ TE) -> Prop
  | nil : FParts X [] []
  | txt {x : Str} {j pos} {es : List Expr} {ps : List (Str ⊕ TE)} (h : FParts X es ps) : FParts X (.Constant (.str x) j pos :: es) (.inl x :: ps)
  | val {e : Expr} {pos : Pos} {t : TE} {es : List Expr} {ps : List (Str ⊕ TE)} (he : PE X e t) (h : FParts X es ps) : FParts X (.FormattedValue e (-1) none pos :: es) (.inr t :: ps)
noncomputable def tFs (ps : List (Str ⊕ TE)) : TE := fun σ H Q => tParts ps σ H fun H' => ∀ x : Str, x.length <= sizeLine -> Q (.str x) H'
end L2
set_option Elab.async false
set_option linter.all false
set_option maxRecDepth 100000
set_option maxHeartbeats 4000000
namespace L2
open PySem PySem.Spec PyProof.Rows
noncomputable def Cx.tryb (X : Cx) (pn' : List (Addr × Obj)) (xe' : Value -> Shared -> Prop) : Cx := { X with xe := xe', pn := pn' }
noncomputable def xu : HO := .ext fun _ => True
noncomputable def Cx.hand (X : Cx) (pn' : List (Addr × Obj)) (e : Addr) (oe : Obj) : Cx := { X with A := X.A.mark (some (.ref e)), calm := false, xe := fun _ _ => False, pn := pn', H₀ := upd X.H₀ e (.frz oe xu) }
structure XO (C : Addr) (o : Obj) : Prop where
  cls : o.cls = .ref C
  dict : o.dict = none
  ctx : ∃ vs, o.data = .fields vs /\ vs[2]? = some .none
structure Fr0 (X : Cx) (e : Addr) : Prop where
  no : ∀ o, X.s₀.heap.get? e ≠ some o
  tup : ∀ xs, X.H₀ e ≠ some (.tup xs)
  frz : ∀ o u, X.H₀ e ≠ some (.frz o u)
  tbl : ∀ ps, X.H₀ e ≠ some (.tbl ps)
section
variable {X : Cx} {pins : List (Addr × Obj)} {σ : L2.St} {H : Hp} {s' : Shared} {e : Addr} {cls : Value}
end
section
variable {X : Cx} {pn' pins : List (Addr × Obj)} {xe' : Value -> Shared -> Prop} {σ : L2.St} {H : Hp} {s' : Shared} {e C : Addr} {B h6 : Heap} {a0 : Value}
end
section
variable {X : Cx} {pins : List (Addr × Obj)} {σ : L2.St} {H : Hp} {s : Shared}
theorem Inv.tryb (I : Inv X pins σ H s) (xe' : Value -> Shared -> Prop) : Inv (X.tryb (X.pn ++ pins) xe') [] σ H s :=
  ⟨⟨I.ok.mod, I.ok.kind, I.ok.glob, I.ok.blt, I.ok.above, I.ok.inj, I.ok.has, I.ok.cab, I.ok.hd, I.ok.frames, I.ok.stk, I.ok.exf, I.ok.bs, I.ok.bsz, I.ok.noex, I.ok.exfs, I.ok.funs, I.ok.frf⟩, I.os, I.bare, I.base, I.loc, I.cell, I.free, I.freeC, fun p hp => I.pin p (by
    have hp : p ∈ (X.pn ++ pins) ++ [] := hp
    rwa [List.append_nil] at hp), I.hok, I.len⟩
end
section
variable {M : Model} {A : Around} {E : Value -> Shared -> Prop} {h : Heap} {g : Array GenState} {d : Drawn} {t : Nat} {os : OsState} {C N D N' : Addr} {nm q nm' q' : Str} {bs bm bs' bm' : List Value} {hdct hdct' : Bool} {sn sn' : List Str} {sub sub' : List Value} {ab ab' : Bool} {col col' : Option Bool} {dd dd' : Option Addr} {k0 k1 k2 k3 k5 k0' k1' k2' k3' k5' : Option Value} {newId newId' : String}
end
noncomputable def mroIn (K : PySem.W.Frag) (C : Addr) : Option (List Value) := match K.lookup C with
  | some ⟨.type "type", _, .cls cd, sl⟩ => (match cd.mro, sl.toList with
    | .ref C' :: bm, [_, _, _, _, some (.builtin _), _] => if C' = C /\ cd.hasDel = false then some bm else none
    | _, _ => none)
  | _ => none
structure ClsAt (h : Heap) (C : Addr) (bm : List Value) : Prop where
  ex : ∃ nm q N bs hdct sn sub ab col dd k0 k1 k2 k3 k5 newId, h.get? C = some (excClassObj nm q C N bs bm hdct sn sub ab col dd k0 k1 k2 k3 k5 newId)
noncomputable def unD (i : Nat) (D : Ends) : Ends := ⟨fun σ H => D.nx (σ.set i none) H, D.rt, fun σ H => D.bk (σ.set i none) H, fun σ H => D.ct (σ.set i none) H⟩
section
variable {X : Cx} {pins pins' : List (Addr × Obj)} {xe' : Value -> Shared -> Prop} {σ : L2.St} {H : Hp} {s' : Shared} {e C Dc : Addr} {bm bmD : List Value} {x n : Str} {i : Nat} {De : Ends} {b0 : Stmt} {suite : List Stmt} {np hp : Pos}
end
end L2
set_option Elab.async false
set_option linter.all false
set_option maxRecDepth 100000
set_option maxHeartbeats 4000000
namespace L2
open PySem PySem.Spec PyProof.Rows
open PySem.W in
structure XCls (K : PySem.W.Frag) (C : Addr) : Prop where
  ga : findIn K (.ref C) "__getattribute__" = some (some (.builtin "BaseException.__getattribute__"))
  gt : findIn K (.ref C) "__getattr__" = some none
  fc : findObj K C none "__class__" = some (.bind (.builtin "getset_descriptor.__get__") (.builtin "object.__class__"))
  ob : PySem.W.mroIn K C (.type "object") = some true
  bs : subIn K (.ref C) (.type "BaseException") = some true
section
open PySem.W
variable {K : PySem.W.Frag} {C a : Addr} {ox : Obj} {prog : Program} {w : World} {A : Around} {E : Value -> Shared -> Prop} {h : Heap} {g : Array GenState} {d : Drawn} {t : Nat} {os : OsState}
noncomputable def XIn (C a : Addr) : Heap -> Prop := fun h => ∃ ox, PySem.W.InstAt h a ox C none
end
section
variable {X : Cx} {C : Addr} {pins : List (Addr × Obj)} {σ : L2.St} {H : Hp} {s : Shared}
end
end L2
set_option Elab.async false
set_option linter.all false
set_option maxRecDepth 100000
set_option maxHeartbeats 4000000
namespace L2
open PySem PySem.Spec PyProof.Rows
section
variable {prog : Program} {w : World} {A : Around} {E : Value -> Shared -> Prop} {s : Shared} {e n : Addr} {oe on : Obj} {vs ns : Array Value}
end
section
variable {X : Cx} {e C : Addr} {oe : Obj}
end
end L2
set_option Elab.async false
set_option linter.all false
set_option maxRecDepth 100000
set_option maxHeartbeats 4000000
namespace L2
open PySem PySem.Spec PyProof.Rows
noncomputable def calmed (A : Around) : Around := { A with handled := none }
noncomputable def RoomH (k : Nat) (A : Around) : Prop := Room k (calmed A)
structure Hnd (A : Around) (H : Hp) (e : Addr) (oe : Obj) (C : Addr) : Prop where
  hh : A.handled = some (.ref e)
  h0 : H e = some (.frz oe xu)
  xo : XO C oe
structure FnOkH (P : Program) (w : World) (K : PySem.W.Frag) (mg : Str -> Option Value) (base : Heap) (k : Nat) (f : Addr) (fd : FuncData) (ps : List Str) (sp : Sp) : Prop where
  len : ∀ vs H Q E, sp vs H Q E -> vs.length = ps.length
  run : ∀ (A : Around) (outer : List Env) (s : Shared) (H : Hp) (args : Args) (us : List Value) (vs : List V) (Q : VK) (e : Addr) (oe : Obj) (C : Addr), RoomH k A -> Hnd A H e oe C -> Env0 P w K mg base A outer s H -> BindsTo s fd args (ps.zip us) -> Vals vs us -> sp vs H Q E0 ->
    codeAny (model P w) A (.call (.ref f) args) (CR CX0 outer P w H s Q E0) s
noncomputable def cxH (P : Program) (w : World) (K : PySem.W.Frag) (mg : Str -> Option Value) (base : Heap) (N : List Str) (qual : Str) (scope : Scope) (f : Addr) (cd : Value) (A : Around) (outer : List Env) (s : Shared) (H : Hp) : Cx :=
  { cxOf CX0 P w K mg base N qual scope f cd A outer s H E0 with calm := false, xe := fun _ _ => False }
noncomputable def KnH (P : Program) (w : World) (K : PySem.W.Frag) (mg : Str -> Option Value) (base : Heap) (k : Nat) (x : Str) (ps : List Str) (sp : Sp) : Prop :=
  ∃ (f : Addr) (fd : FuncData), FnOkH P w K mg base k f fd ps sp /\ mg x = some (.ref f) /\ PySem.W.keepIn K (.ref f) = true /\ Binds K fd ps []
end L2
set_option Elab.async false
set_option linter.all false
set_option maxRecDepth 100000
set_option maxHeartbeats 4000000
namespace L2
open PySem PySem.Spec PyProof.Rows PySem.SeqAt
noncomputable def rIdx (K : PySem.W.Frag) (tup : Bool) : V -> List V -> Hp -> VK -> Prop := fun x vs H Q => ∃ (p : Addr) (y : V) (xs : List V) (k : Nat) (z : V), x = .ref p /\ vs = [y] /\ (if tup = true then SqT K H p xs else SqL K H p xs) /\ flatV y = true /\ xs.all flatV = true /\ xs[k]? = some z /\ eqV z y = true /\ (∀ (m : Nat) (z' : V), m < k -> xs[m]? = some z' -> eqV z' y = false) /\ Q (.int k) H
section
variable {X : Cx}
noncomputable def tIdx (K : PySem.W.Frag) (to : TE) (t : TA) : TE := fun σ H Q => to σ H fun x H1 => ∃ (b : Bool) (p : Addr) (xs : List V), x = .ref p /\ (if b = true then SqT K H1 p xs else SqL K H1 p xs) /\ t σ H1 fun vs H2 => rIdx K b x vs H2 Q
end
end L2
set_option Elab.async false
set_option linter.all false
set_option maxRecDepth 100000
set_option maxHeartbeats 4000000
namespace L2
open PySem PySem.Spec PyProof.Rows PySem.SeqAt
section
variable {X : Cx} {pos : Pos} {a b : Expr}
end
end L2
set_option Elab.async false
set_option linter.all false
set_option maxRecDepth 100000
set_option maxHeartbeats 4000000
namespace L2
open PySem PySem.Spec PyProof.Rows PySem.SeqAt
noncomputable def Itz (K : PySem.W.Frag) (l1 l2 : Addr) : It :=
  ⟨fun i H => ∃ xs ys x y, SqL K H l1 xs /\ SqL K H l2 ys /\ xs[i]? = some x /\ ys[i]? = some y,
   fun i H v H' => ∃ T, H T = none /\ v = .ref T /\ ∀ xs ys x y, SqL K H l1 xs -> SqL K H l2 ys -> xs[i]? = some x -> ys[i]? = some y -> H' = upd H T (.tup [x, y]),
   fun i H => ∃ xs ys, SqL K H l1 xs /\ SqL K H l2 ys /\ (xs[i]? = none \/ ys[i]? = none)⟩
section
variable {X : Cx}
noncomputable def iZip (K : PySem.W.Frag) (ta : TA) : TI := fun σ H R => ta σ H fun vs H1 => ∃ a b xs ys, vs = [.ref a, .ref b] /\ SqL K H1 a xs /\ SqL K H1 b ys /\ R (Itz K a b) H1
end
end L2
set_option Elab.async false
set_option linter.all false
set_option maxRecDepth 100000
set_option maxHeartbeats 4000000
namespace L2
open PySem PySem.Spec PyProof.Rows PySem.SeqAt
section
variable {prog : Program} {w : World} {A : Around} {E : Value -> Shared -> Prop} {s : Shared}
end
noncomputable def IsLri (h : Heap) (a l : Addr) (i : Int) : Prop := ∃ o, h.get? a = some o /\ o.cls = .type "list_reverseiterator" /\ o.data = .fields #[.ref l, rawInt i]
theorem IsLri.typeIs {s : Shared} {a l : Addr} {i : Int} (x : IsLri s.heap a l i) : s.TypeIs (.ref a) "list_reverseiterator" := let ⟨o, ho, hc, _⟩ := x; ⟨o, ho, hc⟩
theorem IsLri.at {h h' : Heap} {a l : Addr} {i : Int} (x : IsLri h a l i) (k : ∀ o, h.get? a = some o -> h'.get? a = some o) : IsLri h' a l i := let ⟨o, ho, r⟩ := x; ⟨o, k o ho, r⟩
section
variable {prog : Program} {w : World} {A : Around} {E : Value -> Shared -> Prop} {s : Shared}
end
noncomputable def Itv (K : PySem.W.Frag) (a : Addr) (n : Nat) : It :=
  ⟨fun i H => i < n /\ ∃ xs x, SqL K H a xs /\ xs[n - 1 - i]? = some x, fun i H x H' => H' = H /\ ∀ xs y, SqL K H a xs -> xs[n - 1 - i]? = some y -> x = y, fun i H => n <= i⟩
section
variable {X : Cx}
noncomputable def iRev (K : PySem.W.Frag) (ta : TA) : TI := fun σ H R => ta σ H fun vs H1 => ∃ a xs, vs = [.ref a] /\ SqL K H1 a xs /\ R (Itv K a xs.length) H1
end
end L2
set_option Elab.async false
set_option linter.all false
set_option maxRecDepth 100000
set_option maxHeartbeats 4000000
namespace L2
open PySem PySem.Spec PyProof.Rows
noncomputable def Itel (K : PySem.W.Frag) (a : Addr) : It :=
  ⟨fun i H => ∃ xs x, SqL K H a xs /\ xs[i]? = some x, fun i H x H' => ∃ T, H T = none /\ x = .ref T /\ ∀ xs y, SqL K H a xs -> xs[i]? = some y -> H' = upd H T (.tup [.int i, y]), fun i H => ∃ xs, SqL K H a xs /\ xs.length = i⟩
theorem turn_enumL {P : Program} {w : World} {K : PySem.W.Frag} {elts : List Expr} {x1 : Nat} {tpos : Pos} (a e it : Addr) (hei : e ≠ it) : Turn P w K (.Tuple elts x1 tpos) (Itel K a) [e, it] e (fun i h => (∃ old, IsEnum h e it i old) /\ h.IsListIter it a i) where
  mem := by simp
  obj := fun i h st b hb => by
    obtain ⟨⟨old, st1⟩, st2⟩ := st
    have hb' : b = e \/ b = it := by simpa using hb
    rcases hb' with rfl | rfl
    · exact ⟨_, st1, fun v z => by cases z⟩
    · obtain ⟨o, e, c, d⟩ := st2
      exact ⟨o, e, fun v z => by rw [d] at z; cases z⟩
  keep := fun i h h' st k => by
    obtain ⟨⟨old, st1⟩, st2⟩ := st
    exact ⟨⟨old, k e (by simp) _ st1⟩, st2.at fun o ho => k it (by simp) o ho⟩
  item := by
    intro X hP hw hK hc i pins s σ H E I hf st hg
    subst hP hw hK
    obtain ⟨⟨old, st1⟩, st2⟩ := st
    obtain ⟨xs, x, hq, hx⟩ := hg
    obtain ⟨its, rv, p, hz⟩ := I.list hq
    obtain ⟨u, hu, ru⟩ := rv.get hx
    have hia : a ≠ it := by
      obtain ⟨o, ho, hc1, _⟩ := p.isList
      obtain ⟨o2, ho2, hc2, _⟩ := st2
      intro z
      rw [z, ho2] at ho
      cases ho
      rw [hc1] at hc2
      exact absurd (Value.type.inj hc2) (by decide)
    have hea : e ≠ a := by
      obtain ⟨o, ho, hc1, _⟩ := p.isList
      intro z
      rw [<- z, st1] at ho
      cases ho
      exact absurd (Value.type.inj hc1) (by decide)
    have hlt : i < its.toArray.size := by
      rw [List.size_toArray]
      exact (List.getElem?_eq_some_iff.mp hu).1
    refine wpAny_pyNext_enum_itemD (Draws.list (A := X.A.in1) (I.ok.hd hc) it a hia its.toArray) st1 ⟨st2, p.isList⟩ hlt hei (by simp [hei, hea]) fun x' h' tk hP hout hst hT hsz hk => ?_
    have ex : x' = u := by
      have : its.toArray[i]? = some u := by simpa using hu
      rw [this] at hP
      exact (Option.some.inj hP).symm
    subst ex
    refine ⟨_, rfl, wpAny_letOwnedTupleGo_enum hout fun h2 he2 hs2 => ?_⟩
    have fT : H s.heap.objs.size = none := I.hok.fresh (Nat.le_refl _)
    have hel : e < s.heap.objs.size := Heap.lt_size st1
    have hil : it < s.heap.objs.size := by obtain ⟨o, ho, _⟩ := st2; exact Heap.lt_size ho
    have k2 : ∀ b o, b ≠ e -> b ≠ it -> s.heap.get? b = some o -> h2.get? b = some o := fun b o h1 h3 q => hs2.extBut b o h1 (hk b o h1 h3 q)
    have hT2 : h2.get? s.heap.objs.size = some { cls := .type "tuple", data := .seq #[.int i tk, x'] } := hs2.extBut _ _ (Nat.ne_of_gt hel) hT
    obtain ⟨e0, e1, e2, e3, e4, e5⟩ := hf e (by simp)
    obtain ⟨i0, i1, i2, i3, i4, i5⟩ := hf it (by simp)
    have nT : ∀ b o, s.heap.get? b = some o -> b ≠ s.heap.objs.size := fun b o q => Nat.ne_of_lt (Heap.lt_size q)
    have ne_tr : ∀ c v, H c = some v -> c ≠ e /\ c ≠ it := fun c v q => ⟨(fun z => by rw [z, e0] at q; cases q), (fun z => by rw [z, i0] at q; cases q)⟩
    have I2 : Inv X pins σ (upd H s.heap.objs.size (.tup [.int i, x])) { s with heap := h2, toks := tk + 1 } := by
      refine I.step (g' := s.gens) (d' := s.drawn) (ch := [e, it]) (fun b hb => ?_) (fun b o _ _ hch q _ => ?_) (fun b o _ _ hch q _ => ?_) (fun b o hch q n => ?_) (fun b o hch q => ?_) (fun b ys q => ?_) (fun b o u' q => ?_) (fun b ps q => ?_) (fun m hm => ?_) (fun b u' q => ?_) I.bare
      · have hb' : b = e \/ b = it := by simpa using hb
        rcases hb' with rfl | rfl
        · exact ⟨e3, e1, e4, e5⟩
        · exact ⟨i3, i1, i4, i5⟩
      · exact k2 b o (fun z => hch (by simp [z])) (fun z => hch (by simp [z])) q
      · exact ⟨o.slots, k2 b o (fun z => hch (by simp [z])) (fun z => hch (by simp [z])) q⟩
      · rw [upd_ne (nT b o q)]; exact n
      · exact ⟨o, k2 b o (fun z => hch (by simp [z])) (fun z => hch (by simp [z])) q⟩
      · rw [upd_ne (ne_of_none q fT)]; exact q
      · rw [upd_ne (ne_of_none q fT)]; exact q
      · exact ⟨#[], by rw [upd_ne (ne_of_none q fT), q]; simp⟩
      · obtain ⟨o, es, ep, ho, r⟩ := hm
        exact ⟨o, es, ep, k2 _ o (Ne.symm e1) (Ne.symm i1) ho, r⟩
      · by_cases z : b = s.heap.objs.size
        · subst z
          rw [upd_same] at q
          cases q
          exact ⟨by show 2 <= sizeLine; decide, [.int i tk, x'], .cons ⟨tk, rfl⟩ (.cons ru .nil), ⟨_, hT2, rfl, rfl, 0, rfl⟩⟩
        · rw [upd_ne z] at q
          refine (I.hok b u' q).stay (fun c v hc q' => k2 c v ?_ ?_ q') (fun c q' => ?_) fun c ys q' => ?_
          · rcases hc with z | z
            · rw [z]; exact (ne_tr b u' q).1
            · exact (ne_tr c _ z).1
          · rcases hc with z | z
            · rw [z]; exact (ne_tr b u' q).2
            · exact (ne_tr c _ z).2
          · rw [upd_ne (ne_of_none q' fT)]; exact q'
          · rw [upd_ne (ne_of_none q' fT)]; exact q'
    refine ⟨.ref s.heap.objs.size, _, I2, rfl, ⟨s.heap.objs.size, fT, rfl, fun ys y hy hyi => ?_⟩, ⟨⟨x', by simpa using he2⟩, ?_⟩, fun b hb => ?_⟩
    · rw [I.list_inj hy hq] at hyi
      rw [hx] at hyi
      cases hyi
      rfl
    · exact hst.1.at fun o ho => hs2.extBut it o (Ne.symm hei) ho
    · have hb' : b = e \/ b = it := by simpa using hb
      rcases hb' with rfl | rfl
      · rw [upd_ne (Nat.ne_of_lt hel)]; exact e0
      · rw [upd_ne (Nat.ne_of_lt hil)]; exact i0
  done := by
    intro X hP hw hK hc i pins s σ H E I hf st hg
    subst hP hw hK
    obtain ⟨⟨old, st1⟩, st2⟩ := st
    obtain ⟨xs, hq, hx⟩ := hg
    obtain ⟨its, rv, p, hz⟩ := I.list hq
    obtain ⟨i0, i1, i2, i3, i4, i5⟩ := hf it (by simp)
    have hia : a ≠ it := by
      obtain ⟨o, ho, hc1, _⟩ := p.isList
      obtain ⟨o2, ho2, hc2, _⟩ := st2
      intro z
      rw [z, ho2] at ho
      cases ho
      rw [hc1] at hc2
      exact absurd (Value.type.inj hc2) (by decide)
    have hl := rv.length
    have ei : its.toArray.size = i := by rw [List.size_toArray, <- hl, hx]
    exact wpAny_pyNext_enum_endD (Draws.list (A := X.A.in1) (I.ok.hd hc) it a hia its.toArray) st1 ⟨by rw [ei]; exact st2, p.isList⟩ fun h' eb => ⟨rfl, I.turned (t' := s.toks) (fun b o hb q => eb b o hb q) i0 i1 i3 i4 i5⟩
  self := fun _ _ _ _ _ st h => let ⟨⟨_, st1⟩, _⟩ := st; wpAny_pyIter_enum st1 h
section
variable {X : Cx}
noncomputable def iEnumL (K : PySem.W.Frag) (ta : TA) : TI := fun σ H R => ta σ H fun vs H1 => ∃ a xs, vs = [.ref a] /\ SqL K H1 a xs /\ R (Itel K a) H1
theorem pi_enumL {elts : List Expr} {x1 : Nat} {tpos : Pos} {a : Expr} {ta : TA} {p pos : Pos} (hg : Gl X "enumerate") (hm : X.mg "enumerate" = none) (ha : PA X [a] ta) (hs : starEach [a] X.env = [(false, eval a X.env)] := by rfl) : PI X (.Tuple elts x1 tpos) (.Call (.Name "enumerate" p) [a] [] pos) (iEnumL X.K ta) := by
  intro pins s σ H R I h
  refine Call_ (ld_blt I hg hm bt_enumerate (PyProof.Rows.callWith_type1 (thn (ha pos pins s σ H _ I h) fun us s1 ⟨vs, H1, I1, r1, q1⟩ => ?_) hs rfl))
  obtain ⟨t, xs, e, hq, q⟩ := q1
  subst e
  obtain ⟨u, rfl, rx⟩ := vals1 r1
  cases rx
  obtain ⟨its, rv, pt, hz⟩ := I1.list hq
  refine call_enumerate_list pt.isList fun h' he hit hsz hk => ?_
  have I3 : Inv X pins σ H1 { s1 with heap := h' } := I1.kept (t' := s1.toks) hk
  have hne : s1.heap.objs.size + 1 ≠ s1.heap.objs.size := by omega
  refine wpAny_pyIter_enum he ⟨_, [_, s1.heap.objs.size], _, _, H1, rfl, I3, turn_enumL t _ s1.heap.objs.size hne, ⟨⟨.none, he⟩, hit⟩, fun b hb => ?_, q⟩
  have hb' : b = s1.heap.objs.size + 1 \/ b = s1.heap.objs.size := by simpa using hb
  rcases hb' with rfl | rfl
  · exact I1.fpOk (Nat.le_succ _) (I1.hok.fresh (Nat.le_succ _))
  · exact I1.fpOk (Nat.le_refl _) (I1.hok.fresh (Nat.le_refl _))
end
end L2
set_option Elab.async false
set_option linter.all false
set_option maxRecDepth 100000
set_option maxHeartbeats 4000000
namespace L2
open PySem PySem.Spec PyProof.Rows
end L2
set_option Elab.async false
set_option linter.all false
set_option maxRecDepth 100000
set_option maxHeartbeats 4000000
namespace Sx
open PySem PyProof.Rows
structure Ord where
  lt : Nat -> Nat -> Bool
  irr : ∀ i, lt i i = false
  tr : ∀ i j k, lt i j = true -> lt j k = true -> lt i k = true
  neg : ∀ i j k, lt i k = true -> lt i j = true \/ lt j k = true
noncomputable def P (o : Ord) (i j : Nat) : Prop := o.lt i j = true \/ (o.lt j i = false /\ i < j)
theorem Ord.asym (o : Ord) {i j : Nat} (h : o.lt i j = true) : o.lt j i = false := by
  cases e : o.lt j i with
  | false => rfl
  | true => have := o.tr _ _ _ h e; rw [o.irr] at this; cases this
theorem P.irr {o : Ord} {i : Nat} (h : P o i i) : False := by
  rcases h with h | ⟨_, h⟩
  · rw [o.irr] at h; cases h
  · omega
theorem P.trans {o : Ord} {i j k : Nat} (a : P o i j) (b : P o j k) : P o i k := by
  rcases a with a | ⟨a, a'⟩
  · rcases b with b | ⟨b, b'⟩
    · exact .inl (o.tr _ _ _ a b)
    · rcases o.neg i k j a with z | z
      · exact .inl z
      · rw [b] at z; cases z
  · rcases b with b | ⟨b, b'⟩
    · rcases o.neg j i k b with z | z
      · rw [a] at z; cases z
      · exact .inl z
    · refine .inr ⟨?_, by omega⟩
      cases e : o.lt k i with
      | false => rfl
      | true =>
        rcases o.neg k j i e with z | z
        · rw [b] at z; cases z
        · rw [a] at z; cases z
theorem P.of_lt {o : Ord} {i j : Nat} (h : o.lt i j = true) : P o i j := .inl h
theorem P.of_ge {o : Ord} {i j : Nat} (h : o.lt j i = false) (hij : i < j) : P o i j := .inr ⟨h, hij⟩
theorem P.lt {o : Ord} {i j : Nat} (h : P o i j) (hij : j < i) : o.lt i j = true := by
  rcases h with h | ⟨_, h⟩
  · exact h
  · omega
theorem P.ge {o : Ord} {i j : Nat} (h : P o i j) : o.lt j i = false := by
  rcases h with h | ⟨h, _⟩
  · exact o.asym h
  · exact h
noncomputable def So (o : Ord) (g : Nat -> Nat) (a b : Nat) : Prop := ∀ i j, a <= i -> i < j -> j < b -> P o (g i) (g j)
noncomputable def Cl (g : Nat -> Nat) (a b : Nat) : Prop := ∀ i, a <= i -> i < b -> a <= g i /\ g i < b
noncomputable def rev (g : Nat -> Nat) (i j : Nat) : Nat -> Nat := fun k => if i <= k /\ k < j then g (i + j - 1 - k) else g k
noncomputable def mv (g : Nat -> Nat) (src dst : Nat) : Nat -> Nat := fun k => if k = dst then g src else if dst < k /\ k <= src then g (k - 1) else g k
theorem rev_in {g : Nat -> Nat} {i j k : Nat} (h : i <= k) (h2 : k < j) : rev g i j k = g (i + j - 1 - k) := if_pos ⟨h, h2⟩
theorem rev_out {g : Nat -> Nat} {i j k : Nat} (h : k < i \/ j <= k) : rev g i j k = g k := if_neg (by omega)
theorem mv_at {g : Nat -> Nat} {s d : Nat} : mv g s d d = g s := if_pos rfl
theorem mv_in {g : Nat -> Nat} {s d k : Nat} (h : d < k) (h2 : k <= s) : mv g s d k = g (k - 1) := by
  unfold mv; rw [if_neg (by omega), if_pos ⟨h, h2⟩]
theorem mv_out {g : Nat -> Nat} {s d k : Nat} (hd : d <= s) (h : k < d \/ s < k) : mv g s d k = g k := by
  unfold mv; rw [if_neg (by omega), if_neg (by omega)]
section
variable {prog : Program} {w : World} {A : Around} {E : Value -> Shared -> Prop} {s : Shared} {o : Ord} {N : Nat} {f : Nat -> Keyed} {kd : SortKind} {g : Nat -> Nat} {p : Array (Nat × Nat × Nat)} {st : SortSt}
noncomputable def Cmp (prog : Program) (w : World) (A : Around) (s : Shared) (o : Ord) (N : Nat) (f : Nat -> Keyed) (kd : SortKind) : Prop :=
  ∀ i j, i < N -> j < N -> ∀ (E' : Value -> Shared -> Prop) (Q : Bool -> Shared -> Prop), Q (o.lt i j) s -> wpAny (model prog w) A (keyLt' kd (f i).1 (f j).1) Q E' s
structure Sg (N : Nat) (f : Nat -> Keyed) (kd : SortKind) (g : Nat -> Nat) (p : Array (Nat × Nat × Nat)) (st : SortSt) : Prop where
  size : (arrOf st).size = N
  get : ∀ i, i < N -> (arrOf st)[i]? = some (f (g i))
  lt : ∀ i, i < N -> g i < N
  kind : kindOf st = kd
  failed : failedOf st = none
  pend : pendingOf st = p
theorem wpS_lt (C : Cmp prog w A s o N f kd) (hk : kindOf st = kd) {i j : Nat} (hi : i < N) (hj : j < N) {Q : Option Bool -> SortSt -> Prop} (q : Q (some (o.lt i j)) st) : wpS (model prog w) A E s (lt' (f i) (f j)) Q st := by
  rw [lt'_eq]
  refine wpS_bind (wpS_get ?_)
  rw [hk]
  refine wpS_bind (wpS_lift (wpAny_attempt (C i j hi hj _ _ ⟨rfl, ?_⟩)))
  exact wpS_pure q
theorem wpS_elem {xs : Array Keyed} {i : Nat} {x : Keyed} (e : xs[i]? = some x) {Q : Keyed -> SortSt -> Prop} (q : Q x st) : wpS (model prog w) A E s (elem' xs i) Q st := by
  rw [elem'_eq, e]; exact wpS_pure q
theorem wpS_ltG (C : Cmp prog w A s o N f kd) (h : Sg N f kd g p st) {i j : Nat} (hi : i < N) (hj : j < N) {Q : Option Bool -> SortSt -> Prop} (q : Q (some (o.lt (g i) (g j))) st) : wpS (model prog w) A E s (ltAt' i j) Q st := by
  rw [ltAt'_eq]
  refine wpS_bind (wpS_get ?_)
  show wpS _ _ _ _ (do let u <- elem' (arrOf st) i; let v <- elem' (arrOf st) j; lt' u v) Q st
  exact wpS_bind (wpS_elem (h.get i hi) (wpS_bind (wpS_elem (h.get j hj) (wpS_lt C h.kind (h.lt i hi) (h.lt j hj) q))))
theorem Sg.arr (h : Sg N f kd g p st) {xs : Array Keyed} {g' : Nat -> Nat} (hs : xs.size = N) (hg : ∀ i, i < N -> xs[i]? = some (f (g' i))) (hl : ∀ i, i < N -> g' i < N) : Sg N f kd g' p (setArr st xs) := ⟨hs, hg, hl, h.kind, h.failed, h.pend⟩
theorem wpS_rev (h : Sg N f kd g p st) {i j : Nat} (hj : j <= N) {Q : Unit -> SortSt -> Prop} (q : ∀ st', Sg N f kd (rev g i j) p st' -> Q () st') : wpS (model prog w) A E s (reverseSlice' i j) Q st := by
  rw [reverseSlice'_eq]
  refine wpS_modify (q _ (h.arr (by rw [mirror_size]; exact h.size) (fun k hk => ?_) fun k hk => ?_))
  · rw [getElem?_mirror_all (by rw [h.size]; exact hj)]
    unfold rev
    by_cases c : i <= k /\ k < j
    · rw [if_pos c, if_pos c]; exact h.get _ (by omega)
    · rw [if_neg c, if_neg c]; exact h.get _ hk
  · unfold rev
    by_cases c : i <= k /\ k < j
    · rw [if_pos c]; exact h.lt _ (by omega)
    · rw [if_neg c]; exact h.lt _ hk
theorem wpS_mv (h : Sg N f kd g p st) {a b : Nat} (ha : a < N) (hb : b <= a) {Q : Unit -> SortSt -> Prop} (q : ∀ st', Sg N f kd (mv g a b) p st' -> Q () st') : wpS (model prog w) A E s (moveDown' a b) Q st := by
  rw [moveDown'_eq]
  refine wpS_modify (q _ (h.arr (by rw [bubble_size]; exact h.size) (fun k hk => ?_) fun k hk => ?_))
  · rw [getElem?_bubble (by rw [h.size]; exact ha) _ (by omega), show a - (a - b) = b by omega]
    unfold mv
    by_cases c : k = b
    · rw [if_pos c, if_pos c]; exact h.get _ ha
    · rw [if_neg c, if_neg c]
      by_cases c2 : b < k /\ k <= a
      · rw [if_pos c2, if_pos c2]; exact h.get _ (by omega)
      · rw [if_neg c2, if_neg c2]; exact h.get _ hk
  · unfold mv
    by_cases c : k = b
    · rw [if_pos c]; exact h.lt _ ha
    · rw [if_neg c]
      by_cases c2 : b < k /\ k <= a
      · rw [if_pos c2]; exact h.lt _ (by omega)
      · rw [if_neg c2]; exact h.lt _ hk
structure Rn (o : Ord) (g0 g : Nat -> Nat) (a b : Nat) : Prop where
  out : ∀ i, i < a \/ b <= i -> g i = g0 i
  cl : Cl g a b
  so : So o g a b
theorem mv_run {g0 : Nat -> Nat} {lo k l : Nat} (R : Rn o g0 g lo (lo + k)) (hk : g (lo + k) = lo + k) (hl : l <= k) (h1 : ∀ i, i < l -> P o (g (lo + i)) (lo + k)) (h2 : ∀ i, l <= i -> i < k -> P o (lo + k) (g (lo + i))) : Rn o g0 (mv g (lo + k) (lo + l)) lo (lo + (k + 1)) where
  out i hi := by rw [mv_out (by omega) (by omega)]; exact R.out i (by omega)
  cl i a b := by
    by_cases c : i = lo + l
    · subst c; rw [mv_at, hk]; omega
    · by_cases c2 : lo + l < i
      · rw [mv_in c2 (by omega)]
        have := R.cl (i - 1) (by omega) (by omega)
        omega
      · rw [mv_out (by omega) (by omega)]
        have := R.cl i (by omega) (by omega)
        omega
  so i j a b d := by
    by_cases c : i = lo + l
    · subst c
      rw [mv_at, mv_in b (by omega), hk]
      have := h2 (j - 1 - lo) (by omega) (by omega)
      rwa [show lo + (j - 1 - lo) = j - 1 by omega] at this
    · by_cases c2 : lo + l < i
      · rw [mv_in c2 (by omega), mv_in (by omega) (by omega)]
        exact R.so _ _ (by omega) (by omega) (by omega)
      · rw [mv_out (k := i) (by omega) (by omega)]
        by_cases c3 : j = lo + l
        · subst c3
          rw [mv_at, hk]
          have := h1 (i - lo) (by omega)
          rwa [show lo + (i - lo) = i by omega] at this
        · by_cases c4 : lo + l < j
          · rw [mv_in c4 (by omega)]
            exact R.so _ _ (by omega) (by omega) (by omega)
          · rw [mv_out (by omega) (by omega)]
            exact R.so _ _ (by omega) (by omega) (by omega)
theorem bin_ok (C : Cmp prog w A s o N f kd) {g0 : Nat -> Nat} {lo n ok : Nat} (h : Sg N f kd g p st) (hn : lo + n <= N) (h1 : 1 <= ok) (hok : ok <= n) (R : Rn o g0 g lo (lo + ok)) (hid : ∀ i, lo + ok <= i -> i < lo + n -> g0 i = i)
    {Q : Bool -> SortSt -> Prop} (q : ∀ g' st', Sg N f kd g' p st' -> Rn o g0 g' lo (lo + n) -> Q true st') : wpS (model prog w) A E s (binarySort' lo n ok) Q st := by
  rw [binarySort'_eq, show max ok 1 = ok by omega]
  refine wpS_bind (wpS_mono (wpS_forRange (I := fun k c st' => c = (none, ()) /\ ∃ g', Sg N f kd g' p st' /\ Rn o g0 g' lo (lo + min k n))
    (Q := fun c st' => c = (none, ()) /\ ∃ g', Sg N f kd g' p st' /\ Rn o g0 g' lo (lo + n)) ?step ?fin ?init) ?post)
  case post =>
    rintro c st' ⟨rfl, g', h', R'⟩
    exact wpS_pure (q g' st' h' R')
  case init => exact ⟨rfl, g, h, by rw [show min ok n = ok by omega]; exact R⟩
  case fin =>
    rintro c st' ⟨hc, g', h', R'⟩
    exact ⟨hc, g', h', by rwa [show min (max ok n) n = n by omega] at R'⟩
  case step =>
    rintro k c st' hak hkn ⟨rfl, g', h', R'⟩
    rw [show min k n = k by omega] at R'
    have gk : g' (lo + k) = lo + k := by rw [R'.out _ (by omega)]; exact hid _ (by omega) (by omega)
    refine wpS_bind (wpS_mono (wpS_forRange (I := fun x c s2 => s2 = st' /\ ∃ u v, c = (none, u, v) /\ u <= v /\ v <= k /\ v - u <= k - x /\
        (∀ i, i < u -> P o (g' (lo + i)) (lo + k)) /\ (∀ i, v <= i -> i < k -> P o (lo + k) (g' (lo + i))))
      (Q := fun c s2 => s2 = st' /\ ∃ u v, c = (none, u, v) /\ u <= k /\
        (∀ i, i < u -> P o (g' (lo + i)) (lo + k)) /\ (∀ i, u <= i -> i < k -> P o (lo + k) (g' (lo + i)))) ?istep ?ifin ?iinit) ?ipost)
    case iinit => exact ⟨rfl, 0, k, rfl, by omega, by omega, by omega, fun i hi => by omega, fun i h1 h2 => by omega⟩
    case ifin =>
      rintro c s2 ⟨rfl, u, v, rfl, huv, hvk, hm, low, top⟩
      have : u = v := by omega
      subst this
      exact ⟨rfl, u, u, rfl, hvk, low, top⟩
    case istep =>
      rintro x c s2 _ hxk ⟨rfl, u, v, rfl, huv, hvk, hm, low, top⟩
      dsimp only
      by_cases hge : u >= v
      · rw [if_pos hge]
        have : u = v := by omega
        subst this
        exact wpS_pure ⟨rfl, u, u, rfl, hvk, low, top⟩
      · rw [if_neg hge]
        have hmk : (u + v) / 2 < k := by omega
        have gm := R'.cl (lo + (u + v) / 2) (by omega) (by omega)
        refine wpS_bind (wpS_ltG C h' (by omega) (by omega) ?_)
        rw [gk]
        cases hless : o.lt (lo + k) (g' (lo + (u + v) / 2))
        case true =>
          simp only [if_true]
          refine wpS_pure ⟨rfl, u, (u + v) / 2, rfl, by omega, by omega, by omega, low, fun i h1 h2 => ?_⟩
          by_cases c : i = (u + v) / 2
          · subst c; exact .inl hless
          · exact (P.of_lt hless).trans (R'.so _ _ (by omega) (by omega) (by omega))
        case false =>
          simp only [Bool.false_eq_true, if_false]
          refine wpS_pure ⟨rfl, (u + v) / 2 + 1, v, rfl, by omega, by omega, by omega, fun i h1 => ?_, top⟩
          have last := P.of_ge hless gm.2
          by_cases c : i = (u + v) / 2
          · subst c; exact last
          · exact (R'.so _ _ (by omega) (by omega) (by omega)).trans last
    case ipost =>
      rintro c s2 ⟨rfl, u, v, rfl, huk, low, top⟩
      dsimp only
      refine wpS_bind (wpS_mv h' (by omega) (by omega) fun st3 h3 => ?_)
      refine wpS_pure ⟨rfl, _, h3, ?_⟩
      rw [show min (k + 1) n = k + 1 by omega]
      exact mv_run R' gk huk low top
end
noncomputable abbrev As := Option (Option Nat) × Nat
noncomputable abbrev Ds := Option (Option Nat) × Nat × Nat
noncomputable def ascL (lo a nrem : Nat) : StateT SortSt Sem As :=
  forIn [a:nrem] ((none, a) : As) fun _ c => do
    let x <- ltAt' (lo + c.2) (lo + c.2 - 1)
    match x with
    | some b => if b = true then pure (ForInStep.done (none, c.2)) else pure (ForInStep.yield (none, c.2 + 1))
    | _ => pure (ForInStep.done (some none, c.2))
noncomputable def tailL (lo n nrem : Nat) : StateT SortSt Sem (Option Nat) := do
  reverseSlice' lo (lo + n)
  let c <- ascL lo n nrem
  match c.1 with
  | some r => pure r
  | none => pure (some c.2)
noncomputable def dscL (lo n nrem : Nat) : StateT SortSt Sem Ds :=
  forIn [n:nrem] ((none, n, 0) : Ds) fun _ c => do
    let x <- ltAt' (lo + c.2.1) (lo + c.2.1 - 1)
    match x with
    | some b =>
      if b = true then
        if c.2.2 > 0 then do
          reverseSlice' (lo + c.2.1 - (c.2.2 + 1)) (lo + c.2.1)
          pure (ForInStep.yield (none, c.2.1 + 1, 0))
        else pure (ForInStep.yield (none, c.2.1 + 1, 0))
      else do
        let x <- ltAt' (lo + c.2.1 - 1) (lo + c.2.1)
        match x with
        | some b =>
          if b = true then pure (ForInStep.done (none, c.2.1, c.2.2))
          else pure (ForInStep.yield (none, c.2.1 + 1, c.2.2 + 1))
        | _ => pure (ForInStep.done (some none, c.2.1, c.2.2))
    | _ => pure (ForInStep.done (some none, c.2.1, c.2.2))
noncomputable def dscP (lo n nrem : Nat) : StateT SortSt Sem (Option Nat) := do
  liftM (rule "list.sort.descending-run")
  let c <- dscL lo (n + 1) nrem
  match c.1 with
  | some r => pure r
  | none =>
    if c.2.2 > 0 then do
      reverseSlice' (lo + c.2.1 - (c.2.2 + 1)) (lo + c.2.1)
      tailL lo c.2.1 nrem
    else tailL lo c.2.1 nrem
theorem count_eq (lo nrem : Nat) : countRun' lo nrem = (do
    let c <- ascL lo 1 nrem
    match c.1 with
    | some r => pure r
    | none =>
      if (c.2 == nrem) = true then pure (some c.2)
      else if c.2 > 1 then do
        let x <- ltAt' lo (lo + c.2 - 1)
        match x with
        | some b => if b = true then pure (some c.2) else do
            reverseSlice' lo (lo + c.2)
            dscP lo c.2 nrem
        | _ => pure none
      else dscP lo c.2 nrem) := by
  rw [countRun'_eq]
  dsimp only
  unfold dscP tailL dscL ascL
  congr 1
  funext c
  obtain ⟨r, n⟩ := c
  cases r with
  | some r => rfl
  | none =>
    dsimp only
    split
    · rfl
    · split
      · congr 1
        funext x
        cases x with
        | none => rfl
        | some b =>
          dsimp only
          split
          · rfl
          · congr 1
            funext _r
            congr 1
            funext _u
            congr 1
            congr 1
            funext s2
            obtain ⟨r2, n2, q2⟩ := s2
            cases r2 with
            | some r2 => rfl
            | none =>
              dsimp only
              split
              · congr 1
                funext _v
                congr 1
                funext _w
                congr 1
                funext s3
                obtain ⟨r3, n3⟩ := s3
                cases r3 <;> rfl
              · congr 1
                funext _w
                congr 1
                funext s3
                obtain ⟨r3, n3⟩ := s3
                cases r3 <;> rfl
      · congr 1
        funext _u
        congr 1
        congr 1
        funext s2
        obtain ⟨r2, n2, q2⟩ := s2
        cases r2 with
        | some r2 => rfl
        | none =>
          dsimp only
          split
          · congr 1
            funext _v
            congr 1
            funext _w
            congr 1
            funext s3
            obtain ⟨r3, n3⟩ := s3
            cases r3 <;> rfl
          · congr 1
            funext _w
            congr 1
            funext s3
            obtain ⟨r3, n3⟩ := s3
            cases r3 <;> rfl
section
variable {prog : Program} {w : World} {A : Around} {E : Value -> Shared -> Prop} {s : Shared} {o : Ord} {N : Nat} {f : Nat -> Keyed} {kd : SortKind} {g g0 : Nat -> Nat} {p : Array (Nat × Nat × Nat)} {st : SortSt}
theorem Rn.snoc {a b : Nat} (R : Rn o g0 g a b) (hab : a < b) (hb : g b = b) (h : o.lt b (g (b - 1)) = false) : Rn o g0 g a (b + 1) where
  out i hi := R.out i (by omega)
  cl i h1 h2 := by
    by_cases c : i = b
    · subst c; omega
    · have := R.cl i h1 (by omega); omega
  so i j h1 h2 h3 := by
    by_cases c : j = b
    · subst c
      rw [hb]
      have l := R.cl (j - 1) (by omega) (by omega)
      have last : P o (g (j - 1)) j := P.of_ge h l.2
      by_cases c2 : i = j - 1
      · subst c2; exact last
      · exact (R.so i (j - 1) h1 (by omega) (by omega)).trans last
    · exact R.so i j h1 h2 (by omega)
theorem asc_ok (C : Cmp prog w A s o N f kd) {lo a nrem : Nat} (h : Sg N f kd g p st) (hn : lo + nrem <= N) (h1 : 1 <= a) (han : a <= nrem) (R : Rn o g0 g lo (lo + a)) (hid : ∀ i, lo + a <= i -> i < lo + nrem -> g0 i = i)
    {Q : As -> SortSt -> Prop} (q : ∀ n, a <= n -> n <= nrem -> Rn o g0 g lo (lo + n) -> (n = nrem \/ o.lt (lo + n) (g (lo + n - 1)) = true) -> Q (none, n) st) : wpS (model prog w) A E s (ascL lo a nrem) Q st := by
  unfold ascL
  refine wpS_forRange (I := fun x c st' => st' = st /\ c = (none, x) /\ Rn o g0 g lo (lo + x)) ?step ?fin ⟨rfl, rfl, R⟩
  case fin =>
    rintro c st' ⟨rfl, rfl, R'⟩
    rw [show max a nrem = nrem by omega] at R' ⊢
    exact q nrem han (Nat.le_refl _) R' (.inl rfl)
  case step =>
    rintro x c st' hax hxn ⟨rfl, rfl, R'⟩
    dsimp only
    have gx : g (lo + x) = lo + x := by rw [R'.out _ (by omega)]; exact hid _ (by omega) (by omega)
    refine wpS_bind (wpS_ltG C h (by omega) (by omega) ?_)
    rw [gx]
    cases hl : o.lt (lo + x) (g (lo + x - 1))
    case true =>
      simp only [if_true]
      exact wpS_pure (q x hax (by omega) R' (.inr hl))
    case false =>
      simp only [Bool.false_eq_true, if_false]
      exact wpS_pure ⟨rfl, rfl, R'.snoc (by omega) gx hl⟩
structure Dc (o : Ord) (g0 g : Nat -> Nat) (a b q : Nat) : Prop where
  out : ∀ i, i < a \/ b <= i -> g i = g0 i
  cl : Cl g a b
  few : a + (q + 1) <= b
  dn : ∀ i j, a <= i -> i < j -> j < b -> i < b - (q + 1) -> P o (g j) (g i)
  id : ∀ i, b - (q + 1) <= i -> i < b -> g i = i
  al : ∀ i j, b - (q + 1) <= i -> i < b -> b - (q + 1) <= j -> j < b -> o.lt i j = false
theorem Dc.turn {a b q : Nat} (D : Dc o g0 g a b q) : (∀ i, i < a \/ b <= i -> rev g (b - (q + 1)) b i = g0 i) /\ Cl (rev g (b - (q + 1)) b) a b /\ (∀ i j, a <= i -> i < j -> j < b -> P o (rev g (b - (q + 1)) b j) (rev g (b - (q + 1)) b i)) /\ (∀ i, b - (q + 1) <= i -> i < b -> ∃ k, rev g (b - (q + 1)) b i = k /\ b - (q + 1) <= k /\ k < b) := by
  have few := D.few
  have inn : ∀ i, b - (q + 1) <= i -> i < b -> rev g (b - (q + 1)) b i = b - (q + 1) + b - 1 - i := fun i h1 h2 => by
    rw [rev_in h1 h2]
    exact D.id _ (by omega) (by omega)
  refine ⟨fun i hi => ?_, fun i h1 h2 => ?_, fun i j h1 h2 h3 => ?_, fun i h1 h2 => ⟨_, inn i h1 h2, by omega, by omega⟩⟩
  · rw [rev_out (by omega)]; exact D.out i hi
  · by_cases c : i < b - (q + 1)
    · rw [rev_out (by omega)]; exact D.cl i h1 h2
    · rw [inn i (by omega) h2]; omega
  · by_cases c : i < b - (q + 1)
    · rw [rev_out (k := i) (by omega)]
      by_cases c2 : j < b - (q + 1)
      · rw [rev_out (by omega)]; exact D.dn i j h1 h2 h3 c
      · rw [inn j (by omega) h3]
        have := D.dn i (b - (q + 1) + b - 1 - j) h1 (by omega) (by omega) c
        rwa [D.id _ (by omega) (by omega)] at this
    · rw [inn i (by omega) (by omega), inn j (by omega) h3]
      exact P.of_ge (D.al _ _ (by omega) (by omega) (by omega) (by omega)) (by omega)
noncomputable def Fin (o : Ord) (g0 g : Nat -> Nat) (a b : Nat) : Prop := (∀ i, i < a \/ b <= i -> g i = g0 i) /\ Cl g a b /\ (∀ i j, a <= i -> i < j -> j < b -> P o (g j) (g i))
theorem Dc.fin0 {a b : Nat} (D : Dc o g0 g a b 0) : Fin o g0 g a b := ⟨D.out, D.cl, fun i j h1 h2 h3 => D.dn i j h1 h2 h3 (by omega)⟩
theorem Fin.rn {a b : Nat} (D : Fin o g0 g a b) : Rn o g0 (rev g a b) a b where
  out i hi := by rw [rev_out hi]; exact D.1 i hi
  cl i h1 h2 := by
    rw [rev_in h1 h2]; exact D.2.1 _ (by omega) (by omega)
  so i j h1 h2 h3 := by
    rw [rev_in h1 (by omega), rev_in (by omega) h3]
    exact D.2.2 _ _ (by omega) (by omega) (by omega)
theorem Fin.add {a b : Nat} (D : Fin o g0 g a b) (hb : g b = b) (hab : a < b) (h : ∀ i, a <= i -> i < b -> P o b (g i)) : Dc o g0 g a (b + 1) 0 where
  out i hi := D.1 i (by omega)
  cl i h1 h2 := by
    by_cases c : i = b
    · subst c; omega
    · have := D.2.1 i h1 (by omega); omega
  few := by omega
  dn i j h1 h2 h3 _ := by
    by_cases c : j = b
    · subst c; rw [hb]; exact h i h1 h2
    · exact D.2.2 i j h1 h2 (by omega)
  id i h1 h2 := by
    have : i = b := by omega
    rw [this, hb]
  al i j h1 h2 h3 h4 := by
    have : i = j := by omega
    rw [this]; exact o.irr _
theorem tail_ok (C : Cmp prog w A s o N f kd) {lo n nrem : Nat} (h : Sg N f kd g p st) (hn : lo + nrem <= N) (h1 : 1 <= n) (han : n <= nrem) (D : Fin o g0 g lo (lo + n)) (hid : ∀ i, lo <= i -> i < lo + nrem -> g0 i = i)
    {Q : Option Nat -> SortSt -> Prop} (q : ∀ m g' st', Sg N f kd g' p st' -> 1 <= m -> m <= nrem -> Rn o g0 g' lo (lo + m) -> Q (some m) st') : wpS (model prog w) A E s (tailL lo n nrem) Q st := by
  unfold tailL
  refine wpS_bind (wpS_rev h (by omega) fun st2 h2 => ?_)
  exact wpS_bind (asc_ok C h2 hn h1 han D.rn (fun i a b => hid i (by omega) b) fun m hm1 hm2 R _ => wpS_pure (q m _ _ h2 (by omega) hm2 R))
theorem dsc_ok (C : Cmp prog w A s o N f kd) {lo n nrem : Nat} (h : Sg N f kd g p st) (hn : lo + nrem <= N) (h1 : 1 <= n) (han : n <= nrem) (D : Dc o g0 g lo (lo + n) 0) (hid : ∀ i, lo <= i -> i < lo + nrem -> g0 i = i)
    {Q : Ds -> SortSt -> Prop} (q : ∀ m e g' st', Sg N f kd g' p st' -> 1 <= m -> m <= nrem -> Dc o g0 g' lo (lo + m) e -> Q (none, m, e) st') : wpS (model prog w) A E s (dscL lo n nrem) Q st := by
  unfold dscL
  refine wpS_forRange (I := fun x c st' => ∃ e g', c = (none, x, e) /\ Sg N f kd g' p st' /\ Dc o g0 g' lo (lo + x) e) ?step ?fin ⟨0, g, rfl, h, D⟩
  case fin =>
    rintro c st' ⟨e, g', rfl, h', D'⟩
    rw [show max n nrem = nrem by omega] at D' ⊢
    exact q nrem e g' st' h' (by omega) (Nat.le_refl _) D'
  case step =>
    rintro x c st' hax hxn ⟨e, g', rfl, h', D'⟩
    dsimp only
    have few := D'.few
    have gx : g' (lo + x) = lo + x := by rw [D'.out _ (by omega)]; exact hid _ (by omega) (by omega)
    have gy : g' (lo + x - 1) = lo + x - 1 := D'.id _ (by omega) (by omega)
    refine wpS_bind (wpS_ltG C h' (by omega) (by omega) ?_)
    rw [gx, gy]
    cases hl : o.lt (lo + x) (lo + x - 1)
    case true =>
      simp only [if_true]
      by_cases he : e > 0
      · rw [if_pos he]
        obtain ⟨t1, t2, t3, t4⟩ := D'.turn
        refine wpS_bind (wpS_rev h' (by omega) fun st2 h2 => wpS_pure ⟨0, _, rfl, h2, ?_⟩)
        refine Fin.add (b := lo + x) ⟨t1, t2, t3⟩ (by rw [rev_out (by omega)]; exact gx) (by omega) fun i a b => ?_
        by_cases c : lo + x - (e + 1) <= i
        · obtain ⟨k, ek, k1, k2⟩ := t4 i c b
          rw [ek]
          rcases o.neg _ k _ hl with z | z
          · exact .inl z
          · rw [D'.al _ _ k1 k2 (by omega) (by omega)] at z; cases z
        · rw [rev_out (by omega)]
          have := D'.dn i (lo + x - 1) a (by omega) (by omega) (by omega)
          rw [gy] at this
          exact (P.of_lt hl).trans this
      · rw [if_neg he]
        have : e = 0 := by omega
        subst this
        refine wpS_pure ⟨0, _, rfl, h', Fin.add (b := lo + x) D'.fin0 gx (by omega) fun i a b => ?_⟩
        by_cases c : i = lo + x - 1
        · subst c; rw [gy]; exact .inl hl
        · have := D'.dn i (lo + x - 1) a (by omega) (by omega) (by omega)
          rw [gy] at this
          exact (P.of_lt hl).trans this
    case false =>
      simp only [Bool.false_eq_true, if_false]
      refine wpS_bind (wpS_ltG C h' (by omega) (by omega) ?_)
      rw [gx, gy]
      cases hg : o.lt (lo + x - 1) (lo + x)
      case true =>
        simp only [if_true]
        exact wpS_pure (q x e g' st' h' (by omega) (by omega) D')
      case false =>
        simp only [Bool.false_eq_true, if_false]
        refine wpS_pure ⟨e + 1, g', rfl, h', ?_⟩
        have eq1 : ∀ i, lo + x - (e + 1) <= i -> i < lo + x -> o.lt i (lo + x) = false /\ o.lt (lo + x) i = false := fun i a b => by
          constructor
          · cases z : o.lt i (lo + x) with
            | false => rfl
            | true =>
              rcases o.neg _ (lo + x - 1) _ z with y | y
              · rw [D'.al _ _ a b (by omega) (by omega)] at y; cases y
              · rw [hg] at y; cases y
          · cases z : o.lt (lo + x) i with
            | false => rfl
            | true =>
              rcases o.neg _ (lo + x - 1) _ z with y | y
              · rw [hl] at y; cases y
              · rw [D'.al _ _ (by omega) (by omega) a b] at y; cases y
        exact {
          out := fun i hi => D'.out i (by omega)
          cl := fun i a b => by
            by_cases c : i = lo + x
            · subst c; omega
            · have := D'.cl i a (by omega); omega
          few := by omega
          dn := fun i j a b c d => by
            by_cases z : j = lo + x
            · subst z
              rw [gx]
              have y := D'.dn i (lo + x - 1) a (by omega) (by omega) (by omega)
              rw [gy] at y
              have gi := D'.cl i a (by omega)
              rcases y with y | ⟨_, y⟩
              · rcases o.neg _ (lo + x) _ y with v | v
                · rw [hg] at v; cases v
                · exact .inl v
              · omega
            · exact D'.dn i j a b (by omega) (by omega)
          id := fun i a b => by
            by_cases z : i = lo + x
            · subst z; exact gx
            · exact D'.id i (by omega) (by omega)
          al := fun i j a b c d => by
            by_cases z : i = lo + x
            · subst z
              by_cases y : j = lo + x
              · subst y; exact o.irr _
              · exact (eq1 j (by omega) (by omega)).2
            · by_cases y : j = lo + x
              · subst y; exact (eq1 i (by omega) (by omega)).1
              · exact D'.al i j (by omega) (by omega) (by omega) (by omega) }
theorem dscP_ok (C : Cmp prog w A s o N f kd) {lo n nrem : Nat} (h : Sg N f kd g p st) (hn : lo + nrem <= N) (han : n + 1 <= nrem) (D : Dc o g0 g lo (lo + (n + 1)) 0) (hid : ∀ i, lo <= i -> i < lo + nrem -> g0 i = i)
    {Q : Option Nat -> SortSt -> Prop} (q : ∀ m g' st', Sg N f kd g' p st' -> 1 <= m -> m <= nrem -> Rn o g0 g' lo (lo + m) -> Q (some m) st') : wpS (model prog w) A E s (dscP lo n nrem) Q st := by
  unfold dscP
  refine wpS_bind (wpS_lift (wpAny_rule ⟨rfl, ?_⟩))
  refine wpS_bind (dsc_ok C h hn (by omega) han D hid fun m e g' st' h' m1 m2 D' => ?_)
  dsimp only
  by_cases he : e > 0
  · rw [if_pos he]
    obtain ⟨t1, t2, t3, _⟩ := D'.turn
    exact wpS_bind (wpS_rev h' (by omega) fun st2 h2 => tail_ok C h2 hn m1 m2 ⟨t1, t2, t3⟩ hid q)
  · rw [if_neg he]
    have : e = 0 := by omega
    subst this
    exact tail_ok C h' hn m1 m2 D'.fin0 hid q
theorem count_ok (C : Cmp prog w A s o N f kd) {lo nrem : Nat} (h : Sg N f kd g p st) (hn : lo + nrem <= N) (h1 : 1 <= nrem) (hid : ∀ i, lo <= i -> i < lo + nrem -> g i = i)
    {Q : Option Nat -> SortSt -> Prop} (q : ∀ m g' st', Sg N f kd g' p st' -> 1 <= m -> m <= nrem -> Rn o g g' lo (lo + m) -> Q (some m) st') : wpS (model prog w) A E s (countRun' lo nrem) Q st := by
  rw [count_eq]
  refine wpS_bind (asc_ok C h hn (Nat.le_refl 1) h1 (g0 := g) ⟨fun _ _ => rfl, fun i a b => ?_, fun i j a b c => by omega⟩ (fun i a b => hid i (by omega) b) fun n n1 n2 R hor => ?_)
  · have : i = lo := by omega
    subst this
    rw [hid i (Nat.le_refl _) (by omega)]; omega
  dsimp only
  by_cases hnn : n = nrem
  · rw [if_pos (by simpa using hnn)]
    exact wpS_pure (q n g st h n1 n2 R)
  · rw [if_neg (by simpa using hnn)]
    have hlt := hor.resolve_left hnn
    rw [hid (lo + n - 1) (by omega) (by omega)] at hlt
    have gn : g (lo + n) = lo + n := hid _ (by omega) (by omega)
    by_cases hgt : n > 1
    · rw [if_pos hgt]
      refine wpS_bind (wpS_ltG C h (by omega) (by omega) ?_)
      rw [hid lo (by omega) (by omega), hid (lo + n - 1) (by omega) (by omega)]
      cases hr : o.lt lo (lo + n - 1)
      case true =>
        simp only [if_true]
        exact wpS_pure (q n g st h n1 n2 R)
      case false =>
        simp only [Bool.false_eq_true, if_false]
        have id' : ∀ i, lo <= i -> i < lo + n -> g i = i := fun i a b => hid i a (by omega)
        have pp : ∀ i j, lo <= i -> i < j -> j < lo + n -> o.lt i j = false /\ o.lt j i = false := fun i j a b c => by
          have r := R.so i j a b c
          rw [id' i a (by omega), id' j (by omega) c] at r
          refine ⟨?_, r.ge⟩
          cases z : o.lt i j with
          | false => rfl
          | true =>
            rcases o.neg _ lo _ z with y | y
            · by_cases x : i = lo
              · subst x; rw [o.irr] at y; cases y
              · have r2 := R.so lo i (by omega) (by omega) (by omega)
                rw [id' i a (by omega), id' lo (by omega) (by omega)] at r2
                rw [r2.ge] at y; cases y
            · rcases o.neg _ (lo + n - 1) _ y with x | x
              · rw [hr] at x; cases x
              · by_cases v : j = lo + n - 1
                · subst v; rw [o.irr] at x; cases x
                · have r2 := R.so j (lo + n - 1) (by omega) (by omega) (by omega)
                  rw [id' j (by omega) c, id' (lo + n - 1) (by omega) (by omega)] at r2
                  rw [r2.ge] at x; cases x
        refine wpS_bind (wpS_rev h (by omega) fun st2 h2 => dscP_ok C h2 hn (by omega) ?_ hid q)
        have rin : ∀ i, lo <= i -> i < lo + n -> rev g lo (lo + n) i = lo + (lo + n) - 1 - i := fun i a b => by rw [rev_in a b]; exact id' _ (by omega) (by omega)
        refine Fin.add (b := lo + n) ⟨fun i hi => rev_out hi, fun i a b => by rw [rin i a b]; omega, fun i j a b c => ?_⟩ (by rw [rev_out (by omega)]; exact gn) (by omega) fun i a b => ?_
        · rw [rin i a (by omega), rin j (by omega) c]
          exact P.of_ge (pp _ _ (by omega) (by omega) (by omega)).2 (by omega)
        · rw [rin i a b]
          by_cases x : lo + (lo + n) - 1 - i = lo + n - 1
          · rw [x]; exact .inl hlt
          · rcases o.neg _ (lo + (lo + n) - 1 - i) _ hlt with z | z
            · exact .inl z
            · rw [(pp _ _ (by omega) (by omega) (by omega)).1] at z; cases z
    · rw [if_neg hgt]
      have : n = 1 := by omega
      subst this
      refine dscP_ok C h hn (by omega) ?_ hid q
      refine Fin.add (b := lo + 1) ⟨fun i hi => rfl, R.cl, fun i j a b c => by omega⟩ gn (by omega) fun i a b => ?_
      have : i = lo := by omega
      subst this
      rw [hid i (by omega) (by omega)]
      rw [show i + 1 - 1 = i by omega] at hlt
      exact .inl hlt
end
end Sx
set_option Elab.async false
set_option linter.all false
set_option maxRecDepth 100000
set_option maxHeartbeats 4000000
namespace Sx
open PySem PyProof.Rows
noncomputable def gallop' : Bool -> Keyed -> Array Keyed -> Nat -> Nat -> Nat -> StateT SortSt Sem (Option Nat) := sortPriv% PySem.Builtin.gallop
noncomputable def galB (ask : Nat -> StateT SortSt Sem (Option Bool)) (n at0 : Nat) : StateT SortSt Sem (Option Nat) := do
  let mut was := 0
  let mut far := 1
  let mut low := 0
  let mut top := 0
  let some yes <- ask at0 | return none
  if yes then
    let most := n - at0
    for _ in [0:n] do
      if far >= most then break
      let some ok <- ask (at0 + far) | return none
      if !ok then break
      was := far
      far := 2 * far + 1
    low := at0 + was + 1
    top := at0 + min far most
  else
    let most := at0 + 1
    for _ in [0:n] do
      if far >= most then break
      let some hit <- ask (at0 - far) | return none
      if hit then break
      was := far
      far := 2 * far + 1
    low := at0 + 1 - min far most
    top := at0 - was
  for _ in [0:n] do
    if low >= top then break
    let m := low + (top - low) / 2
    let some ok <- ask m | return none
    if ok then low := m + 1 else top := m
  return some top
theorem gallop_eq (left : Bool) (key : Keyed) (arr : Array Keyed) (base n hint : Nat) : gallop' left key arr base n hint = galB (fun i => do
    let x <- elem' arr (base + i)
    if left then lt' x key else return (<- lt' key x).map (!·)) n hint := rfl
section
variable {prog : Program} {w : World} {A : Around} {E : Value -> Shared -> Prop} {s : Shared} {st : SortSt}
noncomputable def bsB (be : Nat -> StateT SortSt Sem (Option Bool)) (n l0 h0 : Nat) : StateT SortSt Sem (Option Nat) := do
  let mut low := l0
  let mut top := h0
  for _ in [0:n] do
    if low >= top then break
    let m := low + (top - low) / 2
    let some ok <- be m | return none
    if ok then low := m + 1 else top := m
  return some top
theorem bs_ok {be : Nat -> StateT SortSt Sem (Option Bool)} {n l0 h0 : Nat} (b : Nat -> Bool) (hbe : ∀ i, i < n -> ∀ Q : Option Bool -> SortSt -> Prop, Q (some (b i)) st -> wpS (model prog w) A E s (be i) Q st) (hb : ∀ i j, i <= j -> j < n -> b j = true -> b i = true)
    (hlh : l0 <= h0) (hn : h0 <= n) (hl : ∀ i, i < l0 -> b i = true) (hh : ∀ i, h0 <= i -> i < n -> b i = false)
    {Q : Option Nat -> SortSt -> Prop} (q : ∀ k, k <= n -> (∀ i, i < k -> b i = true) -> (∀ i, k <= i -> i < n -> b i = false) -> Q (some k) st) : wpS (model prog w) A E s (bsB be n l0 h0) Q st := by
  unfold bsB
  refine wpS_bind (wpS_mono (wpS_forRange (I := fun x c st' => st' = st /\ ∃ lo hi, c = (none, lo, hi) /\ lo <= hi /\ hi <= n /\ hi - lo <= n - x /\ (∀ i, i < lo -> b i = true) /\ (∀ i, hi <= i -> i < n -> b i = false))
    (Q := fun c st' => st' = st /\ ∃ k, c = (none, k, k) /\ k <= n /\ (∀ i, i < k -> b i = true) /\ (∀ i, k <= i -> i < n -> b i = false)) ?step ?fin ⟨rfl, l0, h0, rfl, hlh, hn, by omega, hl, hh⟩) ?post)
  case post =>
    rintro c st' ⟨rfl, k, rfl, h1, h2, h3⟩
    exact wpS_pure (q k h1 h2 h3)
  case fin =>
    rintro c st' ⟨rfl, lo, hi, rfl, h1, h2, h3, h4, h5⟩
    have : lo = hi := by omega
    subst this
    exact ⟨rfl, lo, rfl, h2, h4, h5⟩
  case step =>
    rintro x c st' _ hx ⟨rfl, lo, hi, rfl, h1, h2, h3, h4, h5⟩
    dsimp only
    by_cases hge : lo >= hi
    · rw [if_pos hge]
      have : lo = hi := by omega
      subst this
      exact wpS_pure ⟨rfl, lo, rfl, h2, h4, h5⟩
    · rw [if_neg hge]
      have hm : lo + (hi - lo) / 2 < hi := by omega
      obtain ⟨m, hm'⟩ : ∃ m, m = lo + (hi - lo) / 2 := ⟨_, rfl⟩
      rw [<- hm'] at hm ⊢
      refine wpS_bind (hbe m (by omega) _ ?_)
      cases hv : b m
      · simp only [Bool.false_eq_true, if_false]
        refine wpS_pure ⟨rfl, lo, m, rfl, by omega, by omega, by omega, h4, fun i a c => ?_⟩
        cases z : b i with
        | false => rfl
        | true => rw [hb m i a c z] at hv; cases hv
      · simp only [if_true]
        exact wpS_pure ⟨rfl, m + 1, hi, rfl, by omega, h2, by omega, fun i a => hb i m (by omega) (by omega) hv, h5⟩
theorem galB_ok {be : Nat -> StateT SortSt Sem (Option Bool)} {n hint : Nat} (b : Nat -> Bool) (hbe : ∀ i, i < n -> ∀ Q : Option Bool -> SortSt -> Prop, Q (some (b i)) st -> wpS (model prog w) A E s (be i) Q st) (hb : ∀ i j, i <= j -> j < n -> b j = true -> b i = true) (hh : hint < n)
    {Q : Option Nat -> SortSt -> Prop} (q : ∀ k, k <= n -> (∀ i, i < k -> b i = true) -> (∀ i, k <= i -> i < n -> b i = false) -> Q (some k) st) : wpS (model prog w) A E s (galB be n hint) Q st := by
  unfold galB
  have hb' : ∀ i j, i <= j -> j < n -> b i = false -> b j = false := fun i j a c d => by
    cases z : b j with
    | false => rfl
    | true => rw [hb i j a c z] at d; cases d
  refine wpS_bind (hbe hint hh _ ?_)
  cases hr : b hint
  · dsimp only
    simp only [Bool.false_eq_true, if_false]
    refine wpS_bind (wpS_mono (wpS_forRange (I := fun x c st' => st' = st /\ ∃ l u, c = (none, l, u) /\ x + 1 <= u /\ l < u /\ l <= hint /\ b (hint - l) = false)
      (Q := fun c st' => st' = st /\ ∃ l u, c = (none, l, u) /\ l < u /\ l <= hint /\ b (hint - l) = false /\ (u >= hint + 1 \/ b (hint - u) = true)) ?step ?fin ⟨rfl, 0, 1, rfl, by omega, by omega, by omega, hr⟩) ?post)
    case post =>
      rintro c st' ⟨rfl, l, u, rfl, h1, h2, h3, h4⟩
      dsimp only
      refine (bs_ok b hbe hb (l0 := hint + 1 - min u (hint + 1)) (h0 := hint - l) (by omega) (by omega) (fun i a => ?_) (fun i a c => hb' _ _ a c h3) q : wpS (model prog w) A E s (bsB be n _ _) Q st')
      rcases h4 with h4 | h4
      · omega
      · exact hb i (hint - u) (by omega) (by omega) h4
    case fin =>
      rintro c st' ⟨rfl, l, u, rfl, h1, h2, h3, h4⟩
      exact ⟨rfl, l, u, rfl, h2, h3, h4, .inl (by omega)⟩
    case step =>
      rintro x c st' _ hx ⟨rfl, l, u, rfl, h1, h2, h3, h4⟩
      dsimp only
      by_cases hge : u >= hint + 1
      · rw [if_pos hge]
        exact wpS_pure ⟨rfl, l, u, rfl, h2, h3, h4, .inl hge⟩
      · rw [if_neg hge]
        refine wpS_bind (hbe _ (by omega) _ ?_)
        cases hv : b (hint - u)
        · simp only [Bool.false_eq_true, if_false]
          exact wpS_pure ⟨rfl, u, 2 * u + 1, rfl, by omega, by omega, by omega, hv⟩
        · simp only [if_true]
          exact wpS_pure ⟨rfl, l, u, rfl, h2, h3, h4, .inr hv⟩
  · dsimp only
    simp only [if_true]
    refine wpS_bind (wpS_mono (wpS_forRange (I := fun x c st' => st' = st /\ ∃ l u, c = (none, l, u) /\ x + 1 <= u /\ l < u /\ hint + l < n /\ b (hint + l) = true)
      (Q := fun c st' => st' = st /\ ∃ l u, c = (none, l, u) /\ l < u /\ hint + l < n /\ b (hint + l) = true /\ (u >= n - hint \/ b (hint + u) = false)) ?step2 ?fin2 ⟨rfl, 0, 1, rfl, by omega, by omega, by omega, hr⟩) ?post2)
    case post2 =>
      rintro c st' ⟨rfl, l, u, rfl, h1, h2, h3, h4⟩
      dsimp only
      refine (bs_ok b hbe hb (l0 := hint + l + 1) (h0 := hint + min u (n - hint)) (by omega) (by omega) (fun i a => hb i _ (by omega) h2 h3) (fun i a c => ?_) q : wpS (model prog w) A E s (bsB be n _ _) Q st')
      rcases h4 with h4 | h4
      · omega
      · exact hb' (hint + u) i (by omega) c h4
    case fin2 =>
      rintro c st' ⟨rfl, l, u, rfl, h1, h2, h3, h4⟩
      exact ⟨rfl, l, u, rfl, h2, h3, h4, .inl (by omega)⟩
    case step2 =>
      rintro x c st' _ hx ⟨rfl, l, u, rfl, h1, h2, h3, h4⟩
      dsimp only
      by_cases hge : u >= n - hint
      · rw [if_pos hge]
        exact wpS_pure ⟨rfl, l, u, rfl, h2, h3, h4, .inl hge⟩
      · rw [if_neg hge]
        refine wpS_bind (hbe _ (by omega) _ ?_)
        cases hv : b (hint + u)
        · simp only [Bool.not_false, if_true]
          exact wpS_pure ⟨rfl, l, u, rfl, h2, h3, h4, .inr hv⟩
        · simp only [Bool.not_true, Bool.false_eq_true, if_false]
          exact wpS_pure ⟨rfl, u, 2 * u + 1, rfl, by omega, by omega, by omega, hv⟩
end
section
variable {prog : Program} {w : World} {A : Around} {E : Value -> Shared -> Prop} {s : Shared} {o : Ord} {N : Nat} {f : Nat -> Keyed} {kd : SortKind} {st : SortSt}
theorem gal_r (C : Cmp prog w A s o N f kd) (hk : kindOf st = kd) {key base n hint : Nat} {arr : Array Keyed} {h : Nat -> Nat} (ha : ∀ i, i < n -> arr[base + i]? = some (f (h i))) (hN : ∀ i, i < n -> h i < key) (hkN : key < N) (so : So o h 0 n) (hh : hint < n)
    {Q : Option Nat -> SortSt -> Prop} (q : ∀ k, k <= n -> (∀ i, i < k -> P o (h i) key) -> (∀ i, k <= i -> i < n -> P o key (h i)) -> Q (some k) st) : wpS (model prog w) A E s (gallop' false (f key) arr base n hint) Q st := by
  rw [gallop_eq]
  refine galB_ok (fun i => !o.lt key (h i)) (fun i hi Q' q' => ?_) (fun i j a b c => ?_) hh fun k h1 h2 h3 => q k h1 (fun i a => ?_) fun i a b => ?_
  · refine wpS_bind (wpS_elem (ha i hi) ?_)
    simp only [Bool.false_eq_true, if_false]
    exact wpS_bind (wpS_lt C hk hkN (by have := hN i hi; omega) (wpS_pure q'))
  · by_cases z : i = j
    · subst z; exact c
    · have r := so i j (Nat.zero_le _) (by omega) b
      have c' : o.lt key (h j) = false := by simpa using c
      cases e : o.lt key (h i) with
      | false => rfl
      | true =>
        have := (P.of_lt e).trans r
        rw [this.lt (hN j b)] at c'; cases c'
  · have := h2 i a
    exact P.of_ge (by simpa using this) (hN i (by omega))
  · have := h3 i a b
    exact .inl (by simpa using this)
theorem gal_l (C : Cmp prog w A s o N f kd) (hk : kindOf st = kd) {key base n hint : Nat} {arr : Array Keyed} {h : Nat -> Nat} (ha : ∀ i, i < n -> arr[base + i]? = some (f (h i))) (hN : ∀ i, i < n -> key < h i /\ h i < N) (so : So o h 0 n) (hh : hint < n)
    {Q : Option Nat -> SortSt -> Prop} (q : ∀ k, k <= n -> (∀ i, i < k -> P o (h i) key) -> (∀ i, k <= i -> i < n -> P o key (h i)) -> Q (some k) st) : wpS (model prog w) A E s (gallop' true (f key) arr base n hint) Q st := by
  rw [gallop_eq]
  refine galB_ok (fun i => o.lt (h i) key) (fun i hi Q' q' => ?_) (fun i j a b c => ?_) hh fun k h1 h2 h3 => q k h1 (fun i a => ?_) fun i a b => ?_
  · refine wpS_bind (wpS_elem (ha i hi) ?_)
    simp only [if_true]
    exact wpS_lt C hk (hN i hi).2 (by have := hN i hi; omega) q'
  · by_cases z : i = j
    · subst z; exact c
    · have r := so i j (Nat.zero_le _) (by omega) b
      exact (r.trans (P.of_lt c)).lt (hN i (by omega)).1
  · exact .inl (h2 i a)
  · exact P.of_ge (h3 i a b) (hN i b).1
end
end Sx
set_option Elab.async false
set_option linter.all false
set_option maxRecDepth 100000
set_option maxHeartbeats 4000000
namespace Sx
open PySem PyProof.Rows
noncomputable def mergeLo' : Array Keyed -> Array Keyed -> StateT SortSt Sem (Array Keyed) := sortPriv% PySem.Builtin.mergeLo
noncomputable def mergeHi' : Array Keyed -> Array Keyed -> StateT SortSt Sem (Array Keyed) := sortPriv% PySem.Builtin.mergeHi
noncomputable def setG' : Nat -> StateT SortSt Sem Unit := sortPriv% PySem.Builtin.setMinGallop
theorem setG_eq (m : Nat) : setG' m = modify fun s => SortSt.mk' (kindOf s) (arrOf s) (pendingOf s) m (failedOf s) := rfl
theorem mergeLo_eq (a b : Array Keyed) : mergeLo' a b = (do
  rule "list.sort.merge-lo"
  let all_ := a.size + b.size
  let end1 (acc : Array Keyed) (p q : Nat) := acc ++ a.extract p a.size ++ b.extract q b.size
  let end2 (acc : Array Keyed) (p q : Nat) := acc ++ b.extract q b.size ++ a.extract p a.size
  let mut acc : Array Keyed := #[<- elem' b 0]
  let mut p := 0
  let mut q := 1
  if q == b.size then return end1 acc p q
  if p + 1 == a.size then return end2 acc p q
  let mut mg := gallopOf (<- get)
  for _ in [0:all_] do
    let mut ca := 0
    let mut cb := 0
    for _ in [0:all_] do
      let some won <- lt' (<- elem' b q) (<- elem' a p) | return end1 acc p q
      if won then
        acc := acc.push (<- elem' b q); q := q + 1; cb := cb + 1; ca := 0
        if q == b.size then return end1 acc p q
        if cb >= mg then break
      else
        acc := acc.push (<- elem' a p); p := p + 1; ca := ca + 1; cb := 0
        if p + 1 == a.size then return end2 acc p q
        if ca >= mg then break
    rule "list.sort.gallop"
    mg := mg + 1
    for _ in [0:all_] do
      if mg > 1 then mg := mg - 1
      setG' mg
      let some k <- gallop' false (<- elem' b q) a p (a.size - p) 0 | return end1 acc p q
      ca := k
      if k > 0 then
        acc := acc ++ a.extract p (p + k); p := p + k
        if p + 1 == a.size then return end2 acc p q
        if p == a.size then return end1 acc p q
      acc := acc.push (<- elem' b q); q := q + 1
      if q == b.size then return end1 acc p q
      let some k <- gallop' true (<- elem' a p) b q (b.size - q) 0 | return end1 acc p q
      cb := k
      if k > 0 then
        acc := acc ++ b.extract q (q + k); q := q + k
        if q == b.size then return end1 acc p q
      acc := acc.push (<- elem' a p); p := p + 1
      if p + 1 == a.size then return end2 acc p q
      if ca < 7 && cb < 7 then break
    mg := mg + 1
    setG' mg
  unsupported "internal:list.sort.merge-bound") := rfl
section
variable {o : Ord} {N : Nat} {f : Nat -> Keyed} {A B hs : List Nat} {ia ib : Nat}
noncomputable def fa (f : Nat -> Keyed) (l : List Nat) : Array Keyed := (l.map f).toArray
theorem fa_size (l : List Nat) : (fa f l).size = l.length := by unfold fa; rw [List.size_toArray, List.length_map]
theorem fa_get (l : List Nat) (i : Nat) : (fa f l)[i]? = (l[i]?).map f := by unfold fa; rw [List.getElem?_toArray, List.getElem?_map]
theorem fa_at {l : List Nat} {i x : Nat} (h : l[i]? = some x) : (fa f l)[i]? = some (f x) := by rw [fa_get, h]; rfl
theorem fa_push (l : List Nat) (x : Nat) : (fa f l).push (f x) = fa f (l ++ [x]) := by
  unfold fa; rw [List.push_toArray, List.map_append]; rfl
theorem fa_app (l m : List Nat) : fa f l ++ fa f m = fa f (l ++ m) := by
  unfold fa; rw [List.append_toArray, List.map_append]
theorem fa_ext (l : List Nat) (i j : Nat) : (fa f l).extract i j = fa f ((l.drop i).take (j - i)) := by
  unfold fa; rw [List.extract_toArray, List.extract_eq_take_drop, List.map_take, List.map_drop]
theorem fa_drop (l : List Nat) (i : Nat) : (fa f l).extract i l.length = fa f (l.drop i) := by
  rw [fa_ext, List.take_of_length_le (by rw [List.length_drop]; omega)]
structure Ab (o : Ord) (N : Nat) (A B : List Nat) : Prop where
  sa : A.Pairwise (P o)
  sb : B.Pairwise (P o)
  lt : ∀ x ∈ A, ∀ y ∈ B, x < y
  nb : ∀ y ∈ B, y < N
  na : ∀ x ∈ A, x < N
structure Mg (o : Ord) (A B hs : List Nat) (ia ib : Nat) : Prop where
  la : ia <= A.length
  lb : ib <= B.length
  len : hs.length = ia + ib
  so : hs.Pairwise (P o)
  mem : ∀ x ∈ hs, x ∈ A \/ x ∈ B
  ua : ∀ x ∈ hs, ∀ y ∈ A.drop ia, P o x y
  ub : ∀ x ∈ hs, ∀ y ∈ B.drop ib, P o x y
noncomputable def Res (o : Ord) (f : Nat -> Keyed) (A B : List Nat) (out : Array Keyed) : Prop := ∃ hs : List Nat, out = fa f hs /\ hs.length = A.length + B.length /\ hs.Pairwise (P o) /\ ∀ x ∈ hs, x ∈ A \/ x ∈ B
theorem pw_get {l : List Nat} (h : l.Pairwise (P o)) {i j x y : Nat} (hx : l[i]? = some x) (hy : l[j]? = some y) (hij : i < j) : P o x y := by
  obtain ⟨h1, e1⟩ := List.getElem?_eq_some_iff.mp hx
  obtain ⟨h2, e2⟩ := List.getElem?_eq_some_iff.mp hy
  rw [<- e1, <- e2]
  exact List.pairwise_iff_getElem.mp h i j h1 h2 hij
theorem mem_drop {l : List Nat} {i y : Nat} (h : y ∈ l.drop i) : ∃ j, i <= j /\ l[j]? = some y := by
  obtain ⟨k, hk⟩ := List.getElem?_of_mem h
  rw [List.getElem?_drop] at hk
  exact ⟨i + k, by omega, hk⟩
theorem Mg.takeA (ab : Ab o N A B) (m : Mg o A B hs ia ib) {x : Nat} (hx : A[ia]? = some x) (h : ∀ y ∈ B.drop ib, P o x y) : Mg o A B (hs ++ [x]) (ia + 1) ib := by
  obtain ⟨h1, e1⟩ := List.getElem?_eq_some_iff.mp hx
  have hd : A.drop ia = x :: A.drop (ia + 1) := by rw [<- e1]; exact List.drop_eq_getElem_cons h1
  refine ⟨by omega, m.lb, by rw [List.length_append, m.len]; show ia + ib + 1 = _; omega, ?_, fun z hz => ?_, fun z hz y hy => ?_, fun z hz y hy => ?_⟩
  · rw [List.pairwise_append]
    exact ⟨m.so, List.pairwise_singleton .., fun a ha b hb => by rw [List.mem_singleton.mp hb]; exact m.ua a ha x (by rw [hd]; exact List.mem_cons_self ..)⟩
  · rcases List.mem_append.mp hz with z' | z'
    · exact m.mem z z'
    · rw [List.mem_singleton.mp z']; exact .inl (List.mem_of_getElem? hx)
  · rcases List.mem_append.mp hz with z' | z'
    · exact m.ua z z' y (by rw [hd]; exact List.mem_cons_of_mem _ hy)
    · rw [List.mem_singleton.mp z']
      obtain ⟨j, hj, ej⟩ := mem_drop hy
      exact pw_get ab.sa hx ej (by omega)
  · rcases List.mem_append.mp hz with z' | z'
    · exact m.ub z z' y hy
    · rw [List.mem_singleton.mp z']; exact h y hy
theorem Ab.flip_ok (ab : Ab o N A B) (m : Mg o A B hs ia ib) {x : Nat} (hx : B[ib]? = some x) (h : ∀ y ∈ A.drop ia, P o x y) : Mg o A B (hs ++ [x]) ia (ib + 1) := by
  obtain ⟨h1, e1⟩ := List.getElem?_eq_some_iff.mp hx
  have hd : B.drop ib = x :: B.drop (ib + 1) := by rw [<- e1]; exact List.drop_eq_getElem_cons h1
  refine ⟨m.la, by omega, by rw [List.length_append, m.len]; rfl, ?_, fun z hz => ?_, fun z hz y hy => ?_, fun z hz y hy => ?_⟩
  · rw [List.pairwise_append]
    exact ⟨m.so, List.pairwise_singleton .., fun a ha b hb => by rw [List.mem_singleton.mp hb]; exact m.ub a ha x (by rw [hd]; exact List.mem_cons_self ..)⟩
  · rcases List.mem_append.mp hz with z' | z'
    · exact m.mem z z'
    · rw [List.mem_singleton.mp z']; exact .inr (List.mem_of_getElem? hx)
  · rcases List.mem_append.mp hz with z' | z'
    · exact m.ua z z' y hy
    · rw [List.mem_singleton.mp z']; exact h y hy
  · rcases List.mem_append.mp hz with z' | z'
    · exact m.ub z z' y (by rw [hd]; exact List.mem_cons_of_mem _ hy)
    · rw [List.mem_singleton.mp z']
      obtain ⟨j, hj, ej⟩ := mem_drop hy
      exact pw_get ab.sb hx ej (by omega)
theorem all_drop {l : List Nat} (h : l.Pairwise (P o)) {i x y : Nat} (hx : l[i]? = some x) (hxy : P o y x) : ∀ z ∈ l.drop i, P o y z := fun z hz => by
  obtain ⟨j, hj, ej⟩ := mem_drop hz
  by_cases c : j = i
  · subst c; rw [hx] at ej; cases ej; exact hxy
  · exact hxy.trans (pw_get h hx ej (by omega))
theorem take_snoc {l : List Nat} {i k x : Nat} (h : l[i + k]? = some x) : (l.drop i).take (k + 1) = (l.drop i).take k ++ [x] := by
  have h' : (l.drop i)[k]? = some x := by rw [List.getElem?_drop]; exact h
  obtain ⟨h1, e1⟩ := List.getElem?_eq_some_iff.mp h'
  rw [List.take_succ_eq_append_getElem h1, e1]
theorem Mg.takeAs (ab : Ab o N A B) (m : Mg o A B hs ia ib) {y : Nat} (hy : B[ib]? = some y) : ∀ k, ia + k <= A.length -> (∀ i x, i < k -> A[ia + i]? = some x -> P o x y) -> Mg o A B (hs ++ (A.drop ia).take k) (ia + k) ib
  | 0, _, _ => by rw [List.take_zero, List.append_nil]; exact m
  | k + 1, hk, h => by
    have ih := Mg.takeAs ab m hy k (by omega) fun i x hi => h i x (by omega)
    have hx : A[ia + k]? = some (A[ia + k]'(by omega)) := List.getElem?_eq_getElem _
    rw [take_snoc hx, <- List.append_assoc]
    exact ih.takeA ab hx (all_drop ab.sb hy (h k _ (by omega) hx))
theorem Mg.takeBs (ab : Ab o N A B) (m : Mg o A B hs ia ib) {y : Nat} (hy : A[ia]? = some y) : ∀ k, ib + k <= B.length -> (∀ i x, i < k -> B[ib + i]? = some x -> P o x y) -> Mg o A B (hs ++ (B.drop ib).take k) ia (ib + k)
  | 0, _, _ => by rw [List.take_zero, List.append_nil]; exact m
  | k + 1, hk, h => by
    have ih := Mg.takeBs ab m hy k (by omega) fun i x hi => h i x (by omega)
    have hx : B[ib + k]? = some (B[ib + k]'(by omega)) := List.getElem?_eq_getElem _
    rw [take_snoc hx, <- List.append_assoc]
    exact ab.flip_ok ih hx (all_drop ab.sa hy (h k _ (by omega) hx))
theorem pw_drop {l : List Nat} (h : l.Pairwise (P o)) (i : Nat) : (l.drop i).Pairwise (P o) := h.sublist (List.drop_sublist ..)
theorem Mg.fin (ab : Ab o N A B) (m : Mg o A B hs ia ib) (h : ∀ x ∈ A.drop ia, ∀ y ∈ B.drop ib, P o x y) : Res o f A B (fa f hs ++ (fa f A).extract ia A.length ++ (fa f B).extract ib B.length) := by
  rw [fa_drop, fa_drop, fa_app, fa_app]
  have la := m.la
  have lb := m.lb
  refine ⟨_, rfl, by rw [List.length_append, List.length_append, m.len, List.length_drop, List.length_drop]; omega, ?_, fun x hx => ?_⟩
  · rw [List.pairwise_append, List.pairwise_append]
    refine ⟨⟨m.so, pw_drop ab.sa _, m.ua⟩, pw_drop ab.sb _, fun x hx y hy => ?_⟩
    rcases List.mem_append.mp hx with z | z
    · exact m.ub x z y hy
    · exact h x z y hy
  · rcases List.mem_append.mp hx with z | z
    · rcases List.mem_append.mp z with z | z
      · exact m.mem x z
      · exact .inl (List.mem_of_mem_drop z)
    · exact .inr (List.mem_of_mem_drop z)
theorem Mg.finB (ab : Ab o N A B) (m : Mg o A B hs ia ib) (h : ∀ x ∈ A.drop ia, ∀ y ∈ B.drop ib, P o y x) : Res o f A B (fa f hs ++ (fa f B).extract ib B.length ++ (fa f A).extract ia A.length) := by
  rw [fa_drop, fa_drop, fa_app, fa_app]
  have la := m.la
  have lb := m.lb
  refine ⟨_, rfl, by rw [List.length_append, List.length_append, m.len, List.length_drop, List.length_drop]; omega, ?_, fun x hx => ?_⟩
  · rw [List.pairwise_append, List.pairwise_append]
    refine ⟨⟨m.so, pw_drop ab.sb _, m.ub⟩, pw_drop ab.sa _, fun x hx y hy => ?_⟩
    rcases List.mem_append.mp hx with z | z
    · exact m.ua x z y hy
    · exact h y hy x z
  · rcases List.mem_append.mp hx with z | z
    · rcases List.mem_append.mp z with z | z
      · exact m.mem x z
      · exact .inr (List.mem_of_mem_drop z)
    · exact .inl (List.mem_of_mem_drop z)
theorem drop_nil {l : List Nat} {i : Nat} (h : l.length <= i) : l.drop i = [] := List.drop_eq_nil_of_le h
theorem so_of {l : List Nat} (h : l.Pairwise (P o)) (b n : Nat) (hn : b + n <= l.length) : So o (fun i => l.getD (b + i) 0) 0 n := fun i j _ hij hj =>
  pw_get h (i := b + i) (j := b + j) (by show _ = some (l.getD (b + i) 0); rw [List.getD_eq_getElem?_getD, List.getElem?_eq_getElem (show b + i < l.length by omega)]; rfl) (by show _ = some (l.getD (b + j) 0); rw [List.getD_eq_getElem?_getD, List.getElem?_eq_getElem (show b + j < l.length by omega)]; rfl) (by omega)
theorem getD_at {l : List Nat} {i : Nat} (h : i < l.length) : l[i]? = some (l.getD i 0) := by
  rw [List.getD_eq_getElem?_getD, List.getElem?_eq_getElem h]; rfl
end
structure Sm (st st' : SortSt) : Prop where
  a : arrOf st' = arrOf st
  k : kindOf st' = kindOf st
  p : pendingOf st' = pendingOf st
  f : failedOf st' = failedOf st
theorem Sm.refl {st : SortSt} : Sm st st := ⟨rfl, rfl, rfl, rfl⟩
theorem Sm.trans {st st' st'' : SortSt} (a : Sm st st') (b : Sm st' st'') : Sm st st'' := ⟨b.a.trans a.a, b.k.trans a.k, b.p.trans a.p, b.f.trans a.f⟩
noncomputable abbrev G := Option (Array Keyed) × Array Keyed × Nat × Nat × Nat × Nat × Nat
noncomputable def T3 (a b out : Array Keyed) (ia ib mg ac bc : Nat) : StateT SortSt Sem (ForInStep G) := do
  let x <- elem' a ia
  if (ia + 1 + 1 == a.size) = true then pure (ForInStep.done (some (out.push x ++ b.extract ib b.size ++ a.extract (ia + 1) a.size), out.push x, ia + 1, ib, mg, ac, bc))
  else if (decide (ac < 7) && decide (bc < 7)) = true then pure (ForInStep.done (none, out.push x, ia + 1, ib, mg, ac, bc))
  else pure (ForInStep.yield (none, out.push x, ia + 1, ib, mg, ac, bc))
noncomputable def T2 (a b out : Array Keyed) (ia ib mg ac bc : Nat) : StateT SortSt Sem (ForInStep G) := do
  let x <- elem' b ib
  if (ib + 1 == b.size) = true then pure (ForInStep.done (some (out.push x ++ a.extract ia a.size ++ b.extract (ib + 1) b.size), out.push x, ia, ib + 1, mg, ac, bc))
  else
    let y <- elem' a ia
    let r <- gallop' true y b (ib + 1) (b.size - (ib + 1)) 0
    match r with
    | some k =>
      if k > 0 then
        if (ib + 1 + k == b.size) = true then pure (ForInStep.done (some (out.push x ++ b.extract (ib + 1) (ib + 1 + k) ++ a.extract ia a.size ++ b.extract (ib + 1 + k) b.size), out.push x ++ b.extract (ib + 1) (ib + 1 + k), ia, ib + 1 + k, mg, ac, k))
        else T3 a b (out.push x ++ b.extract (ib + 1) (ib + 1 + k)) ia (ib + 1 + k) mg ac k
      else T3 a b (out.push x) ia (ib + 1) mg ac k
    | _ => pure (ForInStep.done (some (out.push x ++ a.extract ia a.size ++ b.extract (ib + 1) b.size), out.push x, ia, ib + 1, mg, ac, bc))
noncomputable def T1 (a b out : Array Keyed) (ia ib mg ac bc : Nat) : StateT SortSt Sem (ForInStep G) := do
  setG' mg
  let x <- elem' b ib
  let r <- gallop' false x a ia (a.size - ia) 0
  match r with
  | some k =>
    if k > 0 then
      if (ia + k + 1 == a.size) = true then pure (ForInStep.done (some (out ++ a.extract ia (ia + k) ++ b.extract ib b.size ++ a.extract (ia + k) a.size), out ++ a.extract ia (ia + k), ia + k, ib, mg, k, bc))
      else if (ia + k == a.size) = true then pure (ForInStep.done (some (out ++ a.extract ia (ia + k) ++ a.extract (ia + k) a.size ++ b.extract ib b.size), out ++ a.extract ia (ia + k), ia + k, ib, mg, k, bc))
      else T2 a b (out ++ a.extract ia (ia + k)) (ia + k) ib mg k bc
    else T2 a b out ia ib mg k bc
  | _ => pure (ForInStep.done (some (out ++ a.extract ia a.size ++ b.extract ib b.size), out, ia, ib, mg, ac, bc))
section
variable {prog : Program} {w : World} {A : Around} {E : Value -> Shared -> Prop} {s : Shared} {o : Ord} {N : Nat} {f : Nat -> Keyed} {kd : SortKind} {st st0 : SortSt} {X Y hs : List Nat} {ia ib : Nat}
theorem wpS_setG {m : Nat} (h : Sm st0 st) {Q : Unit -> SortSt -> Prop} (q : ∀ st', Sm st0 st' -> Q () st') : wpS (model prog w) A E s (setG' m) Q st := by
  rw [setG_eq]; exact wpS_modify (q _ (h.trans ⟨rfl, rfl, rfl, rfl⟩))
noncomputable def On (o : Ord) (f : Nat -> Keyed) (X Y : List Nat) (n : Nat) (hs : List Nat) (ia ib : Nat) : Prop := Mg o X Y hs ia ib /\ ia + 1 < X.length /\ ib < Y.length /\ n <= ia + ib
noncomputable def G2 (o : Ord) (f : Nat -> Keyed) (X Y : List Nat) (n : Nat) (st0 : SortSt) : ForInStep G -> SortSt -> Prop := fun r st' => Sm st0 st' /\ match r with
  | .done c => (∃ r z, c = (some r, z) /\ Res o f X Y r) \/ ∃ hs ia ib mg ac bc, c = (none, fa f hs, ia, ib, mg, ac, bc) /\ On o f X Y n hs ia ib
  | .yield c => ∃ hs ia ib mg ac bc, c = (none, fa f hs, ia, ib, mg, ac, bc) /\ On o f X Y n hs ia ib
noncomputable def Top (o : Ord) (X Y : List Nat) : Prop := ∀ i x, X[i]? = some x -> i + 1 = X.length -> ∀ y ∈ Y, P o y x
theorem last_fin (ab : Ab o N X Y) (tp : Top o X Y) (m : Mg o X Y hs ia ib) (h : ia + 1 = X.length) : Res o f X Y (fa f hs ++ (fa f Y).extract ib Y.length ++ (fa f X).extract ia X.length) :=
  m.finB ab fun x hx y hy => by
    obtain ⟨j, hj, ej⟩ := mem_drop hx
    have := (List.getElem?_eq_some_iff.mp ej).1
    exact tp j x ej (by omega) y (List.mem_of_mem_drop hy)
theorem T3_ok (ab : Ab o N X Y) (tp : Top o X Y) (hm : Sm st0 st) {n mg ac bc x y : Nat} (m : Mg o X Y hs ia ib) (ha : ia + 1 < X.length) (hb : ib < Y.length) (hn : n <= ia + ib) (hx : X[ia]? = some x) (hy : Y[ib]? = some y) (hxy : P o x y) :
    wpS (model prog w) A E s (T3 (fa f X) (fa f Y) (fa f hs) ia ib mg ac bc) (G2 o f X Y n st0) st := by
  unfold T3
  simp only [fa_size]
  refine wpS_bind (wpS_elem (fa_at hx) ?_)
  have m2 := m.takeA ab hx (all_drop ab.sb hy hxy)
  rw [fa_push]
  by_cases c : ia + 1 + 1 = X.length
  · rw [if_pos (by rw [c]; exact beq_self_eq_true _)]
    exact wpS_pure ⟨hm, .inl ⟨_, _, rfl, last_fin ab tp m2 c⟩⟩
  · rw [if_neg (by simpa using c)]
    by_cases c2 : (decide (ac < 7) && decide (bc < 7)) = true
    · rw [if_pos c2]
      exact wpS_pure ⟨hm, .inr ⟨_, _, _, _, _, _, rfl, m2, by omega, hb, by omega⟩⟩
    · rw [if_neg c2]
      exact wpS_pure ⟨hm, ⟨_, _, _, _, _, _, rfl, m2, by omega, hb, by omega⟩⟩
theorem T2_ok (C : Cmp prog w A s o N f kd) (hk : kindOf st = kd) (ab : Ab o N X Y) (tp : Top o X Y) (hm : Sm st0 st) {n mg ac bc x y : Nat} (m : Mg o X Y hs ia ib) (ha : ia + 1 < X.length) (hb : ib < Y.length) (hn : n <= ia + ib) (hx : X[ia]? = some x) (hy : Y[ib]? = some y) (hxy : P o y x) :
    wpS (model prog w) A E s (T2 (fa f X) (fa f Y) (fa f hs) ia ib mg ac bc) (G2 o f X Y n st0) st := by
  unfold T2
  simp only [fa_size]
  refine wpS_bind (wpS_elem (fa_at hy) ?_)
  have m2 := ab.flip_ok m hy (all_drop ab.sa hx hxy)
  rw [fa_push]
  by_cases c : ib + 1 = Y.length
  · rw [if_pos (by rw [c]; exact beq_self_eq_true _)]
    exact wpS_pure ⟨hm, .inl ⟨_, _, rfl, m2.fin ab fun x _ y hy => by rw [drop_nil (by omega)] at hy; cases hy⟩⟩
  · rw [if_neg (by simpa using c)]
    refine wpS_bind (wpS_elem (fa_at hx) ?_)
    refine wpS_bind (gal_l C hk (h := fun i => Y.getD (ib + 1 + i) 0) (fun i hi => fa_at (getD_at (by omega))) (fun i hi => ?_) (so_of ab.sb _ _ (by omega)) (by omega) fun k k1 k2 k3 => ?_)
    · have := List.mem_of_getElem? (getD_at (l := Y) (i := ib + 1 + i) (by omega))
      exact ⟨ab.lt x (List.mem_of_getElem? hx) _ this, ab.nb _ this⟩
    · dsimp only
      have m3 := m2.takeBs ab hx k (by omega) fun i z hi ez => by
        have := k2 i hi
        rw [List.getD_eq_getElem?_getD, ez] at this
        exact this
      by_cases c2 : k > 0
      · rw [if_pos c2, fa_ext, show ib + 1 + k - (ib + 1) = k by omega, fa_app]
        by_cases c3 : ib + 1 + k = Y.length
        · rw [if_pos (by rw [c3]; exact beq_self_eq_true _)]
          exact wpS_pure ⟨hm, .inl ⟨_, _, rfl, m3.fin ab fun x _ y hy => by rw [drop_nil (by omega)] at hy; cases hy⟩⟩
        · rw [if_neg (by simpa using c3)]
          exact T3_ok ab tp hm m3 ha (by omega) (by omega) hx (getD_at (by omega)) (k3 k (Nat.le_refl _) (by omega))
      · rw [if_neg c2]
        have : k = 0 := by omega
        subst this
        exact T3_ok ab tp hm m2 ha (by omega) (by omega) hx (getD_at (by omega)) (k3 0 (Nat.le_refl _) (by omega))
theorem T1_ok (C : Cmp prog w A s o N f kd) (hk : kindOf st0 = kd) (ab : Ab o N X Y) (tp : Top o X Y) (hm : Sm st0 st) {n mg ac bc : Nat} (m : Mg o X Y hs ia ib) (ha : ia + 1 < X.length) (hb : ib < Y.length) (hn : n <= ia + ib) :
    wpS (model prog w) A E s (T1 (fa f X) (fa f Y) (fa f hs) ia ib mg ac bc) (G2 o f X Y n st0) st := by
  unfold T1
  simp only [fa_size]
  refine wpS_bind (wpS_setG hm fun st1 hm1 => ?_)
  have hy := getD_at (l := Y) (i := ib) hb
  have yB := List.mem_of_getElem? hy
  refine wpS_bind (wpS_elem (fa_at hy) ?_)
  refine wpS_bind (gal_r C (by rw [hm1.k]; exact hk) (h := fun i => X.getD (ia + i) 0) (fun i hi => fa_at (getD_at (by omega))) (fun i hi => ab.lt _ (List.mem_of_getElem? (getD_at (l := X) (i := ia + i) (by omega))) _ yB) (ab.nb _ yB) (so_of ab.sa _ _ (by omega)) (by omega) fun k k1 k2 k3 => ?_)
  dsimp only
  have m3 := m.takeAs ab hy k (by omega) fun i z hi ez => by
    have := k2 i hi
    rw [List.getD_eq_getElem?_getD, ez] at this
    exact this
  by_cases c2 : k > 0
  · rw [if_pos c2, fa_ext, show ia + k - ia = k by omega, fa_app]
    by_cases c3 : ia + k + 1 = X.length
    · rw [if_pos (by rw [c3]; exact beq_self_eq_true _)]
      exact wpS_pure ⟨hm1, .inl ⟨_, _, rfl, last_fin ab tp m3 c3⟩⟩
    · rw [if_neg (by simpa using c3)]
      by_cases c4 : ia + k = X.length
      · rw [if_pos (by rw [c4]; exact beq_self_eq_true _)]
        exact wpS_pure ⟨hm1, .inl ⟨_, _, rfl, m3.fin ab fun x hx y _ => by rw [drop_nil (by omega)] at hx; cases hx⟩⟩
      · rw [if_neg (by simpa using c4)]
        exact T2_ok C (by rw [hm1.k]; exact hk) ab tp hm1 m3 (by omega) hb (by omega) (getD_at (by omega)) hy (k3 k (Nat.le_refl _) (by omega))
  · rw [if_neg c2]
    have : k = 0 := by omega
    subst this
    exact T2_ok C (by rw [hm1.k]; exact hk) ab tp hm1 m ha hb hn (getD_at (by omega)) hy (k3 0 (Nat.le_refl _) (by omega))
theorem lo_ok (C : Cmp prog w A s o N f kd) (hk : kindOf st = kd) (ab : Ab o N X Y) (tp : Top o X Y) (h1 : 1 <= X.length) {y0 : Nat} (hy0 : Y[0]? = some y0) (h0 : ∀ x ∈ X, P o y0 x)
    {Q : Array Keyed -> SortSt -> Prop} (q : ∀ out st', Sm st st' -> Res o f X Y out -> Q out st') : wpS (model prog w) A E s (mergeLo' (fa f X) (fa f Y)) Q st := by
  rw [mergeLo_eq]
  refine wpS_bind (wpS_lift (wpAny_rule ⟨rfl, ?_⟩))
  dsimp only
  simp only [fa_size]
  have hY := (List.getElem?_eq_some_iff.mp hy0).1
  refine wpS_bind (wpS_elem (fa_at hy0) ?_)
  have m0 : Mg o X Y [] 0 0 := ⟨Nat.zero_le _, Nat.zero_le _, rfl, List.Pairwise.nil, (fun _ h => nomatch h), (fun _ h => nomatch h), (fun _ h => nomatch h)⟩
  have m1 : Mg o X Y [y0] 0 1 := ab.flip_ok m0 hy0 h0
  have e1 : (#[f y0] : Array Keyed) = fa f [y0] := rfl
  rw [e1]
  by_cases c : 1 = Y.length
  · rw [if_pos (by rw [<- c]; rfl)]
    exact wpS_pure (q _ _ Sm.refl (m1.fin ab fun x _ y hy => by rw [drop_nil (by omega)] at hy; cases hy))
  · rw [if_neg (by simpa using c)]
    by_cases c2 : 0 + 1 = X.length
    · rw [if_pos (by rw [<- c2]; rfl)]
      exact wpS_pure (q _ _ Sm.refl (last_fin ab tp m1 c2))
    · rw [if_neg (by simpa using c2)]
      refine wpS_bind (wpS_get ?_)
      refine wpS_bind (wpS_mono (wpS_forRange (I := fun x c st' => Sm st st' /\ ∃ hs ia ib mg, c = (none, fa f hs, ia, ib, mg) /\ On o f X Y (x + 1) hs ia ib)
        (Q := fun c st' => Sm st st' /\ ∃ r z, c = (some r, z) /\ Res o f X Y r) ?step ?fin ⟨Sm.refl, _, _, _, _, rfl, m1, by omega, by omega, Nat.le_refl _⟩) ?post)
      case post =>
        rintro c st' ⟨hm, r, z, rfl, hr⟩
        exact wpS_pure (q _ _ hm hr)
      case fin =>
        rintro c st' ⟨hm, hs, ia, ib, mg, rfl, m, a1, a2, a3⟩
        exfalso
        omega
      case step =>
        rintro x c st' _ hx ⟨hm, hs, ia, ib, mg, rfl, m, a1, a2, a3⟩
        dsimp only
        refine wpS_bind (wpS_mono (wpS_forRange (I := fun x' c st'' => Sm st st'' /\ ∃ hs ia ib ac bc, c = (none, fa f hs, ia, ib, ac, bc) /\ On o f X Y (x + 1 + min x' 1) hs ia ib)
          (Q := fun c st'' => Sm st st'' /\ ((∃ r z, c = (some r, z) /\ Res o f X Y r) \/ ∃ hs ia ib ac bc, c = (none, fa f hs, ia, ib, ac, bc) /\ On o f X Y (x + 1 + 1) hs ia ib)) ?istep ?ifin ⟨hm, _, _, _, _, _, rfl, m, a1, a2, a3⟩) ?ipost)
        case ifin =>
          rintro c st'' ⟨hm', hs, ia, ib, ac, bc, rfl, m, a1, a2, a3⟩
          exact ⟨hm', .inr ⟨_, _, _, _, _, rfl, m, a1, a2, by omega⟩⟩
        case istep =>
          rintro x' c st'' _ hx' ⟨hm', hs, ia, ib, ac, bc, rfl, m, a1, a2, a3⟩
          dsimp only
          have hy := getD_at (l := Y) (i := ib) a2
          have hxx := getD_at (l := X) (i := ia) (by omega)
          have yB := List.mem_of_getElem? hy
          have xA := List.mem_of_getElem? hxx
          have lt := ab.lt _ xA _ yB
          refine wpS_bind (wpS_elem (fa_at hy) ?_)
          refine wpS_bind (wpS_elem (fa_at hxx) ?_)
          refine wpS_bind (wpS_lt C (by rw [hm'.k]; exact hk) (ab.nb _ yB) (ab.na _ xA) ?_)
          cases hl : o.lt (Y.getD ib 0) (X.getD ia 0)
          · simp only [Bool.false_eq_true, if_false]
            refine wpS_bind (wpS_elem (fa_at hxx) ?_)
            have m2 := m.takeA ab hxx (all_drop ab.sb hy (P.of_ge hl lt))
            rw [fa_push]
            by_cases c3 : ia + 1 + 1 = X.length
            · rw [if_pos (by rw [c3]; exact beq_self_eq_true _)]
              exact wpS_pure ⟨hm', .inl ⟨_, _, rfl, last_fin ab tp m2 c3⟩⟩
            · rw [if_neg (by simpa using c3)]
              by_cases c4 : ac + 1 >= mg
              · rw [if_pos c4]
                exact wpS_pure ⟨hm', .inr ⟨_, _, _, _, _, rfl, m2, by omega, a2, by omega⟩⟩
              · rw [if_neg c4]
                exact wpS_pure ⟨hm', _, _, _, _, _, rfl, m2, by omega, a2, by omega⟩
          · simp only [if_true]
            refine wpS_bind (wpS_elem (fa_at hy) ?_)
            have m2 := ab.flip_ok m hy (all_drop ab.sa hxx (P.of_lt hl))
            rw [fa_push]
            by_cases c3 : ib + 1 = Y.length
            · rw [if_pos (by rw [c3]; exact beq_self_eq_true _)]
              exact wpS_pure ⟨hm', .inl ⟨_, _, rfl, m2.fin ab fun x _ y hy => by rw [drop_nil (by omega)] at hy; cases hy⟩⟩
            · rw [if_neg (by simpa using c3)]
              by_cases c4 : bc + 1 >= mg
              · rw [if_pos c4]
                exact wpS_pure ⟨hm', .inr ⟨_, _, _, _, _, rfl, m2, a1, by omega, by omega⟩⟩
              · rw [if_neg c4]
                exact wpS_pure ⟨hm', _, _, _, _, _, rfl, m2, a1, by omega, by omega⟩
        case ipost =>
          rintro c st'' ⟨hm', ⟨r, z, rfl, hr⟩ | ⟨hs, ia, ib, ac, bc, rfl, m, a1, a2, a3⟩⟩
          · dsimp only
            exact wpS_pure ⟨hm', r, _, rfl, hr⟩
          · dsimp only
            refine wpS_bind (wpS_lift (wpAny_rule ⟨rfl, ?_⟩))
            refine wpS_bind (wpS_mono (wpS_forRange (I := fun x' c st'' => Sm st st'' /\ ∃ hs ia ib mg ac bc, c = (none, fa f hs, ia, ib, mg, ac, bc) /\ On o f X Y (x + 1 + 1) hs ia ib)
              (Q := fun c st'' => Sm st st'' /\ ((∃ r z, c = (some r, z) /\ Res o f X Y r) \/ ∃ hs ia ib mg ac bc, c = (none, fa f hs, ia, ib, mg, ac, bc) /\ On o f X Y (x + 1 + 1) hs ia ib)) ?jstep ?jfin ⟨hm', _, _, _, _, _, _, rfl, m, a1, a2, a3⟩) ?jpost)
            case jfin =>
              rintro c st3 ⟨hm3, hh⟩
              exact ⟨hm3, .inr hh⟩
            case jstep =>
              rintro x' c st3 _ hx' ⟨hm3, hs, ia, ib, mg, ac, bc, rfl, m, a1, a2, a3⟩
              dsimp only
              have t1 := fun mg => T1_ok (n := x + 1 + 1) (mg := mg) (ac := ac) (bc := bc) (E := E) C hk ab tp hm3 m a1 a2 a3
              unfold T1 T2 T3 at t1
              simp only [fa_size] at t1
              refine wpS_mono (Q := G2 o f X Y (x + 1 + 1) st) ?_ ?_
              · by_cases c3 : mg > 1
                · rw [if_pos c3]
                  exact t1 (mg - 1)
                · rw [if_neg c3]
                  exact t1 mg
              · rintro r st4 ⟨hm4, hr⟩
                cases r with
                | done c => exact ⟨hm4, hr⟩
                | yield c => exact ⟨hm4, hr⟩
            case jpost =>
              rintro c st3 ⟨hm3, ⟨r, z, rfl, hr⟩ | ⟨hs, ia, ib, mg, ac, bc, rfl, m, a1, a2, a3⟩⟩
              · dsimp only
                exact wpS_pure ⟨hm3, r, _, rfl, hr⟩
              · dsimp only
                refine wpS_bind (wpS_setG hm3 fun st4 hm4 => ?_)
                exact wpS_pure ⟨hm4, _, _, _, _, rfl, m, a1, a2, a3⟩
end
end Sx
set_option Elab.async false
set_option linter.all false
set_option maxRecDepth 100000
set_option maxHeartbeats 4000000
namespace Sx
open PySem PyProof.Rows
theorem mergeHi_eq (a b : Array Keyed) : mergeHi' a b = (do
  rule "list.sort.merge-hi"
  let all_ := a.size + b.size
  let end1 (acc : Array Keyed) (p q : Nat) := a.extract 0 p ++ b.extract 0 q ++ acc.reverse
  let end2 (acc : Array Keyed) (p q : Nat) := b.extract 0 q ++ a.extract 0 p ++ acc.reverse
  let mut p := a.size - 1
  let mut q := b.size
  let mut acc : Array Keyed := #[<- elem' a p]
  if p == 0 then return end1 acc p q
  if q == 1 then return end2 acc p q
  let mut mg := gallopOf (<- get)
  for _ in [0:all_] do
    let mut ca := 0
    let mut cb := 0
    for _ in [0:all_] do
      let some won <- lt' (<- elem' b (q - 1)) (<- elem' a (p - 1)) | return end1 acc p q
      if won then
        p := p - 1; acc := acc.push (<- elem' a p); ca := ca + 1; cb := 0
        if p == 0 then return end1 acc p q
        if ca >= mg then break
      else
        q := q - 1; acc := acc.push (<- elem' b q); cb := cb + 1; ca := 0
        if q == 1 then return end2 acc p q
        if cb >= mg then break
    rule "list.sort.gallop"
    mg := mg + 1
    for _ in [0:all_] do
      if mg > 1 then mg := mg - 1
      setG' mg
      let some t <- gallop' false (<- elem' b (q - 1)) a 0 p (p - 1) | return end1 acc p q
      let k := p - t
      ca := k
      if k > 0 then
        acc := acc ++ (a.extract t p).reverse; p := t
        if p == 0 then return end1 acc p q
      q := q - 1; acc := acc.push (<- elem' b q)
      if q == 1 then return end2 acc p q
      let some t <- gallop' true (<- elem' a (p - 1)) b 0 q (q - 1) | return end1 acc p q
      let k := q - t
      cb := k
      if k > 0 then
        acc := acc ++ (b.extract t q).reverse; q := t
        if q == 1 then return end2 acc p q
        if q == 0 then return end1 acc p q
      p := p - 1; acc := acc.push (<- elem' a p)
      if p == 0 then return end1 acc p q
      if ca < 7 && cb < 7 then break
    mg := mg + 1
    setG' mg
  unsupported "internal:list.sort.merge-bound") := rfl
section
variable {o : Ord} {N : Nat} {f : Nat -> Keyed} {A B ts : List Nat} {na nb : Nat}
theorem fa_rev (l : List Nat) : (fa f l).reverse = fa f l.reverse := by
  unfold fa; rw [List.reverse_toArray, List.map_reverse]
theorem fa_take (l : List Nat) (i : Nat) : (fa f l).extract 0 i = fa f (l.take i) := by
  rw [fa_ext, List.drop_zero, Nat.sub_zero]
structure Mh (o : Ord) (A B ts : List Nat) (na nb : Nat) : Prop where
  la : na <= A.length
  lb : nb <= B.length
  len : ts.length + na + nb = A.length + B.length
  so : ts.Pairwise (P o)
  mem : ∀ x ∈ ts, x ∈ A \/ x ∈ B
  ua : ∀ y ∈ A.take na, ∀ x ∈ ts, P o y x
  ub : ∀ y ∈ B.take nb, ∀ x ∈ ts, P o y x
theorem mem_take {l : List Nat} {i y : Nat} (h : y ∈ l.take i) : ∃ j, j < i /\ l[j]? = some y := by
  obtain ⟨k, hk⟩ := List.getElem?_of_mem h
  have := (List.getElem?_eq_some_iff.mp hk).1
  rw [List.length_take] at this
  rw [List.getElem?_take_of_lt (by omega)] at hk
  exact ⟨k, by omega, hk⟩
theorem take_one {l : List Nat} {i x : Nat} (h : l[i]? = some x) : l.take (i + 1) = l.take i ++ [x] := by
  obtain ⟨h1, e1⟩ := List.getElem?_eq_some_iff.mp h
  rw [List.take_succ_eq_append_getElem h1, e1]
theorem Mh.takeA (ab : Ab o N A B) (m : Mh o A B ts (na + 1) nb) {x : Nat} (hx : A[na]? = some x) (h : ∀ y ∈ B.take nb, P o y x) : Mh o A B (x :: ts) na nb := by
  have la := m.la
  have len := m.len
  have ht := take_one hx
  have xin : x ∈ A.take (na + 1) := by rw [ht]; exact List.mem_append_right _ (List.mem_singleton.mpr rfl)
  refine ⟨by omega, m.lb, by rw [List.length_cons]; omega, List.pairwise_cons.mpr ⟨fun y hy => m.ua x xin y hy, m.so⟩, fun z hz => ?_, fun y hy z hz => ?_, fun y hy z hz => ?_⟩
  · rcases List.mem_cons.mp hz with rfl | z'
    · exact .inl (List.mem_of_getElem? hx)
    · exact m.mem z z'
  · rcases List.mem_cons.mp hz with rfl | z'
    · obtain ⟨j, hj, ej⟩ := mem_take hy
      exact pw_get ab.sa ej hx hj
    · exact m.ua y (by rw [ht]; exact List.mem_append_left _ hy) z z'
  · rcases List.mem_cons.mp hz with rfl | z'
    · exact h y hy
    · exact m.ub y hy z z'
theorem Mh.takeB (ab : Ab o N A B) (m : Mh o A B ts na (nb + 1)) {x : Nat} (hx : B[nb]? = some x) (h : ∀ y ∈ A.take na, P o y x) : Mh o A B (x :: ts) na nb := by
  have lb := m.lb
  have len := m.len
  have ht := take_one hx
  have xin : x ∈ B.take (nb + 1) := by rw [ht]; exact List.mem_append_right _ (List.mem_singleton.mpr rfl)
  refine ⟨m.la, by omega, by rw [List.length_cons]; omega, List.pairwise_cons.mpr ⟨fun y hy => m.ub x xin y hy, m.so⟩, fun z hz => ?_, fun y hy z hz => ?_, fun y hy z hz => ?_⟩
  · rcases List.mem_cons.mp hz with rfl | z'
    · exact .inr (List.mem_of_getElem? hx)
    · exact m.mem z z'
  · rcases List.mem_cons.mp hz with rfl | z'
    · exact h y hy
    · exact m.ua y hy z z'
  · rcases List.mem_cons.mp hz with rfl | z'
    · obtain ⟨j, hj, ej⟩ := mem_take hy
      exact pw_get ab.sb ej hx hj
    · exact m.ub y (by rw [ht]; exact List.mem_append_left _ hy) z z'
theorem all_take {l : List Nat} (h : l.Pairwise (P o)) {i x y : Nat} (hx : l[i]? = some x) (hxy : P o x y) : ∀ z ∈ l.take (i + 1), P o z y := fun z hz => by
  obtain ⟨j, hj, ej⟩ := mem_take hz
  by_cases c : j = i
  · subst c; rw [hx] at ej; cases ej; exact hxy
  · exact (pw_get h ej hx (by omega)).trans hxy
theorem Mh.takeAs (ab : Ab o N A B) {y : Nat} {mb : Nat} (hy : B[mb]? = some y) : ∀ (k : Nat) {ts : List Nat} {at_ : Nat}, Mh o A B ts (at_ + k) (mb + 1) -> (∀ i x, at_ <= i -> i < at_ + k -> A[i]? = some x -> P o y x) -> Mh o A B ((A.drop at_).take k ++ ts) at_ (mb + 1)
  | 0, ts, at_, m, _ => by rw [List.take_zero]; exact m
  | k + 1, ts, at_, m, h => by
    have la := m.la
    have hx : A[at_ + k]? = some (A[at_ + k]'(by omega)) := List.getElem?_eq_getElem _
    have m2 := Mh.takeA ab (show Mh o A B ts (at_ + k + 1) (mb + 1) from m) hx (all_take ab.sb hy (h _ _ (by omega) (by omega) hx))
    have m3 := Mh.takeAs ab hy k m2 fun i x h1 h2 => h i x h1 (by omega)
    rw [take_snoc hx, List.append_assoc]
    exact m3
theorem Mh.takeBs (ab : Ab o N A B) {y : Nat} {ma : Nat} (hy : A[ma]? = some y) : ∀ (k : Nat) {ts : List Nat} {at_ : Nat}, Mh o A B ts (ma + 1) (at_ + k) -> (∀ i x, at_ <= i -> i < at_ + k -> B[i]? = some x -> P o y x) -> Mh o A B ((B.drop at_).take k ++ ts) (ma + 1) at_
  | 0, ts, at_, m, _ => by rw [List.take_zero]; exact m
  | k + 1, ts, at_, m, h => by
    have lb := m.lb
    have hx : B[at_ + k]? = some (B[at_ + k]'(by omega)) := List.getElem?_eq_getElem _
    have m2 := Mh.takeB ab (show Mh o A B ts (ma + 1) (at_ + k + 1) from m) hx (all_take ab.sa hy (h _ _ (by omega) (by omega) hx))
    have m3 := Mh.takeBs ab hy k m2 fun i x h1 h2 => h i x h1 (by omega)
    rw [take_snoc hx, List.append_assoc]
    exact m3
theorem pw_take {l : List Nat} (h : l.Pairwise (P o)) (i : Nat) : (l.take i).Pairwise (P o) := h.sublist (List.take_sublist ..)
theorem Mh.fin (ab : Ab o N A B) (m : Mh o A B ts na nb) (h : ∀ x ∈ A.take na, ∀ y ∈ B.take nb, P o x y) : Res o f A B ((fa f A).extract 0 na ++ (fa f B).extract 0 nb ++ fa f ts) := by
  rw [fa_take, fa_take, fa_app, fa_app]
  have la := m.la
  have lb := m.lb
  have len := m.len
  refine ⟨_, rfl, by rw [List.length_append, List.length_append, List.length_take, List.length_take]; omega, ?_, fun x hx => ?_⟩
  · rw [List.pairwise_append, List.pairwise_append]
    refine ⟨⟨pw_take ab.sa _, pw_take ab.sb _, h⟩, m.so, fun x hx y hy => ?_⟩
    rcases List.mem_append.mp hx with z | z
    · exact m.ua x z y hy
    · exact m.ub x z y hy
  · rcases List.mem_append.mp hx with z | z
    · rcases List.mem_append.mp z with z | z
      · exact .inl (List.mem_of_mem_take z)
      · exact .inr (List.mem_of_mem_take z)
    · exact m.mem x z
theorem Mh.finB (ab : Ab o N A B) (m : Mh o A B ts na nb) (h : ∀ x ∈ A.take na, ∀ y ∈ B.take nb, P o y x) : Res o f A B ((fa f B).extract 0 nb ++ (fa f A).extract 0 na ++ fa f ts) := by
  rw [fa_take, fa_take, fa_app, fa_app]
  have la := m.la
  have lb := m.lb
  have len := m.len
  refine ⟨_, rfl, by rw [List.length_append, List.length_append, List.length_take, List.length_take]; omega, ?_, fun x hx => ?_⟩
  · rw [List.pairwise_append, List.pairwise_append]
    refine ⟨⟨pw_take ab.sb _, pw_take ab.sa _, fun x hx y hy => h y hy x hx⟩, m.so, fun x hx y hy => ?_⟩
    rcases List.mem_append.mp hx with z | z
    · exact m.ub x z y hy
    · exact m.ua x z y hy
  · rcases List.mem_append.mp hx with z | z
    · rcases List.mem_append.mp z with z | z
      · exact .inr (List.mem_of_mem_take z)
      · exact .inl (List.mem_of_mem_take z)
    · exact m.mem x z
noncomputable def Bot (o : Ord) (X Y : List Nat) : Prop := ∀ y, Y[0]? = some y -> ∀ x ∈ X, P o y x
theorem first_fin (ab : Ab o N A B) (bt : Bot o A B) (m : Mh o A B ts na nb) (h : nb = 1) : Res o f A B ((fa f B).extract 0 nb ++ (fa f A).extract 0 na ++ fa f ts) :=
  m.finB ab fun x hx y hy => by
    obtain ⟨j, hj, ej⟩ := mem_take hy
    have : j = 0 := by omega
    subst this
    exact bt y ej x (List.mem_of_mem_take hx)
theorem Mh.fin0 (ab : Ab o N A B) (m : Mh o A B ts na nb) (h : na = 0 \/ nb = 0) : Res o f A B ((fa f A).extract 0 na ++ (fa f B).extract 0 nb ++ fa f ts) :=
  m.fin ab fun x hx y hy => by
    rcases h with rfl | rfl
    · rw [List.take_zero] at hx; cases hx
    · rw [List.take_zero] at hy; cases hy
theorem fr_push (l : List Nat) (x : Nat) : (fa f l.reverse).push (f x) = fa f (x :: l).reverse := by rw [fa_push, List.reverse_cons]
theorem fr_app (l m : List Nat) : fa f l.reverse ++ (fa f m).reverse = fa f (m ++ l).reverse := by rw [fa_rev, fa_app, List.reverse_append]
theorem fr_rev (l : List Nat) : (fa f l.reverse).reverse = fa f l := by rw [fa_rev, List.reverse_reverse]
end
noncomputable abbrev H := Option (Array Keyed) × Nat × Nat × Array Keyed × Nat × Nat × Nat
noncomputable def U3 (a b out : Array Keyed) (na nb mg ac bc : Nat) : StateT SortSt Sem (ForInStep H) := do
  let x <- elem' a (na - 1)
  if (na - 1 == 0) = true then pure (ForInStep.done (some (a.extract 0 (na - 1) ++ b.extract 0 nb ++ (out.push x).reverse), na - 1, nb, out.push x, mg, ac, bc))
  else if (decide (ac < 7) && decide (bc < 7)) = true then pure (ForInStep.done (none, na - 1, nb, out.push x, mg, ac, bc))
  else pure (ForInStep.yield (none, na - 1, nb, out.push x, mg, ac, bc))
noncomputable def U2 (a b out : Array Keyed) (na nb mg ac bc : Nat) : StateT SortSt Sem (ForInStep H) := do
  let x <- elem' b (nb - 1)
  if (nb - 1 == 1) = true then pure (ForInStep.done (some (b.extract 0 (nb - 1) ++ a.extract 0 na ++ (out.push x).reverse), na, nb - 1, out.push x, mg, ac, bc))
  else
    let y <- elem' a (na - 1)
    let r <- gallop' true y b 0 (nb - 1) (nb - 1 - 1)
    match r with
    | some t =>
      if nb - 1 - t > 0 then
        if (t == 1) = true then pure (ForInStep.done (some (b.extract 0 t ++ a.extract 0 na ++ (out.push x ++ (b.extract t (nb - 1)).reverse).reverse), na, t, out.push x ++ (b.extract t (nb - 1)).reverse, mg, ac, nb - 1 - t))
        else if (t == 0) = true then pure (ForInStep.done (some (a.extract 0 na ++ b.extract 0 t ++ (out.push x ++ (b.extract t (nb - 1)).reverse).reverse), na, t, out.push x ++ (b.extract t (nb - 1)).reverse, mg, ac, nb - 1 - t))
        else U3 a b (out.push x ++ (b.extract t (nb - 1)).reverse) na t mg ac (nb - 1 - t)
      else U3 a b (out.push x) na (nb - 1) mg ac (nb - 1 - t)
    | _ => pure (ForInStep.done (some (a.extract 0 na ++ b.extract 0 (nb - 1) ++ (out.push x).reverse), na, nb - 1, out.push x, mg, ac, bc))
noncomputable def U1 (a b out : Array Keyed) (na nb mg ac bc : Nat) : StateT SortSt Sem (ForInStep H) := do
  setG' mg
  let x <- elem' b (nb - 1)
  let r <- gallop' false x a 0 na (na - 1)
  match r with
  | some t =>
    if na - t > 0 then
      if (t == 0) = true then pure (ForInStep.done (some (a.extract 0 t ++ b.extract 0 nb ++ (out ++ (a.extract t na).reverse).reverse), t, nb, out ++ (a.extract t na).reverse, mg, na - t, bc))
      else U2 a b (out ++ (a.extract t na).reverse) t nb mg (na - t) bc
    else U2 a b out na nb mg (na - t) bc
  | _ => pure (ForInStep.done (some (a.extract 0 na ++ b.extract 0 nb ++ out.reverse), na, nb, out, mg, ac, bc))
section
variable {prog : Program} {w : World} {A : Around} {E : Value -> Shared -> Prop} {s : Shared} {o : Ord} {N : Nat} {f : Nat -> Keyed} {kd : SortKind} {st st0 : SortSt} {X Y ts : List Nat} {na nb : Nat}
noncomputable def Oh (o : Ord) (X Y : List Nat) (n : Nat) (ts : List Nat) (na nb : Nat) : Prop := Mh o X Y ts na nb /\ 1 <= na /\ 2 <= nb /\ na + nb + n <= X.length + Y.length
noncomputable def H2 (o : Ord) (f : Nat -> Keyed) (X Y : List Nat) (n : Nat) (st0 : SortSt) : ForInStep H -> SortSt -> Prop := fun r st' => Sm st0 st' /\ match r with
  | .done c => (∃ r z, c = (some r, z) /\ Res o f X Y r) \/ ∃ ts na nb mg ac bc, c = (none, na, nb, fa f ts.reverse, mg, ac, bc) /\ Oh o X Y n ts na nb
  | .yield c => ∃ ts na nb mg ac bc, c = (none, na, nb, fa f ts.reverse, mg, ac, bc) /\ Oh o X Y n ts na nb
theorem U3_ok (ab : Ab o N X Y) (hm : Sm st0 st) {n mg ac bc x y : Nat} (m : Mh o X Y ts (na + 1) (nb + 1)) (hb : 1 <= nb) (hn : na + 1 + (nb + 1) + n <= X.length + Y.length) (hx : X[na]? = some x) (hy : Y[nb]? = some y) (hxy : P o y x) :
    wpS (model prog w) A E s (U3 (fa f X) (fa f Y) (fa f ts.reverse) (na + 1) (nb + 1) mg ac bc) (H2 o f X Y n st0) st := by
  unfold U3
  rw [show na + 1 - 1 = na by omega]
  refine wpS_bind (wpS_elem (fa_at hx) ?_)
  have m2 := m.takeA ab hx (all_take ab.sb hy hxy)
  rw [fr_push, fr_rev]
  by_cases c : na = 0
  · rw [if_pos (by rw [c]; rfl)]
    exact wpS_pure ⟨hm, .inl ⟨_, _, rfl, m2.fin0 ab (.inl c)⟩⟩
  · rw [if_neg (by simpa using c)]
    by_cases c2 : (decide (ac < 7) && decide (bc < 7)) = true
    · rw [if_pos c2]
      exact wpS_pure ⟨hm, .inr ⟨_, _, _, _, _, _, rfl, m2, by omega, by omega, by omega⟩⟩
    · rw [if_neg c2]
      exact wpS_pure ⟨hm, ⟨_, _, _, _, _, _, rfl, m2, by omega, by omega, by omega⟩⟩
theorem U2_ok (C : Cmp prog w A s o N f kd) (hk : kindOf st = kd) (ab : Ab o N X Y) (bt : Bot o X Y) (hm : Sm st0 st) {n mg ac bc x y : Nat} (m : Mh o X Y ts (na + 1) (nb + 1)) (hb : 1 <= nb) (hn : na + 1 + (nb + 1) + n <= X.length + Y.length) (hx : X[na]? = some x) (hy : Y[nb]? = some y) (hxy : P o x y) :
    wpS (model prog w) A E s (U2 (fa f X) (fa f Y) (fa f ts.reverse) (na + 1) (nb + 1) mg ac bc) (H2 o f X Y n st0) st := by
  unfold U2
  rw [show nb + 1 - 1 = nb by omega, show na + 1 - 1 = na by omega]
  refine wpS_bind (wpS_elem (fa_at hy) ?_)
  have m2 := m.takeB ab hy (all_take ab.sa hx hxy)
  have lb := m.lb
  rw [fr_push, fr_rev]
  by_cases c : nb = 1
  · rw [if_pos (by rw [c]; rfl)]
    exact wpS_pure ⟨hm, .inl ⟨_, _, rfl, first_fin ab bt m2 c⟩⟩
  · rw [if_neg (by simpa using c)]
    refine wpS_bind (wpS_elem (fa_at hx) ?_)
    refine wpS_bind (gal_l C hk (h := fun i => Y.getD (0 + i) 0) (fun i hi => fa_at (getD_at (by omega))) (fun i hi => ?_) (so_of ab.sb _ _ (by omega)) (by omega) fun t t1 t2 t3 => ?_)
    · have := List.mem_of_getElem? (getD_at (l := Y) (i := 0 + i) (by omega))
      exact ⟨ab.lt x (List.mem_of_getElem? hx) _ this, ab.nb _ this⟩
    · dsimp only
      have m3 := Mh.takeBs ab hx (nb - t) (at_ := t) (by rw [show t + (nb - t) = nb by omega]; exact m2) fun i z hi1 hi2 ez => by
        have := t3 i hi1 (by omega)
        rw [Nat.zero_add, List.getD_eq_getElem?_getD (l := Y), ez] at this
        exact this
      by_cases c2 : nb - t > 0
      · rw [if_pos c2, fa_ext Y t nb, fr_app, fr_rev]
        by_cases c3 : t = 1
        · rw [if_pos (by rw [c3]; rfl)]
          exact wpS_pure ⟨hm, .inl ⟨_, _, rfl, first_fin ab bt m3 c3⟩⟩
        · rw [if_neg (by simpa using c3)]
          by_cases c4 : t = 0
          · rw [if_pos (by rw [c4]; rfl)]
            exact wpS_pure ⟨hm, .inl ⟨_, _, rfl, m3.fin0 ab (.inr c4)⟩⟩
          · rw [if_neg (by simpa using c4)]
            obtain ⟨u, rfl⟩ : ∃ u, t = u + 1 := ⟨t - 1, by omega⟩
            have := t2 u (by omega)
            rw [Nat.zero_add] at this
            exact U3_ok ab hm m3 (by omega) (by omega) hx (getD_at (by omega)) this
      · rw [if_neg c2]
        have : t = nb := by omega
        subst this
        obtain ⟨u, rfl⟩ : ∃ u, t = u + 1 := ⟨t - 1, by omega⟩
        have := t2 u (by omega)
        rw [Nat.zero_add] at this
        exact U3_ok ab hm m2 (by omega) (by omega) hx (getD_at (by omega)) this
theorem U1_ok (C : Cmp prog w A s o N f kd) (hk : kindOf st0 = kd) (ab : Ab o N X Y) (bt : Bot o X Y) (hm : Sm st0 st) {n mg ac bc : Nat} (m : Mh o X Y ts (na + 1) (nb + 1)) (hb : 1 <= nb) (hn : na + 1 + (nb + 1) + n <= X.length + Y.length) :
    wpS (model prog w) A E s (U1 (fa f X) (fa f Y) (fa f ts.reverse) (na + 1) (nb + 1) mg ac bc) (H2 o f X Y n st0) st := by
  unfold U1
  refine wpS_bind (wpS_setG hm fun st1 hm1 => ?_)
  have lb := m.lb
  have la := m.la
  rw [show nb + 1 - 1 = nb by omega, show na + 1 - 1 = na by omega]
  have hy := getD_at (l := Y) (i := nb) (by omega)
  have yB := List.mem_of_getElem? hy
  refine wpS_bind (wpS_elem (fa_at hy) ?_)
  refine wpS_bind (gal_r C (by rw [hm1.k]; exact hk) (h := fun i => X.getD (0 + i) 0) (fun i hi => fa_at (getD_at (by omega))) (fun i hi => ab.lt _ (List.mem_of_getElem? (getD_at (l := X) (i := 0 + i) (by omega))) _ yB) (ab.nb _ yB) (so_of ab.sa _ _ (by omega)) (by omega) fun t t1 t2 t3 => ?_)
  dsimp only
  have m3 := Mh.takeAs ab hy (na + 1 - t) (at_ := t) (by rw [show t + (na + 1 - t) = na + 1 by omega]; exact m) fun i z hi1 hi2 ez => by
    have := t3 i hi1 (by omega)
    rw [Nat.zero_add, List.getD_eq_getElem?_getD (l := X), ez] at this
    exact this
  by_cases c2 : na + 1 - t > 0
  · rw [if_pos c2, fa_ext X t (na + 1), fr_app, fr_rev]
    by_cases c4 : t = 0
    · rw [if_pos (by rw [c4]; rfl)]
      exact wpS_pure ⟨hm1, .inl ⟨_, _, rfl, m3.fin0 ab (.inl c4)⟩⟩
    · rw [if_neg (by simpa using c4)]
      obtain ⟨u, rfl⟩ : ∃ u, t = u + 1 := ⟨t - 1, by omega⟩
      have := t2 u (by omega)
      rw [Nat.zero_add] at this
      exact U2_ok C (by rw [hm1.k]; exact hk) ab bt hm1 m3 hb (by omega) (getD_at (by omega)) hy this
  · rw [if_neg c2]
    have : t = na + 1 := by omega
    subst this
    have := t2 na (by omega)
    rw [Nat.zero_add] at this
    exact U2_ok C (by rw [hm1.k]; exact hk) ab bt hm1 m hb hn (getD_at (by omega)) hy this
theorem hi_ok (C : Cmp prog w A s o N f kd) (hk : kindOf st = kd) (ab : Ab o N X Y) (tp : Top o X Y) (bt : Bot o X Y) (h1 : 1 <= X.length) (h2 : 1 <= Y.length)
    {Q : Array Keyed -> SortSt -> Prop} (q : ∀ out st', Sm st st' -> Res o f X Y out -> Q out st') : wpS (model prog w) A E s (mergeHi' (fa f X) (fa f Y)) Q st := by
  rw [mergeHi_eq]
  refine wpS_bind (wpS_lift (wpAny_rule ⟨rfl, ?_⟩))
  dsimp only
  simp only [fa_size]
  have hx0 := getD_at (l := X) (i := X.length - 1) (by omega)
  refine wpS_bind (wpS_elem (fa_at hx0) ?_)
  have m0 : Mh o X Y [] (X.length - 1 + 1) Y.length := ⟨by omega, Nat.le_refl _, by rw [List.length_nil]; omega, List.Pairwise.nil, (fun _ h => nomatch h), (fun _ _ _ h => nomatch h), (fun _ _ _ h => nomatch h)⟩
  have m1 := m0.takeA ab hx0 fun y hy => tp _ _ hx0 (by omega) y (List.mem_of_mem_take hy)
  obtain ⟨x0, ex0⟩ : ∃ x0, x0 = X.getD (X.length - 1) 0 := ⟨_, rfl⟩
  rw [<- ex0] at m1 ⊢
  have e1 : (#[f x0] : Array Keyed) = fa f [x0].reverse := rfl
  rw [e1, fr_rev]
  by_cases c : X.length - 1 = 0
  · rw [if_pos (by rw [c]; rfl)]
    exact wpS_pure (q _ _ Sm.refl (m1.fin0 ab (.inl c)))
  · rw [if_neg (by simpa using c)]
    by_cases c2 : Y.length = 1
    · rw [if_pos (by rw [c2]; rfl)]
      exact wpS_pure (q _ _ Sm.refl (first_fin ab bt m1 c2))
    · rw [if_neg (by simpa using c2)]
      refine wpS_bind (wpS_get ?_)
      refine wpS_bind (wpS_mono (wpS_forRange (I := fun x c st' => Sm st st' /\ ∃ ts na nb mg, c = (none, na, nb, fa f ts.reverse, mg) /\ Oh o X Y (x + 1) ts na nb)
        (Q := fun c st' => Sm st st' /\ ∃ r z, c = (some r, z) /\ Res o f X Y r) ?step ?fin ⟨Sm.refl, _, _, _, _, rfl, m1, by omega, by omega, by omega⟩) ?post)
      case post =>
        rintro c st' ⟨hm, r, z, rfl, hr⟩
        exact wpS_pure (q _ _ hm hr)
      case fin =>
        rintro c st' ⟨hm, ts, na, nb, mg, rfl, m, a1, a2, a3⟩
        exfalso
        omega
      case step =>
        rintro x c st' _ hx ⟨hm, ts, na, nb, mg, rfl, m, a1, a2, a3⟩
        dsimp only
        refine wpS_bind (wpS_mono (wpS_forRange (I := fun x' c st'' => Sm st st'' /\ ∃ ts na nb ac bc, c = (none, na, nb, fa f ts.reverse, ac, bc) /\ Oh o X Y (x + 1 + min x' 1) ts na nb)
          (Q := fun c st'' => Sm st st'' /\ ((∃ r z, c = (some r, z) /\ Res o f X Y r) \/ ∃ ts na nb ac bc, c = (none, na, nb, fa f ts.reverse, ac, bc) /\ Oh o X Y (x + 1 + 1) ts na nb)) ?istep ?ifin ⟨hm, _, _, _, _, _, rfl, m, a1, a2, a3⟩) ?ipost)
        case ifin =>
          rintro c st'' ⟨hm', ts, na, nb, ac, bc, rfl, m, a1, a2, a3⟩
          exact ⟨hm', .inr ⟨_, _, _, _, _, rfl, m, a1, a2, by omega⟩⟩
        case istep =>
          rintro x' c st'' _ hx' ⟨hm', ts, na, nb, ac, bc, rfl, m, a1, a2, a3⟩
          dsimp only
          obtain ⟨u, rfl⟩ : ∃ u, na = u + 1 := ⟨na - 1, by omega⟩
          obtain ⟨v, rfl⟩ : ∃ v, nb = v + 1 := ⟨nb - 1, by omega⟩
          have la := m.la
          have lb := m.lb
          rw [show u + 1 - 1 = u by omega, show v + 1 - 1 = v by omega]
          have hy := getD_at (l := Y) (i := v) (by omega)
          have hxx := getD_at (l := X) (i := u) (by omega)
          have yB := List.mem_of_getElem? hy
          have xA := List.mem_of_getElem? hxx
          have lt := ab.lt _ xA _ yB
          refine wpS_bind (wpS_elem (fa_at hy) ?_)
          refine wpS_bind (wpS_elem (fa_at hxx) ?_)
          refine wpS_bind (wpS_lt C (by rw [hm'.k]; exact hk) (ab.nb _ yB) (ab.na _ xA) ?_)
          cases hl : o.lt (Y.getD v 0) (X.getD u 0)
          · simp only [Bool.false_eq_true, if_false]
            refine wpS_bind (wpS_elem (fa_at hy) ?_)
            have m2 := m.takeB ab hy (all_take ab.sa hxx (P.of_ge hl lt))
            rw [fr_push, fr_rev]
            by_cases c3 : v = 1
            · rw [if_pos (by rw [c3]; rfl)]
              exact wpS_pure ⟨hm', .inl ⟨_, _, rfl, first_fin ab bt m2 c3⟩⟩
            · rw [if_neg (by simpa using c3)]
              by_cases c4 : bc + 1 >= mg
              · rw [if_pos c4]
                exact wpS_pure ⟨hm', .inr ⟨_, _, _, _, _, rfl, m2, a1, by omega, by omega⟩⟩
              · rw [if_neg c4]
                exact wpS_pure ⟨hm', _, _, _, _, _, rfl, m2, a1, by omega, by omega⟩
          · simp only [if_true]
            refine wpS_bind (wpS_elem (fa_at hxx) ?_)
            have m2 := m.takeA ab hxx (all_take ab.sb hy (P.of_lt hl))
            rw [fr_push, fr_rev]
            by_cases c3 : u = 0
            · rw [if_pos (by rw [c3]; rfl)]
              exact wpS_pure ⟨hm', .inl ⟨_, _, rfl, m2.fin0 ab (.inl c3)⟩⟩
            · rw [if_neg (by simpa using c3)]
              by_cases c4 : ac + 1 >= mg
              · rw [if_pos c4]
                exact wpS_pure ⟨hm', .inr ⟨_, _, _, _, _, rfl, m2, by omega, a2, by omega⟩⟩
              · rw [if_neg c4]
                exact wpS_pure ⟨hm', _, _, _, _, _, rfl, m2, by omega, a2, by omega⟩
        case ipost =>
          rintro c st'' ⟨hm', ⟨r, z, rfl, hr⟩ | ⟨ts, na, nb, ac, bc, rfl, m, a1, a2, a3⟩⟩
          · dsimp only
            exact wpS_pure ⟨hm', r, _, rfl, hr⟩
          · dsimp only
            refine wpS_bind (wpS_lift (wpAny_rule ⟨rfl, ?_⟩))
            refine wpS_bind (wpS_mono (wpS_forRange (I := fun x' c st'' => Sm st st'' /\ ∃ ts na nb mg ac bc, c = (none, na, nb, fa f ts.reverse, mg, ac, bc) /\ Oh o X Y (x + 1 + 1) ts na nb)
              (Q := fun c st'' => Sm st st'' /\ ((∃ r z, c = (some r, z) /\ Res o f X Y r) \/ ∃ ts na nb mg ac bc, c = (none, na, nb, fa f ts.reverse, mg, ac, bc) /\ Oh o X Y (x + 1 + 1) ts na nb)) ?jstep ?jfin ⟨hm', _, _, _, _, _, _, rfl, m, a1, a2, a3⟩) ?jpost)
            case jfin =>
              rintro c st3 ⟨hm3, hh⟩
              exact ⟨hm3, .inr hh⟩
            case jstep =>
              rintro x' c st3 _ hx' ⟨hm3, ts, na, nb, mg, ac, bc, rfl, m, a1, a2, a3⟩
              dsimp only
              obtain ⟨u, rfl⟩ : ∃ u, na = u + 1 := ⟨na - 1, by omega⟩
              obtain ⟨v, rfl⟩ : ∃ v, nb = v + 1 := ⟨nb - 1, by omega⟩
              have t1 := fun mg => U1_ok (n := x + 1 + 1) (mg := mg) (ac := ac) (bc := bc) (E := E) C hk ab bt hm3 m (by omega) a3
              unfold U1 U2 U3 at t1
              refine wpS_mono (Q := H2 o f X Y (x + 1 + 1) st) ?_ ?_
              · by_cases c3 : mg > 1
                · rw [if_pos c3]
                  exact t1 (mg - 1)
                · rw [if_neg c3]
                  exact t1 mg
              · rintro r st4 ⟨hm4, hr⟩
                cases r with
                | done c => exact ⟨hm4, hr⟩
                | yield c => exact ⟨hm4, hr⟩
            case jpost =>
              rintro c st3 ⟨hm3, ⟨r, z, rfl, hr⟩ | ⟨ts, na, nb, mg, ac, bc, rfl, m, a1, a2, a3⟩⟩
              · dsimp only
                exact wpS_pure ⟨hm3, r, _, rfl, hr⟩
              · dsimp only
                refine wpS_bind (wpS_setG hm3 fun st4 hm4 => ?_)
                exact wpS_pure ⟨hm4, _, _, _, _, rfl, m, a1, a2, a3⟩
end
end Sx
set_option Elab.async false
set_option linter.all false
set_option maxRecDepth 100000
set_option maxHeartbeats 4000000
namespace Sx
open PySem PyProof.Rows
theorem mergeAt_eq (i : Nat) : mergeAt' i = (do
  let s <- get
  let (some (a1, n1, pw), some (a2, n2, _)) := ((pendingOf s)[i]?, (pendingOf s)[i + 1]?) | unsupported "internal:list.sort.pending"
  set (setPending s (((pendingOf s).setIfInBounds i (a1, n1 + n2, pw)).eraseIdxIfInBounds (i + 1)))
  let some k <- gallop' false (<- elem' (arrOf s) a2) (arrOf s) a1 n1 0 | return false
  let (a1, n1) := (a1 + k, n1 - k)
  if n1 == 0 then return true
  let some n2 <- gallop' true (<- elem' (arrOf s) (a1 + n1 - 1)) (arrOf s) a2 n2 (n2 - 1) | return false
  if n2 == 0 then return true
  let x := (arrOf s).extract a1 a2
  let y := (arrOf s).extract a2 (a2 + n2)
  let both <- if n1 <= n2 then mergeLo' x y else mergeHi' x y
  modify fun s => setArr s (both.toList.zipIdx.foldl (fun a (p, j) => a.setIfInBounds (a1 + j) p) (arrOf s))
  return (failedOf (<- get)).isNone) := rfl
noncomputable def seg (g : Nat -> Nat) (a n : Nat) : List Nat := (List.range n).map fun i => g (a + i)
section
variable {o : Ord} {N : Nat} {f : Nat -> Keyed} {g : Nat -> Nat}
theorem seg_len (g : Nat -> Nat) (a n : Nat) : (seg g a n).length = n := by unfold seg; rw [List.length_map, List.length_range]
theorem seg_get {a n i : Nat} (h : i < n) : (seg g a n)[i]? = some (g (a + i)) := by unfold seg; rw [List.getElem?_map, List.getElem?_range h]; rfl
theorem seg_mem {a n x : Nat} (h : x ∈ seg g a n) : ∃ i, i < n /\ x = g (a + i) := by
  obtain ⟨i, hi, rfl⟩ := List.mem_map.mp h
  exact ⟨i, List.mem_range.mp hi, rfl⟩
theorem seg_so {a n : Nat} (h : So o g a (a + n)) : (seg g a n).Pairwise (P o) := by
  rw [List.pairwise_iff_getElem]
  intro i j hi hj hij
  rw [seg_len] at hi hj
  have e1 := seg_get (g := g) (a := a) hi
  have e2 := seg_get (g := g) (a := a) hj
  rw [List.getElem?_eq_getElem (by rw [seg_len]; exact hi)] at e1
  rw [List.getElem?_eq_getElem (by rw [seg_len]; exact hj)] at e2
  rw [Option.some.inj e1, Option.some.inj e2]
  exact h _ _ (by omega) (by omega) (by omega)
theorem ext_seg {arr : Array Keyed} (hs : arr.size = N) (hg : ∀ i, i < N -> arr[i]? = some (f (g i))) {a n : Nat} (h : a + n <= N) : arr.extract a (a + n) = fa f (seg g a n) := by
  apply Array.ext_getElem?
  intro i
  rw [fa_get, Array.getElem?_extract]
  by_cases c : i < n
  · rw [if_pos (by omega), seg_get c, hg _ (by omega)]; rfl
  · rw [if_neg (by omega), List.getElem?_eq_none (by rw [seg_len]; omega)]; rfl
theorem fold_size {α : Type} (b : Nat) : ∀ (l : List α) (n : Nat) (arr : Array α), ((l.zipIdx n).foldl (fun a (p, j) => a.setIfInBounds (b + j) p) arr).size = arr.size
  | [], _, _ => rfl
  | x :: l, n, arr => by
    rw [List.zipIdx_cons, List.foldl_cons, fold_size b l (n + 1)]
    exact Array.size_setIfInBounds ..
theorem fold_get {α : Type} (b : Nat) : ∀ (l : List α) (n : Nat) (arr : Array α) (k : Nat), b + n + l.length <= arr.size -> ((l.zipIdx n).foldl (fun a (p, j) => a.setIfInBounds (b + j) p) arr)[k]? = if b + n <= k /\ k < b + n + l.length then l[k - (b + n)]? else arr[k]?
  | [], n, arr, k, h => by rw [if_neg (by rw [List.length_nil]; omega)]; rfl
  | x :: l, n, arr, k, h => by
    rw [List.length_cons] at h
    rw [List.zipIdx_cons, List.foldl_cons, fold_get b l (n + 1) _ k (by rw [Array.size_setIfInBounds]; omega), List.length_cons]
    by_cases c : k = b + n
    · subst c
      rw [if_neg (by omega), if_pos (by omega), Nat.sub_self]
      show (arr.setIfInBounds (b + n) x)[b + n]? = some x
      rw [Array.getElem?_setIfInBounds_self_of_lt (by omega)]
    · by_cases c2 : b + n <= k /\ k < b + n + (l.length + 1)
      · rw [if_pos (by omega), if_pos c2, show k - (b + n) = k - (b + (n + 1)) + 1 by omega, List.getElem?_cons_succ]
      · rw [if_neg (by omega), if_neg c2]
        show (arr.setIfInBounds (b + n) x)[k]? = arr[k]?
        rw [Array.getElem?_setIfInBounds_ne (by omega)]
end
section
variable {prog : Program} {w : World} {A : Around} {E : Value -> Shared -> Prop} {s : Shared} {o : Ord} {N : Nat} {f : Nat -> Keyed} {kd : SortKind} {g : Nat -> Nat} {st : SortSt}
theorem wpS_set {st' : SortSt} {Q : PUnit -> SortSt -> Prop} (h : Q ⟨⟩ st') : wpS (model prog w) A E s (set st' : StateT SortSt Sem PUnit) Q st := by
  unfold wpS; rw [StateT.run_set]; exact wpAny_pure ⟨rfl, h⟩
theorem at_ok (C : Cmp prog w A s o N f kd) {l1 l2 : List (Nat × Nat × Nat)} {sa na nb pw pv : Nat} (h : Sg N f kd g (l1 ++ (sa, na, pw) :: (sa + na, nb, pv) :: l2).toArray st) (ha : 1 <= na) (hb : 1 <= nb) (hN : sa + na + nb <= N)
    (c1 : Cl g sa (sa + na)) (s1 : So o g sa (sa + na)) (c2 : Cl g (sa + na) (sa + na + nb)) (s2 : So o g (sa + na) (sa + na + nb))
    {Q : Bool -> SortSt -> Prop} (q : ∀ g' st', Sg N f kd g' (l1 ++ (sa, na + nb, pw) :: l2).toArray st' -> Rn o g g' sa (sa + na + nb) -> Q true st') : wpS (model prog w) A E s (mergeAt' l1.length) Q st := by
  rw [mergeAt_eq]
  refine wpS_bind (wpS_get ?_)
  have e1 : (pendingOf st)[l1.length]? = some (sa, na, pw) := by rw [h.pend]; simp
  have e2 : (pendingOf st)[l1.length + 1]? = some (sa + na, nb, pv) := by rw [h.pend]; simp
  have e3 : ((pendingOf st).setIfInBounds l1.length (sa, na + nb, pw)).eraseIdxIfInBounds (l1.length + 1) = (l1 ++ (sa, na + nb, pw) :: l2).toArray := by
    rw [h.pend, List.setIfInBounds_toArray, List.eraseIdxIfInBounds_toArray]
    congr 1
    rw [List.set_append_right _ _ (Nat.le_refl _), Nat.sub_self, List.eraseIdx_append_of_length_le (by omega), show l1.length + 1 - l1.length = 1 by omega]
    rfl
  rw [e1, e2]
  dsimp only
  rw [e3]
  refine wpS_bind (wpS_set ?_)
  have h' : Sg N f kd g (l1 ++ (sa, na + nb, pw) :: l2).toArray (setPending st (l1 ++ (sa, na + nb, pw) :: l2).toArray) := ⟨h.size, h.get, h.lt, h.kind, h.failed, rfl⟩
  obtain ⟨st1, hst1⟩ : ∃ st1, st1 = setPending st (l1 ++ (sa, na + nb, pw) :: l2).toArray := ⟨_, rfl⟩
  rw [<- hst1] at h' ⊢
  refine wpS_bind (wpS_elem (h.get (sa + na) (by omega)) ?_)
  have b0 := c2 (sa + na) (by omega) (by omega)
  refine wpS_bind (gal_r C h'.kind (h := fun i => g (sa + i)) (fun i hi => h.get _ (by omega)) (fun i hi => by have := c1 (sa + i) (by omega) (by omega); omega) (by omega) (fun i j _ a b => s1 _ _ (by omega) (by omega) (by omega)) (by omega) fun k k1 k2 k3 => ?_)
  dsimp only
  by_cases cz : na - k = 0
  · rw [if_pos (by rw [cz]; rfl)]
    refine wpS_pure (q g st1 h' ⟨fun _ _ => rfl, fun i a b => ?_, fun i j a b c => ?_⟩)
    · by_cases d : i < sa + na
      · have := c1 i a d; omega
      · have := c2 i (by omega) b; omega
    · by_cases d : j < sa + na
      · exact s1 i j a b d
      · by_cases d2 : sa + na <= i
        · exact s2 i j d2 b c
        · have r := k2 (i - sa) (by omega)
          rw [show sa + (i - sa) = i by omega] at r
          by_cases d3 : j = sa + na
          · subst d3; exact r
          · exact r.trans (s2 _ _ (by omega) (by omega) c)
  · rw [if_neg (by simpa using cz)]
    have hlast : sa + k + (na - k) - 1 = sa + na - 1 := by omega
    rw [hlast]
    refine wpS_bind (wpS_elem (h.get (sa + na - 1) (by omega)) ?_)
    have a0 := c1 (sa + na - 1) (by omega) (by omega)
    refine wpS_bind (gal_l C h'.kind (h := fun i => g (sa + na + i)) (fun i hi => h.get _ (by omega)) (fun i hi => by have := c2 (sa + na + i) (by omega) (by omega); omega) (fun i j _ a b => s2 _ _ (by omega) (by omega) (by omega)) (by omega) fun t t1 t2 t3 => ?_)
    dsimp only
    by_cases cy : t = 0
    · rw [if_pos (by rw [cy]; rfl)]
      subst cy
      refine wpS_pure (q g st1 h' ⟨fun _ _ => rfl, fun i a b => ?_, fun i j a b c => ?_⟩)
      · by_cases d : i < sa + na
        · have := c1 i a d; omega
        · have := c2 i (by omega) b; omega
      · by_cases d : j < sa + na
        · exact s1 i j a b d
        · by_cases d2 : sa + na <= i
          · exact s2 i j d2 b c
          · have r := t3 (j - (sa + na)) (by omega) (by omega)
            rw [show sa + na + (j - (sa + na)) = j by omega] at r
            by_cases d3 : i = sa + na - 1
            · subst d3; exact r
            · exact (s1 i (sa + na - 1) a (by omega) (by omega)).trans r
    · rw [if_neg (by simpa using cy)]
      have x1 : (arrOf st).extract (sa + k) (sa + na) = fa f (seg g (sa + k) (na - k)) := by
        have := ext_seg (f := f) (g := g) h.size h.get (a := sa + k) (n := na - k) (by omega)
        rwa [show sa + k + (na - k) = sa + na by omega] at this
      have x2 : (arrOf st).extract (sa + na) (sa + na + t) = fa f (seg g (sa + na) t) := ext_seg h.size h.get (by omega)
      rw [x1, x2]
      have sx : So o g (sa + k) (sa + k + (na - k)) := fun i j a b c => s1 i j (by omega) b (by omega)
      have sy : So o g (sa + na) (sa + na + t) := fun i j a b c => s2 i j a b (by omega)
      have ab : Ab o N (seg g (sa + k) (na - k)) (seg g (sa + na) t) := {
        sa := seg_so sx
        sb := seg_so sy
        lt := fun x hx y hy => by
          obtain ⟨i, hi, rfl⟩ := seg_mem hx
          obtain ⟨j, hj, rfl⟩ := seg_mem hy
          have := c1 (sa + k + i) (by omega) (by omega)
          have := c2 (sa + na + j) (by omega) (by omega)
          omega
        nb := fun y hy => by
          obtain ⟨j, hj, rfl⟩ := seg_mem hy
          exact h.lt _ (by omega)
        na := fun y hy => by
          obtain ⟨j, hj, rfl⟩ := seg_mem hy
          exact h.lt _ (by omega) }
      have tp : Top o (seg g (sa + k) (na - k)) (seg g (sa + na) t) := fun i x hx hi y hy => by
        rw [seg_len] at hi
        rw [seg_get (by omega)] at hx
        cases hx
        obtain ⟨j, hj, rfl⟩ := seg_mem hy
        rw [show sa + k + i = sa + na - 1 by omega]
        exact t2 j hj
      have bt : Bot o (seg g (sa + k) (na - k)) (seg g (sa + na) t) := fun y hy x hx => by
        rw [seg_get (by omega)] at hy
        cases hy
        obtain ⟨i, hi, rfl⟩ := seg_mem hx
        have := k3 (k + i) (by omega) (by omega)
        rwa [<- Nat.add_assoc] at this
      have fin : ∀ out st2, Sm st1 st2 -> Res o f (seg g (sa + k) (na - k)) (seg g (sa + na) t) out -> wpS (model prog w) A E s (do
          modify fun s => setArr s (out.toList.zipIdx.foldl (fun a (p, j) => a.setIfInBounds (sa + k + j) p) (arrOf s))
          let s <- get
          pure (failedOf s).isNone) Q st2 := by
        rintro out st2 hm ⟨hs, rfl, hlen, hso, hmem⟩
        rw [seg_len, seg_len] at hlen
        refine wpS_bind (wpS_modify (wpS_bind (wpS_get ?_)))
        have hf : (failedOf st2) = none := by rw [hm.f]; exact h'.failed
        have hmx : ∀ j x, hs[j]? = some x -> (∃ i, i < na - k /\ x = g (sa + k + i)) \/ ∃ i, i < t /\ x = g (sa + na + i) := fun j x e => by
          rcases hmem x (List.mem_of_getElem? e) with z | z
          · exact .inl (seg_mem z)
          · exact .inr (seg_mem z)
        have ez : (fa f hs).toList = hs.map f := by unfold fa; rfl
        have hsz : sa + k + 0 + (hs.map f).length <= (arrOf st2).size := by rw [List.length_map, hlen, hm.a, h'.size]; omega
        refine wpS_pure ?_
        show Q (failedOf st2).isNone _
        rw [hf]
        refine q (fun i => if sa + k <= i /\ i < sa + k + (na - k + t) then hs.getD (i - (sa + k)) 0 else g i) _ ⟨?_, fun i hi => ?_, fun i hi => ?_, by rw [show kindOf (setArr st2 _) = kindOf st2 from rfl, hm.k]; exact h'.kind, hf, by rw [show pendingOf (setArr st2 _) = pendingOf st2 from rfl, hm.p]; exact h'.pend⟩ ?_
        · have := fold_size (sa + k) (fa f hs).toList 0 (arrOf st2)
          rw [hm.a, h'.size] at this
          rw [<- this, <- hm.a]
        · show (List.foldl _ _ _)[i]? = _
          rw [ez, fold_get _ _ _ _ _ hsz, List.length_map, hlen, hm.a]
          by_cases d : sa + k <= i /\ i < sa + k + (na - k + t)
          · rw [if_pos (by omega), if_pos d, List.getElem?_map, Nat.add_zero, getD_at (l := hs) (by omega)]; rfl
          · rw [if_neg (by omega), if_neg d]
            exact h'.get i hi
        · by_cases d : sa + k <= i /\ i < sa + k + (na - k + t)
          · rw [if_pos d]
            rcases hmx _ _ (getD_at (l := hs) (i := i - (sa + k)) (by omega)) with ⟨j, hj, e⟩ | ⟨j, hj, e⟩
            · rw [e]; exact h.lt _ (by omega)
            · rw [e]; exact h.lt _ (by omega)
          · rw [if_neg d]; exact h.lt i hi
        · have gin : ∀ i, sa + k <= i -> i < sa + na + t -> (if sa + k <= i /\ i < sa + k + (na - k + t) then hs.getD (i - (sa + k)) 0 else g i) = hs.getD (i - (sa + k)) 0 := fun i a b => if_pos (by omega)
          have gout : ∀ i, i < sa + k \/ sa + na + t <= i -> (if sa + k <= i /\ i < sa + k + (na - k + t) then hs.getD (i - (sa + k)) 0 else g i) = g i := fun i a => if_neg (by omega)
          refine ⟨fun i hi => gout i (by omega), fun i a b => ?_, fun i j a b c => ?_⟩
          · by_cases d : sa + k <= i /\ i < sa + na + t
            · show _ <= ite _ _ _ /\ ite _ _ _ < _
              rw [gin i d.1 d.2]
              rcases hmx _ _ (getD_at (l := hs) (i := i - (sa + k)) (by omega)) with ⟨j, hj, e⟩ | ⟨j, hj, e⟩
              · rw [e]; have := c1 (sa + k + j) (by omega) (by omega); omega
              · rw [e]; have := c2 (sa + na + j) (by omega) (by omega); omega
            · show _ <= ite _ _ _ /\ ite _ _ _ < _
              rw [gout i (by omega)]
              by_cases d2 : i < sa + na
              · have := c1 i a d2; omega
              · have := c2 i (by omega) b; omega
          · show P o (ite _ _ _) (ite _ _ _)
            by_cases d1 : i < sa + k
            · rw [gout i (.inl d1)]
              have r := k2 (i - sa) (by omega)
              rw [show sa + (i - sa) = i by omega] at r
              by_cases d2 : j < sa + k
              · rw [gout j (.inl d2)]; exact s1 i j a b (by omega)
              · by_cases d3 : j < sa + na + t
                · rw [gin j (by omega) d3]
                  rcases hmx _ _ (getD_at (l := hs) (i := j - (sa + k)) (by omega)) with ⟨v, hv, e⟩ | ⟨v, hv, e⟩
                  · rw [e]; exact s1 _ _ a (by omega) (by omega)
                  · rw [e]
                    by_cases d4 : v = 0
                    · subst d4; exact r
                    · exact r.trans (s2 _ _ (by omega) (by omega) (by omega))
                · rw [gout j (by omega)]
                  exact r.trans (s2 _ _ (by omega) (by omega) c)
            · by_cases d2 : i < sa + na + t
              · rw [gin i (by omega) d2]
                by_cases d3 : j < sa + na + t
                · rw [gin j (by omega) d3]
                  exact pw_get hso (getD_at (by omega)) (getD_at (by omega)) (by omega)
                · rw [gout j (by omega)]
                  rcases hmx _ _ (getD_at (l := hs) (i := i - (sa + k)) (by omega)) with ⟨v, hv, e⟩ | ⟨v, hv, e⟩
                  · rw [e]
                    have r := t3 (j - (sa + na)) (by omega) (by omega)
                    rw [show sa + na + (j - (sa + na)) = j by omega] at r
                    by_cases d4 : sa + k + v = sa + na - 1
                    · rw [d4]; exact r
                    · exact (s1 _ (sa + na - 1) (by omega) (by omega) (by omega)).trans r
                  · rw [e]; exact s2 _ _ (by omega) (by omega) c
              · rw [gout i (by omega), gout j (by omega)]
                exact s2 i j (by omega) b c
      by_cases cl : na - k <= t
      · rw [if_pos cl]
        exact wpS_bind (lo_ok C h'.kind ab tp (by rw [seg_len]; omega) (seg_get (by omega)) (bt _ (seg_get (by omega))) fin)
      · rw [if_neg cl]
        exact wpS_bind (hi_ok C h'.kind ab tp bt (by rw [seg_len]; omega) (by rw [seg_len]; omega) fin)
end
end Sx
set_option Elab.async false
set_option linter.all false
set_option maxRecDepth 100000
set_option maxHeartbeats 4000000
namespace Sx
open PySem PyProof.Rows
noncomputable abbrev pr (x : Nat × Nat × Nat) : Nat × Nat := (x.1, x.2.1)
noncomputable def Pend (o : Ord) (g : Nat -> Nat) : List (Nat × Nat) -> Nat -> Nat -> Prop
  | [], a, b => a = b
  | x :: l, a, b => x.1 = a /\ 1 <= x.2 /\ Cl g a (a + x.2) /\ So o g a (a + x.2) /\ Pend o g l (a + x.2) b
noncomputable def PA (o : Ord) (g : Nat -> Nat) (p : Array (Nat × Nat × Nat)) (b : Nat) : Prop := Pend o g (p.toList.map pr) 0 b
section
variable {o : Ord} {g : Nat -> Nat}
theorem Pend.le : ∀ {l : List (Nat × Nat)} {a b : Nat}, Pend o g l a b -> a + l.length <= b
  | [], a, b, h => by have h : a = b := h; rw [List.length_nil]; omega
  | x :: l, a, b, h => by
    have := h.2.2.2.2.le
    have := h.2.1
    rw [List.length_cons]; omega
theorem Pend.congr {g' : Nat -> Nat} : ∀ {l : List (Nat × Nat)} {a b : Nat}, Pend o g l a b -> (∀ i, a <= i -> i < b -> g' i = g i) -> Pend o g' l a b
  | [], a, b, h, _ => h
  | x :: l, a, b, h, e => by
    have hb := h.2.2.2.2.le
    refine ⟨h.1, h.2.1, fun i h1 h2 => ?_, fun i j h1 h2 h3 => ?_, h.2.2.2.2.congr fun i h1 h2 => e i (by omega) h2⟩
    · rw [e i h1 (by omega)]; exact h.2.2.1 i h1 h2
    · rw [e i h1 (by omega), e j (by omega) (by omega)]; exact h.2.2.2.1 i j h1 h2 h3
theorem Pend.app : ∀ {l m : List (Nat × Nat)} {a b : Nat}, Pend o g (l ++ m) a b ↔ ∃ c, Pend o g l a c /\ Pend o g m c b
  | [], m, a, b => ⟨fun h => ⟨a, rfl, h⟩, fun ⟨c, h1, h2⟩ => by have h1 : a = c := h1; subst h1; exact h2⟩
  | x :: l, m, a, b => by
    constructor
    · rintro ⟨h1, h2, h3, h4, h5⟩
      obtain ⟨c, h6, h7⟩ := Pend.app.mp h5
      exact ⟨c, ⟨h1, h2, h3, h4, h6⟩, h7⟩
    · rintro ⟨c, ⟨h1, h2, h3, h4, h5⟩, h6⟩
      exact ⟨h1, h2, h3, h4, Pend.app.mpr ⟨c, h5, h6⟩⟩
theorem split2 {p : Array (Nat × Nat × Nat)} {i : Nat} (h : i + 1 < p.size) : ∃ l1 x y l2, p = (l1 ++ x :: y :: l2).toArray /\ l1.length = i := by
  have h' : i + 1 < p.toList.length := h
  refine ⟨p.toList.take i, p.toList[i], p.toList[i + 1], p.toList.drop (i + 2), ?_, by rw [List.length_take]; omega⟩
  apply Array.toList_inj.mp
  show p.toList = _
  conv => lhs; rw [<- List.take_append_drop i p.toList, List.drop_eq_getElem_cons (show i < p.toList.length by omega), List.drop_eq_getElem_cons h']
end
section
variable {prog : Program} {w : World} {A : Around} {E : Value -> Shared -> Prop} {s : Shared} {o : Ord} {N : Nat} {f : Nat -> Keyed} {kd : SortKind} {g : Nat -> Nat} {p : Array (Nat × Nat × Nat)} {st : SortSt}
theorem at_ok' (C : Cmp prog w A s o N f kd) (h : Sg N f kd g p st) {lo i : Nat} (hp : PA o g p lo) (hlo : lo <= N) (hi : i + 1 < p.size)
    {Q : Bool -> SortSt -> Prop} (q : ∀ g' p' st', Sg N f kd g' p' st' -> PA o g' p' lo -> p'.size + 1 = p.size -> (∀ k, lo <= k -> g' k = g k) -> Q true st') : wpS (model prog w) A E s (mergeAt' i) Q st := by
  obtain ⟨l1, ⟨sa, na, pw⟩, ⟨sb, nb, pv⟩, l2, rfl, rfl⟩ := split2 hi
  unfold PA at hp
  rw [show (l1 ++ (sa, na, pw) :: (sb, nb, pv) :: l2).toArray.toList = l1 ++ (sa, na, pw) :: (sb, nb, pv) :: l2 from rfl, List.map_append] at hp
  obtain ⟨c, h1, h2⟩ := Pend.app.mp hp
  obtain ⟨e1, n1, cl1, so1, e2, n2, cl2, so2, rest⟩ := h2
  have e1 : sa = c := e1
  subst e1
  have e2 : sb = sa + na := e2
  subst e2
  have l2b := rest.le
  have n1 : 1 <= na := n1
  have n2 : 1 <= nb := n2
  have l2b : sa + na + nb <= lo := by
    have : sa + na + nb + (List.map pr l2).length <= lo := l2b
    omega
  refine at_ok C h n1 n2 (by omega) cl1 so1 cl2 so2 fun g' st' h' R => q g' _ st' h' ?_ (by simp; omega) fun k hk => R.out k (by omega)
  unfold PA
  rw [show (l1 ++ (sa, na + nb, pw) :: l2).toArray.toList = l1 ++ (sa, na + nb, pw) :: l2 from rfl, List.map_append]
  refine Pend.app.mpr ⟨sa, h1.congr fun i a b => R.out i (by omega), rfl, by show 1 <= na + nb; omega, ?_, ?_, ?_⟩
  · show Cl g' sa (sa + (na + nb)); rw [<- Nat.add_assoc]; exact R.cl
  · show So o g' sa (sa + (na + nb)); rw [<- Nat.add_assoc]; exact R.so
  · show Pend o g' _ (sa + (na + nb)) lo
    rw [<- Nat.add_assoc]
    exact rest.congr fun i a b => R.out i (.inr a)
theorem pa_modify {p : Array (Nat × Nat × Nat)} {i lo : Nat} {u : Nat × Nat × Nat -> Nat × Nat × Nat} (hu : ∀ x, pr (u x) = pr x) (h : PA o g p lo) : PA o g (p.modify i u) lo := by
  unfold PA at h ⊢
  have : (p.modify i u).toList.map pr = p.toList.map pr := by
    rw [Array.toList_modify]
    apply List.ext_getElem?
    intro k
    rw [List.getElem?_map, List.getElem?_map, List.getElem?_modify]
    cases p.toList[k]? with
    | none => rfl
    | some x =>
      show some (pr (if i = k then u x else x)) = some (pr x)
      by_cases c : i = k
      · rw [if_pos c, hu x]
      · rw [if_neg c]
  rw [this]; exact h
theorem pa_push {p : Array (Nat × Nat × Nat)} {lo n v : Nat} (h : PA o g p lo) (hn : 1 <= n) (c : Cl g lo (lo + n)) (d : So o g lo (lo + n)) : PA o g (p.push (lo, n, v)) (lo + n) := by
  unfold PA at h ⊢
  rw [Array.toList_push, List.map_append]
  exact Pend.app.mpr ⟨lo, h, rfl, hn, c, d, rfl⟩
theorem Sg.pen (h : Sg N f kd g p st) (p' : Array (Nat × Nat × Nat)) : Sg N f kd g p' (setPending st p') := ⟨h.size, h.get, h.lt, h.kind, h.failed, rfl⟩
theorem runs_ok (C : Cmp prog w A s o N f kd) (h : Sg N f kd (fun i => i) #[] st) (hN : 1 <= N)
    {Q : Unit -> SortSt -> Prop} (q : ∀ g' p' st', Sg N f kd g' p' st' -> Cl g' 0 N -> So o g' 0 N -> Q () st') : wpS (model prog w) A E s sortRuns' Q st := by
  rw [sortRuns'_eq]
  refine wpS_bind (wpS_get ?_)
  dsimp only
  rw [h.size]
  refine wpS_bind (wpS_mono (wpS_forRange
    (I := fun x c st' => ∃ lo g p, c = (none, lo) /\ lo <= N /\ (x <= lo \/ lo = N) /\ Sg N f kd g p st' /\ PA o g p lo /\ (∀ i, lo <= i -> g i = i))
    (Q := fun c st' => ∃ g p, c = (none, N) /\ Sg N f kd g p st' /\ PA o g p N) ?step ?fin ⟨0, _, _, rfl, Nat.zero_le _, .inl (Nat.le_refl _), h, rfl, fun _ _ => rfl⟩) ?post)
  case fin =>
    rintro c st' ⟨lo, g, p, rfl, h1, h2, h3, h4, h5⟩
    have : lo = N := by omega
    subst this
    exact ⟨g, p, rfl, h3, h4⟩
  case step =>
    rintro x c st' _ hx ⟨lo, g, p, rfl, h1, h2, h3, h4, h5⟩
    dsimp only
    by_cases hge : lo >= N
    · rw [if_pos hge]
      have : lo = N := by omega
      subst this
      exact wpS_pure ⟨g, p, rfl, h3, h4⟩
    · rw [if_neg hge]
      refine wpS_bind (count_ok C h3 (by omega) (by omega) (fun i a b => h5 i a) fun m g1 st1 s1 m1 m2 R1 => ?_)
      dsimp only
      by_cases c2 : m < minRun' N N 0
      · rw [if_pos c2]
        refine wpS_bind (wpS_lift (wpAny_rule ⟨rfl, ?_⟩))
        refine wpS_bind (bin_ok C s1 (by omega) m1 (by omega) R1 (fun i a b => h5 i (by omega)) fun g2 st2 s2 R2 => ?_)
        rw [if_neg (by decide)]
        have n2 : 1 <= min (N - lo) (minRun' N N 0) := by omega
        have n3 : lo + min (N - lo) (minRun' N N 0) <= N := by omega
        refine wpS_bind (wpS_get ?_)
        rw [s2.pend]
        have hp2 := Pend.congr h4 fun i a b => R2.out i (.inl b)
        cases e : p.back? with
        | none =>
          dsimp only
          refine wpS_bind (wpS_modify (wpS_pure ⟨_, _, _, rfl, n3, by omega, s2.pen _, ?_, fun i hi => by rw [R2.out i (.inr hi), h5 i (by omega)]⟩))
          rw [s2.pend]
          exact pa_push hp2 n2 R2.cl R2.so
        | some y =>
          obtain ⟨y1, y2, y3⟩ := y
          dsimp only
          refine wpS_bind (wpS_mono (wpS_forRange (I := fun _ c st' => c = (none, ()) /\ ∃ g' p', Sg N f kd g' p' st' /\ PA o g' p' lo /\ (∀ k, lo <= k -> g' k = g2 k)) (Q := fun c st' => c = (none, ()) /\ ∃ g' p', Sg N f kd g' p' st' /\ PA o g' p' lo /\ (∀ k, lo <= k -> g' k = g2 k)) ?vstep (fun _ _ h => h) ⟨rfl, _, _, s2, hp2, fun _ _ => rfl⟩) ?vpost)
          case vstep =>
            rintro x c st' _ hx ⟨rfl, g', p', h1, h2, h3⟩
            refine wpS_bind (wpS_get ?_)
            rw [h1.pend]
            by_cases c : p'.size > 1
            · rw [if_pos c]
              cases e : p'[p'.size - 2]? with
              | none => exact wpS_pure ⟨rfl, g', p', h1, h2, h3⟩
              | some y =>
                obtain ⟨y1, y2, y3⟩ := y
                dsimp only
                split
                · exact wpS_pure ⟨rfl, g', p', h1, h2, h3⟩
                · refine wpS_bind (at_ok' C h1 h2 (by omega) (by omega) fun g3 p3 st3 s3 q3 _ z3 => ?_)
                  exact wpS_pure ⟨rfl, g3, p3, s3, q3, fun k hk => by rw [z3 k hk, h3 k hk]⟩
            · rw [if_neg c]
              exact wpS_pure ⟨rfl, g', p', h1, h2, h3⟩
          case vpost =>
            rintro c st' ⟨rfl, g', p', h1, h2, h3⟩
            dsimp only
            refine wpS_bind (wpS_modify (wpS_bind (wpS_modify (wpS_pure ⟨_, _, _, rfl, n3, by omega, (h1.pen _).pen _, ?_, fun i hi => by rw [h3 i (by omega), R2.out i (.inr hi), h5 i (by omega)]⟩))))
            show PA o g' (((pendingOf st').modify _ _).push _) _
            rw [h1.pend]
            exact pa_push (pa_modify (fun _ => rfl) h2) n2 (fun i a b => by rw [h3 i a]; exact R2.cl i a b) (fun i j a b c => by rw [h3 i a, h3 j (by omega)]; exact R2.so i j a b c)
      · rw [if_neg c2]
        have n3 : lo + m <= N := by omega
        obtain ⟨g2, hg2⟩ : ∃ g2, g2 = g1 := ⟨_, rfl⟩
        rw [<- hg2] at R1 s1
        have R2 := R1
        have s2 := s1
        have n2 := m1
        refine wpS_bind (wpS_get ?_)
        rw [s2.pend]
        have hp2 := Pend.congr h4 fun i a b => R2.out i (.inl b)
        cases e : p.back? with
        | none =>
          dsimp only
          refine wpS_bind (wpS_modify (wpS_pure ⟨_, _, _, rfl, n3, by omega, s2.pen _, ?_, fun i hi => by rw [R2.out i (.inr hi), h5 i (by omega)]⟩))
          rw [s2.pend]
          exact pa_push hp2 n2 R2.cl R2.so
        | some y =>
          obtain ⟨y1, y2, y3⟩ := y
          dsimp only
          refine wpS_bind (wpS_mono (wpS_forRange (I := fun _ c st' => c = (none, ()) /\ ∃ g' p', Sg N f kd g' p' st' /\ PA o g' p' lo /\ (∀ k, lo <= k -> g' k = g2 k)) (Q := fun c st' => c = (none, ()) /\ ∃ g' p', Sg N f kd g' p' st' /\ PA o g' p' lo /\ (∀ k, lo <= k -> g' k = g2 k)) ?vstep (fun _ _ h => h) ⟨rfl, _, _, s2, hp2, fun _ _ => rfl⟩) ?vpost)
          case vstep =>
            rintro x c st' _ hx ⟨rfl, g', p', h1, h2, h3⟩
            refine wpS_bind (wpS_get ?_)
            rw [h1.pend]
            by_cases c : p'.size > 1
            · rw [if_pos c]
              cases e : p'[p'.size - 2]? with
              | none => exact wpS_pure ⟨rfl, g', p', h1, h2, h3⟩
              | some y =>
                obtain ⟨y1, y2, y3⟩ := y
                dsimp only
                split
                · exact wpS_pure ⟨rfl, g', p', h1, h2, h3⟩
                · refine wpS_bind (at_ok' C h1 h2 (by omega) (by omega) fun g3 p3 st3 s3 q3 _ z3 => ?_)
                  exact wpS_pure ⟨rfl, g3, p3, s3, q3, fun k hk => by rw [z3 k hk, h3 k hk]⟩
            · rw [if_neg c]
              exact wpS_pure ⟨rfl, g', p', h1, h2, h3⟩
          case vpost =>
            rintro c st' ⟨rfl, g', p', h1, h2, h3⟩
            dsimp only
            refine wpS_bind (wpS_modify (wpS_bind (wpS_modify (wpS_pure ⟨_, _, _, rfl, n3, by omega, (h1.pen _).pen _, ?_, fun i hi => by rw [h3 i (by omega), R2.out i (.inr hi), h5 i (by omega)]⟩))))
            show PA o g' (((pendingOf st').modify _ _).push _) _
            rw [h1.pend]
            exact pa_push (pa_modify (fun _ => rfl) h2) n2 (fun i a b => by rw [h3 i a]; exact R2.cl i a b) (fun i j a b c => by rw [h3 i a, h3 j (by omega)]; exact R2.so i j a b c)
  case post =>
    rintro c st' ⟨g, p, rfl, h1, h2⟩
    dsimp only
    refine wpS_bind (wpS_mono (wpS_forRange
      (I := fun x c st'' => c = (none, ()) /\ ∃ g p, Sg N f kd g p st'' /\ PA o g p N /\ (p.size <= 1 \/ p.size + x <= N))
      (Q := fun c st'' => c = (none, ()) /\ ∃ g p, Sg N f kd g p st'' /\ PA o g p N /\ p.size <= 1) ?fstep ?ffin ⟨rfl, g, p, h1, h2, .inr ?finit⟩) ?fpost)
    case finit =>
      have := Pend.le h2
      rw [List.length_map] at this
      show p.toList.length + 0 <= N
      omega
    case ffin =>
      rintro c st'' ⟨rfl, g, p, h1, h2, h3⟩
      exact ⟨rfl, g, p, h1, h2, by omega⟩
    case fstep =>
      rintro x c st'' _ hx ⟨rfl, g, p, h1, h2, h3⟩
      refine wpS_bind (wpS_get ?_)
      rw [h1.pend]
      by_cases c : p.size <= 1
      · rw [if_pos c]
        exact wpS_pure ⟨rfl, g, p, h1, h2, c⟩
      · rw [if_neg c]
        have il : ∀ (d : Prop) [Decidable d], (if d then p.size - 2 - 1 else p.size - 2) + 1 < p.size := fun d _ => by
          by_cases hd : d
          · rw [if_pos hd]; omega
          · rw [if_neg hd]; omega
        refine wpS_bind (at_ok' C h1 h2 (Nat.le_refl _) (il _) fun g' p' st3 s3 q3 z3 _ => ?_)
        exact wpS_pure ⟨rfl, g', p', s3, q3, by omega⟩
    case fpost =>
      rintro c st'' ⟨rfl, g, p, h1, h2, h3⟩
      dsimp only
      refine wpS_pure ?_
      unfold PA at h2
      have h3 : p.toList.length <= 1 := h3
      match hl : p.toList, h3 with
      | [], _ =>
        rw [hl] at h2
        have : 0 = N := h2
        omega
      | [x], _ =>
        rw [hl] at h2
        obtain ⟨e1, e2, e3, e4, e5⟩ := h2
        have e5 : 0 + x.2.1 = N := e5
        have e3 : Cl g 0 (0 + x.2.1) := e3
        have e4 : So o g 0 (0 + x.2.1) := e4
        rw [e5] at e3 e4
        exact q g p st'' h1 e3 e4
end
end Sx
set_option Elab.async false
set_option linter.all false
set_option maxRecDepth 100000
set_option maxHeartbeats 4000000
namespace Sx
open PySem PyProof.Rows
noncomputable abbrev midH (h : Heap) (a : Addr) (vs : List Value) : Heap := ((h.update a (Obj.mapSeq fun _ => #[])).push (seqObj "tuple" vs.toArray 0)).push (seqObj "list" #[] 0)
theorem mid_old {h : Heap} {a b : Addr} {vs : List Value} (hb : b ≠ a) (hlt : b < h.objs.size) : (midH h a vs).get? b = h.get? b := by
  rw [Heap.get?_push_ne _ _ _ (by rw [size_push', Heap.size_update]; exact Nat.ne_of_lt (Nat.lt_succ_of_lt hlt)),
    Heap.get?_push_ne _ _ _ (by rw [Heap.size_update]; exact Nat.ne_of_lt hlt), Heap.get?_update_ne _ _ _ _ hb]
noncomputable abbrev vv (vs : List Value) (i : Nat) : Keyed := (vs.getD i .none, vs.getD i .none)
theorem zip_get (vs : List Value) {i : Nat} (h : i < vs.length) : (vs.toArray.zip vs.toArray)[i]? = some (vv vs i) := by
  have e : vs[i]? = some (vs.getD i .none) := by rw [List.getD_eq_getElem?_getD, List.getElem?_eq_getElem h]; rfl
  rw [Array.getElem?_zip_eq_some]
  exact ⟨by rw [List.getElem?_toArray]; exact e, by rw [List.getElem?_toArray]; exact e⟩
section
variable {prog : Program} {w : World} {A : Around} {E : Value -> Shared -> Prop} {s : Shared} {o : Ord} {kd : SortKind}
theorem sort_tree {a : Addr} {vs : List Value} {n : Nat} {P : PySem.Fin -> Shared -> Prop} (hL : s.heap.get? a = some (seqObj "list" vs.toArray n)) (hsz : vs.length <= sizeLine)
    (hkk : 2 <= vs.length -> ∀ Q : SortKind -> Shared -> Prop, Q kd { s with heap := midH s.heap a vs } -> wpAny (model prog w) A (keyKind' vs.toArray) Q E { s with heap := midH s.heap a vs })
    (C : 2 <= vs.length -> Cmp prog w A { s with heap := midH s.heap a vs } o vs.length (vv vs) kd)
    (h : ∀ g, Cl g 0 vs.length -> So o g 0 vs.length -> P (.done (.ret .none)) { s with heap := sortedHeap s.heap a vs ((List.range vs.length).map fun i => vs.getD (g i) .none).toArray }) :
    wpAny (model prog w) A (Builtin.«list.sort» ⟨[.ref a], []⟩) P E s := by
  rw [list_sort_plain]
  have lta : a < s.heap.objs.size := Heap.lt_size hL
  refine wpAny_bind (listItems_at hL rfl ?_)
  refine wpAny_bind (listUpdate_at hL rfl ?_ (by rw [List.size_toArray]; exact hsz) (Nat.zero_le _))
  obtain ⟨ep, hL1⟩ : ∃ ep, (s.heap.update a (Obj.mapSeq fun _ => #[])).get? a = some (seqObj "list" #[] ep) := ⟨_, get?_update_seq hL (fun _ => #[])⟩
  refine wpAny_bind (seqEpoch_at hL1 rfl ?_)
  refine wpAny_bind (wpAny_newTuple ?_)
  refine wpAny_bind (wpAny_newList ?_)
  refine wpAny_holding ?_
  have hL6 : (midH s.heap a vs).get? a = some (seqObj "list" #[] ep) := by
    rw [Heap.get?_push_ne _ _ _ (by rw [size_push', Heap.size_update]; exact Nat.ne_of_lt (Nat.lt_succ_of_lt lta)), Heap.get?_push_ne _ _ _ (by rw [Heap.size_update]; exact Nat.ne_of_lt lta)]
    exact hL1
  show wpAny (model prog w) A _ P E { s with heap := midH s.heap a vs }
  dsimp only
  have hz : vs.toArray.size = vs.length := by simp
  have getE : ∀ i, i < vs.length -> vs[i]? = some (vs.getD i .none) := fun i hi => by rw [List.getD_eq_getElem?_getD, List.getElem?_eq_getElem hi]; rfl
  have outE : ∀ (arr : Array Keyed) (g : Nat -> Nat), arr.size = vs.length -> (∀ i, i < vs.length -> arr[i]? = some (vv vs (g i))) -> arr.map (·.2) = ((List.range vs.length).map fun i => vs.getD (g i) .none).toArray := fun arr g h1 two => by
    apply Array.ext_getElem?
    intro i
    have e0 : ((List.range vs.length).map fun i => vs.getD (g i) Value.none).toArray[i]? = ((List.range vs.length).map fun i => vs.getD (g i) Value.none)[i]? := List.getElem?_toArray ..
    rw [Array.getElem?_map, e0, List.getElem?_map]
    by_cases c : i < vs.length
    · rw [two i c, List.getElem?_range c]; rfl
    · rw [Array.getElem?_eq_none (by omega), List.getElem?_eq_none (by rw [List.length_range]; omega)]; rfl
  by_cases two : vs.toArray.size < 2
  · rw [if_pos two, if_pos two]
    refine wpAny_bind (wpAny_pure ?_)
    rw [StateT.run_pure]
    refine wpAny_bind (wpAny_pure ?_)
    dsimp only
    refine wpAny_bind (seqEpoch_at hL6 rfl ?_)
    have oe := outE (vs.toArray.zip vs.toArray) (fun i => i) (by rw [Array.size_zip, hz]; omega) fun i hi => zip_get vs hi
    refine wpAny_bind (listUpdate_at hL6 rfl ?_ (by simp) (hsz2 := by rw [Array.size_map]; show (vs.toArray.zip vs.toArray).size <= _; rw [Array.size_zip, hz]; omega))
    simp only [bne_self_eq_false, Bool.false_eq_true, if_false]
    refine wpAny_pure ?_
    have := h (fun i => i) (fun i a b => ⟨a, b⟩) (fun i j a b c => by omega)
    rw [<- oe] at this
    exact this
  · rw [if_neg two, if_neg two]
    have h2' : 2 <= vs.length := by omega
    refine wpAny_bind (hkk h2' _ ?_)
    refine wpAny_bind (wpAny_mono (runs_ok (f := vv vs) (N := vs.length) (C h2') (st := SortSt.mk' kd (vs.toArray.zip vs.toArray) #[] 7 none)
      (Q := fun _ st' => ∃ g p, Sg vs.length (vv vs) kd g p st' /\ Cl g 0 vs.length /\ So o g 0 vs.length)
      ⟨by show (vs.toArray.zip vs.toArray).size = _; rw [Array.size_zip, hz]; omega, fun i hi => zip_get vs hi, fun i hi => hi, rfl, rfl, rfl⟩ (by omega) fun g' p' st' a1 a2 a3 => ⟨g', p', a1, a2, a3⟩) ?_ fun _ _ e => e)
    rintro ⟨⟨⟩, st'⟩ s' ⟨rfl, g, p, hS, hc, hso⟩
    dsimp only
    refine wpAny_bind (seqEpoch_at hL6 rfl ?_)
    have oe := outE (arrOf st') g hS.size hS.get
    refine wpAny_bind (listUpdate_at hL6 rfl ?_ (by simp) (hsz2 := by have hh : (arrOf st').size = vs.length := hS.size; show ((arrOf st').map (·.2)).size <= _; rw [Array.size_map, hh]; omega))
    rw [hS.failed]
    simp only [bne_self_eq_false, Bool.false_eq_true, if_false]
    have := h g hc hso
    rw [<- oe] at this
    exact wpAny_pure this
end
section
variable {prog : Program} {w : World} {A : Around} {E : Value -> Shared -> Prop} {s : Shared}
end
end Sx
set_option Elab.async false
set_option linter.all false
set_option maxRecDepth 100000
set_option maxHeartbeats 4000000
namespace Sx
open PySem PyProof.Rows
theorem lex_irr : ∀ a : List Int, HT.lexLt a a = false
  | [] => HT.lexLt_nil_nil
  | x :: a => by rw [HT.lexLt_cons, if_pos rfl]; exact lex_irr a
theorem lex_tr : ∀ {a b c : List Int}, HT.lexLt a b = true -> HT.lexLt b c = true -> HT.lexLt a c = true
  | [], [], _, h, _ => by rw [HT.lexLt_nil_nil] at h; cases h
  | x :: a, [], _, h, _ => by rw [HT.lexLt_cons_nil] at h; cases h
  | _, y :: b, [], _, h => by rw [HT.lexLt_cons_nil] at h; cases h
  | [], y :: b, z :: c, _, _ => HT.lexLt_nil_cons ..
  | x :: a, y :: b, z :: c, h1, h2 => by
    rw [HT.lexLt_cons] at h1 h2 ⊢
    by_cases e1 : x = y
    · rw [if_pos e1] at h1
      by_cases e2 : y = z
      · rw [if_pos e2] at h2
        rw [if_pos (e1.trans e2)]; exact lex_tr h1 h2
      · rw [if_neg e2] at h2
        have := of_decide_eq_true h2
        rw [if_neg (by omega)]; exact decide_eq_true (by omega)
    · rw [if_neg e1] at h1
      have l1 := of_decide_eq_true h1
      by_cases e2 : y = z
      · rw [if_neg (by omega)]; exact decide_eq_true (by omega)
      · rw [if_neg e2] at h2
        have := of_decide_eq_true h2
        rw [if_neg (by omega)]; exact decide_eq_true (by omega)
theorem lex_tot : ∀ {a b : List Int}, HT.lexLt a b = false -> HT.lexLt b a = false -> a = b
  | [], [], _, _ => rfl
  | [], y :: b, h, _ => by rw [HT.lexLt_nil_cons] at h; cases h
  | x :: a, [], _, h => by rw [HT.lexLt_nil_cons] at h; cases h
  | x :: a, y :: b, h1, h2 => by
    rw [HT.lexLt_cons] at h1 h2
    by_cases e : x = y
    · rw [if_pos e] at h1
      rw [if_pos e.symm] at h2
      rw [e, lex_tot h1 h2]
    · rw [if_neg e] at h1
      rw [if_neg (fun z => e z.symm)] at h2
      have := of_decide_eq_false h1
      have := of_decide_eq_false h2
      omega
theorem lex_neg {a b c : List Int} (h : HT.lexLt a c = true) : HT.lexLt a b = true \/ HT.lexLt b c = true := by
  cases e : HT.lexLt a b with
  | true => exact .inl rfl
  | false =>
    right
    cases e2 : HT.lexLt b a with
    | true => exact lex_tr e2 h
    | false => rw [<- lex_tot e e2]; exact h
noncomputable def lexO (kss : List (List Int)) : Ord where
  lt i j := HT.lexLt (kss.getD i []) (kss.getD j [])
  irr i := lex_irr _
  tr i j k := lex_tr
  neg i j k := lex_neg
section
variable {prog : Program} {w : World} {A : Around} {E : Value -> Shared -> Prop} {s : Shared}
theorem wp_mapM {α β : Type} {M : Model} {f : α -> Sem β} (r : α -> β) : ∀ (l : List α), (∀ a ∈ l, ∀ Q : β -> Shared -> Prop, Q (r a) s -> wpAny M A (f a) Q E s) -> ∀ Q : List β -> Shared -> Prop, Q (l.map r) s -> wpAny M A (l.mapM f) Q E s
  | [], _, Q, q => by rw [List.mapM_nil]; exact wpAny_pure q
  | a :: l, h, Q, q => by
    rw [List.mapM_cons]
    refine wpAny_bind (h a (List.mem_cons_self ..) _ (wpAny_bind (wp_mapM r l (fun b hb => h b (List.mem_cons_of_mem _ hb)) _ (wpAny_pure q))))
theorem wp_mapA {α β : Type} {M : Model} {f : α -> Sem β} (r : α -> β) (l : List α) (h : ∀ a ∈ l, ∀ Q : β -> Shared -> Prop, Q (r a) s -> wpAny M A (f a) Q E s) (Q : Array β -> Shared -> Prop) (q : Q (l.map r).toArray s) : wpAny M A (l.toArray.mapM f) Q E s := by
  rw [List.mapM_toArray, map_eq_pure_bind]
  exact wpAny_bind (wp_mapM r l h _ (wpAny_pure q))
theorem first_eq (u : Value) : firstOfTuple' u = (do
    if (<- typeOf u) != .type "tuple" then return none
    return (<- Builtin.List.listItems u)[0]?) := rfl
end
end Sx
namespace L2
open PySem PySem.Spec PyProof.Rows
section
variable {X : Cx}
theorem vals_refs : ∀ {rs : List Addr} {its : List Value}, Vals (rs.map V.ref) its -> its = rs.map Value.ref
  | [], _, r => by cases r; rfl
  | a :: rs, _, r => by
    cases r with
    | cons h t =>
      have e : _ = Value.ref a := h
      rw [e, vals_refs t]; rfl
theorem refs_vals : ∀ (rs : List Addr), Vals (rs.map V.ref) (rs.map Value.ref)
  | [] => .nil
  | a :: rs => .cons (show RelV (.ref a) (.ref a) from rfl) (refs_vals rs)
end
end L2
set_option Elab.async false
set_option linter.all false
set_option maxRecDepth 100000
set_option maxHeartbeats 4000000
namespace Sx
open PySem PyProof.Rows
open PySem.AutoSeq1 (wpAny_loadPart')
open PySem.MeetsSeq PySem.MeetsSeq2 PySem.MeetsSeq3
theorem ints_at : ∀ {xs : List Value} {ns : List Int} {i : Nat}, IntsAre xs ns -> i < ns.length -> ∃ t, xs[i]? = some (.int (ns.getD i 0) t)
  | _, _, i, .nil, h => absurd h (Nat.not_lt_zero _)
  | _, _, 0, .cons n t h, _ => ⟨t, rfl⟩
  | _, _, i + 1, .cons n t h, hi => by
    obtain ⟨t', e⟩ := ints_at h (i := i) (by simpa using hi)
    exact ⟨t', by simpa using e⟩
theorem drop_lex {ns ms : List Int} {i : Nat} (h1 : i < ns.length) (h2 : i < ms.length) : HT.lexLt (ns.drop i) (ms.drop i) = if ns.getD i 0 = ms.getD i 0 then HT.lexLt (ns.drop (i + 1)) (ms.drop (i + 1)) else decide (ns.getD i 0 < ms.getD i 0) := by
  rw [List.drop_eq_getElem_cons h1, List.drop_eq_getElem_cons h2, HT.lexLt_cons, List.getD_eq_getElem?_getD, List.getElem?_eq_getElem h1, List.getD_eq_getElem?_getD, List.getElem?_eq_getElem h2]; rfl
theorem lt_loop (l b : Addr) (items items2 : Array Value) (n n2 : Nat) (dd dd2 : Option Addr) (sl sl2 : Array (Option Value)) (ns ms : List Int) (hi : IntsAre items.toList ns) (hj : IntsAre items2.toList ms) (k : Nat) :
    ∀ i : Nat, ns.length - i = k -> i <= ns.length -> i <= ms.length -> Meets (Builtin.«list.__eq__.loop» ⟨[.ref l, .ref b, rawInt i, rawInt 0], []⟩)
      (fun A R s => s.heap.get? l = some { cls := .type "list", dict := dd, data := .seq items n, slots := sl } /\ s.heap.get? b = some { cls := .type "list", dict := dd2, data := .seq items2 n2, slots := sl2 } /\
        R (.ok (.ret (.bool (HT.lexLt (ns.drop i) (ms.drop i))))) s) := by
  have z1 : items.size = ns.length := by rw [<- hi.length]; simp
  have z2 : items2.size = ms.length := by rw [<- hj.length]; simp
  have last : ∀ i, i <= ns.length -> i <= ms.length -> (i = ns.length \/ i = ms.length) -> Meets (Builtin.«list.__eq__.loop» ⟨[.ref l, .ref b, rawInt i, rawInt 0], []⟩)
      (fun A R s => s.heap.get? l = some { cls := .type "list", dict := dd, data := .seq items n, slots := sl } /\ s.heap.get? b = some { cls := .type "list", dict := dd2, data := .seq items2 n2, slots := sl2 } /\
        R (.ok (.ret (.bool (HT.lexLt (ns.drop i) (ms.drop i))))) s) := fun i h1 h2 h3 => by
    intro prog w A R s h
    obtain ⟨hp, g, d, tk, os⟩ := s; obtain ⟨hl, hb, h⟩ := h
    have hv : HT.lexLt (ns.drop i) (ms.drop i) = decide (items.size < items2.size) := by
      rw [z1, z2]
      by_cases c : i = ns.length
      · rw [List.drop_of_length_le (by omega)]
        by_cases c2 : i = ms.length
        · rw [List.drop_of_length_le (by omega), HT.lexLt_nil_nil, decide_eq_false (by omega)]
        · rw [List.drop_eq_getElem_cons (show i < ms.length by omega), HT.lexLt_nil_cons, decide_eq_true (by omega)]
      · have c2 : i = ms.length := by omega
        rw [List.drop_eq_getElem_cons (show i < ns.length by omega), List.drop_of_length_le (show ms.length <= i by omega), HT.lexLt_cons_nil, decide_eq_false (by omega)]
    rw [hv] at h
    wp_walk using wpAny_loadPart' hl, wpAny_loadPart' hb
    rcases h3 with h3 | h3
    · have e1 : items[((i : Nat) : Int).toNat]? = none := by simp; omega
      rw [e1]
      wp_walk using wpAny_loadPart' hl, wpAny_loadPart' hb
      exact h
    · have e1 : items2[((i : Nat) : Int).toNat]? = none := by simp; omega
      rw [e1]
      cases items[((i : Nat) : Int).toNat]? with
      | none =>
        wp_walk using wpAny_loadPart' hl, wpAny_loadPart' hb
        exact h
      | some y =>
        wp_walk using wpAny_loadPart' hl, wpAny_loadPart' hb
        exact h
  induction k with
  | zero => exact fun i hk h1 h2 => last i h1 h2 (.inl (by omega))
  | succ k ih =>
    intro i hk h1 h2
    by_cases c : i = ms.length
    · exact last i h1 h2 (.inr c)
    · intro prog w A R s h
      obtain ⟨hp, g, d, tk, os⟩ := s; obtain ⟨hl, hb, h⟩ := h
      obtain ⟨t, et⟩ := ints_at hi (i := i) (by omega)
      obtain ⟨u, eu⟩ := ints_at hj (i := i) (by omega)
      have e1 : items[((i : Nat) : Int).toNat]? = some (.int (ns.getD i 0) t) := by rw [Int.toNat_natCast, <- Array.getElem?_toList]; exact et
      have e2 : items2[((i : Nat) : Int).toNat]? = some (.int (ms.getD i 0) u) := by rw [Int.toNat_natCast, <- Array.getElem?_toList]; exact eu
      rw [drop_lex (by omega) (by omega)] at h
      wp_walk using wpAny_loadPart' hl, wpAny_loadPart' hb
      rw [e1, e2]
      obtain ⟨e, he, hiff⟩ := HT.eqAt_int A.in1 ⟨hp, g, d, tk, os⟩ (ns.getD i 0) t (ms.getD i 0) u
      refine wpAny_bind (he prog w _ _ ?_)
      have hc : ((i : Int) + 1) = ((i + 1 : Nat) : Int) := by push_cast; rfl
      cases e with
      | true =>
        rw [if_pos (hiff.mp rfl)] at h
        wp_walk
        rw [hc]
        exact ⟨plainId_quiet plain_eq_loop _, codeAny_builtin entry_eq_loop (by
          rw [Around.under_plainId plain_eq_loop _]
          exact ih (i + 1) (by omega) (by omega) (by omega) prog w A R _ ⟨hl, hb, h⟩)⟩
      | false =>
        rw [if_neg (fun q => absurd (hiff.mpr q) Bool.false_ne_true)] at h
        wp_walk using wpAny_loadPart' hl, wpAny_loadPart' hb
        rw [e1, e2]
        have hri := HT.rcLt_int A.in1 ⟨hp, g, d, tk, os⟩ (ns.getD i 0) t (ms.getD i 0) u prog w
        wp_walk using hri
        exact h
theorem list_lt_ints (l b : Addr) (items items2 : Array Value) (n n2 : Nat) (dd dd2 : Option Addr) (sl sl2 : Array (Option Value)) (ns ms : List Int) (hi : IntsAre items.toList ns) (hj : IntsAre items2.toList ms) :
    Meets (Builtin.«list.__lt__» ⟨[.ref l, .ref b], []⟩)
      (fun A R s => s.heap.get? l = some { cls := .type "list", dict := dd, data := .seq items n, slots := sl } /\ s.heap.get? b = some { cls := .type "list", dict := dd2, data := .seq items2 n2, slots := sl2 } /\
        R (.ok (.ret (.bool (HT.lexLt ns ms)))) s) := by
  intro prog w A R s h
  obtain ⟨hp, g, d, tk, os⟩ := s; obtain ⟨hl, hb, h⟩ := h
  have f3 := AutoSeq1.sub_list_list
  wp_walk using wpAny_loadPart' hl, wpAny_loadPart' hb
  exact ⟨plainId_quiet plain_eq_loop _, codeAny_builtin entry_eq_loop (by
    rw [Around.under_plainId plain_eq_loop _]
    exact lt_loop l b items items2 n n2 dd dd2 sl sl2 ns ms hi hj _ 0 rfl (Nat.zero_le _) (Nat.zero_le _) prog w A R _ ⟨hl, hb, h⟩)⟩
section
variable {prog : Program} {w : World} {A : Around} {E : Value -> Shared -> Prop} {s : Shared}
theorem one_list {l k : Addr} {xs ys : Array Value} {ns ms : List Int} {Q : Bool -> Shared -> Prop} (hl : s.heap.IsList l xs) (hk : s.heap.IsList k ys) (hi : IntsAre xs.toList ns) (hj : IntsAre ys.toList ms) (hu : A.units < cLine) (h : Q (HT.lexLt ns ms) s) :
    wpAny (model prog w) A (keyLt' oneType' (.ref l) (.ref k)) Q E s := by
  rw [keyLt'_oneType, oneLt'_eq]
  simp only [if_true]
  obtain ⟨⟨cls, dd, data, sl⟩, ho, hc, n, hd⟩ := id hl
  obtain ⟨⟨cls2, dd2, data2, sl2⟩, ho2, hc2, n2, hd2⟩ := id hk
  simp only at hc hd hc2 hd2
  subst hc hd hc2 hd2
  refine wpAny_bind (wpAny_cRoomFor hu ?_)
  refine wpAny_bind (wpAny_callSpecialIfBound?_slot (T := "list") (id := "list.__lt__") ⟨_, ho, rfl⟩ PySem.F.slot_list_lt (call_meets PySem.F.slot_list_lt ⟨_, ho, rfl⟩ PySem.F.entry_list_lt (PySem.F.args_list_lt_2 _ _) (list_lt_ints l k xs ys n n2 dd dd2 sl sl2 ns ms hi hj) ⟨ho, ho2, ?_⟩))
  exact wpAny_truthy_bool h
theorem first_none {v : Value} {l : Addr} {xs : Array Value} (e : v = .ref l) (h : s.heap.IsList l xs) {Q : Option Value -> Shared -> Prop} (q : Q none s) : wpAny (model prog w) A (firstOfTuple' v) Q E s := by
  subst e
  obtain ⟨o, ho, hc, n, hd⟩ := h
  rw [first_eq]
  refine wpAny_bind (wpAny_typeOf (T := "list") ⟨o, ho, hc⟩ ?_)
  rw [if_pos (by decide)]
  exact wpAny_pure q
theorem kind_lists {vs : List Value} (h0 : vs ≠ []) (ht : ∀ v ∈ vs, ∃ (l : Addr) (xs : Array Value), v = .ref l /\ s.heap.IsList l xs) {Q : SortKind -> Shared -> Prop} (q : Q oneType' s) :
    wpAny (model prog w) A (keyKind' vs.toArray) Q E s := by
  rw [keyKind'_eq]
  obtain ⟨v0, vs', rfl⟩ : ∃ v0 vs', vs = v0 :: vs' := by
    cases vs with
    | nil => exact absurd rfl h0
    | cons a b => exact ⟨a, b, rfl⟩
  refine wpAny_bind (wp_mapA (fun _ => (none : Option Value)) (v0 :: vs') (fun v hv Q' q' => ?_) _ ?_)
  · obtain ⟨l, xs, e, h⟩ := ht v hv
    exact first_none e h q'
  · rw [if_neg (by simp), if_neg (by simp), oneTypeOnly'_eq]
    refine wpAny_bind (wpAny_bind (wp_mapA (fun _ => Value.type "list") _ (fun v hv Q' q' => ?_) _ ?_))
    · obtain ⟨l, xs, rfl, o, ho, hc, _⟩ := ht v hv
      exact wpAny_typeOf (T := "list") ⟨o, ho, hc⟩ q'
    · have ha : ((List.map (fun _ => Value.type "list") (v0 :: vs')).toArray.all fun x => x == Value.type "list") = true := by
        rw [List.all_toArray, List.all_map, List.all_eq_true]
        intro _ _
        rfl
      have hz : (List.map (fun _ => Value.type "list") (v0 :: vs')).toArray[0]? = some (Value.type "list") := by simp
      rw [hz]
      simp only [ha, if_true]
      exact wpAny_pure (wpAny_pure q)
end
end Sx
namespace L2
open PySem PySem.Spec PyProof.Rows
section
variable {X : Cx}
theorem call_sortedL (hu : X.A.units + 64 < cLine) : CallR X (.builtin "sorted") (fun xs H Q => ∃ (p : Addr) (rs : List Addr) (kss : List (List Int)), xs = [.ref p] /\ SqL X.K H p (rs.map V.ref) /\ rs.length = kss.length /\
    (∀ (i : Nat) (r : Addr) (ks : List Int), rs[i]? = some r -> kss[i]? = some ks -> SqL X.K H r (ks.map V.int)) /\
    ∀ l g, H l = none -> Sx.Cl g 0 kss.length -> Sx.So (Sx.lexO kss) g 0 kss.length -> Q (.ref l) (upd H l (.lst (((List.range kss.length).map fun i => rs.getD (g i) 0).map V.ref)))) := by
  intro pins s σ H xs us Q I rr h
  obtain ⟨p, rs, kss, rfl, hq, hlen, hT, q⟩ := h
  obtain ⟨u, rfl, rx⟩ := vals1 rr
  cases rx
  obtain ⟨its, rv, pl, hz⟩ := I.list hq
  have ei := vals_refs rv
  subst ei
  obtain ⟨o, ho, hcl, n, hd⟩ := pl.isList
  rw [List.length_map] at hz
  have hN : (rs.map Value.ref).length = kss.length := by rw [List.length_map, hlen]
  refine Calls.call_function_entry kind_sorted plain_sorted entry_sorted (args_sorted1 _) ?_
  unfold Builtin.«sorted»
  refine wpAny_bind (m := checkCount "sorted" 1 1 _) (wpAny_pure ?_)
  refine wpAny_bind (wpAny_collect_seq p (.inl rfl) ho hcl hd (fun h' hk => ?_) (by rw [List.size_toArray, hN]; omega))
  refine wpAny_bind (wpAny_newList ?_)
  have hoL : (h'.push (seqObj "list" (rs.map Value.ref).toArray 0)).get? h'.objs.size = some (seqObj "list" (rs.map Value.ref).toArray 0) := Heap.get?_push_size _ rfl
  show wpAny _ _ _ _ _ { s with heap := h'.push (seqObj "list" (rs.map Value.ref).toArray 0) }
  have I1 : Inv X pins σ H { s with heap := h' } := I.kept (t' := s.toks) hk
  have lst : ∀ (i : Nat) (r : Addr) (ks : List Int), rs[i]? = some r -> kss[i]? = some ks -> ∃ its : List Value, IntsAre its ks /\ (Sx.midH (h'.push (seqObj "list" (rs.map Value.ref).toArray 0)) h'.objs.size (rs.map Value.ref)).IsList r its.toArray := fun i r ks e1 e2 => by
    obtain ⟨its, rv, pl, _⟩ := I1.list (hT i r ks e1 e2)
    obtain ⟨o, ho, hc, n, hd⟩ := pl.isList
    refine ⟨its, intsAre_of rv, o, ?_, hc, n, hd⟩
    have lt : r < h'.objs.size := Heap.lt_size ho
    rw [Sx.mid_old (Nat.ne_of_lt lt) (by rw [Heap.size_push]; exact Nat.lt_succ_of_lt lt)]
    exact Heap.get?_push_of_some _ ho
  refine wpAny_bind (wpAny_holding (wpAny_call_entry slot_list_sort ⟨_, hoL, rfl⟩ entry_list_sort (Sx.sort_tree (o := Sx.lexO kss) (kd := oneType') hoL (by rw [hN]; omega) (fun h2 Q' q' => ?_) (fun h2 i j hi hj E' Q' q' => ?_) fun g hc hs => ⟨_, rfl, ?_⟩) (args_list_sort _)))
  · refine Sx.kind_lists (fun z => by rw [z] at h2; simp at h2) (fun v hv => ?_) q'
    obtain ⟨i, hi⟩ := List.getElem?_of_mem hv
    rw [List.getElem?_map] at hi
    obtain ⟨r, hr, rfl⟩ := Option.map_eq_some_iff.mp hi
    have lt := (List.getElem?_eq_some_iff.mp hr).1
    obtain ⟨its, _, h3⟩ := lst i r _ hr (List.getElem?_eq_getElem (show i < kss.length by omega))
    exact ⟨r, _, rfl, h3⟩
  · rw [hN] at hi hj
    have e1 : rs[i]? = some (rs[i]'(by omega)) := List.getElem?_eq_getElem _
    have e2 : rs[j]? = some (rs[j]'(by omega)) := List.getElem?_eq_getElem _
    have k1 : kss[i]? = some kss[i] := List.getElem?_eq_getElem hi
    have k2 : kss[j]? = some kss[j] := List.getElem?_eq_getElem hj
    obtain ⟨x1, a1, b1⟩ := lst i _ _ e1 k1
    obtain ⟨x2, a2, b2⟩ := lst j _ _ e2 k2
    have v1 : (rs.map Value.ref).getD i .none = .ref (rs[i]'(by omega)) := by rw [List.getD_eq_getElem?_getD, List.getElem?_map, e1]; rfl
    have v2 : (rs.map Value.ref).getD j .none = .ref (rs[j]'(by omega)) := by rw [List.getD_eq_getElem?_getD, List.getElem?_map, e2]; rfl
    show wpAny _ _ (keyLt' oneType' ((rs.map Value.ref).getD i .none) ((rs.map Value.ref).getD j .none)) Q' E' _
    rw [v1, v2]
    refine Sx.one_list b1 b2 a1 a2 (by show X.A.units + 1 + 1 < _; omega) ?_
    have d1 : kss.getD i [] = kss[i] := by rw [List.getD_eq_getElem?_getD, k1]; rfl
    have d2 : kss.getD j [] = kss[j] := by rw [List.getD_eq_getElem?_getD, k2]; rfl
    have : (Sx.lexO kss).lt i j = HT.lexLt kss[i] kss[j] := by show HT.lexLt _ _ = _; rw [d1, d2]
    rw [<- this]; exact q'
  · rw [hN] at hc hs ⊢
    obtain ⟨e, he⟩ := sortedHeap_at (out := ((List.range kss.length).map fun i => (rs.map Value.ref).getD (g i) .none).toArray) hoL
    have old : ∀ b ob, h'.get? b = some ob -> (sortedHeap (h'.push (seqObj "list" (rs.map Value.ref).toArray 0)) h'.objs.size (rs.map Value.ref) ((List.range kss.length).map fun i => (rs.map Value.ref).getD (g i) .none).toArray).get? b = some ob := fun b ob eb => by
      rw [sortedHeap_old (Nat.ne_of_lt (Heap.lt_size eb)) (by rw [Heap.size_push]; exact Nat.lt_succ_of_lt (Heap.lt_size eb))]
      exact Heap.get?_push_of_some _ eb
    refine wpAny_pure ⟨_, rfl, .ref h'.objs.size, _, I1.laid (t' := s.toks) (o := .lst (((List.range kss.length).map fun i => rs.getD (g i) 0).map V.ref)) old (Nat.le_refl _) ?_, rfl, q _ g (I1.hok.fresh (Nat.le_refl _)) hc hs⟩
    refine ⟨by rw [List.length_map, List.length_map, List.length_range]; omega, ((List.range kss.length).map fun i => rs.getD (g i) 0).map Value.ref, e, refs_vals _, ?_⟩
    rw [he]
    congr 2
    rw [List.map_map]
    congr 1
    refine List.map_congr_left fun i hi => ?_
    have := (hc i (Nat.zero_le _) (List.mem_range.mp hi)).2
    have lt : g i < rs.length := by omega
    show (rs.map Value.ref).getD (g i) .none = Value.ref (rs.getD (g i) 0)
    rw [List.getD_eq_getElem?_getD, List.getElem?_map, List.getElem?_eq_getElem lt, List.getD_eq_getElem?_getD, List.getElem?_eq_getElem lt]; rfl
end
end L2
set_option Elab.async false
set_option linter.all false
set_option maxRecDepth 100000
set_option maxHeartbeats 4000000
namespace Am
open PySem
inductive A where
  | unb | non | bl (b : Bool) | int (i : Int) | str (x : Str) | tup (xs : List A) | frz (xs : List A) | rng (lo hi : Int) | ref (n : Nat) | exn (c : Str) | ty (n : String)
inductive O where
  | lst (xs : List A) | dct (kvs : List (List Int × A)) | ins (c : Str) (fs : List (Str × A))
noncomputable abbrev Sto := List O
inductive R (α : Type) where
  | ok (a : α) (S : Sto) | ex (c : Str) (S : Sto) | no
noncomputable def R.bind {α β : Type} (r : R α) (f : α -> Sto -> R β) : R β := match r with
  | .ok a S => f a S
  | .ex c S => .ex c S
  | .no => .no
noncomputable def R.post {α : Type} (r : R α) (P : α -> Sto -> Prop) (E : Str -> Sto -> Prop) : Prop := match r with
  | .ok a S => P a S
  | .ex c S => E c S
  | .no => False
theorem post_bind {α β : Type} {r : R α} {f : α -> Sto -> R β} {P : β -> Sto -> Prop} {E : Str -> Sto -> Prop} (h : (r.bind f).post P E) : r.post (fun a S => (f a S).post P E) E := by
  cases r <;> exact h
theorem post_mono {α : Type} {r : R α} {P P' : α -> Sto -> Prop} {E E' : Str -> Sto -> Prop} (h : r.post P E) (hp : ∀ a S, P a S -> P' a S) (he : ∀ c S, E c S -> E' c S) : r.post P' E' := by
  cases r with
  | ok a S => exact hp _ _ h
  | ex c S => exact he _ _ h
  | no => exact h.elim
noncomputable def gd {α : Type} (c : Prop) [Decidable c] (r : R α) : R α := if c then r else .no
noncomputable def opt {α β : Type} (o : Option β) (f : β -> R α) : R α := match o with
  | some b => f b
  | none => .no
theorem gd_post {α : Type} {c : Prop} [Decidable c] {r : R α} {P : α -> Sto -> Prop} {E : Str -> Sto -> Prop} (h : (gd c r).post P E) : c /\ r.post P E := by
  unfold gd at h
  by_cases hc : c
  · rw [if_pos hc] at h; exact ⟨hc, h⟩
  · rw [if_neg hc] at h; exact h.elim
theorem opt_post {α β : Type} {o : Option β} {f : β -> R α} {P : α -> Sto -> Prop} {E : Str -> Sto -> Prop} (h : (opt o f).post P E) : ∃ b, o = some b /\ (f b).post P E := by
  cases o with
  | none => exact h.elim
  | some b => exact ⟨b, rfl, h⟩
theorem gd_t {α : Type} {c : Prop} [Decidable c] {r : R α} (h : c) : gd c r = r := if_pos h
noncomputable def lstAt (S : Sto) (n : Nat) : Option (List A) := match S[n]? with
  | some (.lst xs) => some xs
  | _ => none
theorem lstAt_of {S : Sto} {n : Nat} {xs : List A} (h : lstAt S n = some xs) : S[n]? = some (.lst xs) := by
  unfold lstAt at h
  split at h
  · rename_i e; cases h; exact e
  · cases h
theorem lstAt_eq {S : Sto} {n : Nat} {xs : List A} (h : S[n]? = some (.lst xs)) : lstAt S n = some xs := by
  unfold lstAt; rw [h]
inductive RS where
  | nx (τ : List A) (S : Sto) | rt (a : A) (S : Sto) | bk (τ : List A) (S : Sto) | ct (τ : List A) (S : Sto) | ex (c : Str) (S : Sto) | no
noncomputable abbrev Ex := List A -> Sto -> R A
noncomputable abbrev Exs := List A -> Sto -> R (List A)
noncomputable abbrev Te := List A -> Sto -> R Bool
noncomputable abbrev Sm := List A -> Sto -> RS
noncomputable abbrev Tg := A -> List A -> Sto -> R (List A)
end Am
namespace Am
open PySem L2
section
variable (K : PySem.W.Frag) (ρ : List Addr) (H : Hp)
noncomputable def ClN (K : PySem.W.Frag) (c : Str) (C : Addr) : Prop := PySem.W.nsIn K mainGlobals c = some (some (.ref C))
noncomputable def Fz (K : PySem.W.Frag) (H : Hp) (a : Addr) (vs : List V) : Prop :=
  (∃ o, H a = some (.frz o (.lst vs))) \/ ∃ (o : Obj) (its : Array Value) (n : Nat), K.lookup a = some o /\ o.cls = .type "list" /\ o.dict = none /\ o.data = .seq its n /\ its.size <= sizeLine /\ Vals vs its.toList
mutual
inductive AV : A -> V -> Prop
  | non : AV .non .non
  | bl (b : Bool) : AV (.bl b) (.bl b)
  | int (i : Int) : AV (.int i) (.int i)
  | str (x : Str) : AV (.str x) (.str x)
  | ty (n : String) : AV (.ty n) (.ty n)
  | tup {a : Addr} {xs : List A} {vs : List V} (h : H a = some (.tup vs)) (r : AVs xs vs) : AV (.tup xs) (.ref a)
  | frz {a : Addr} {xs : List A} {vs : List V} (h : Fz K H a vs) (r : AVs xs vs) : AV (.frz xs) (.ref a)
  | rng {a : Addr} {lo hi : Int} (h : H a = some (.rng lo hi)) : AV (.rng lo hi) (.ref a)
  | ref {a : Addr} {n : Nat} (h : ρ[n]? = some a) : AV (.ref n) (.ref a)
  | exn {a C : Addr} {c : Str} {oe : Obj} (n : ClN K c C) (h : H a = some (.frz oe xu)) (x : XO C oe) : AV (.exn c) (.ref a)
inductive AVs : List A -> List V -> Prop
  | nil : AVs [] []
  | cons {x : A} {v : V} {xs : List A} {vs : List V} (h : AV x v) (t : AVs xs vs) : AVs (x :: xs) (v :: vs)
end
noncomputable def DV : List (List Int × A) -> List (List Key × V) -> Prop
  | [], [] => True
  | p :: r, q :: r' => (q.1 = p.1.map Sum.inl /\ AV K ρ H p.2 q.2) /\ DV r r'
  | _, _ => False
noncomputable def OR (a : Addr) : O -> Prop
  | .lst xs => ∃ vs, H a = some (.lst vs) /\ AVs K ρ H xs vs
  | .dct kvs => ∃ ks, H a = some (.dT ks) /\ DV K ρ H kvs ks
  | .ins _ _ => ∃ o u, H a = some (.frz o u)
structure Rel (S : Sto) : Prop where
  len : ρ.length = S.length
  nd : ρ.Nodup
  «at» : ∀ (n : Nat) (a : Addr) (o : O), ρ[n]? = some a -> S[n]? = some o -> OR K ρ H a o
end
noncomputable def Imm : HO -> Prop
  | .tup _ => True
  | .rng _ _ => True
  | .frz _ _ => True
  | _ => False
structure Ext0 (ρ ρ' : List Addr) (H H' : Hp) : Prop where
  pre : ρ <+: ρ'
  im : ∀ a u, Imm u -> H a = some u -> H' a = some u
structure Ext (ρ ρ' : List Addr) (H H' : Hp) : Prop extends Ext0 ρ ρ' H H' where
  fr : ∀ a u, H a = some u -> a ∉ ρ -> H' a = some u
  nw : ∀ a, a ∈ ρ' -> a ∈ ρ \/ H a = none
theorem Ext.refl {ρ : List Addr} {H : Hp} : Ext ρ ρ H H := ⟨⟨List.prefix_refl _, fun _ _ _ h => h⟩, fun _ _ h _ => h, fun _ h => .inl h⟩
theorem Ext.trans {ρ ρ1 ρ2 : List Addr} {H H1 H2 : Hp} (a : Ext ρ ρ1 H H1) (b : Ext ρ1 ρ2 H1 H2) : Ext ρ ρ2 H H2 := ⟨⟨a.pre.trans b.pre, fun x u i h => b.im x u i (a.im x u i h)⟩, fun x u h n => b.fr x u (a.fr x u h n) fun z => (a.nw x z).elim n fun z => by (rw [z] at h; cases h), fun x h => by
  by_cases hx : x ∈ ρ
  · exact .inl hx
  · right
    cases q : H x with
    | none => rfl
    | some u =>
      rcases b.nw x h with z | z
      · exact ((a.nw x z).elim hx fun z => by (rw [z] at q; cases q)).elim
      · rw [a.fr x u q hx] at z; cases z⟩
theorem Ext0.get {ρ ρ' : List Addr} {H H' : Hp} (e : Ext0 ρ ρ' H H') {n : Nat} {a : Addr} (h : ρ[n]? = some a) : ρ'[n]? = some a := by
  obtain ⟨t, rfl⟩ := e.pre
  rw [List.getElem?_append_left (List.getElem?_eq_some_iff.mp h).1]
  exact h
section
variable {K : PySem.W.Frag} {ρ ρ' : List Addr} {H H' : Hp}
theorem Ext0.sqT (e : Ext0 ρ ρ' H H') {a : Addr} {vs : List V} (h : SqT K H a vs) : SqT K H' a vs := by
  rcases h with (h | ⟨o, h⟩) | h
  · exact .inl (.inl (e.im _ _ trivial h))
  · exact .inl (.inr ⟨o, e.im _ _ trivial h⟩)
  · exact .inr h
theorem Ext0.fz (e : Ext0 ρ ρ' H H') {a : Addr} {vs : List V} (h : Fz K H a vs) : Fz K H' a vs := by
  rcases h with ⟨o, h⟩ | h
  · exact .inl ⟨o, e.im _ _ trivial h⟩
  · exact .inr h
theorem Fz.sqL {a : Addr} {vs : List V} (h : Fz K H a vs) : SqL K H a vs := by
  rcases h with ⟨o, h⟩ | h
  · exact .inl (.inr ⟨o, h⟩)
  · exact .inr h
mutual
theorem AV.ext0 (e : Ext0 ρ ρ' H H') : ∀ {x : A} {v : V}, AV K ρ H x v -> AV K ρ' H' x v
  | _, _, .non => .non
  | _, _, .bl b => .bl b
  | _, _, .int i => .int i
  | _, _, .str x => .str x
  | _, _, .ty x => .ty x
  | _, _, .tup h r => .tup (e.im _ _ trivial h) (AVs.ext0 e r)
  | _, _, .frz h r => .frz (e.fz h) (AVs.ext0 e r)
  | _, _, .rng h => .rng (e.im _ _ trivial h)
  | _, _, .ref h => .ref (e.get h)
  | _, _, .exn n h x => .exn n (e.im _ _ trivial h) x
theorem AVs.ext0 (e : Ext0 ρ ρ' H H') : ∀ {xs : List A} {vs : List V}, AVs K ρ H xs vs -> AVs K ρ' H' xs vs
  | _, _, .nil => .nil
  | _, _, .cons h t => .cons (AV.ext0 e h) (AVs.ext0 e t)
end
theorem DV.ext0 (e : Ext0 ρ ρ' H H') : ∀ {xs : List (List Int × A)} {vs : List (List Key × V)}, DV K ρ H xs vs -> DV K ρ' H' xs vs
  | [], [], _ => trivial
  | _ :: _, _ :: _, ⟨⟨a, b⟩, r⟩ => ⟨⟨a, AV.ext0 e b⟩, DV.ext0 e r⟩
theorem DV.ext {x : List (List Int × A)} {v : List (List Key × V)} (h : DV K ρ H x v) (e : Ext ρ ρ' H H') : DV K ρ' H' x v := DV.ext0 e.toExt0 h
theorem AV.ext {x : A} {v : V} (h : AV K ρ H x v) (e : Ext ρ ρ' H H') : AV K ρ' H' x v := AV.ext0 e.toExt0 h
theorem AVs.ext {x : List A} {v : List V} (h : AVs K ρ H x v) (e : Ext ρ ρ' H H') : AVs K ρ' H' x v := AVs.ext0 e.toExt0 h
theorem AVs.length : ∀ {xs : List A} {vs : List V}, AVs K ρ H xs vs -> xs.length = vs.length
  | _, _, .nil => rfl
  | _, _, .cons _ t => congrArg (· + 1) (AVs.length t)
theorem AVs.append : ∀ {xs ys : List A} {vs ws : List V}, AVs K ρ H xs vs -> AVs K ρ H ys ws -> AVs K ρ H (xs ++ ys) (vs ++ ws)
  | _, _, _, _, .nil, s => s
  | _, _, _, _, .cons h t, s => .cons h (AVs.append t s)
theorem AVs.take : ∀ {xs : List A} {vs : List V} (n : Nat), AVs K ρ H xs vs -> AVs K ρ H (xs.take n) (vs.take n)
  | _, _, 0, _ => .nil
  | _, _, _ + 1, .nil => .nil
  | _, _, n + 1, .cons h t => .cons h (AVs.take n t)
theorem AVs.drop : ∀ {xs : List A} {vs : List V} (n : Nat), AVs K ρ H xs vs -> AVs K ρ H (xs.drop n) (vs.drop n)
  | _, _, 0, r => r
  | _, _, _ + 1, .nil => .nil
  | _, _, n + 1, .cons _ t => AVs.drop n t
theorem AVs.reverse : ∀ {xs : List A} {vs : List V}, AVs K ρ H xs vs -> AVs K ρ H xs.reverse vs.reverse
  | _, _, .nil => .nil
  | _, _, .cons h t => by rw [List.reverse_cons, List.reverse_cons]; exact (AVs.reverse t).append (.cons h .nil)
theorem AVs.get : ∀ {xs : List A} {vs : List V} {i : Nat} {x : A}, AVs K ρ H xs vs -> xs[i]? = some x -> ∃ v, vs[i]? = some v /\ AV K ρ H x v
  | _, _, _, _, .nil, e => by simp at e
  | _, _, 0, _, .cons h _, e => by simp at e; subst e; exact ⟨_, rfl, h⟩
  | _, _, i + 1, x, .cons _ t, e => by
    obtain ⟨u, h1, h2⟩ := AVs.get (i := i) (x := x) t (by simpa using e)
    exact ⟨u, by simpa using h1, h2⟩
theorem AVs.set {x : A} {v : V} (h : AV K ρ H x v) : ∀ {xs : List A} {vs : List V} (i : Nat), AVs K ρ H xs vs -> AVs K ρ H (xs.set i x) (vs.set i v)
  | _, _, _, .nil => .nil
  | _, _, 0, .cons _ t => .cons h t
  | _, _, i + 1, .cons q t => .cons q (AVs.set h i t)
theorem AVs.one {x : A} {v : V} (h : AV K ρ H x v) : AVs K ρ H [x] [v] := .cons h .nil
theorem AVs.eraseIdx : ∀ {xs : List A} {vs : List V} (i : Nat), AVs K ρ H xs vs -> AVs K ρ H (xs.eraseIdx i) (vs.eraseIdx i)
  | _, _, _, .nil => .nil
  | _, _, 0, .cons _ t => t
  | _, _, i + 1, .cons q t => .cons q (AVs.eraseIdx i t)
theorem avs_ints : ∀ (ns : List Int), AVs K ρ H (ns.map .int) (ns.map .int)
  | [] => .nil
  | n :: ns => .cons (.int n) (avs_ints ns)
theorem Rel.lay {S : Sto} {p : Addr} {xs : List A} {vs : List V} (R : Rel K ρ H S) (hp : H p = none) (r : AVs K ρ H xs vs) : Ext ρ (ρ ++ [p]) H (upd H p (.lst vs)) /\ Rel K (ρ ++ [p]) (upd H p (.lst vs)) (S ++ [.lst xs]) /\ (ρ ++ [p])[S.length]? = some p := by
  have ex : Ext ρ (ρ ++ [p]) H (upd H p (.lst vs)) := ⟨⟨List.prefix_append _ _, fun a u _ h => by rw [upd_ne (ne_of_none h hp)]; exact h⟩, fun a u h _ => by rw [upd_ne (ne_of_none h hp)]; exact h, fun a h => by
    rcases List.mem_append.mp h with z | z
    · exact .inl z
    · have e : a = p := by simpa using z
      rw [e]; exact .inr hp⟩
  have np : ∀ (n : Nat) (a : Addr), ρ[n]? = some a -> a ≠ p := by
    intro n a e z
    subst z
    have hn : n < S.length := by rw [<- R.len]; exact (List.getElem?_eq_some_iff.mp e).1
    have := R.at n a S[n] e (List.getElem?_eq_getElem hn)
    cases ho : S[n] with
    | lst xs => rw [ho] at this; obtain ⟨vs, h, _⟩ := this; rw [hp] at h; cases h
    | dct _ => rw [ho] at this; obtain ⟨vs, h, _⟩ := this; rw [hp] at h; cases h
    | ins _ _ => rw [ho] at this; obtain ⟨_, _, h⟩ := this; rw [hp] at h; cases h
  have last : (ρ ++ [p])[S.length]? = some p := by rw [<- R.len]; simp
  refine ⟨ex, ⟨by simp [R.len], ?_, ?_⟩, last⟩
  · rw [List.nodup_append]
    refine ⟨R.nd, by simp, fun a ha b hb e => ?_⟩
    have : b = p := by simpa using hb
    obtain ⟨n, hn, e'⟩ := List.mem_iff_getElem.mp ha
    exact np n a (by rw [List.getElem?_eq_getElem hn, e']) (e.trans this)
  · intro n a o h1 h2
    by_cases hn : n < S.length
    · rw [List.getElem?_append_left (by rw [R.len]; exact hn)] at h1
      rw [List.getElem?_append_left hn] at h2
      have := R.at n a o h1 h2
      cases o with
      | lst ys => obtain ⟨ws, e, q⟩ := this; exact ⟨ws, by rw [upd_ne (np n a h1)]; exact e, q.ext ex⟩
      | dct _ => obtain ⟨ws, e, q⟩ := this; exact ⟨ws, by rw [upd_ne (np n a h1)]; exact e, q.ext ex⟩
      | ins _ _ => obtain ⟨oo, uu, e⟩ := this; exact ⟨oo, uu, by rw [upd_ne (np n a h1)]; exact e⟩
    · have e : n = S.length := by
        have := (List.getElem?_eq_some_iff.mp h2).1
        simp at this
        omega
      subst e
      rw [last] at h1
      cases h1
      simp at h2
      subst h2
      exact ⟨vs, upd_same, r.ext ex⟩
theorem Rel.im {S : Sto} {p : Addr} {u : HO} (R : Rel K ρ H S) (hp : H p = none) : Ext ρ ρ H (upd H p u) /\ Rel K ρ (upd H p u) S := by
  have ex : Ext ρ ρ H (upd H p u) := ⟨⟨List.prefix_refl _, fun a u _ h => by rw [upd_ne (ne_of_none h hp)]; exact h⟩, fun a u h _ => by rw [upd_ne (ne_of_none h hp)]; exact h, fun _ h => .inl h⟩
  refine ⟨ex, R.len, R.nd, fun n a o h1 h2 => ?_⟩
  have := R.at n a o h1 h2
  cases o with
  | lst ys => obtain ⟨ws, e, q⟩ := this; exact ⟨ws, by rw [upd_ne (ne_of_none e hp)]; exact e, q.ext ex⟩
  | dct _ => obtain ⟨ws, e, q⟩ := this; exact ⟨ws, by rw [upd_ne (ne_of_none e hp)]; exact e, q.ext ex⟩
  | ins _ _ => obtain ⟨oo, uu, e⟩ := this; exact ⟨oo, uu, by rw [upd_ne (ne_of_none e hp)]; exact e⟩
theorem Rel.put {S : Sto} {n : Nat} {a : Addr} {xs ys : List A} {ws : List V} (R : Rel K ρ H S) (ha : ρ[n]? = some a) (hS : S[n]? = some (.lst xs)) (r : AVs K ρ H ys ws) : Ext ρ ρ H (upd H a (.lst ws)) /\ Rel K ρ (upd H a (.lst ws)) (S.set n (.lst ys)) := by
  obtain ⟨vs, e, _⟩ := R.at n a _ ha hS
  have ex : Ext ρ ρ H (upd H a (.lst ws)) := ⟨⟨List.prefix_refl _, fun b u i h => by
    have : b ≠ a := by
      intro z; subst z; rw [e] at h; cases h; exact i
    rw [upd_ne this]; exact h⟩, fun b u h n => by
    rw [upd_ne (fun z => n (by rw [z]; exact List.mem_of_getElem? ha))]; exact h, fun _ h => .inl h⟩
  refine ⟨ex, by rw [List.length_set]; exact R.len, R.nd, fun m b o h1 h2 => ?_⟩
  by_cases hm : m = n
  · subst hm
    rw [ha] at h1; cases h1
    rw [List.getElem?_set_self (List.getElem?_eq_some_iff.mp hS).1] at h2
    cases h2
    exact ⟨ws, upd_same, r.ext ex⟩
  · rw [List.getElem?_set_ne (Ne.symm hm)] at h2
    have nb : b ≠ a := fun z => by
      subst z
      obtain ⟨l1, e1⟩ := List.getElem?_eq_some_iff.mp ha
      obtain ⟨l2, e2⟩ := List.getElem?_eq_some_iff.mp h1
      exact hm ((List.getElem_inj R.nd).mp (e2.trans e1.symm))
    have := R.at m b o h1 h2
    cases o with
    | lst ys => obtain ⟨ws', e', q⟩ := this; exact ⟨ws', by rw [upd_ne nb]; exact e', q.ext ex⟩
    | dct _ => obtain ⟨ws', e', q⟩ := this; exact ⟨ws', by rw [upd_ne nb]; exact e', q.ext ex⟩
    | ins _ _ => obtain ⟨oo, uu, e'⟩ := this; exact ⟨oo, uu, by rw [upd_ne nb]; exact e'⟩
theorem Rel.lst {S : Sto} {n : Nat} {a : Addr} {xs : List A} (R : Rel K ρ H S) (ha : ρ[n]? = some a) (hS : S[n]? = some (.lst xs)) : ∃ vs, H a = some (.lst vs) /\ AVs K ρ H xs vs := R.at n a _ ha hS
structure SR (K : PySem.W.Frag) (ρ : List Addr) (H : Hp) (τ : List A) (σ : St) : Prop where
  len : τ.length = σ.length
  «at» : ∀ (i : Nat) (a : A), τ[i]? = some a -> a = .unb \/ ∃ v, σ[i]? = some (some v) /\ AV K ρ H a v
theorem SR.ext0 {τ : List A} {σ : St} (s : SR K ρ H τ σ) (e : Ext0 ρ ρ' H H') : SR K ρ' H' τ σ := ⟨s.len, fun i a h => by
  rcases s.at i a h with z | ⟨v, h1, h2⟩
  · exact .inl z
  · exact .inr ⟨v, h1, AV.ext0 e h2⟩⟩
theorem SR.ext {τ : List A} {σ : St} (s : SR K ρ H τ σ) (e : Ext ρ ρ' H H') : SR K ρ' H' τ σ := s.ext0 e.toExt0
theorem Rel.out {S : Sto} {D : Addr} {vs ws : List V} (R : Rel K ρ H S) (hD : H D = some (.lst vs)) (hn : D ∉ ρ) : Ext0 ρ ρ H (upd H D (.lst ws)) /\ Rel K ρ (upd H D (.lst ws)) S := by
  have ex : Ext0 ρ ρ H (upd H D (.lst ws)) := ⟨List.prefix_refl _, fun b u i h => by
    have : b ≠ D := by
      intro z; subst z; rw [hD] at h; cases h; exact i
    rw [upd_ne this]; exact h⟩
  refine ⟨ex, R.len, R.nd, fun n a o h1 h2 => ?_⟩
  have na : a ≠ D := fun z => hn (by rw [<- z]; exact List.mem_of_getElem? h1)
  have := R.at n a o h1 h2
  cases o with
  | lst ys => obtain ⟨ws', e, q⟩ := this; exact ⟨ws', by rw [upd_ne na]; exact e, AVs.ext0 ex q⟩
  | dct _ => obtain ⟨ws', e, q⟩ := this; exact ⟨ws', by rw [upd_ne na]; exact e, q.ext0 ex⟩
  | ins _ _ => obtain ⟨oo, uu, e⟩ := this; exact ⟨oo, uu, by rw [upd_ne na]; exact e⟩
theorem Rel.take {S : Sto} {D : Addr} {xs : List A} {vs : List V} (R : Rel K ρ H S) (hD : H D = some (.lst vs)) (hn : D ∉ ρ) (r : AVs K ρ H xs vs) : Rel K (ρ ++ [D]) H (S ++ [.lst xs]) /\ (ρ ++ [D])[S.length]? = some D := by
  have ex : Ext0 ρ (ρ ++ [D]) H H := ⟨List.prefix_append _ _, fun _ _ _ h => h⟩
  have last : (ρ ++ [D])[S.length]? = some D := by rw [<- R.len]; simp
  refine ⟨⟨by simp [R.len], ?_, fun n a o h1 h2 => ?_⟩, last⟩
  · rw [List.nodup_append]
    refine ⟨R.nd, by simp, fun a ha b hb e => ?_⟩
    have : b = D := by simpa using hb
    exact hn (by rw [<- this, <- e]; exact ha)
  · by_cases hs : n < S.length
    · rw [List.getElem?_append_left (by rw [R.len]; exact hs)] at h1
      rw [List.getElem?_append_left hs] at h2
      have := R.at n a o h1 h2
      cases o with
      | lst ys => obtain ⟨ws, e, q⟩ := this; exact ⟨ws, e, AVs.ext0 ex q⟩
      | dct _ => obtain ⟨ws, e, q⟩ := this; exact ⟨ws, e, q.ext0 ex⟩
      | ins _ _ => obtain ⟨oo, uu, e⟩ := this; exact ⟨oo, uu, e⟩
    · have e : n = S.length := by
        have := (List.getElem?_eq_some_iff.mp h2).1
        simp at this
        omega
      subst e
      rw [last] at h1
      cases h1
      simp at h2
      subst h2
      exact ⟨vs, hD, AVs.ext0 ex r⟩
theorem SR.set {τ : List A} {σ : St} {i : Nat} {a : A} {v : V} (s : SR K ρ H τ σ) (h : AV K ρ H a v) : SR K ρ H (τ.set i a) (σ.set i (some v)) := by
  refine ⟨by simp [s.len], fun j b e => ?_⟩
  by_cases hj : j = i
  · subst hj
    have hl : j < τ.length := by
      have := (List.getElem?_eq_some_iff.mp e).1
      simpa using this
    rw [List.getElem?_set_self hl] at e
    cases e
    exact .inr ⟨v, List.getElem?_set_self (by rw [<- s.len]; exact hl), h⟩
  · rw [List.getElem?_set_ne (Ne.symm hj)] at e
    rw [List.getElem?_set_ne (Ne.symm hj)]
    exact s.at j b e
end
end Am
set_option Elab.async false
set_option linter.all false
set_option maxRecDepth 100000
set_option maxHeartbeats 4000000
namespace Am
open PySem PySem.Spec PyProof.Rows L2
noncomputable def XE (X : Cx) (ρ : List Addr) (H : Hp) : Str -> Sto -> Prop := fun c S' => ∀ (C : Addr) (ρ' : List Addr) (H' : Hp), ClN X.K c C -> Ext ρ ρ' H H' -> Rel X.K ρ' H' S' -> EX X (.ref C) none H'
theorem XE.ext {X : Cx} {ρ ρ' : List Addr} {H H' : Hp} {c : Str} {S : Sto} (h : XE X ρ H c S) (e : Ext ρ ρ' H H') : XE X ρ' H' c S := fun C ρ2 H2 n e2 => h C ρ2 H2 n (e.trans e2)
noncomputable def okP (X : Cx) (ρ : List Addr) (H : Hp) (Q : VK) : A -> Sto -> Prop := fun a S' => ∀ ρ' H' v, Ext ρ ρ' H H' -> Rel X.K ρ' H' S' -> AV X.K ρ' H' a v -> Q v H'
noncomputable def okB (X : Cx) (ρ : List Addr) (H : Hp) (Q : Bool -> Hp -> Prop) : Bool -> Sto -> Prop := fun b S' => ∀ ρ' H', Ext ρ ρ' H H' -> Rel X.K ρ' H' S' -> Q b H'
noncomputable def okL (X : Cx) (ρ : List Addr) (H : Hp) (Q : List V -> Hp -> Prop) : List A -> Sto -> Prop := fun as S' => ∀ ρ' H' vs, Ext ρ ρ' H H' -> Rel X.K ρ' H' S' -> AVs X.K ρ' H' as vs -> Q vs H'
theorem okP.ext {X : Cx} {ρ ρ' : List Addr} {H H' : Hp} {Q : VK} {a : A} {S : Sto} (h : okP X ρ H Q a S) (e : Ext ρ ρ' H H') : okP X ρ' H' Q a S := fun ρ2 H2 v e2 => h ρ2 H2 v (e.trans e2)
theorem okB.ext {X : Cx} {ρ ρ' : List Addr} {H H' : Hp} {Q : Bool -> Hp -> Prop} {a : Bool} {S : Sto} (h : okB X ρ H Q a S) (e : Ext ρ ρ' H H') : okB X ρ' H' Q a S := fun ρ2 H2 e2 => h ρ2 H2 (e.trans e2)
theorem okL.ext {X : Cx} {ρ ρ' : List Addr} {H H' : Hp} {Q : List V -> Hp -> Prop} {a : List A} {S : Sto} (h : okL X ρ H Q a S) (e : Ext ρ ρ' H H') : okL X ρ' H' Q a S := fun ρ2 H2 v e2 => h ρ2 H2 v (e.trans e2)
theorem post_ext {α : Type} {X : Cx} {ρ ρ' : List Addr} {H H' : Hp} {r : R α} {P P' : α -> Sto -> Prop} (h : r.post P (XE X ρ H)) (e : Ext ρ ρ' H H') (hp : ∀ a S, P a S -> P' a S) : r.post P' (XE X ρ' H') := post_mono h hp fun _ _ z => z.ext e
noncomputable def tE (X : Cx) (c : Ex) : TE := fun σ H Q => ∃ ρ S τ, Rel X.K ρ H S /\ SR X.K ρ H τ σ /\ (c τ S).post (okP X ρ H Q) (XE X ρ H)
noncomputable def tT (X : Cx) (c : Te) : TT := fun σ H Q => ∃ ρ S τ, Rel X.K ρ H S /\ SR X.K ρ H τ σ /\ (c τ S).post (okB X ρ H Q) (XE X ρ H)
noncomputable def tL (X : Cx) (c : Exs) : TA := fun σ H Q => ∃ ρ S τ, Rel X.K ρ H S /\ SR X.K ρ H τ σ /\ (c τ S).post (okL X ρ H Q) (XE X ρ H)
noncomputable def AE (X : Cx) (e : Expr) (c : Ex) : Prop := PE X e (tE X c)
noncomputable def AT (X : Cx) (e : Expr) (c : Te) : Prop := PT X e (tT X c)
noncomputable def AW (X : Cx) (e : Expr) (c : Te) : Prop := PW X e (tT X c)
noncomputable def AL (X : Cx) (es : List Expr) (c : Exs) : Prop := PA X es (tL X c)
theorem PE.imp {X : Cx} {e : Expr} {t t' : TE} (h : PE X e t) (i : ∀ σ H Q, t' σ H Q -> t σ H Q) : PE X e t' := fun pins s σ H Q I q => h pins s σ H Q I (i σ H Q q)
theorem PT.imp {X : Cx} {e : Expr} {t t' : TT} (h : PT X e t) (i : ∀ σ H Q, t' σ H Q -> t σ H Q) : PT X e t' := fun pins s σ H Q I q => h pins s σ H Q I (i σ H Q q)
theorem PW.imp {X : Cx} {e : Expr} {t t' : TT} (h : PW X e t) (i : ∀ σ H Q, t' σ H Q -> t σ H Q) : PW X e t' := fun w pins s σ H Q I q => h w pins s σ H Q I (i σ H Q q)
theorem PA.imp {X : Cx} {e : List Expr} {t t' : TA} (h : PA X e t) (i : ∀ σ H Q, t' σ H Q -> t σ H Q) : PA X e t' := fun p pins s σ H Q I q => h p pins s σ H Q I (i σ H Q q)
theorem AW.at {X : Cx} {e : Expr} {c : Te} (h : AW X e c) : AT X e c := h _
noncomputable def A.isUnb : A -> Bool
  | .unb => true
  | _ => false
noncomputable def eVar (i : Nat) : Ex := fun τ S => if (τ.getD i .unb).isUnb then .no else .ok (τ.getD i .unb) S
noncomputable def eC (a : A) : Ex := fun _ S => .ok a S
section
variable {X : Cx} {pos : Pos} {a b : Expr}
theorem ae_var (i : Nat) {x : Str} (hN : X.N[i]? = some x := by rfl) (hv : Vis X.env.scope x := by first | exact Or.inl rfl | exact Or.inr (Or.inl rfl) | exact Or.inr (Or.inr rfl)) (hd : (x == ("__debug__" : Str)) = false := by decide)
    (hcd : (x == ("__classdict__" : Str)) = false := by decide) : AE X (.Name x pos) (eVar i) := PE.imp (pe_var hN hv hd hcd) fun σ H Q ⟨ρ, S, τ, R, r, h⟩ => by
  unfold eVar at h
  cases hi : τ[i]? with
  | none =>
    rw [List.getD_eq_getElem?_getD, hi] at h
    exact h.elim
  | some x =>
    rw [List.getD_eq_getElem?_getD, hi] at h
    rcases r.at i x hi with z | ⟨v, e, q⟩
    · subst z; exact h.elim
    · refine ⟨v, e, ?_⟩
      cases x <;> first | (exact h ρ H v .refl R q) | exact h.elim
theorem ae_int {i : Int} {j pos} : AE X (.Constant (.int i) j pos) (eC (.int i)) := PE.imp pe_int fun σ H Q ⟨ρ, S, τ, R, r, h⟩ => h ρ H _ .refl R (.int i)
theorem ae_bl {i : Bool} {j pos} : AE X (.Constant (.bool i) j pos) (eC (.bl i)) := PE.imp pe_bl fun σ H Q ⟨ρ, S, τ, R, r, h⟩ => h ρ H _ .refl R (.bl i)
noncomputable def eBin (f : A -> A -> Sto -> R A) (ca cb : Ex) : Ex := fun τ S => (ca τ S).bind fun a S1 => (cb τ S1).bind fun b S2 => f a b S2
noncomputable def r2 (X : Cx) (f : A -> A -> Sto -> R A) : R2 := fun x y H Q => ∃ ρ S a b, Rel X.K ρ H S /\ AV X.K ρ H a x /\ AV X.K ρ H b y /\ (f a b S).post (okP X ρ H Q) (XE X ρ H)
noncomputable def r1 (X : Cx) (f : A -> Sto -> R A) : V -> Hp -> VK -> Prop := fun x H Q => ∃ ρ S a, Rel X.K ρ H S /\ AV X.K ρ H a x /\ (f a S).post (okP X ρ H Q) (XE X ρ H)
noncomputable def rN (X : Cx) (f : List A -> Sto -> R A) : List V -> Hp -> VK -> Prop := fun xs H Q => ∃ ρ S as, Rel X.K ρ H S /\ AVs X.K ρ H as xs /\ (f as S).post (okP X ρ H Q) (XE X ρ H)
theorem OpR.imp {f : Value -> Value -> Sem Value} {r r' : R2} (h : OpR X f r) (i : ∀ x y H Q, r' x y H Q -> r x y H Q) : OpR X f r' := fun pins s σ H x y v u Q I rx ry q => h pins s σ H x y v u Q I rx ry (i _ _ _ _ q)
theorem CallR.imp {f : Value} {r r' : List V -> Hp -> VK -> Prop} (h : CallR X f r) (i : ∀ x H Q, r' x H Q -> r x H Q) : CallR X f r' := fun pins s σ H x v Q I rx q => h pins s σ H x v Q I rx (i _ _ _ q)
theorem bin_imp {f : A -> A -> Sto -> R A} {ca cb : Ex} {σ : L2.St} {H : Hp} {Q : VK} (h : tE X (eBin f ca cb) σ H Q) : tOp (r2 X f) (tE X ca) (tE X cb) σ H Q := by
  obtain ⟨ρ, S, τ, R, r, h⟩ := h
  refine ⟨ρ, S, τ, R, r, post_ext (post_bind h) .refl fun a S1 h1 ρ1 H1 x e1 R1 v1 => ⟨ρ1, S1, τ, R1, r.ext e1, post_ext (post_bind h1) e1 fun b S2 h2 ρ2 H2 y e2 R2 v2 => ?_⟩⟩
  exact ⟨ρ2, S2, a, b, R2, v1.ext e2, v2, post_ext h2 (e1.trans e2) fun c S3 h3 => h3.ext (e1.trans e2)⟩
theorem ae_bin {op : Operator} {f : A -> A -> Sto -> R A} {ca cb : Ex} (ho : OpR X (binaryOp op) (r2 X f)) (ha : AE X a ca) (hb : AE X b cb) : AE X (.BinOp a op b pos) (eBin f ca cb) :=
  PE.imp (pe_op ho ha hb) fun σ H Q h => bin_imp h
theorem ae_cmp {op : CmpOp} {f : A -> A -> Sto -> R A} {ca cb : Ex} (ho : OpR X (compareOp op) (r2 X f)) (ha : AE X a ca) (hb : AE X b cb) (hm : behindInMarks op b = false := by first | exact nomark _ | with_unfolding_all rfl) : AE X (.Compare a [op] [b] pos) (eBin f ca cb) :=
  PE.imp (pe_cmpR ho ha hb hm) fun σ H Q h => bin_imp h
noncomputable def A.tru : A -> Sto -> Option Bool
  | .non, _ => some false
  | .bl b, _ => some b
  | .int i, _ => some (i != 0)
  | .str x, _ => if x.length <= sizeLine then some ((x.length : Int) != 0) else none
  | .tup xs, _ => some (!xs.isEmpty)
  | .frz xs, _ => some (!xs.isEmpty)
  | .ref n, S => (lstAt S n).map fun xs => !xs.isEmpty
  | _, _ => none
noncomputable def eTru (c : Ex) : Te := fun τ S => (c τ S).bind fun a S1 => opt (a.tru S1) fun b => .ok b S1
noncomputable def toB (c : Ex) : Te := fun τ S => (c τ S).bind fun a S1 => match a with
  | .bl b => .ok b S1
  | _ => .no
theorem av_bl {K : PySem.W.Frag} {ρ : List Addr} {H : Hp} {b : Bool} {v : V} (h : AV K ρ H (.bl b) v) : v = .bl b := by cases h; rfl
theorem at_cmp {op : CmpOp} {f : A -> A -> Sto -> R A} {ca cb : Ex} (ho : OpR X (compareOp op) (r2 X f)) (ha : AE X a ca) (hb : AE X b cb) (hm : behindInMarks op b = false := by first | exact nomark _ | with_unfolding_all rfl) : AT X (.Compare a [op] [b] pos) (toB (eBin f ca cb)) :=
  PT.imp (pt_cmpR ho ha hb hm) fun σ H Q ⟨ρ, S, τ, R, r, h⟩ => by
    refine bin_imp ⟨ρ, S, τ, R, r, post_ext (post_bind h) .refl fun c S1 h1 ρ1 H1 x e1 R1 v1 => ?_⟩
    cases c with
    | bl k => cases av_bl v1; exact ⟨k, rfl, h1 ρ1 H1 e1 R1⟩
    | _ => exact h1.elim
theorem tru_of {K : PySem.W.Frag} {ρ : List Addr} {H : Hp} {S : Sto} {x : A} {v : V} {b : Bool} (R : Rel K ρ H S) (h : AV K ρ H x v) (e : x.tru S = some b) : TruV K v H b := by
  have emp : ∀ {xs : List A} {vs : List V}, AVs K ρ H xs vs -> (!xs.isEmpty) = !vs.isEmpty := fun r => by cases r <;> rfl
  cases h with
  | non => exact (Option.some.inj e).symm
  | bl b => exact (Option.some.inj e).symm
  | int i => exact (Option.some.inj e).symm
  | str x =>
    by_cases hx : x.length <= sizeLine
    · exact ⟨hx, by have := (if_pos hx).symm.trans e; exact (Option.some.inj this).symm⟩
    · have := (if_neg hx).symm.trans e; cases this
  | tup h r => exact .inr (.inl ⟨_, SqT.of h, by rw [<- emp r]; exact (Option.some.inj e).symm⟩)
  | frz h r => exact .inl ⟨_, h.sqL, by rw [<- emp r]; exact (Option.some.inj e).symm⟩
  | rng h => cases e
  | ty n => cases e
  | exn n h x => cases e
  | @ref a n h =>
    have e : (lstAt S n).map (fun xs => !xs.isEmpty) = some b := e
    obtain ⟨xs, hn, e⟩ := Option.map_eq_some_iff.mp e
    obtain ⟨vs, h1, h2⟩ := R.lst h (lstAt_of hn)
    exact .inl ⟨vs, SqL.of h1, by rw [<- emp h2]; exact e.symm⟩
theorem at_val {ca : Ex} (ha : AE X a ca) (he : ∀ whole, isTrue a X.env whole = (do let v <- whole; standAt a.pos; holding [v] (truthy v)) := by intro _; rfl) : AT X a (eTru ca) :=
  PT.imp (pt_truth ha he) fun σ H Q ⟨ρ, S, τ, R, r, h⟩ => ⟨ρ, S, τ, R, r, post_ext (post_bind h) .refl fun c S1 h1 ρ1 H1 x e1 R1 v1 => by
    obtain ⟨b, hb, h1⟩ := opt_post h1
    exact ⟨b, tru_of R1 v1 hb, h1 ρ1 H1 e1 R1⟩⟩
noncomputable def bNot (c : Te) : Te := fun τ S => (c τ S).bind fun b S1 => .ok (!b) S1
noncomputable def bAnd (c d : Te) : Te := fun τ S => (c τ S).bind fun b S1 => match b with | true => d τ S1 | false => .ok false S1
noncomputable def bOr (c d : Te) : Te := fun τ S => (c τ S).bind fun b S1 => match b with | true => .ok true S1 | false => d τ S1
theorem at_not {c : Te} (h : AT X a c) : AT X (.UnaryOp .Not a pos) (bNot c) := PT.imp (pt_not h) fun σ H Q ⟨ρ, S, τ, R, r, h⟩ => ⟨ρ, S, τ, R, r, post_ext (post_bind h) .refl fun b S1 h1 => h1⟩
theorem and_imp {c d : Te} {σ : L2.St} {H : Hp} {Q : Bool -> Hp -> Prop} (h : tT X (bAnd c d) σ H Q) : tAnd (tT X c) (tT X d) σ H Q := by
  obtain ⟨ρ, S, τ, R, r, h⟩ := h
  refine ⟨ρ, S, τ, R, r, post_ext (post_bind h) .refl fun b S1 h1 ρ1 H1 e1 R1 => ?_⟩
  cases b with
  | true =>
    rw [if_pos rfl]
    exact ⟨ρ1, S1, τ, R1, r.ext e1, post_ext h1 e1 fun _ _ z => z.ext e1⟩
  | false =>
    rw [if_neg Bool.false_ne_true]
    exact h1 ρ1 H1 e1 R1
theorem or_imp {c d : Te} {σ : L2.St} {H : Hp} {Q : Bool -> Hp -> Prop} (h : tT X (bOr c d) σ H Q) : tOr (tT X c) (tT X d) σ H Q := by
  obtain ⟨ρ, S, τ, R, r, h⟩ := h
  refine ⟨ρ, S, τ, R, r, post_ext (post_bind h) .refl fun b S1 h1 ρ1 H1 e1 R1 => ?_⟩
  cases b with
  | false =>
    rw [if_neg Bool.false_ne_true]
    exact ⟨ρ1, S1, τ, R1, r.ext e1, post_ext h1 e1 fun _ _ z => z.ext e1⟩
  | true =>
    rw [if_pos rfl]
    exact h1 ρ1 H1 e1 R1
variable {rest : List Expr}
theorem aw_and1 {c : Te} (h : AT X a c) : AW X (.BoolOp .And [a] pos) c := pw_and1 h
theorem aw_or1 {c : Te} (h : AT X a c) : AW X (.BoolOp .Or [a] pos) c := pw_or1 h
theorem aw_and {c d : Te} (h : AT X a c) (h2 : AW X (.BoolOp .And (b :: rest) pos) d) : AW X (.BoolOp .And (a :: b :: rest) pos) (bAnd c d) := PW.imp (pw_and h h2) fun _ _ _ q => and_imp q
theorem aw_or {c d : Te} (h : AT X a c) (h2 : AW X (.BoolOp .Or (b :: rest) pos) d) : AW X (.BoolOp .Or (a :: b :: rest) pos) (bOr c d) := PW.imp (pw_or h h2) fun _ _ _ q => or_imp q
noncomputable def eAnd (c d : Ex) : Ex := fun τ S => (c τ S).bind fun a S1 => match a with | .bl true => d τ S1 | .bl false => .ok (.bl false) S1 | _ => .no
noncomputable def eOr (c d : Ex) : Ex := fun τ S => (c τ S).bind fun a S1 => match a with | .bl true => .ok (.bl true) S1 | .bl false => d τ S1 | _ => .no
noncomputable def eNot (c : Ex) : Ex := fun τ S => (c τ S).bind fun a S1 => match a with | .bl b => .ok (.bl !b) S1 | _ => .no
theorem ae_one {op} {c : Ex} (h : AE X a c) : AE X (.BoolOp op [a] pos) c := pe_one h
theorem ae_and {c d : Ex} (h : AE X a c) (h2 : AE X (.BoolOp .And (b :: rest) pos) d) : AE X (.BoolOp .And (a :: b :: rest) pos) (eAnd c d) := PE.imp (pe_and h h2) fun σ H Q ⟨ρ, S, τ, R, r, h⟩ => by
  refine ⟨ρ, S, τ, R, r, post_ext (post_bind h) .refl fun b S1 h1 ρ1 H1 x e1 R1 v1 => ?_⟩
  cases b with
  | bl k =>
    cases av_bl v1
    refine ⟨k, rfl, ?_⟩
    cases k with
    | true =>
      rw [if_pos rfl]
      exact ⟨ρ1, S1, τ, R1, r.ext e1, post_ext h1 e1 fun _ _ z => z.ext e1⟩
    | false =>
      rw [if_neg Bool.false_ne_true]
      exact h1 ρ1 H1 _ e1 R1 (.bl false)
  | _ => exact h1.elim
theorem ae_not {c : Ex} (h : AE X a c) : AE X (.UnaryOp .Not a pos) (eNot c) := PE.imp (pe_not h) fun σ H Q ⟨ρ, S, τ, R, r, h⟩ => by
  refine ⟨ρ, S, τ, R, r, post_ext (post_bind h) .refl fun b S1 h1 ρ1 H1 x e1 R1 v1 => ?_⟩
  cases b with
  | bl k =>
    cases av_bl v1
    exact ⟨k, rfl, h1 ρ1 H1 _ e1 R1 (.bl _)⟩
  | _ => exact h1.elim
noncomputable def eIf (t : Te) (c d : Ex) : Ex := fun τ S => (t τ S).bind fun b S1 => match b with | true => c τ S1 | false => d τ S1
noncomputable def lNil : Exs := fun _ S => .ok [] S
noncomputable def lCons (c : Ex) (d : Exs) : Exs := fun τ S => (c τ S).bind fun a S1 => (d τ S1).bind fun as S2 => .ok (a :: as) S2
theorem al_nil : AL X [] lNil := PA.imp pa_nil fun σ H Q ⟨ρ, S, τ, R, r, h⟩ => h ρ H _ .refl R .nil
theorem al_cons {e : Expr} {es : List Expr} {c : Ex} {d : Exs} (ha : AE X e c) (hr : AL X es d) (hs : starEach (e :: es) X.env = (false, eval e X.env) :: starEach es X.env := by rfl) : AL X (e :: es) (lCons c d) :=
  PA.imp (pa_cons ha hr hs) fun σ H Q ⟨ρ, S, τ, R, r, h⟩ => by
    refine ⟨ρ, S, τ, R, r, post_ext (post_bind h) .refl fun a S1 h1 ρ1 H1 x e1 R1 v1 => ⟨ρ1, S1, τ, R1, r.ext e1, post_ext (post_bind h1) e1 fun as S2 h2 ρ2 H2 xs e2 R2 v2 => ?_⟩⟩
    exact h2 ρ2 H2 _ (e1.trans e2) R2 (.cons (v1.ext e2) v2)
noncomputable def eTup (d : Exs) : Ex := fun τ S => (d τ S).bind fun as S1 => gd (as.length <= sizeLine) (.ok (.tup as) S1)
noncomputable def newL (as : List A) (S : Sto) : R A := gd (as.length <= sizeLine) (.ok (.ref S.length) (S ++ [.lst as]))
noncomputable def eLst (d : Exs) : Ex := fun τ S => (d τ S).bind fun as S1 => newL as S1
theorem new_tup {ρ ρ0 : List Addr} {H H0 : Hp} {S : Sto} {as : List A} {vs : List V} {Q : VK} (R : Rel X.K ρ H S) (r : AVs X.K ρ H as vs) (e : Ext ρ0 ρ H0 H) (h : okP X ρ0 H0 Q (.tup as) S) : ∀ p, H p = none -> Q (.ref p) (upd H p (.tup vs)) := fun p hp => by
  obtain ⟨ex, R'⟩ := R.im (u := .tup vs) hp
  exact h ρ _ _ (e.trans ex) R' (.tup upd_same (r.ext ex))
theorem new_lst {ρ ρ0 : List Addr} {H H0 : Hp} {S : Sto} {as : List A} {vs : List V} {Q : VK} (R : Rel X.K ρ H S) (r : AVs X.K ρ H as vs) (e : Ext ρ0 ρ H0 H) (h : okP X ρ0 H0 Q (.ref S.length) (S ++ [.lst as])) : ∀ p, H p = none -> Q (.ref p) (upd H p (.lst vs)) := fun p hp => by
  obtain ⟨ex, R', g⟩ := R.lay hp r
  exact h _ _ _ (e.trans ex) R' (.ref g)
theorem newL_of {ρ ρ0 : List Addr} {H H0 : Hp} {S : Sto} {as : List A} {vs : List V} {Q : VK} (R : Rel X.K ρ H S) (r : AVs X.K ρ H as vs) (e : Ext ρ0 ρ H0 H) (h : (newL as S).post (okP X ρ0 H0 Q) (XE X ρ0 H0)) : vs.length <= sizeLine /\ ∀ p, H p = none -> Q (.ref p) (upd H p (.lst vs)) := by
  obtain ⟨hl, h⟩ := gd_post h
  exact ⟨by rw [<- r.length]; exact hl, new_lst R r e h⟩
theorem ae_tup {es : List Expr} {d : Exs} {x1} (h : AL X es d) : AE X (.Tuple es x1 pos) (eTup d) := PE.imp (pe_tup h) fun σ H Q ⟨ρ, S, τ, R, r, h⟩ => by
  refine ⟨ρ, S, τ, R, r, post_ext (post_bind h) .refl fun as S1 h1 ρ1 H1 xs e1 R1 v1 => ?_⟩
  obtain ⟨hl, h1⟩ := gd_post h1
  exact ⟨by rw [<- v1.length]; exact hl, new_tup R1 v1 e1 h1⟩
theorem ae_lst {es : List Expr} {d : Exs} (h : AL X es d) : AE X (.List es pos) (eLst d) := PE.imp (pe_lst h) fun σ H Q ⟨ρ, S, τ, R, r, h⟩ =>
  ⟨ρ, S, τ, R, r, post_ext (post_bind h) .refl fun as S1 h1 ρ1 H1 xs e1 R1 v1 => newL_of R1 v1 e1 h1⟩
end
end Am
set_option Elab.async false
set_option linter.all false
set_option maxRecDepth 100000
set_option maxHeartbeats 4000000
namespace Am
open PySem PySem.Spec PyProof.Rows L2
section
variable {X : Cx} {pos : Pos} {a b : Expr}
noncomputable def aSub (a b : A) (S : Sto) : R A := match a, b with
  | .int i, .int j => .ok (.int (i - j)) S
  | _, _ => .no
theorem o_sub : OpR X (binaryOp .Sub) (r2 X aSub) := OpR.imp op_sub fun x y H Q ⟨ρ, S, a, b, R, va, vb, h⟩ => by
  cases va <;> first | exact h.elim | (cases vb <;> first | exact h.elim | exact ⟨_, _, rfl, rfl, h _ _ _ .refl R (.int _)⟩)
noncomputable def mulOk (i j : Int) : Bool := (decide (-(2 ^ 64) < i) && decide (i < 2 ^ 64)) || (decide (-(2 ^ 64) < j) && decide (j < 2 ^ 64))
theorem mulOk_of {i j : Int} (h : mulOk i j = true) : CMul i j := by
  unfold mulOk at h
  simp only [Bool.or_eq_true, Bool.and_eq_true, decide_eq_true_eq] at h
  exact h
noncomputable def aMul (a b : A) (S : Sto) : R A := match a, b with
  | .int i, .int j => gd (mulOk i j) (.ok (.int (i * j)) S)
  | .ref n, .int k => opt (lstAt S n) fun xs => gd (-(2 ^ 63) <= k /\ k < 2 ^ 63 /\ xs.length * k.toNat <= sizeLine) (.ok (.ref S.length) (S ++ [.lst (List.replicate k.toNat xs).flatten]))
  | _, _ => .no
theorem AVs.rep {K : PySem.W.Frag} {ρ : List Addr} {H : Hp} {xs : List A} {vs : List V} (r : AVs K ρ H xs vs) : ∀ k : Nat, AVs K ρ H (List.replicate k xs).flatten (List.replicate k vs).flatten
  | 0 => .nil
  | k + 1 => by rw [List.replicate_succ, List.replicate_succ, List.flatten_cons, List.flatten_cons]; exact r.append (AVs.rep r k)
theorem o_mul : OpR X (binaryOp .Mult) (r2 X aMul) := fun pins s σ H x y v u Q I rx ry ⟨ρ, S, a, b, R, va, vb, h⟩ => by
  cases va with
  | int i =>
    cases vb with
    | int j =>
      obtain ⟨hm, h⟩ := gd_post h
      exact op_mul pins s σ H _ _ v u Q I rx ry ⟨i, j, rfl, rfl, mulOk_of hm, h _ _ _ .refl R (.int _)⟩
    | _ => exact h.elim
  | @ref p n hp =>
    cases vb with
    | int k =>
      obtain ⟨xs, hn, h⟩ := opt_post h
      obtain ⟨hc, h⟩ := gd_post h
      obtain ⟨vs, h1, h2⟩ := R.lst hp (lstAt_of hn)
      exact op_rep pins s σ H _ _ v u Q I rx ry ⟨p, k, vs, rfl, rfl, h1, hc.1, hc.2.1, by rw [<- h2.length]; exact hc.2.2, new_lst R (h2.rep _) .refl h⟩
    | _ => exact h.elim
  | _ => exact h.elim
noncomputable def aFdiv (a b : A) (S : Sto) : R A := match a, b with
  | .int i, .int j => gd (0 < j /\ j < 18446744073709551616) (.ok (.int (i / j)) S)
  | _, _ => .no
theorem o_fdiv : OpR X (binaryOp .FloorDiv) (r2 X aFdiv) := OpR.imp op_fdivW fun x y H Q ⟨ρ, S, a, b, R, va, vb, h⟩ => by
  cases va <;> first | exact h.elim | (cases vb <;> first | exact h.elim | exact ⟨_, _, rfl, rfl, (gd_post h).1, (gd_post h).2 _ _ _ .refl R (.int _)⟩)
noncomputable def aMod (a b : A) (S : Sto) : R A := match a, b with
  | .int i, .int j => gd (0 < j) (.ok (.int (i % j)) S)
  | _, _ => .no
theorem o_mod : OpR X (binaryOp .Mod) (r2 X aMod) := OpR.imp op_mod fun x y H Q ⟨ρ, S, a, b, R, va, vb, h⟩ => by
  cases va <;> first | exact h.elim | (cases vb <;> first | exact h.elim | exact ⟨_, _, rfl, rfl, (gd_post h).1, (gd_post h).2 _ _ _ .refl R (.int _)⟩)
noncomputable def aPow (a b : A) (S : Sto) : R A := match a, b with
  | .int i, .int j => gd (0 <= j /\ j <= 1000000 /\ i.natAbs < 2 ^ 64) (.ok (.int (i ^ j.toNat)) S)
  | _, _ => .no
theorem o_pow : OpR X (binaryOp .Pow) (r2 X aPow) := OpR.imp op_pow fun x y H Q ⟨ρ, S, a, b, R, va, vb, h⟩ => by
  cases va <;> first | exact h.elim | (cases vb <;> first | exact h.elim | exact ⟨_, _, rfl, rfl, (gd_post h).1, (gd_post h).2 _ _ _ .refl R (.int _)⟩)
noncomputable def aAdd (a b : A) (S : Sto) : R A := match a, b with
  | .int i, .int j => .ok (.int (i + j)) S
  | .tup xs, .tup ys => gd (xs.length + ys.length <= sizeLine) (.ok (.tup (xs ++ ys)) S)
  | .str x, .str y => gd (x.length + y.length <= sizeLine) (.ok (.str (x ++ y)) S)
  | .ref n, .ref m => opt (lstAt S n) fun xs => opt (lstAt S m) fun ys => gd (xs.length + ys.length <= sizeLine) (.ok (.ref S.length) (S ++ [.lst (xs ++ ys)]))
  | _, _ => .no
theorem AVs.nil_inv {K : PySem.W.Frag} {ρ : List Addr} {H : Hp} {xs : List A} {vs : List V} (r : AVs K ρ H xs vs) : xs = [] ↔ vs = [] := by cases r <;> simp
theorem o_add : OpR X (binaryOp .Add) (r2 X aAdd) := fun pins s σ H x y v u Q I rx ry ⟨ρ, S, a, b, R, va, vb, h⟩ => by
  cases va with
  | int i =>
    cases vb with
    | int j => exact op_add pins s σ H _ _ v u Q I rx ry ⟨i, j, rfl, rfl, h _ _ _ .refl R (.int _)⟩
    | _ => exact h.elim
  | str x =>
    cases vb with
    | str y =>
      obtain ⟨hc, h⟩ := gd_post h
      exact op_add_str pins s σ H _ _ v u Q I rx ry ⟨x, y, rfl, rfl, hc, h _ _ _ .refl R (.str _)⟩
    | _ => exact h.elim
  | @tup p xs vs h1 r1 =>
    cases vb with
    | @tup q ys ws h2 r2 =>
      obtain ⟨hc, h⟩ := gd_post h
      by_cases hv : vs = []
      · have hx := r1.nil_inv.mpr hv
        subst hv hx
        exact op_catT0 pins s σ H _ _ v u Q I rx ry ⟨p, q, ws, rfl, rfl, SqT.of h1, SqT.of h2, h _ _ _ .refl R (.tup h2 r2)⟩
      · refine op_catT pins s σ H _ _ v u Q I rx ry ⟨p, q, vs, ws, rfl, rfl, SqT.of h1, SqT.of h2, hv, by rw [<- r1.length, <- r2.length]; exact hc, fun e => ?_, fun _ => new_tup R (r1.append r2) .refl h⟩
        have hy := r2.nil_inv.mpr e
        subst hy
        rw [List.append_nil] at h
        exact h _ _ _ .refl R (.tup h1 r1)
    | _ => exact h.elim
  | @ref p n hp =>
    cases vb with
    | @ref q m hq =>
      obtain ⟨xs, hn, h⟩ := opt_post h
      obtain ⟨ys, hm, h⟩ := opt_post h
      obtain ⟨hc, h⟩ := gd_post h
      obtain ⟨vs, h1, h2⟩ := R.lst hp (lstAt_of hn)
      obtain ⟨ws, h3, h4⟩ := R.lst hq (lstAt_of hm)
      exact op_cat pins s σ H _ _ v u Q I rx ry ⟨p, q, vs, ws, rfl, rfl, h1, h3, by rw [<- h2.length, <- h4.length]; exact hc, new_lst R (h2.append h4) .refl h⟩
    | _ => exact h.elim
  | _ => exact h.elim
noncomputable def A.ints : List A -> Option (List Int)
  | [] => some []
  | .int i :: xs => (A.ints xs).map (i :: ·)
  | _ => none
theorem ints_of {K : PySem.W.Frag} {ρ : List Addr} {H : Hp} : ∀ {xs : List A} {vs : List V} {bs : List Int}, AVs K ρ H xs vs -> A.ints xs = some bs -> vs = bs.map V.int
  | _, _, _, .nil, e => by cases e; rfl
  | _, _, _, .cons (x := .int b) h t, e => by
    obtain ⟨cs, e1, rfl⟩ := Option.map_eq_some_iff.mp e
    cases h
    rw [ints_of t e1]; rfl
  | _, _, _, .cons (x := .unb) h t, e => nomatch e
  | _, _, _, .cons (x := .non) h t, e => nomatch e
  | _, _, _, .cons (x := .bl _) h t, e => nomatch e
  | _, _, _, .cons (x := .str _) h t, e => nomatch e
  | _, _, _, .cons (x := .tup _) h t, e => nomatch e
  | _, _, _, .cons (x := .frz _) h t, e => nomatch e
  | _, _, _, .cons (x := .rng _ _) h t, e => nomatch e
  | _, _, _, .cons (x := .ref _) h t, e => nomatch e
  | _, _, _, .cons (x := .exn _) h t, e => nomatch e
  | _, _, _, .cons (x := .ty _) h t, e => nomatch e
noncomputable def aLt (a b : A) (S : Sto) : R A := match a, b with
  | .int i, .int j => .ok (.bl (decide (i < j))) S
  | .tup xs, .tup ys => opt (A.ints xs) fun ns => opt (A.ints ys) fun ms => .ok (.bl (HT.lexLt ns ms)) S
  | _, _ => .no
theorem o_lt (hu : X.A.units + 64 < cLine) : OpR X (compareOp .Lt) (r2 X aLt) := fun pins s σ H x y v u Q I rx ry ⟨ρ, S, a, b, R, va, vb, h⟩ => by
  cases va with
  | int i =>
    cases vb with
    | int j => exact op_lt pins s σ H _ _ v u Q I rx ry ⟨i, j, rfl, rfl, h _ _ _ .refl R (.bl _)⟩
    | _ => exact h.elim
  | tup hx rx' =>
    cases vb with
    | tup hy ry' =>
      obtain ⟨ns, e1, h⟩ := opt_post h
      obtain ⟨ms, e2, h⟩ := opt_post h
      have z1 := ints_of rx' e1
      have z2 := ints_of ry' e2
      subst z1 z2
      exact op_ltT (by omega) pins s σ H _ _ v u Q I rx ry ⟨_, _, ns, ms, rfl, rfl, SqT.of hx, SqT.of hy, h _ _ _ .refl R (.bl _)⟩
    | _ => exact h.elim
  | _ => exact h.elim
noncomputable def aLe (a b : A) (S : Sto) : R A := match a, b with
  | .int i, .int j => .ok (.bl (decide (i <= j))) S
  | _, _ => .no
theorem o_le : OpR X (compareOp .LtE) (r2 X aLe) := OpR.imp op_le fun x y H Q ⟨ρ, S, a, b, R, va, vb, h⟩ => by
  cases va <;> first | exact h.elim | (cases vb <;> first | exact h.elim | exact ⟨_, _, rfl, rfl, h _ _ _ .refl R (.bl _)⟩)
noncomputable def aGt (a b : A) (S : Sto) : R A := match a, b with
  | .int i, .int j => .ok (.bl (decide (j < i))) S
  | .ref n, .ref m => opt (lstAt S n) fun xs => opt (lstAt S m) fun ys => opt (A.ints xs) fun ns => opt (A.ints ys) fun ms => .ok (.bl (HT.lexLt ms ns)) S
  | _, _ => .no
theorem o_gt (hu : X.A.units + 64 < cLine) : OpR X (compareOp .Gt) (r2 X aGt) := fun pins s σ H x y v u Q I rx ry ⟨ρ, S, a, b, R, va, vb, h⟩ => by
  cases va with
  | int i =>
    cases vb with
    | int j => exact op_gt pins s σ H _ _ v u Q I rx ry ⟨i, j, rfl, rfl, h _ _ _ .refl R (.bl _)⟩
    | _ => exact h.elim
  | @ref p n hp =>
    cases vb with
    | @ref q m hq =>
      obtain ⟨xs, hn, h⟩ := opt_post h
      obtain ⟨ys, hm, h⟩ := opt_post h
      obtain ⟨ns, e1, h⟩ := opt_post h
      obtain ⟨ms, e2, h⟩ := opt_post h
      obtain ⟨vs, h1, h2⟩ := R.lst hp (lstAt_of hn)
      obtain ⟨ws, h3, h4⟩ := R.lst hq (lstAt_of hm)
      have z1 := ints_of h2 e1
      have z2 := ints_of h4 e2
      subst z1 z2
      exact op_gtL (by omega) pins s σ H _ _ v u Q I rx ry ⟨p, q, ns, ms, rfl, rfl, SqL.of h1, SqL.of h3, h _ _ _ .refl R (.bl _)⟩
    | _ => exact h.elim
  | _ => exact h.elim
noncomputable def aGe (a b : A) (S : Sto) : R A := match a, b with
  | .int i, .int j => .ok (.bl (decide (j <= i))) S
  | _, _ => .no
theorem o_ge : OpR X (compareOp .GtE) (r2 X aGe) := OpR.imp op_ge fun x y H Q ⟨ρ, S, a, b, R, va, vb, h⟩ => by
  cases va <;> first | exact h.elim | (cases vb <;> first | exact h.elim | exact ⟨_, _, rfl, rfl, h _ _ _ .refl R (.bl _)⟩)
noncomputable def aIs (neg : Bool) (a b : A) (S : Sto) : R A := match a, b with
  | .bl i, .bl j => .ok (.bl (if neg then i != j else i == j)) S
  | .non, .non => .ok (.bl (!neg)) S
  | .unb, .non => .no
  | .exn _, .non => .no
  | _, .non => .ok (.bl neg) S
  | _, _ => .no
noncomputable def eUn (f : A -> Sto -> R A) (c : Ex) : Ex := fun τ S => (c τ S).bind fun a S1 => f a S1
noncomputable def aNeg (a : A) (S : Sto) : R A := match a with
  | .int i => .ok (.int (-i)) S
  | _ => .no
noncomputable def aIx (a b : A) (S : Sto) : R A := match a, b with
  | .tup xs, .int i => opt (atI xs i) fun x => .ok x S
  | .frz xs, .int i => opt (atI xs i) fun x => .ok x S
  | .ref n, .int i => opt (lstAt S n) fun xs => opt (atI xs i) fun x => .ok x S
  | .str z, .int i => gd (z.length <= sizeLine) (opt (atI z.cps.toList i) fun c => .ok (.str ⟨#[c]⟩) S)
  | _, _ => .no
theorem AVs.atI {K : PySem.W.Frag} {ρ : List Addr} {H : Hp} {xs : List A} {vs : List V} {i : Int} {x : A} (r : AVs K ρ H xs vs) (h : L2.atI xs i = some x) : ∃ v, L2.atI vs i = some v /\ AV K ρ H x v := by
  unfold L2.atI at h ⊢
  rw [<- r.length]
  cases hj : ixN xs.length i with
  | none => rw [hj] at h; cases h
  | some j =>
    rw [hj] at h
    exact r.get h
theorem i_any : IxR X (r2 X aIx) := fun value slice pins s σ H x y v u Q I rx ry ⟨ρ, S, a, b, R, va, vb, h⟩ hs => by
  cases va with
  | @tup p xs vs h1 r1 =>
    cases vb with
    | int i =>
      obtain ⟨x, hx, h⟩ := opt_post h
      obtain ⟨z, e, q⟩ := r1.atI hx
      exact ix_tup value slice pins s σ H _ _ v u Q I rx ry ⟨p, vs, i, z, rfl, rfl, SqT.of h1, e, h _ _ _ .refl R q⟩ hs
    | _ => exact h.elim
  | @frz p xs vs h1 r1 =>
    cases vb with
    | int i =>
      obtain ⟨x, hx, h⟩ := opt_post h
      obtain ⟨z, e, q⟩ := r1.atI hx
      exact ix_list value slice pins s σ H _ _ v u Q I rx ry ⟨p, vs, i, z, rfl, rfl, h1.sqL, e, h _ _ _ .refl R q⟩ hs
    | _ => exact h.elim
  | @ref p n hp =>
    cases vb with
    | int i =>
      obtain ⟨xs, hn, h⟩ := opt_post h
      obtain ⟨x, hx, h⟩ := opt_post h
      obtain ⟨vs, h1, r1⟩ := R.lst hp (lstAt_of hn)
      obtain ⟨z, e, q⟩ := r1.atI hx
      exact ix_list value slice pins s σ H _ _ v u Q I rx ry ⟨p, vs, i, z, rfl, rfl, SqL.of h1, e, h _ _ _ .refl R q⟩ hs
    | _ => exact h.elim
  | str z =>
    cases vb with
    | int i =>
      obtain ⟨hz, h⟩ := gd_post h
      obtain ⟨c, hc, h⟩ := opt_post h
      exact ix_str value slice pins s σ H _ _ v u Q I rx ry ⟨z, i, c, rfl, rfl, hz, hc, h _ _ _ .refl R (.str _)⟩ hs
    | _ => exact h.elim
  | _ => exact h.elim
theorem ae_ix {ca cb : Ex} (ha : AE X a ca) (hb : AE X b cb) (hs : PlainIx b := by exact fun _ _ => rfl) : AE X (.Subscript a b pos) (eBin aIx ca cb) := PE.imp (pe_ix i_any ha hb hs) fun σ H Q h => bin_imp h
end
end Am
set_option Elab.async false
set_option linter.all false
set_option maxRecDepth 100000
set_option maxHeartbeats 4000000
namespace Am
open PySem PySem.Spec PyProof.Rows L2
noncomputable def eqLs (f : A -> A -> Option Bool) : List A -> List A -> Option Bool
  | [], [] => some true
  | x :: xs, y :: ys => (f x y).bind fun p => (eqLs f xs ys).map fun q => p && q
  | _, _ => some false
noncomputable def eqA (S : Sto) : Nat -> A -> A -> Option Bool
  | 0, _, _ => none
  | n + 1, a, b => match a, b with
    | .non, .non => some true
    | .bl x, .bl y => some (x == y)
    | .bl x, .int y => some ((if x then 1 else 0) == y)
    | .int x, .bl y => some (x == (if y then 1 else 0))
    | .int x, .int y => some (x == y)
    | .str x, .str y => some (x == y)
    | .non, .bl _ => some false
    | .non, .int _ => some false
    | .non, .str _ => some false
    | .bl _, .non => some false
    | .bl _, .str _ => some false
    | .int _, .non => some false
    | .int _, .str _ => some false
    | .str _, .non => some false
    | .str _, .bl _ => some false
    | .str _, .int _ => some false
    | .tup xs, .tup ys => eqLs (eqA S n) xs ys
    | .ref i, .ref j => (lstAt S i).bind fun xs => (lstAt S j).bind fun ys => eqLs (eqA S n) xs ys
    | .ref i, .tup _ => (lstAt S i).map fun _ => false
    | .tup _, .ref j => (lstAt S j).map fun _ => false
    | .ref i, .non => (lstAt S i).map fun _ => false
    | .ref i, .int _ => (lstAt S i).map fun _ => false
    | .ref i, .bl _ => (lstAt S i).map fun _ => false
    | .ref i, .str _ => (lstAt S i).map fun _ => false
    | .non, .ref i => (lstAt S i).map fun _ => false
    | .int _, .ref i => (lstAt S i).map fun _ => false
    | .bl _, .ref i => (lstAt S i).map fun _ => false
    | .str _, .ref i => (lstAt S i).map fun _ => false
    | .tup _, .non => some false
    | .tup _, .int _ => some false
    | .tup _, .bl _ => some false
    | .tup _, .str _ => some false
    | .non, .tup _ => some false
    | .int _, .tup _ => some false
    | .bl _, .tup _ => some false
    | .str _, .tup _ => some false
    | _, _ => none
section
variable {X : Cx} {pins : List (Addr × Obj)} {σ : L2.St} {H : Hp} {s : Shared} {ρ : List Addr} {S : Sto}
theorem tup_lst {a : Addr} {vs ws : List V} (I : Inv X pins σ H s) (h : SqT X.K H a vs) (h' : H a = some (.lst ws)) : False := by
  rcases h with (h | ⟨o, h⟩) | ⟨o, its, n, hk, _⟩
  · rw [h] at h'; cases h'
  · rw [h] at h'; cases h'
  · rw [(I.bs a o (I.mod.kin a o hk)).2] at h'; cases h'
theorem eqs_same {f : A -> A -> Option Bool} (hf : ∀ a b x k, AV X.K ρ H a x -> AV X.K ρ H b x -> f a b = some k -> k = true) : ∀ {xs ys : List A} {vs : List V} {k : Bool}, AVs X.K ρ H xs vs -> AVs X.K ρ H ys vs -> eqLs f xs ys = some k -> k = true
  | _, _, _, _, .nil, .nil, h => (Option.some.inj h).symm
  | _, _, _, _, .cons (x := x) h t, .cons (x := y) h' t', e => by
    unfold eqLs at e
    cases e1 : f x y with
    | none => rw [e1] at e; cases e
    | some p =>
      rw [e1] at e
      obtain ⟨q, e2, e3⟩ := Option.map_eq_some_iff.mp e
      rw [<- e3, hf _ _ _ p h h' e1, eqs_same hf t t' e2]; rfl
theorem eq_same (I : Inv X pins σ H s) (R : Rel X.K ρ H S) : ∀ (n : Nat) (a b : A) (x : V) (k : Bool), AV X.K ρ H a x -> AV X.K ρ H b x -> eqA S n a b = some k -> k = true
  | 0, _, _, _, _, _, _, e => nomatch e
  | n + 1, a, b, x, k, ha, hb, e => by
    cases ha with
    | non => cases hb; exact (Option.some.inj e).symm
    | bl i => cases hb; exact (Option.some.inj e).symm.trans (beq_self_eq_true i)
    | int i => cases hb; exact (Option.some.inj e).symm.trans (beq_self_eq_true i)
    | str i => cases hb; exact (Option.some.inj e).symm.trans (beq_self_eq_true i)
    | ty i => cases hb; cases e
    | @tup p xs vs h1 r1 =>
      cases hb with
      | @tup _ ys ws h2 r2 =>
        have := I.tuple_inj (SqT.of h1) (SqT.of h2)
        subst this
        exact eqs_same (eq_same I R n) r1 r2 e
      | frz _ _ => cases e
      | rng _ => cases e
      | exn _ _ _ => cases e
      | @ref _ m h2 =>
        obtain ⟨ys, e1, _⟩ := Option.map_eq_some_iff.mp e
        obtain ⟨vs', h3, _⟩ := R.lst h2 (lstAt_of e1)
        exact (tup_lst I (SqT.of h1) h3).elim
    | frz h1 r1 => cases hb <;> cases e
    | rng h1 => cases hb <;> cases e
    | exn n1 h1 x1 => cases hb <;> cases e
    | @ref p i h1 =>
      cases hb with
      | @tup _ ys ws h2 r2 =>
        obtain ⟨ys, e1, _⟩ := Option.map_eq_some_iff.mp e
        obtain ⟨vs', h3, _⟩ := R.lst h1 (lstAt_of e1)
        exact (tup_lst I (SqT.of h2) h3).elim
      | frz _ _ => cases e
      | rng _ => cases e
      | exn _ _ _ => cases e
      | @ref _ m h2 =>
        obtain ⟨xs, e1, e⟩ := Option.bind_eq_some_iff.mp e
        obtain ⟨ys, e2, e⟩ := Option.bind_eq_some_iff.mp e
        obtain ⟨vs, h3, r1⟩ := R.lst h1 (lstAt_of e1)
        obtain ⟨ws, h4, r2⟩ := R.lst h2 (lstAt_of e2)
        rw [h3] at h4
        cases h4
        exact eqs_same (eq_same I R n) r1 r2 e
noncomputable def eAt2 (f : A -> A -> Option Bool) (xs ys : List A) (j : Nat) : Bool := match xs[j]?, ys[j]? with
  | some x, some y => (f x y).getD true
  | _, _ => true
theorem eqLs_at {f : A -> A -> Option Bool} : ∀ {xs ys : List A} {k : Bool}, eqLs f xs ys = some k -> k = ((List.range (min xs.length ys.length)).all (eAt2 f xs ys) && xs.length == ys.length) /\ ∀ j x y, xs[j]? = some x -> ys[j]? = some y -> f x y = some (eAt2 f xs ys j)
  | [], [], k, e => ⟨(Option.some.inj e).symm, fun j x y h => by simp at h⟩
  | [], _ :: _, k, e => ⟨(Option.some.inj e).symm, fun j x y h => by simp at h⟩
  | _ :: _, [], k, e => ⟨(Option.some.inj e).symm, fun j x y _ h => by simp at h⟩
  | x :: xs, y :: ys, k, e => by
    unfold eqLs at e
    cases e1 : f x y with
    | none => rw [e1] at e; cases e
    | some p =>
      rw [e1] at e
      obtain ⟨q, e2, e3⟩ := Option.map_eq_some_iff.mp e
      obtain ⟨h1, h2⟩ := eqLs_at e2
      have p0 : eAt2 f (x :: xs) (y :: ys) 0 = p := by simp [eAt2, e1]
      have ps : ∀ j, eAt2 f (x :: xs) (y :: ys) (j + 1) = eAt2 f xs ys j := fun j => by simp [eAt2]
      refine ⟨?_, fun j a b ha hb => ?_⟩
      · rw [<- e3, h1, List.length_cons, List.length_cons, Nat.succ_min_succ, List.range_succ_eq_map, List.all_cons, List.all_map, p0]
        have : (eAt2 f (x :: xs) (y :: ys) ∘ Nat.succ) = eAt2 f xs ys := funext ps
        rw [this, Bool.and_assoc]
        simp
      · cases j with
        | zero =>
          simp at ha hb
          subst ha hb
          rw [p0]; exact e1
        | succ j => rw [ps]; exact h2 j a b (by simpa using ha) (by simpa using hb)
theorem eqItems {f : A -> A -> Option Bool} {B : Around} (hf : ∀ a b x y u v k, AV X.K ρ H a x -> AV X.K ρ H b y -> RelV x u -> RelV y v -> f a b = some k -> SeqAt.EqAt B s u v k) {xs ys : List A} {vs ws : List V} {us ts : List Value} {k : Bool}
    (r1 : AVs X.K ρ H xs vs) (r2 : AVs X.K ρ H ys ws) (q1 : Vals vs us) (q2 : Vals ws ts) (e : eqLs f xs ys = some k) : ∀ j (h1 : j < us.toArray.size) (h2 : j < ts.toArray.size), SeqAt.EqAt B s us.toArray[j] ts.toArray[j] (eAt2 f xs ys j) := by
  intro j h1 h2
  have l1 := r1.length
  have l2 := r2.length
  have l3 := q1.length
  have l4 := q2.length
  have hx : j < xs.length := by simp at h1; omega
  have hy : j < ys.length := by simp at h2; omega
  have e1 : xs[j]? = some xs[j] := List.getElem?_eq_getElem hx
  have e2 : ys[j]? = some ys[j] := List.getElem?_eq_getElem hy
  obtain ⟨x, ex, ax⟩ := r1.get e1
  obtain ⟨y, ey, ay⟩ := r2.get e2
  obtain ⟨u, eu, ru⟩ := q1.get ex
  obtain ⟨t, et, rt⟩ := q2.get ey
  have a1 : us.toArray[j] = u := by
    have : us[j]? = some us.toArray[j] := by simp at h1; simp [h1]
    rw [eu] at this; exact (Option.some.inj this).symm
  have a2 : ts.toArray[j] = t := by
    have : ts[j]? = some ts.toArray[j] := by simp at h2; simp [h2]
    rw [et] at this; exact (Option.some.inj this).symm
  rw [a1, a2]
  exact hf _ _ x y u t _ ax ay ru rt ((eqLs_at e).2 j _ _ e1 e2)
theorem in1_units (B : Around) : B.in1.units = B.units + 1 := rfl
theorem rc_at (I : Inv X pins σ H s) (R : Rel X.K ρ H S) : ∀ (n : Nat) (B : Around) (a b : A) (x y : V) (u v : Value) (k : Bool), B.units + n < cLine -> AV X.K ρ H a x -> AV X.K ρ H b y -> RelV x u -> RelV y v -> eqA S n a b = some k -> SeqAt.RcAt B s u v k /\ SeqAt.EqAt B s u v k
  | 0, _, _, _, _, _, _, _, _, _, _, _, _, _, e => nomatch e
  | n + 1, B, a, b, x, y, u, v, k, hu, ha, hb, rx, ry, e => by
    have hu0 : B.units < cLine := by omega
    have items : ∀ a b x y u v k, AV X.K ρ H a x -> AV X.K ρ H b y -> RelV x u -> RelV y v -> eqA S n a b = some k -> SeqAt.EqAt B.in1 s u v k := fun a b x y u v k h1 h2 h3 h4 h5 => (rc_at I R n B.in1 a b x y u v k (by rw [in1_units]; omega) h1 h2 h3 h4 h5).2
    have refs : ∀ {p q : Addr} {k : Bool}, AV X.K ρ H a (.ref p) -> AV X.K ρ H b (.ref q) -> eqA S (n + 1) a b = some k -> SeqAt.RcAt B s (.ref p) (.ref q) k -> SeqAt.RcAt B s (.ref p) (.ref q) k /\ SeqAt.EqAt B s (.ref p) (.ref q) k := by
      intro p q k h1 h2 e h
      refine ⟨h, ?_⟩
      by_cases hp : p = q
      · subst hp
        have := eq_same I R (n + 1) a b _ k h1 h2 e
        subst this
        exact .same _
      · exact .of_refs hp h
    have tl : ∀ {p : Addr} {xs : List A} {vs : List V}, SqT X.K H p vs -> AVs X.K ρ H xs vs -> ∃ us : List Value, Vals vs us /\ s.heap.IsTuple p us.toArray := fun h1 r1 => by
      obtain ⟨us, q, p, _⟩ := I.tuple h1
      exact ⟨us, q, p⟩
    have ll : ∀ {p : Addr} {i : Nat} {xs : List A}, ρ[i]? = some p -> lstAt S i = some xs -> ∃ (vs : List V) (us : List Value), AVs X.K ρ H xs vs /\ Vals vs us /\ s.heap.IsList p us.toArray := fun h1 e1 => by
      obtain ⟨vs, h3, r1⟩ := R.lst h1 (lstAt_of e1)
      obtain ⟨us, q, p, _⟩ := I.list (SqL.of h3)
      exact ⟨vs, us, r1, q, p.isList⟩
    cases ha with
    | non =>
      obtain rfl : u = Value.none := rx
      cases hb with
      | non => obtain rfl : v = Value.none := ry; cases Option.some.inj e; exact ⟨.none_none, .same _⟩
      | bl j => obtain rfl : v = Value.bool j := ry; cases Option.some.inj e; exact ⟨.none_bool _, .none_bool _⟩
      | int j => obtain ⟨t, rfl⟩ : ∃ t, v = Value.int j t := ry; cases Option.some.inj e; exact ⟨.none_int _ _, .none_int _ _⟩
      | str j => obtain ⟨t, rfl⟩ : ∃ t, v = Value.str j t := ry; cases Option.some.inj e; exact ⟨.none_str _ _, .none_str _ _⟩
      | tup h2 r2 => obtain ⟨us, _, p⟩ := tl (SqT.of h2) r2; cases (show v = Value.ref _ from ry); cases Option.some.inj e; exact ⟨.none_tuple p hu0, .none_tuple p hu0⟩
      | ref h2 => obtain ⟨xs, e1, e2⟩ := Option.map_eq_some_iff.mp e; obtain ⟨_, us, _, _, p⟩ := ll h2 e1; cases (show v = Value.ref _ from ry); cases e2; exact ⟨.none_list p hu0, .none_list p hu0⟩
      | _ => cases e
    | bl i =>
      obtain rfl : u = Value.bool i := rx
      cases hb with
      | non => obtain rfl : v = Value.none := ry; cases Option.some.inj e; exact ⟨.bool_none _, .bool_none _⟩
      | bl j => obtain rfl : v = Value.bool j := ry; cases Option.some.inj e; exact ⟨.bool_bool _ _, .bool_bool _ _⟩
      | int j => obtain ⟨t, rfl⟩ : ∃ t, v = Value.int j t := ry; cases Option.some.inj e; exact ⟨.bool_int _ _ _, .bool_int _ _ _⟩
      | str j => obtain ⟨t, rfl⟩ : ∃ t, v = Value.str j t := ry; cases Option.some.inj e; exact ⟨.bool_str _ _ _, .bool_str _ _ _⟩
      | tup h2 r2 => obtain ⟨us, _, p⟩ := tl (SqT.of h2) r2; cases (show v = Value.ref _ from ry); cases Option.some.inj e; exact ⟨.bool_tuple _ p hu0, .bool_tuple _ p hu0⟩
      | ref h2 => obtain ⟨xs, e1, e2⟩ := Option.map_eq_some_iff.mp e; obtain ⟨_, us, _, _, p⟩ := ll h2 e1; cases (show v = Value.ref _ from ry); cases e2; exact ⟨.bool_list _ p hu0, .bool_list _ p hu0⟩
      | _ => cases e
    | int i =>
      obtain ⟨t0, rfl⟩ : ∃ t, u = Value.int i t := rx
      cases hb with
      | non => obtain rfl : v = Value.none := ry; cases Option.some.inj e; exact ⟨.int_none _ _, .int_none _ _⟩
      | bl j => obtain rfl : v = Value.bool j := ry; cases Option.some.inj e; exact ⟨.int_bool _ _ _, .int_bool _ _ _⟩
      | int j => obtain ⟨t, rfl⟩ : ∃ t, v = Value.int j t := ry; cases Option.some.inj e; exact ⟨.int_int _ _ _ _, .int_int _ _ _ _⟩
      | str j => obtain ⟨t, rfl⟩ : ∃ t, v = Value.str j t := ry; cases Option.some.inj e; exact ⟨.int_str _ _ _ _, .int_str _ _ _ _⟩
      | tup h2 r2 => obtain ⟨us, _, p⟩ := tl (SqT.of h2) r2; cases (show v = Value.ref _ from ry); cases Option.some.inj e; exact ⟨.int_tuple _ _ p hu0, .int_tuple _ _ p hu0⟩
      | ref h2 => obtain ⟨xs, e1, e2⟩ := Option.map_eq_some_iff.mp e; obtain ⟨_, us, _, _, p⟩ := ll h2 e1; cases (show v = Value.ref _ from ry); cases e2; exact ⟨.int_list _ _ p hu0, .int_list _ _ p hu0⟩
      | _ => cases e
    | str i =>
      obtain ⟨t0, rfl⟩ : ∃ t, u = Value.str i t := rx
      cases hb with
      | non => obtain rfl : v = Value.none := ry; cases Option.some.inj e; exact ⟨.str_none _ _, .str_none _ _⟩
      | bl j => obtain rfl : v = Value.bool j := ry; cases Option.some.inj e; exact ⟨.str_bool _ _ _, .str_bool _ _ _⟩
      | int j => obtain ⟨t, rfl⟩ : ∃ t, v = Value.int j t := ry; cases Option.some.inj e; exact ⟨.str_int _ _ _ _, .str_int _ _ _ _⟩
      | str j => obtain ⟨t, rfl⟩ : ∃ t, v = Value.str j t := ry; cases Option.some.inj e; exact ⟨.str_str _ _ _ _, .str_str _ _ _ _⟩
      | tup h2 r2 => obtain ⟨us, _, p⟩ := tl (SqT.of h2) r2; cases (show v = Value.ref _ from ry); cases Option.some.inj e; exact ⟨.str_tuple _ _ p hu0, .str_tuple _ _ p hu0⟩
      | ref h2 => obtain ⟨xs, e1, e2⟩ := Option.map_eq_some_iff.mp e; obtain ⟨_, us, _, _, p⟩ := ll h2 e1; cases (show v = Value.ref _ from ry); cases e2; exact ⟨.str_list _ _ p hu0, .str_list _ _ p hu0⟩
      | _ => cases e
    | @tup p xs vs h1 r1 =>
      obtain rfl : u = Value.ref p := rx
      obtain ⟨us, q1, p1⟩ := tl (SqT.of h1) r1
      cases hb with
      | non => obtain rfl : v = Value.none := ry; cases Option.some.inj e; exact ⟨.tuple_none p1 hu0, .tuple_none p1 hu0⟩
      | bl j => obtain rfl : v = Value.bool j := ry; cases Option.some.inj e; exact ⟨.tuple_bool _ p1 hu0, .tuple_bool _ p1 hu0⟩
      | int j => obtain ⟨t, rfl⟩ : ∃ t, v = Value.int j t := ry; cases Option.some.inj e; exact ⟨.tuple_int _ _ p1 hu0, .tuple_int _ _ p1 hu0⟩
      | str j => obtain ⟨t, rfl⟩ : ∃ t, v = Value.str j t := ry; cases Option.some.inj e; exact ⟨.tuple_str _ _ p1 hu0, .tuple_str _ _ p1 hu0⟩
      | @tup q ys ws h2 r2 =>
        obtain rfl : v = Value.ref q := ry
        obtain ⟨ts, q2, p2⟩ := tl (SqT.of h2) r2
        have e' : eqLs (eqA S n) xs ys = some k := e
        refine refs (.tup h1 r1) (.tup h2 r2) e ?_
        rw [(eqLs_at e').1]
        have := SeqAt.RcAt.tuples p1 p2 hu0 (eqItems items r1 r2 q1 q2 e')
        rw [List.size_toArray, List.size_toArray, <- q1.length, <- q2.length, <- r1.length, <- r2.length] at this
        exact this
      | @ref q j h2 =>
        obtain rfl : v = Value.ref q := ry
        obtain ⟨ys, e1, e2⟩ := Option.map_eq_some_iff.mp e
        obtain ⟨_, ts, _, _, p2⟩ := ll h2 e1
        refine refs (.tup h1 r1) (.ref h2) e ?_
        rw [<- e2]
        exact .tuple_list p1 p2 hu0
      | _ => cases e
    | @ref p i h1 =>
      obtain rfl : u = Value.ref p := rx
      cases hb with
      | non => obtain ⟨xs, e1, e2⟩ := Option.map_eq_some_iff.mp e; obtain ⟨_, us, _, _, p1⟩ := ll h1 e1; obtain rfl : v = Value.none := ry; cases e2; exact ⟨.list_none p1 hu0, .list_none p1 hu0⟩
      | bl j => obtain ⟨xs, e1, e2⟩ := Option.map_eq_some_iff.mp e; obtain ⟨_, us, _, _, p1⟩ := ll h1 e1; obtain rfl : v = Value.bool j := ry; cases e2; exact ⟨.list_bool _ p1 hu0, .list_bool _ p1 hu0⟩
      | int j => obtain ⟨xs, e1, e2⟩ := Option.map_eq_some_iff.mp e; obtain ⟨_, us, _, _, p1⟩ := ll h1 e1; obtain ⟨t, rfl⟩ : ∃ t, v = Value.int j t := ry; cases e2; exact ⟨.list_int _ _ p1 hu0, .list_int _ _ p1 hu0⟩
      | str j => obtain ⟨xs, e1, e2⟩ := Option.map_eq_some_iff.mp e; obtain ⟨_, us, _, _, p1⟩ := ll h1 e1; obtain ⟨t, rfl⟩ : ∃ t, v = Value.str j t := ry; cases e2; exact ⟨.list_str _ _ p1 hu0, .list_str _ _ p1 hu0⟩
      | @tup q ys ws h2 r2 =>
        obtain rfl : v = Value.ref q := ry
        obtain ⟨ts, q2, p2⟩ := tl (SqT.of h2) r2
        obtain ⟨xs, e1, e2⟩ := Option.map_eq_some_iff.mp e
        obtain ⟨_, us, _, _, p1⟩ := ll h1 e1
        refine refs (.ref h1) (.tup h2 r2) e ?_
        rw [<- e2]
        exact .list_tuple p1 p2 hu0
      | @ref q j h2 =>
        obtain rfl : v = Value.ref q := ry
        have e0 := e
        obtain ⟨xs, e1, e⟩ := Option.bind_eq_some_iff.mp e
        obtain ⟨ys, e2, e'⟩ := Option.bind_eq_some_iff.mp e
        obtain ⟨vs, us, r1, q1, p1⟩ := ll h1 e1
        obtain ⟨ws, ts, r2, q2, p2⟩ := ll h2 e2
        refine refs (.ref h1) (.ref h2) e0 ?_
        have l1 := r1.length
        have l2 := r2.length
        have l3 := q1.length
        have l4 := q2.length
        rw [(eqLs_at e').1]
        by_cases hl : xs.length = ys.length
        · have := SeqAt.RcAt.lists p1 p2 (by simp; omega) hu0 (eqItems items r1 r2 q1 q2 e')
          rw [List.size_toArray, <- l3, <- l1] at this
          rw [<- hl, Nat.min_self, beq_self_eq_true, Bool.and_true]
          exact this
        · have : (xs.length == ys.length) = false := by simpa using hl
          rw [this, Bool.and_false]
          exact .lists_lengths p1 p2 (by simp; omega) hu0
      | _ => cases e
    | _ => cases hb <;> cases e
theorem rcn_at (I : Inv X pins σ H s) (R : Rel X.K ρ H S) : ∀ (n : Nat) (B : Around) (a b : A) (x y : V) (u v : Value) (k : Bool), B.units + n < cLine -> AV X.K ρ H a x -> AV X.K ρ H b y -> RelV x u -> RelV y v -> eqA S n a b = some k -> SeqAt.RcNeAt B s u v (!k)
  | 0, _, _, _, _, _, _, _, _, _, _, _, _, _, e => nomatch e
  | n + 1, B, a, b, x, y, u, v, k, hu, ha, hb, rx, ry, e => by
    have hu0 : B.units < cLine := by omega
    have items : ∀ a b x y u v k, AV X.K ρ H a x -> AV X.K ρ H b y -> RelV x u -> RelV y v -> eqA S n a b = some k -> SeqAt.EqAt B.in1 s u v k := fun a b x y u v k h1 h2 h3 h4 h5 => (rc_at I R n B.in1 a b x y u v k (by rw [in1_units]; omega) h1 h2 h3 h4 h5).2
    have tl : ∀ {p : Addr} {xs : List A} {vs : List V}, SqT X.K H p vs -> AVs X.K ρ H xs vs -> ∃ us : List Value, Vals vs us /\ s.heap.IsTuple p us.toArray := fun h1 r1 => by
      obtain ⟨us, q, p, _⟩ := I.tuple h1
      exact ⟨us, q, p⟩
    have ll : ∀ {p : Addr} {i : Nat} {xs : List A}, ρ[i]? = some p -> lstAt S i = some xs -> ∃ (vs : List V) (us : List Value), AVs X.K ρ H xs vs /\ Vals vs us /\ s.heap.IsList p us.toArray := fun h1 e1 => by
      obtain ⟨vs, h3, r1⟩ := R.lst h1 (lstAt_of e1)
      obtain ⟨us, q, p, _⟩ := I.list (SqL.of h3)
      exact ⟨vs, us, r1, q, p.isList⟩
    cases ha with
    | non =>
      obtain rfl : u = Value.none := rx
      cases hb with
      | non => obtain rfl : v = Value.none := ry; cases Option.some.inj e; exact SeqAt.RcNeAt.none_none
      | bl j => obtain rfl : v = Value.bool j := ry; cases Option.some.inj e; exact SeqAt.RcNeAt.none_bool _
      | int j => obtain ⟨t, rfl⟩ : ∃ t, v = Value.int j t := ry; cases Option.some.inj e; exact SeqAt.RcNeAt.none_int _ _
      | str j => obtain ⟨t, rfl⟩ : ∃ t, v = Value.str j t := ry; cases Option.some.inj e; exact SeqAt.RcNeAt.none_str _ _
      | tup h2 r2 => obtain ⟨us, _, p⟩ := tl (SqT.of h2) r2; cases (show v = Value.ref _ from ry); cases Option.some.inj e; exact SeqAt.RcNeAt.none_tuple p hu0
      | ref h2 => obtain ⟨xs, e1, e2⟩ := Option.map_eq_some_iff.mp e; obtain ⟨_, us, _, _, p⟩ := ll h2 e1; cases (show v = Value.ref _ from ry); cases e2; exact SeqAt.RcNeAt.none_list p hu0
      | _ => cases e
    | bl i =>
      obtain rfl : u = Value.bool i := rx
      cases hb with
      | non => obtain rfl : v = Value.none := ry; cases Option.some.inj e; exact SeqAt.RcNeAt.bool_none _
      | bl j => obtain rfl : v = Value.bool j := ry; cases Option.some.inj e; exact SeqAt.RcNeAt.bool_bool _ _
      | int j => obtain ⟨t, rfl⟩ : ∃ t, v = Value.int j t := ry; cases Option.some.inj e; exact SeqAt.RcNeAt.bool_int _ _ _
      | str j => obtain ⟨t, rfl⟩ : ∃ t, v = Value.str j t := ry; cases Option.some.inj e; exact SeqAt.RcNeAt.bool_str _ _ _
      | tup h2 r2 => obtain ⟨us, _, p⟩ := tl (SqT.of h2) r2; cases (show v = Value.ref _ from ry); cases Option.some.inj e; exact SeqAt.RcNeAt.bool_tuple _ p hu0
      | ref h2 => obtain ⟨xs, e1, e2⟩ := Option.map_eq_some_iff.mp e; obtain ⟨_, us, _, _, p⟩ := ll h2 e1; cases (show v = Value.ref _ from ry); cases e2; exact SeqAt.RcNeAt.bool_list _ p hu0
      | _ => cases e
    | int i =>
      obtain ⟨t0, rfl⟩ : ∃ t, u = Value.int i t := rx
      cases hb with
      | non => obtain rfl : v = Value.none := ry; cases Option.some.inj e; exact SeqAt.RcNeAt.int_none _ _
      | bl j => obtain rfl : v = Value.bool j := ry; cases Option.some.inj e; exact SeqAt.RcNeAt.int_bool _ _ _
      | int j => obtain ⟨t, rfl⟩ : ∃ t, v = Value.int j t := ry; cases Option.some.inj e; exact SeqAt.RcNeAt.int_int _ _ _ _
      | str j => obtain ⟨t, rfl⟩ : ∃ t, v = Value.str j t := ry; cases Option.some.inj e; exact SeqAt.RcNeAt.int_str _ _ _ _
      | tup h2 r2 => obtain ⟨us, _, p⟩ := tl (SqT.of h2) r2; cases (show v = Value.ref _ from ry); cases Option.some.inj e; exact SeqAt.RcNeAt.int_tuple _ _ p hu0
      | ref h2 => obtain ⟨xs, e1, e2⟩ := Option.map_eq_some_iff.mp e; obtain ⟨_, us, _, _, p⟩ := ll h2 e1; cases (show v = Value.ref _ from ry); cases e2; exact SeqAt.RcNeAt.int_list _ _ p hu0
      | _ => cases e
    | str i =>
      obtain ⟨t0, rfl⟩ : ∃ t, u = Value.str i t := rx
      cases hb with
      | non => obtain rfl : v = Value.none := ry; cases Option.some.inj e; exact SeqAt.RcNeAt.str_none _ _
      | bl j => obtain rfl : v = Value.bool j := ry; cases Option.some.inj e; exact SeqAt.RcNeAt.str_bool _ _ _
      | int j => obtain ⟨t, rfl⟩ : ∃ t, v = Value.int j t := ry; cases Option.some.inj e; exact SeqAt.RcNeAt.str_int _ _ _ _
      | str j => obtain ⟨t, rfl⟩ : ∃ t, v = Value.str j t := ry; cases Option.some.inj e; exact SeqAt.RcNeAt.str_str _ _ _ _
      | tup h2 r2 => obtain ⟨us, _, p⟩ := tl (SqT.of h2) r2; cases (show v = Value.ref _ from ry); cases Option.some.inj e; exact SeqAt.RcNeAt.str_tuple _ _ p hu0
      | ref h2 => obtain ⟨xs, e1, e2⟩ := Option.map_eq_some_iff.mp e; obtain ⟨_, us, _, _, p⟩ := ll h2 e1; cases (show v = Value.ref _ from ry); cases e2; exact SeqAt.RcNeAt.str_list _ _ p hu0
      | _ => cases e
    | @tup p xs vs h1 r1 =>
      obtain rfl : u = Value.ref p := rx
      obtain ⟨us, q1, p1⟩ := tl (SqT.of h1) r1
      cases hb with
      | non => obtain rfl : v = Value.none := ry; cases Option.some.inj e; exact SeqAt.RcNeAt.tuple_none p1 hu0
      | bl j => obtain rfl : v = Value.bool j := ry; cases Option.some.inj e; exact SeqAt.RcNeAt.tuple_bool _ p1 hu0
      | int j => obtain ⟨t, rfl⟩ : ∃ t, v = Value.int j t := ry; cases Option.some.inj e; exact SeqAt.RcNeAt.tuple_int _ _ p1 hu0
      | str j => obtain ⟨t, rfl⟩ : ∃ t, v = Value.str j t := ry; cases Option.some.inj e; exact SeqAt.RcNeAt.tuple_str _ _ p1 hu0
      | @tup q ys ws h2 r2 =>
        obtain rfl : v = Value.ref q := ry
        obtain ⟨ts, q2, p2⟩ := tl (SqT.of h2) r2
        have e' : eqLs (eqA S n) xs ys = some k := e
        rw [(eqLs_at e').1]
        have := SeqAt.RcNeAt.tuples p1 p2 hu0 (eqItems items r1 r2 q1 q2 e')
        rw [List.size_toArray, List.size_toArray, <- q1.length, <- q2.length, <- r1.length, <- r2.length] at this
        exact this
      | @ref q j h2 =>
        obtain rfl : v = Value.ref q := ry
        obtain ⟨ys, e1, e2⟩ := Option.map_eq_some_iff.mp e
        obtain ⟨_, ts, _, _, p2⟩ := ll h2 e1
        rw [<- e2]
        exact SeqAt.RcNeAt.tuple_list p1 p2 hu0
      | _ => cases e
    | @ref p i h1 =>
      obtain rfl : u = Value.ref p := rx
      cases hb with
      | non => obtain ⟨xs, e1, e2⟩ := Option.map_eq_some_iff.mp e; obtain ⟨_, us, _, _, p1⟩ := ll h1 e1; obtain rfl : v = Value.none := ry; cases e2; exact SeqAt.RcNeAt.list_none p1 hu0
      | bl j => obtain ⟨xs, e1, e2⟩ := Option.map_eq_some_iff.mp e; obtain ⟨_, us, _, _, p1⟩ := ll h1 e1; obtain rfl : v = Value.bool j := ry; cases e2; exact SeqAt.RcNeAt.list_bool _ p1 hu0
      | int j => obtain ⟨xs, e1, e2⟩ := Option.map_eq_some_iff.mp e; obtain ⟨_, us, _, _, p1⟩ := ll h1 e1; obtain ⟨t, rfl⟩ : ∃ t, v = Value.int j t := ry; cases e2; exact SeqAt.RcNeAt.list_int _ _ p1 hu0
      | str j => obtain ⟨xs, e1, e2⟩ := Option.map_eq_some_iff.mp e; obtain ⟨_, us, _, _, p1⟩ := ll h1 e1; obtain ⟨t, rfl⟩ : ∃ t, v = Value.str j t := ry; cases e2; exact SeqAt.RcNeAt.list_str _ _ p1 hu0
      | @tup q ys ws h2 r2 =>
        obtain rfl : v = Value.ref q := ry
        obtain ⟨ts, q2, p2⟩ := tl (SqT.of h2) r2
        obtain ⟨xs, e1, e2⟩ := Option.map_eq_some_iff.mp e
        obtain ⟨_, us, _, _, p1⟩ := ll h1 e1
        rw [<- e2]
        exact SeqAt.RcNeAt.list_tuple p1 p2 hu0
      | @ref q j h2 =>
        obtain rfl : v = Value.ref q := ry
        have e0 := e
        obtain ⟨xs, e1, e⟩ := Option.bind_eq_some_iff.mp e
        obtain ⟨ys, e2, e'⟩ := Option.bind_eq_some_iff.mp e
        obtain ⟨vs, us, r1, q1, p1⟩ := ll h1 e1
        obtain ⟨ws, ts, r2, q2, p2⟩ := ll h2 e2
        have l1 := r1.length
        have l2 := r2.length
        have l3 := q1.length
        have l4 := q2.length
        rw [(eqLs_at e').1]
        by_cases hl : xs.length = ys.length
        · have := SeqAt.RcNeAt.lists p1 p2 (by simp; omega) hu0 (eqItems items r1 r2 q1 q2 e')
          rw [List.size_toArray, <- l3, <- l1] at this
          rw [<- hl, Nat.min_self, beq_self_eq_true, Bool.and_true]
          exact this
        · have : (xs.length == ys.length) = false := by simpa using hl
          rw [this, Bool.and_false]
          exact SeqAt.RcNeAt.lists_lengths p1 p2 (by simp; omega) hu0
      | _ => cases e
    | _ => cases hb <;> cases e
end
section
variable {X : Cx}
noncomputable def aEq (neg : Bool) (a b : A) (S : Sto) : R A := opt (eqA S 12 a b) fun k => .ok (.bl (if neg then !k else k)) S
theorem o_eq (hu : X.A.units + 64 < cLine) : OpR X (compareOp .Eq) (r2 X (aEq false)) := fun pins s σ H x y v u Q I rx ry ⟨ρ, S, a, b, R, va, vb, h⟩ => by
  obtain ⟨k, e, h⟩ := opt_post h
  exact (rc_at I R 12 X.A a b x y v u k (by omega) va vb rx ry e).1 _ _ _ _ ⟨.bl _, H, I, rfl, h _ _ _ .refl R (.bl _)⟩
theorem o_ne (hu : X.A.units + 64 < cLine) : OpR X (compareOp .NotEq) (r2 X (aEq true)) := fun pins s σ H x y v u Q I rx ry ⟨ρ, S, a, b, R, va, vb, h⟩ => by
  obtain ⟨k, e, h⟩ := opt_post h
  exact rcn_at I R 12 X.A a b x y v u k (by omega) va vb rx ry e _ _ _ _ ⟨.bl _, H, I, rfl, h _ _ _ .refl R (.bl _)⟩
end
end Am
set_option Elab.async false
set_option linter.all false
set_option maxRecDepth 100000
set_option maxHeartbeats 4000000
namespace Am
open PySem PySem.Spec PyProof.Rows L2
section
variable {X : Cx} {pos : Pos} {a b : Expr}
noncomputable abbrev Pt := List A -> Sto -> R (Option Int)
noncomputable def pNone : Pt := fun _ S => .ok none S
noncomputable def pSome (c : Ex) : Pt := fun τ S => (c τ S).bind fun a S1 => match a with
  | .int i => .ok (some i) S1
  | _ => .no
noncomputable def tO (X : Cx) (c : Pt) : TO := fun σ H Q => ∃ ρ S τ, Rel X.K ρ H S /\ SR X.K ρ H τ σ /\ (c τ S).post (fun o S' => ∀ ρ' H', Ext ρ ρ' H H' -> Rel X.K ρ' H' S' -> Q o H') (XE X ρ H)
noncomputable def AO (X : Cx) (e : Option Expr) (c : Pt) : Prop := PO X e (tO X c)
theorem ao_none : AO X none pNone := fun pins s σ H Q I ⟨ρ, S, τ, R, r, h⟩ => po_none pins s σ H Q I (h ρ H .refl R)
theorem ao_some {c : Ex} (ha : AE X a c) : AO X (some a) (pSome c) := fun pins s σ H Q I ⟨ρ, S, τ, R, r, h⟩ => po_some ha pins s σ H Q I ⟨ρ, S, τ, R, r, post_ext (post_bind h) .refl fun x S1 h1 ρ1 H1 v e1 R1 v1 => by
  cases v1 <;> first | exact h1.elim | exact ⟨_, rfl, h1 ρ1 H1 e1 R1⟩⟩
noncomputable def cutA (xs : List A) (lo hi : Option Int) : List A := (xs.drop (HT.sIx xs.length 0 lo)).take (HT.sIx xs.length xs.length hi - HT.sIx xs.length 0 lo)
theorem AVs.cut {K : PySem.W.Frag} {ρ : List Addr} {H : Hp} {xs : List A} {vs : List V} (r : AVs K ρ H xs vs) (lo hi : Option Int) : AVs K ρ H (cutA xs lo hi) (cutV vs lo hi) := by
  unfold cutA cutV
  rw [r.length]
  exact (r.drop _).take _
noncomputable def aSl (a : A) (lo hi : Option Int) (S : Sto) : R A := match a with
  | .ref n => opt (lstAt S n) fun xs => .ok (.ref S.length) (S ++ [.lst (cutA xs lo hi)])
  | .frz xs => .ok (.ref S.length) (S ++ [.lst (cutA xs lo hi)])
  | .tup xs => gd (¬ (HT.sIx xs.length 0 lo = 0 /\ HT.sIx xs.length xs.length hi = xs.length)) (.ok (.tup (cutA xs lo hi)) S)
  | _ => .no
noncomputable def eSl (c : Ex) (lo hi : Pt) : Ex := fun τ S => (c τ S).bind fun a S1 => (lo τ S1).bind fun l S2 => (hi τ S2).bind fun u S3 => aSl a l u S3
noncomputable def rS (X : Cx) : V -> Option Int -> Option Int -> Hp -> VK -> Prop := fun x lo hi H Q => ∃ ρ S a, Rel X.K ρ H S /\ AV X.K ρ H a x /\ (aSl a lo hi S).post (okP X ρ H Q) (XE X ρ H)
theorem sl_any : SlR X (rS X) := fun pins s σ H x v vl vu lo hi sl Q I rx hs pl pu ⟨ρ, S, a, R, va, h⟩ => by
  cases va with
  | @tup p xs vs h1 r1 =>
    obtain ⟨hc, h⟩ := gd_post h
    exact sl_tup pins s σ H _ v vl vu lo hi sl Q I rx hs pl pu ⟨p, vs, rfl, (SqT.of h1), by rw [<- r1.length]; exact hc, new_tup R (r1.cut lo hi) .refl h⟩
  | @frz p xs vs h1 r1 => exact sl_list pins s σ H _ v vl vu lo hi sl Q I rx hs pl pu ⟨p, vs, rfl, h1.sqL, new_lst R (r1.cut lo hi) .refl h⟩
  | @ref p n hp =>
    obtain ⟨xs, hn, h⟩ := opt_post h
    obtain ⟨vs, h1, r1⟩ := R.lst hp (lstAt_of hn)
    exact sl_list pins s σ H _ v vl vu lo hi sl Q I rx hs pl pu ⟨p, vs, rfl, SqL.of h1, new_lst R (r1.cut lo hi) .refl h⟩
  | _ => exact h.elim
theorem ae_sl {e : Expr} {lo hi : Option Expr} {p2 : Pos} {c : Ex} {cl ch : Pt} (he : AE X e c) (hl : AO X lo cl) (hh : AO X hi ch) : AE X (.Subscript e (.Slice lo hi none p2) pos) (eSl c cl ch) := PE.imp (pe_slice sl_any he hl hh) fun σ H Q ⟨ρ, S, τ, R, r, h⟩ => by
  refine ⟨ρ, S, τ, R, r, post_ext (post_bind h) .refl fun a S1 h1 ρ1 H1 x e1 R1 v1 => ⟨ρ1, S1, τ, R1, r.ext e1, post_ext (post_bind h1) e1 fun l S2 h2 ρ2 H2 e2 R2 => ⟨ρ2, S2, τ, R2, r.ext (e1.trans e2), post_ext (post_bind h2) (e1.trans e2) fun u S3 h3 ρ3 H3 e3 R3 => ?_⟩⟩⟩
  exact ⟨ρ3, S3, a, R3, v1.ext (e2.trans e3), post_ext h3 (e1.trans (e2.trans e3)) fun _ _ z => z.ext (e1.trans (e2.trans e3))⟩
noncomputable def aRev (a : A) (S : Sto) : R A := match a with
  | .ref n => opt (lstAt S n) fun xs => .ok (.ref S.length) (S ++ [.lst xs.reverse])
  | .tup xs => .ok (.tup xs.reverse) S
  | _ => .no
noncomputable def eCall (f : List A -> Sto -> R A) (d : Exs) : Ex := fun τ S => (d τ S).bind fun as S1 => f as S1
theorem call_imp {f : List A -> Sto -> R A} {d : Exs} {σ : L2.St} {H : Hp} {Q : VK} (h : tE X (eCall f d) σ H Q) : tCB (rN X f) (tL X d) σ H Q := by
  obtain ⟨ρ, S, τ, R, r, h⟩ := h
  exact ⟨ρ, S, τ, R, r, post_ext (post_bind h) .refl fun as S1 h1 ρ1 H1 vs e1 R1 v1 => ⟨ρ1, S1, as, R1, v1, post_ext h1 e1 fun _ _ z => z.ext e1⟩⟩
variable {x : Str} {p : Pos} {e : Expr} {es : List Expr} {id T : String} {f : List A -> Sto -> R A} {d : Exs}
theorem ae_callB (hc : CallR X (.builtin id) (rN X f)) (hm : X.mg x = none) (hv : bootBuiltins x = some (.builtin id)) (ha : AL X (e :: es) d) (hg : Gl X x := by rfl) (hn : x ≠ "__name__" := by decide) (hdb : (x == ("__debug__" : Str)) = false := by decide)
    (he : starEach (e :: es) X.env = (false, eval e X.env) :: starEach es X.env := by rfl) (hpl : (backTo pos (starEach es X.env)).any (·.1) = false := by rfl) : AE X (.Call (.Name x p) (e :: es) [] pos) (eCall f d) :=
  PE.imp (pe_callB hc hg hm hv ha hn hdb he hpl) fun _ _ _ h => call_imp h
theorem ae_callT (hc : CallR X (.type T) (rN X f)) (hm : X.mg x = none) (hv : bootBuiltins x = some (.type T)) (ha : AL X (e :: es) d) (hg : Gl X x := by rfl) (hn : x ≠ "__name__" := by decide) (hdb : (x == ("__debug__" : Str)) = false := by decide)
    (he : starEach (e :: es) X.env = (false, eval e X.env) :: starEach es X.env := by rfl) (hpl : (backTo pos (starEach es X.env)).any (·.1) = false := by rfl) : AE X (.Call (.Name x p) (e :: es) [] pos) (eCall f d) :=
  PE.imp (pe_callTy hc hg hm hv ha hn hdb he hpl) fun _ _ _ h => call_imp h
theorem ae_ty (hm : X.mg x = none) (hv : bootBuiltins x = some (.type T)) (hg : Gl X x := by rfl) (hn : x ≠ "__name__" := by decide) (hdb : (x == ("__debug__" : Str)) = false := by decide) : AE X (.Name x pos) (eC (.ty T)) :=
  PE.imp (pe_bltn (v := .ty T) hg hm hv rfl hn hdb) fun σ H Q ⟨ρ, S, τ, R, r, h⟩ => h ρ H _ .refl R (.ty T)
noncomputable def A.seq (S : Sto) : A -> Option (List A)
  | .tup xs => some xs
  | .frz xs => some xs
  | .ref n => lstAt S n
  | _ => none
theorem seq_of {K : PySem.W.Frag} {ρ : List Addr} {H : Hp} {S : Sto} {x : A} {v : V} {xs : List A} (R : Rel K ρ H S) (h : AV K ρ H x v) (e : x.seq S = some xs) : ∃ p vs, v = .ref p /\ (SqL K H p vs \/ SqT K H p vs) /\ AVs K ρ H xs vs := by
  cases h with
  | tup h r => cases Option.some.inj e; exact ⟨_, _, rfl, .inr (SqT.of h), r⟩
  | frz h r => cases Option.some.inj e; exact ⟨_, _, rfl, .inl h.sqL, r⟩
  | ref h =>
    obtain ⟨vs, h1, r1⟩ := R.lst h (lstAt_of e)
    exact ⟨_, vs, rfl, .inl (SqL.of h1), r1⟩
  | _ => cases e
theorem avs1 {K : PySem.W.Frag} {ρ : List Addr} {H : Hp} {x : A} {vs : List V} (h : AVs K ρ H [x] vs) : ∃ v, vs = [v] /\ AV K ρ H x v := by
  cases h with
  | cons h t => cases t; exact ⟨_, rfl, h⟩
theorem avs2 {K : PySem.W.Frag} {ρ : List Addr} {H : Hp} {x y : A} {vs : List V} (h : AVs K ρ H [x, y] vs) : ∃ v w, vs = [v, w] /\ AV K ρ H x v /\ AV K ρ H y w := by
  cases h with
  | cons h t => obtain ⟨w, rfl, h'⟩ := avs1 t; exact ⟨_, _, rfl, h, h'⟩
noncomputable def f1 (g : A -> Sto -> R A) : List A -> Sto -> R A := fun as S => match as with
  | [x] => g x S
  | _ => .no
noncomputable def f2 (g : A -> A -> Sto -> R A) : List A -> Sto -> R A := fun as S => match as with
  | [x, y] => g x y S
  | _ => .no
theorem f1_post {g : A -> Sto -> R A} {as : List A} {S : Sto} {P : A -> Sto -> Prop} {E : Str -> Sto -> Prop} (h : (f1 g as S).post P E) : ∃ x, as = [x] /\ (g x S).post P E := by
  match as, h with
  | [], h => exact h.elim
  | [x], h => exact ⟨x, rfl, h⟩
  | _ :: _ :: _, h => exact h.elim
theorem f2_post {g : A -> A -> Sto -> R A} {as : List A} {S : Sto} {P : A -> Sto -> Prop} {E : Str -> Sto -> Prop} (h : (f2 g as S).post P E) : ∃ x y, as = [x, y] /\ (g x y S).post P E := by
  match as, h with
  | [], h => exact h.elim
  | [_], h => exact h.elim
  | [x, y], h => exact ⟨x, y, rfl, h⟩
  | _ :: _ :: _ :: _, h => exact h.elim
theorem rn1 {g : A -> Sto -> R A} {vs : List V} {H : Hp} {Q : VK} (h : rN X (f1 g) vs H Q) : ∃ v, vs = [v] /\ ∃ ρ S x, Rel X.K ρ H S /\ AV X.K ρ H x v /\ (g x S).post (okP X ρ H Q) (XE X ρ H) := by
  obtain ⟨ρ, S, as, R, v, h⟩ := h
  obtain ⟨x, rfl, h⟩ := f1_post h
  obtain ⟨w, rfl, hv⟩ := avs1 v
  exact ⟨w, rfl, ρ, S, x, R, hv, h⟩
theorem rn2 {g : A -> A -> Sto -> R A} {vs : List V} {H : Hp} {Q : VK} (h : rN X (f2 g) vs H Q) : ∃ v w, vs = [v, w] /\ ∃ ρ S x y, Rel X.K ρ H S /\ AV X.K ρ H x v /\ AV X.K ρ H y w /\ (g x y S).post (okP X ρ H Q) (XE X ρ H) := by
  obtain ⟨ρ, S, as, R, v, h⟩ := h
  obtain ⟨x, y, rfl, h⟩ := f2_post h
  obtain ⟨w, w', rfl, hv, hv'⟩ := avs2 v
  exact ⟨w, w', rfl, ρ, S, x, y, R, hv, hv', h⟩
noncomputable def aLen (x : A) (S : Sto) : R A := match x with
  | .str x => gd (x.length <= sizeLine) (.ok (.int x.length) S)
  | .tup xs => .ok (.int xs.length) S
  | .frz xs => .ok (.int xs.length) S
  | .ref n => opt (lstAt S n) fun xs => .ok (.int xs.length) S
  | _ => .no
theorem c_len : CallR X (.builtin "len") (rN X (f1 aLen)) := CallR.imp call_len fun vs H Q h0 => by
  obtain ⟨w, rfl, ρ, S, x, R, hv, h⟩ := rn1 h0
  clear h0
  cases hv with
  | str z =>
    obtain ⟨hz, h⟩ := gd_post h
    exact ⟨_, _, rfl, ⟨hz, rfl⟩, h _ _ _ .refl R (.int _)⟩
  | @tup p xs us h1 r => exact ⟨_, us.length, rfl, .inr ⟨us, (SqT.of h1), rfl⟩, by rw [<- r.length]; exact h _ _ _ .refl R (.int _)⟩
  | @frz p xs us h1 r => exact ⟨_, us.length, rfl, .inl ⟨us, h1.sqL, rfl⟩, by rw [<- r.length]; exact h _ _ _ .refl R (.int _)⟩
  | ref hp =>
    obtain ⟨xs, hn, h⟩ := opt_post h
    obtain ⟨us, h1, r⟩ := R.lst hp (lstAt_of hn)
    exact ⟨_, us.length, rfl, .inl ⟨us, SqL.of h1, rfl⟩, by rw [<- r.length]; exact h _ _ _ .refl R (.int _)⟩
  | _ => exact h.elim
noncomputable def aAbs (x : A) (S : Sto) : R A := match x with
  | .int i => .ok (.int (if i < 0 then -i else i)) S
  | _ => .no
noncomputable def aMax2 (x y : A) (S : Sto) : R A := match x, y with
  | .int i, .int j => .ok (.int (if j > i then j else i)) S
  | _, _ => .no
theorem c_max2 (hc : X.calm = true) : CallR X (.builtin "max") (rN X (f2 aMax2)) := CallR.imp (call_max2 hc) fun vs H Q h0 => by
  obtain ⟨w, w', rfl, ρ, S, x, y, R, hv, hv', h⟩ := rn2 h0
  clear h0
  cases hv <;> first | exact h.elim | (cases hv' <;> first | exact h.elim | exact ⟨_, _, rfl, h _ _ _ .refl R (.int _)⟩)
noncomputable def aMin2 (x y : A) (S : Sto) : R A := match x, y with
  | .int i, .int j => .ok (.int (if j < i then j else i)) S
  | _, _ => .no
theorem c_min2 (hc : X.calm = true) : CallR X (.builtin "min") (rN X (f2 aMin2)) := CallR.imp (call_min2 hc) fun vs H Q h0 => by
  obtain ⟨w, w', rfl, ρ, S, x, y, R, hv, hv', h⟩ := rn2 h0
  clear h0
  cases hv <;> first | exact h.elim | (cases hv' <;> first | exact h.elim | exact ⟨_, _, rfl, h _ _ _ .refl R (.int _)⟩)
noncomputable def aInt1 (x : A) (S : Sto) : R A := match x with
  | .int i => .ok (.int i) S
  | .bl k => .ok (.int (if k then 1 else 0)) S
  | .str y => opt (PySem.intText? y) fun n => gd (y.length <= 640) (.ok (.int n) S)
  | _ => .no
theorem c_int1 : CallR X (.type "int") (rN X (f1 aInt1)) := fun pins s σ H xs us Q I rv h0 => by
  obtain ⟨w, rfl, ρ, S, x, R, hv, h⟩ := rn1 h0
  clear h0
  cases hv with
  | int i => exact call_int1 pins s σ H _ us Q I rv (.inl ⟨i, rfl, h _ _ _ .refl R (.int _)⟩)
  | bl k => exact call_int1 pins s σ H _ us Q I rv (.inr ⟨k, rfl, h _ _ _ .refl R (.int _)⟩)
  | str y =>
    obtain ⟨n, hn, h⟩ := opt_post h
    obtain ⟨hl, h⟩ := gd_post h
    exact call_intS pins s σ H _ us Q I rv ⟨y, n, rfl, hl, hn, h _ _ _ .refl R (.int _)⟩
  | _ => exact h.elim
noncomputable def aRange2 (x y : A) (S : Sto) : R A := match x, y with
  | .int i, .int j => .ok (.rng i j) S
  | _, _ => .no
noncomputable def rngOk (i j : Int) : Prop := (-(2 ^ 62) <= i /\ i < 2 ^ 62 /\ -(2 ^ 62) <= j /\ j < 2 ^ 62) /\ (j - i).toNat <= 1000
instance (i j : Int) : Decidable (rngOk i j) := by unfold rngOk; infer_instance
noncomputable def aList (x : A) (S : Sto) : R A := match x with
  | .rng i j => gd (rngOk i j) (.ok (.ref S.length) (S ++ [.lst ((rngL i j).map .int)]))
  | .tup xs => .ok (.ref S.length) (S ++ [.lst xs])
  | .frz xs => .ok (.ref S.length) (S ++ [.lst xs])
  | .ref n => opt (lstAt S n) fun xs => .ok (.ref S.length) (S ++ [.lst xs])
  | _ => .no
theorem c_list (hc : X.calm = true) : CallR X (.type "list") (rN X (f1 aList)) := fun pins s σ H vs us Q I rx h0 => by
  obtain ⟨w, rfl, ρ, S, x, R, hv, h⟩ := rn1 h0
  clear h0
  cases hv with
  | @rng p i j hp =>
    obtain ⟨hc', h⟩ := gd_post h
    exact call_list_rng hc pins s σ H _ us Q I rx ⟨p, i, j, rfl, hp, hc'.1, hc'.2, new_lst R (avs_ints _) .refl h⟩
  | @tup p xs vs h1 r => exact call_list_of pins s σ H _ us Q I rx ⟨p, vs, rfl, .inr (SqT.of h1), new_lst R r .refl h⟩
  | @frz p xs vs h1 r => exact call_list_of pins s σ H _ us Q I rx ⟨p, vs, rfl, .inl h1.sqL, new_lst R r .refl h⟩
  | @ref p n hp =>
    obtain ⟨xs, hn, h⟩ := opt_post h
    obtain ⟨vs, h1, r⟩ := R.lst hp (lstAt_of hn)
    exact call_list_of pins s σ H _ us Q I rx ⟨p, vs, rfl, .inl (SqL.of h1), new_lst R r .refl h⟩
  | _ => exact h.elim
noncomputable def aTuple (x : A) (S : Sto) : R A := match x with
  | .rng i j => gd (rngOk i j) (.ok (.tup ((rngL i j).map .int)) S)
  | .tup xs => .ok (.tup xs) S
  | .frz xs => .ok (.tup xs) S
  | .ref n => opt (lstAt S n) fun xs => .ok (.tup xs) S
  | _ => .no
noncomputable def A.bls : List A -> Option (List Bool)
  | [] => some []
  | .bl b :: xs => (A.bls xs).map (b :: ·)
  | _ => none
theorem bls_of {K : PySem.W.Frag} {ρ : List Addr} {H : Hp} : ∀ {xs : List A} {vs : List V} {bs : List Bool}, AVs K ρ H xs vs -> A.bls xs = some bs -> vs = bs.map V.bl
  | _, _, _, .nil, e => by cases e; rfl
  | _, _, _, .cons (x := .bl b) h t, e => by
    obtain ⟨cs, e1, rfl⟩ := Option.map_eq_some_iff.mp e
    cases h
    rw [bls_of t e1]; rfl
  | _, _, _, .cons (x := .unb) h t, e => nomatch e
  | _, _, _, .cons (x := .non) h t, e => nomatch e
  | _, _, _, .cons (x := .int _) h t, e => nomatch e
  | _, _, _, .cons (x := .str _) h t, e => nomatch e
  | _, _, _, .cons (x := .tup _) h t, e => nomatch e
  | _, _, _, .cons (x := .frz _) h t, e => nomatch e
  | _, _, _, .cons (x := .rng _ _) h t, e => nomatch e
  | _, _, _, .cons (x := .ref _) h t, e => nomatch e
  | _, _, _, .cons (x := .exn _) h t, e => nomatch e
  | _, _, _, .cons (x := .ty _) h t, e => nomatch e
noncomputable def aAll (x : A) (S : Sto) : R A := match x with
  | .ref n => opt (lstAt S n) fun xs => opt (A.bls xs) fun bs => .ok (.bl (bs.all fun b => b)) S
  | _ => .no
theorem c_all (hc : X.calm = true) : CallR X (.builtin "all") (rN X (f1 aAll)) := CallR.imp (call_allL hc) fun vs H Q h0 => by
  obtain ⟨w, rfl, ρ, S, x, R, hv, h⟩ := rn1 h0
  clear h0
  cases hv with
  | @ref p n hp =>
    obtain ⟨xs, hn, h⟩ := opt_post h
    obtain ⟨bs, hb, h⟩ := opt_post h
    obtain ⟨vs, h1, r⟩ := R.lst hp (lstAt_of hn)
    rw [bls_of r hb] at h1
    exact ⟨p, bs, rfl, SqL.of h1, h _ _ _ .refl R (.bl _)⟩
  | _ => exact h.elim
noncomputable def aAny (x : A) (S : Sto) : R A := match x with
  | .ref n => opt (lstAt S n) fun xs => opt (A.bls xs) fun bs => .ok (.bl (bs.any fun b => b)) S
  | _ => .no
noncomputable def maxOf : List Int -> Option Int
  | [] => none
  | [x] => some x
  | x :: xs => (maxOf xs).map fun m => if m > x then m else x
noncomputable def aMaxL (x : A) (S : Sto) : R A := match x with
  | .ref n => opt (lstAt S n) fun xs => opt (A.ints xs) fun ns => opt (maxOf ns) fun m => .ok (.int m) S
  | _ => .no
noncomputable def insI (x : Int) : List Int -> List Int
  | [] => [x]
  | y :: ys => if x <= y then x :: y :: ys else y :: insI x ys
noncomputable def sortI : List Int -> List Int
  | [] => []
  | x :: xs => insI x (sortI xs)
noncomputable def aSortI (x : A) (S : Sto) : R A := opt (x.seq S) fun xs => opt (A.ints xs) fun ns => gd (ns.length < 64) (.ok (.ref S.length) (S ++ [.lst ((sortI ns).map .int)]))
noncomputable def A.kd : A -> Sto -> Option Kd
  | .non, _ => some .non
  | .bl _, _ => some .bl
  | .int _, _ => some .int
  | .str _, _ => some .str
  | .tup _, _ => some .tup
  | .ref n, S => (lstAt S n).map fun _ => .lst
  | _, _ => none
theorem kit_str {K : PySem.W.Frag} (k : Kd) : PySem.W.kitOne K k.ty (.type "str") = some (decide (k = .str)) := by cases k <;> rfl
noncomputable def isKd (k : Kd) (c : String) : Option Bool := if c = "int" then some (decide (k = .int \/ k = .bl)) else if c = "bool" then some (decide (k = .bl)) else if c = "tuple" then some (decide (k = .tup)) else if c = "list" then some (decide (k = .lst)) else if c = "str" then some (decide (k = .str)) else none
theorem isKd_of {K : PySem.W.Frag} {k : Kd} {c : String} {b : Bool} (h : isKd k c = some b) : PySem.W.kitOne K k.ty (.type c) = some b := by
  unfold isKd at h
  split at h
  · rename_i e; subst e; rw [<- h]; exact kit_int k
  · split at h
    · rename_i e; subst e; rw [<- h]; exact kit_bool k
    · split at h
      · rename_i e; subst e; rw [<- h]; exact kit_tuple k
      · split at h
        · rename_i e; subst e; rw [<- h]; exact kit_list k
        · split at h
          · rename_i e; subst e; rw [<- h]; exact kit_str k
          · cases h
noncomputable def aIsi (x y : A) (S : Sto) : R A := match y with
  | .ty c => opt (x.kd S) fun k => opt (isKd k c) fun b => .ok (.bl b) S
  | _ => .no
theorem ty_of {K : PySem.W.Frag} {ρ : List Addr} {H : Hp} {S : Sto} {x : A} {v : V} {k : Kd} (R : Rel K ρ H S) (h : AV K ρ H x v) (e : x.kd S = some k) : (∃ p vs, v = .ref p /\ SqT K H p vs /\ k = .tup) \/ IsKd H v k := by
  cases h with
  | non => cases e; exact .inr rfl
  | bl b => cases e; exact .inr ⟨b, rfl⟩
  | int i => cases e; exact .inr ⟨i, rfl⟩
  | str i => cases e; exact .inr ⟨i, rfl⟩
  | tup h r => cases e; exact .inl ⟨_, _, rfl, (SqT.of h), rfl⟩
  | ref h =>
    obtain ⟨xs, e1, e2⟩ := Option.map_eq_some_iff.mp e
    obtain ⟨vs, h1, _⟩ := R.lst h (lstAt_of e1)
    cases e2
    exact .inr ⟨_, vs, rfl, h1⟩
  | _ => cases e
theorem c_isi : CallR X (.builtin "isinstance") (rN X (f2 aIsi)) := fun pins s σ H vs us Q I rx h0 => by
  obtain ⟨w, w', rfl, ρ, S, x, y, R, hv, hv', h⟩ := rn2 h0
  clear h0
  cases hv' with
  | ty c =>
    obtain ⟨k, hk, h⟩ := opt_post h
    obtain ⟨b, hb, hq⟩ := opt_post h
    have hq : okP X ρ H Q (.bl b) S := hq
    clear h
    rcases ty_of R hv hk with ⟨p, vs, rfl, ht, rfl⟩ | hd
    · match us, rx with
      | [_, _], .cons r1 (.cons r2 .nil) =>
        obtain ⟨its, q, ⟨o, h1, h2, _⟩, _⟩ := I.tuple ht
        cases (show _ = Value.ref p from r1)
        cases (show _ = Value.type c from r2)
        exact PySem.W.kia_one PySem.W.kitx_tuple I.kIn ⟨o, h1, h2⟩ (isKd_of hb) (fun z => nomatch z) fun tk => ⟨.bl b, H, I.tok _, rfl, hq _ _ _ .refl R (.bl _)⟩
    · exact call_isinst (c := c) pins s σ H _ us Q I rx ⟨w, _, b, rfl, hd.tyOf, isKd_of hb, hq _ _ _ .refl R (.bl _)⟩
  | _ => exact h.elim
end
end Am
set_option Elab.async false
set_option linter.all false
set_option maxRecDepth 100000
set_option maxHeartbeats 4000000
namespace Am
open PySem PySem.Spec PyProof.Rows L2
noncomputable def insT (x : List Int) : List (List Int) -> List (List Int)
  | [] => [x]
  | y :: ys => if HT.lexLt y x = true then y :: insT x ys else x :: y :: ys
noncomputable def sortT : List (List Int) -> List (List Int)
  | [] => []
  | x :: xs => insT x (sortT xs)
noncomputable def LeT (a b : List Int) : Prop := HT.lexLt b a = false
theorem LeT.trans {a b c : List Int} (h1 : LeT a b) (h2 : LeT b c) : LeT a c := by
  unfold LeT at *
  cases e : HT.lexLt c a with
  | false => rfl
  | true =>
    rcases Sx.lex_neg (b := b) e with z | z
    · rw [h2] at z; cases z
    · rw [h1] at z; cases z
theorem insT_perm (x : List Int) : ∀ ys : List (List Int), (insT x ys).Perm (x :: ys)
  | [] => List.Perm.refl _
  | y :: ys => by
    unfold insT
    by_cases h : HT.lexLt y x = true
    · rw [if_pos h]; exact ((insT_perm x ys).cons y).trans (List.Perm.swap x y ys)
    · rw [if_neg h]
theorem sortT_perm : ∀ xs : List (List Int), (sortT xs).Perm xs
  | [] => List.Perm.refl _
  | x :: xs => (insT_perm x (sortT xs)).trans ((sortT_perm xs).cons x)
theorem insT_pw (x : List Int) : ∀ ys : List (List Int), ys.Pairwise LeT -> (insT x ys).Pairwise LeT
  | [], _ => List.pairwise_singleton _ _
  | y :: ys, h => by
    unfold insT
    obtain ⟨h1, h2⟩ := List.pairwise_cons.mp h
    by_cases hx : HT.lexLt y x = true
    · rw [if_pos hx]
      refine List.pairwise_cons.mpr ⟨fun z hz => ?_, insT_pw x ys h2⟩
      rcases List.mem_cons.mp ((insT_perm x ys).mem_iff.mp hz) with e | hz
      · subst e
        unfold LeT
        cases e : HT.lexLt z y with
        | false => rfl
        | true => have := Sx.lex_tr hx e; rw [Sx.lex_irr] at this; cases this
      · exact h1 z hz
    · rw [if_neg hx]
      have hx' : LeT x y := by unfold LeT; simpa using hx
      exact List.pairwise_cons.mpr ⟨fun z hz => (List.mem_cons.mp hz).elim (fun e => e ▸ hx') fun hz => hx'.trans (h1 z hz), h⟩
theorem sortT_pw : ∀ xs : List (List Int), (sortT xs).Pairwise LeT
  | [] => List.Pairwise.nil
  | x :: xs => insT_pw x _ (sortT_pw xs)
theorem sortT_uniq {xs ys : List (List Int)} (p : xs.Perm ys) (h : xs.Pairwise LeT) : xs = sortT ys :=
  List.Perm.eq_of_pairwise (fun a b _ _ h1 h2 => (Sx.lex_tot h1 h2).symm) h (sortT_pw ys) (p.trans (sortT_perm ys).symm)
theorem pig : ∀ (N : Nat) (l : List Nat), l.Nodup -> (∀ x ∈ l, x < N) -> l.length <= N
  | 0, l, _, h => by
    cases l with
    | nil => exact Nat.le_refl _
    | cons a l => exact absurd (h a (List.mem_cons_self ..)) (Nat.not_lt_zero _)
  | N + 1, l, nd, h => by
    have h1 := pig N (l.erase N) (nd.erase N) fun x hx => by
      have := h x (List.mem_of_mem_erase hx)
      have : x ≠ N := fun z => by
        subst z
        exact (List.Nodup.not_mem_erase nd) hx
      omega
    have := List.le_length_erase (l := l) (a := N)
    omega
theorem perm_range {N : Nat} {g : Nat -> Nat} (h : ∀ i, i < N -> g i < N) (inj : ∀ i j, i < j -> j < N -> g i ≠ g j) : ((List.range N).map g).Perm (List.range N) := by
  have nd : ((List.range N).map g).Nodup := by
    unfold List.Nodup
    rw [List.pairwise_iff_getElem]
    intro i j hi hj hij
    rw [List.length_map, List.length_range] at hi hj
    rw [List.getElem_map, List.getElem_map, List.getElem_range, List.getElem_range]
    exact inj i j hij hj
  have lt : ∀ x ∈ (List.range N).map g, x < N := fun x hx => by
    obtain ⟨i, hi, rfl⟩ := List.mem_map.mp hx
    exact h i (List.mem_range.mp hi)
  refine (List.perm_ext_iff_of_nodup nd List.nodup_range).mpr fun a => ⟨fun ha => List.mem_range.mpr (lt a ha), fun ha => ?_⟩
  refine Classical.byContradiction fun hn => ?_
  have := pig N (a :: (List.range N).map g) (List.nodup_cons.mpr ⟨hn, nd⟩) fun x hx => by
    rcases List.mem_cons.mp hx with rfl | hx
    · exact List.mem_range.mp ha
    · exact lt x hx
  rw [List.length_cons, List.length_map, List.length_range] at this
  omega
theorem range_getD {α : Type} (l : List α) (d : α) : (List.range l.length).map (fun i => l.getD i d) = l := by
  apply List.ext_getElem?
  intro i
  rw [List.getElem?_map]
  by_cases c : i < l.length
  · rw [List.getElem?_range c]
    show some (l.getD i d) = _
    rw [List.getD_eq_getElem?_getD, List.getElem?_eq_getElem c]; rfl
  · rw [List.getElem?_eq_none (by rw [List.length_range]; omega), List.getElem?_eq_none (by omega)]; rfl
noncomputable def tsA : List A -> Option (List (List Int))
  | [] => some []
  | .tup xs :: r => match A.ints xs with
    | some (k :: ks) => (tsA r).map fun rs => (k :: ks) :: rs
    | _ => none
  | _ => none
theorem avs_at {K : PySem.W.Frag} {ρ : List Addr} {H : Hp} {α : Type} {f : α -> A} {h : α -> V} : ∀ {l : List α}, (∀ a ∈ l, AV K ρ H (f a) (h a)) -> AVs K ρ H (l.map f) (l.map h)
  | [], _ => .nil
  | a :: l, e => .cons (e a (List.mem_cons_self ..)) (avs_at fun b hb => e b (List.mem_cons_of_mem _ hb))
section
variable {X : Cx}
noncomputable def aSortT (n : Nat) (S : Sto) : R A := opt (lstAt S n) fun xs => opt (tsA xs) fun kss => .ok (.ref S.length) (S ++ [.lst ((sortT kss).map fun ks => .tup (ks.map .int))])
noncomputable def isT (x : A) (S : Sto) : Bool := match x with
  | .ref n => match lstAt S n with
    | some (.tup _ :: _) => true
    | _ => false
  | _ => false
noncomputable def aSort (x : A) (S : Sto) : R A := match isT x S with
  | false => aSortI x S
  | true => match x with
    | .ref n => aSortT n S
    | _ => .no
end
end Am
set_option Elab.async false
set_option linter.all false
set_option maxRecDepth 100000
set_option maxHeartbeats 4000000
namespace Am
open PySem PySem.Spec PyProof.Rows L2
noncomputable def insX (k : Nat -> List Int) (i : Nat) : List Nat -> List Nat
  | [] => [i]
  | j :: js => if HT.lexLt (k j) (k i) = true then j :: insX k i js else i :: j :: js
noncomputable def ordX (k : Nat -> List Int) : List Nat -> List Nat
  | [] => []
  | i :: is => insX k i (ordX k is)
theorem insX_perm (k : Nat -> List Int) (i : Nat) : ∀ js : List Nat, (insX k i js).Perm (i :: js)
  | [] => List.Perm.refl _
  | j :: js => by
    unfold insX
    by_cases h : HT.lexLt (k j) (k i) = true
    · rw [if_pos h]; exact ((insX_perm k i js).cons j).trans (List.Perm.swap i j js)
    · rw [if_neg h]
theorem ordX_perm (k : Nat -> List Int) : ∀ is : List Nat, (ordX k is).Perm is
  | [] => List.Perm.refl _
  | i :: is => (insX_perm k i (ordX k is)).trans ((ordX_perm k is).cons i)
theorem insX_pw {kss : List (List Int)} {i : Nat} : ∀ {js : List Nat}, (∀ j ∈ js, i < j) -> js.Pairwise (Sx.P (Sx.lexO kss)) -> (insX (fun i => kss.getD i []) i js).Pairwise (Sx.P (Sx.lexO kss))
  | [], _, _ => List.pairwise_singleton _ _
  | j :: js, hi, h => by
    obtain ⟨h1, h2⟩ := List.pairwise_cons.mp h
    unfold insX
    by_cases c : HT.lexLt (kss.getD j []) (kss.getD i []) = true
    · rw [if_pos c]
      refine List.pairwise_cons.mpr ⟨fun z hz => ?_, insX_pw (fun j' hj' => hi j' (List.mem_cons_of_mem _ hj')) h2⟩
      rcases List.mem_cons.mp ((insX_perm _ i js).mem_iff.mp hz) with e | hz
      · subst e; exact .inl c
      · exact h1 z hz
    · rw [if_neg c]
      have p : Sx.P (Sx.lexO kss) i j := .inr ⟨by show HT.lexLt _ _ = false; simpa using c, hi j (List.mem_cons_self ..)⟩
      exact List.pairwise_cons.mpr ⟨fun z hz => (List.mem_cons.mp hz).elim (fun e => e ▸ p) fun hz => p.trans (h1 z hz), h⟩
theorem ordX_pw {kss : List (List Int)} : ∀ {is : List Nat}, is.Pairwise (· < ·) -> (ordX (fun i => kss.getD i []) is).Pairwise (Sx.P (Sx.lexO kss))
  | [], _ => List.Pairwise.nil
  | i :: is, h => by
    obtain ⟨h1, h2⟩ := List.pairwise_cons.mp h
    exact insX_pw (fun j hj => h1 j ((ordX_perm _ is).mem_iff.mp hj)) (ordX_pw h2)
noncomputable def plX (kss : List (List Int)) : List Nat := ordX (fun i => kss.getD i []) (List.range kss.length)
theorem plX_g {kss : List (List Int)} {g : Nat -> Nat} (c : Sx.Cl g 0 kss.length) (so : Sx.So (Sx.lexO kss) g 0 kss.length) : (List.range kss.length).map g = plX kss := by
  refine List.Perm.eq_of_pairwise (fun a b _ _ h1 h2 => absurd (h1.trans h2) fun z => z.irr) ?_ (ordX_pw (List.pairwise_lt_range)) ?_
  · rw [List.pairwise_iff_getElem]
    intro i j hi hj hij
    rw [List.length_map, List.length_range] at hi hj
    rw [List.getElem_map, List.getElem_map, List.getElem_range, List.getElem_range]
    exact so i j (Nat.zero_le _) hij hj
  · exact (perm_range (fun i hi => (c i (Nat.zero_le _) hi).2) fun i j hij hj z => by
      have := so i j (Nat.zero_le _) hij hj
      rw [z] at this
      exact this.irr).trans (ordX_perm _ _).symm
theorem plX_sort (kss : List (List Int)) : (plX kss).map (fun i => kss.getD i []) = sortT kss := by
  refine sortT_uniq ?_ ?_
  · have := (ordX_perm (fun i => kss.getD i []) (List.range kss.length)).map fun i => kss.getD i []
    rw [range_getD] at this
    exact this
  · have := ordX_pw (kss := kss) (is := List.range kss.length) List.pairwise_lt_range
    unfold plX
    rw [List.pairwise_map]
    exact this.imp fun h => h.ge
noncomputable def rsA (S : Sto) : List A -> Option (List (List Int))
  | [] => some []
  | .ref n :: r => (lstAt S n).bind fun xs => (A.ints xs).bind fun ks => (rsA S r).map fun rs => ks :: rs
  | _ => none
theorem rs_of {K : PySem.W.Frag} {ρ : List Addr} {H : Hp} {S : Sto} (R : Rel K ρ H S) : ∀ {xs : List A} {vs : List V} {kss : List (List Int)}, AVs K ρ H xs vs -> rsA S xs = some kss ->
    ∃ rs : List Addr, vs = rs.map V.ref /\ rs.length = kss.length /\ xs.length = kss.length /\ (∀ (i : Nat) (r : Addr) (ks : List Int), rs[i]? = some r -> kss[i]? = some ks -> SqL K H r (ks.map V.int)) /\ ∀ (i : Nat) (r : Addr) (x : A), rs[i]? = some r -> xs[i]? = some x -> AV K ρ H x (.ref r)
  | [], _, _, .nil, e => by cases e; exact ⟨[], rfl, rfl, rfl, fun i r ks h => by simp at h, fun i r x h => by simp at h⟩
  | x :: xs, _, kss, .cons h t, e => by
    cases h with
    | ref hp =>
      rename_i a n
      have e' : ((lstAt S n).bind fun xs' => (A.ints xs').bind fun ks => (rsA S xs).map fun rs => ks :: rs) = some kss := e
      obtain ⟨ys, e1, e2⟩ := Option.bind_eq_some_iff.mp e'
      obtain ⟨ks, e3, e4⟩ := Option.bind_eq_some_iff.mp e2
      obtain ⟨kss', e5, rfl⟩ := Option.map_eq_some_iff.mp e4
      obtain ⟨rs, rfl, hl, hx, hh, hv⟩ := rs_of R t e5
      obtain ⟨us, h1, r⟩ := R.lst hp (lstAt_of e1)
      have ev := ints_of r e3
      subst ev
      refine ⟨a :: rs, rfl, by rw [List.length_cons, List.length_cons, hl], by rw [List.length_cons, List.length_cons, hx], fun i r' ks' h1' h2' => ?_, fun i r' x' h1' h2' => ?_⟩
      · cases i with
        | zero =>
          cases h1'
          cases h2'
          exact SqL.of h1
        | succ i => exact hh i r' ks' (by simpa using h1') (by simpa using h2')
      · cases i with
        | zero =>
          cases h1'
          cases h2'
          exact .ref hp
        | succ i => exact hv i r' x' (by simpa using h1') (by simpa using h2')
    | _ => cases e
section
variable {X : Cx}
noncomputable def aSortR (n : Nat) (S : Sto) : R A := opt (lstAt S n) fun xs => opt (rsA S xs) fun kss => .ok (.ref S.length) (S ++ [.lst ((plX kss).map fun i => xs.getD i .non)])
theorem c_sortR (hu : X.A.units + 64 < cLine) : CallR X (.builtin "sorted") (rN X (f1 fun x S => match x with | .ref n => aSortR n S | _ => .no)) := CallR.imp (call_sortedL hu) fun vs H Q h0 => by
  obtain ⟨w, rfl, ρ, S, x, R, hv, h⟩ := rn1 h0
  clear h0
  cases hv with
  | ref hp =>
    rename_i p n
    obtain ⟨xs, hn, h⟩ := opt_post h
    obtain ⟨kss, hb, h⟩ := opt_post h
    obtain ⟨us, h1, r⟩ := R.lst hp (lstAt_of hn)
    obtain ⟨rs, rfl, hl, hx, hh, hv⟩ := rs_of R r hb
    refine ⟨p, rs, kss, rfl, SqL.of h1, hl, hh, fun l g hl' hc hs => ?_⟩
    have av : AVs X.K ρ H ((plX kss).map fun i => xs.getD i .non) (((List.range kss.length).map fun i => rs.getD (g i) 0).map V.ref) := by
      rw [<- plX_g hc hs, List.map_map, List.map_map]
      refine avs_at fun i hi => ?_
      have lt := (hc i (Nat.zero_le _) (List.mem_range.mp hi)).2
      have e1 : rs[g i]? = some (rs.getD (g i) 0) := by rw [List.getD_eq_getElem?_getD, List.getElem?_eq_getElem (by omega)]; rfl
      have e2 : xs[g i]? = some (xs.getD (g i) .non) := by rw [List.getD_eq_getElem?_getD, List.getElem?_eq_getElem (by omega)]; rfl
      exact hv _ _ _ e1 e2
    exact new_lst R av .refl h l hl'
  | _ => exact h.elim
noncomputable def aSortX (x : A) (S : Sto) : R A := match x with
  | .ref n => aSortR n S
  | _ => .no
theorem c_sortX (hu : X.A.units + 64 < cLine) : CallR X (.builtin "sorted") (rN X (f1 aSortX)) := c_sortR hu
end
end Am
set_option Elab.async false
set_option linter.all false
set_option maxRecDepth 100000
set_option maxHeartbeats 4000000
namespace Am
open PySem PySem.Spec PyProof.Rows L2
noncomputable def RS.post (r : RS) (N : List A -> Sto -> Prop) (T : A -> Sto -> Prop) (B C : List A -> Sto -> Prop) (E : Str -> Sto -> Prop) : Prop := match r with
  | .nx τ S => N τ S
  | .rt a S => T a S
  | .bk τ S => B τ S
  | .ct τ S => C τ S
  | .ex c S => E c S
  | .no => False
noncomputable def RS.of {α : Type} (r : R α) (f : α -> Sto -> RS) : RS := match r with
  | .ok a S => f a S
  | .ex c S => .ex c S
  | .no => .no
theorem of_post {α : Type} {r : R α} {f : α -> Sto -> RS} {N B C : List A -> Sto -> Prop} {T : A -> Sto -> Prop} {E : Str -> Sto -> Prop} (h : (RS.of r f).post N T B C E) : r.post (fun a S => (f a S).post N T B C E) E := by
  cases r <;> exact h
theorem RS.mono {r : RS} {N B C N' B' C' : List A -> Sto -> Prop} {T T' : A -> Sto -> Prop} {E E' : Str -> Sto -> Prop} (h : r.post N T B C E) (hn : ∀ τ S, N τ S -> N' τ S) (ht : ∀ a S, T a S -> T' a S) (hb : ∀ τ S, B τ S -> B' τ S) (hc : ∀ τ S, C τ S -> C' τ S) (he : ∀ c S, E c S -> E' c S) : r.post N' T' B' C' E' := by
  cases r with
  | nx τ S => exact hn _ _ h
  | rt a S => exact ht _ _ h
  | bk τ S => exact hb _ _ h
  | ct τ S => exact hc _ _ h
  | ex c S => exact he _ _ h
  | no => exact h.elim
noncomputable def nxP (X : Cx) (ρ : List Addr) (H : Hp) (N : L2.St -> Hp -> Prop) : List A -> Sto -> Prop := fun τ' S' => ∀ ρ' H' σ', Ext ρ ρ' H H' -> Rel X.K ρ' H' S' -> SR X.K ρ' H' τ' σ' -> N σ' H'
theorem nxP.ext {X : Cx} {ρ ρ' : List Addr} {H H' : Hp} {N : L2.St -> Hp -> Prop} {τ : List A} {S : Sto} (h : nxP X ρ H N τ S) (e : Ext ρ ρ' H H') : nxP X ρ' H' N τ S := fun ρ2 H2 σ2 e2 => h ρ2 H2 σ2 (e.trans e2)
noncomputable def enP (X : Cx) (ρ : List Addr) (H : Hp) (D : Ends) (r : RS) : Prop := r.post (nxP X ρ H D.nx) (okP X ρ H D.rt) (nxP X ρ H D.bk) (nxP X ρ H D.ct) (XE X ρ H)
theorem enP.ext {X : Cx} {ρ ρ' : List Addr} {H H' : Hp} {D : Ends} {r : RS} (h : enP X ρ H D r) (e : Ext ρ ρ' H H') : enP X ρ' H' D r := RS.mono h (fun _ _ z => z.ext e) (fun _ _ z => z.ext e) (fun _ _ z => z.ext e) (fun _ _ z => z.ext e) fun _ _ z => z.ext e
noncomputable def tS (X : Cx) (c : Sm) : TS := fun D σ H => ∃ ρ S τ, Rel X.K ρ H S /\ SR X.K ρ H τ σ /\ enP X ρ H D (c τ S)
noncomputable def AS (X : Cx) (st : Stmt) (c : Sm) : Prop := PS X st (tS X c)
noncomputable def ASs (X : Cx) (sts : List Stmt) (c : Sm) : Prop := PSs X sts (tS X c)
noncomputable def tG (X : Cx) (g : Tg) : TG := fun v σ H Q => ∃ ρ S τ a, Rel X.K ρ H S /\ SR X.K ρ H τ σ /\ AV X.K ρ H a v /\ (g a τ S).post (nxP X ρ H Q) (XE X ρ H)
noncomputable def AG (X : Cx) (e : Expr) (g : Tg) : Prop := PG X e (tG X g)
noncomputable abbrev Tgs := List A -> List A -> Sto -> R (List A)
noncomputable def tGs (X : Cx) (g : Tgs) : TGs := fun vs σ H Q => ∃ ρ S τ as, Rel X.K ρ H S /\ SR X.K ρ H τ σ /\ AVs X.K ρ H as vs /\ (g as τ S).post (nxP X ρ H Q) (XE X ρ H)
noncomputable def AGs (X : Cx) (es : List Expr) (g : Tgs) : Prop := PGs X es (tGs X g)
section
variable {X : Cx} {pos : Pos} {a b e : Expr} {st : Stmt} {rest : List Stmt} {c d : Sm}
theorem PS.imp {t t' : TS} (h : PS X st t) (i : ∀ D σ H, t' D σ H -> t D σ H) : PS X st t' := fun pins s σ H D I q => h pins s σ H D I (i D σ H q)
theorem PSs.imp {t t' : TS} (h : PSs X rest t) (i : ∀ D σ H, t' D σ H -> t D σ H) : PSs X rest t' := fun pins s σ H D I q => h pins s σ H D I (i D σ H q)
theorem PG.imp {t t' : TG} (h : PG X e t) (i : ∀ v σ H Q, t' v σ H Q -> t v σ H Q) : PG X e t' := fun pins s σ H v u Q I r q => h pins s σ H v u Q I r (i _ _ _ _ q)
noncomputable def gNm (i : Nat) : Tg := fun a τ S => .ok (τ.set i a) S
theorem ag_name {i : Nat} {x : Str} (hN : X.N.Nodup) (hi : X.N[i]? = some x := by rfl) (hx : Loc X.env.scope x := by first | exact Or.inl rfl | exact Or.inr rfl) (hf : X.fn x = true \/ X.env.scope.names.lookup x = some .local := by first | exact .inl rfl | exact .inr rfl | assumption) : AG X (.Name x pos) (gNm i) :=
  PG.imp (pg_name hN hi hx hf) fun v σ H Q ⟨ρ, S, τ, a, R, r, va, h⟩ => h ρ H _ .refl R (r.set va)
noncomputable def gNl : Tgs := fun as τ S => match as with
  | [] => .ok τ S
  | _ => .no
noncomputable def gCn (g : Tg) (gs : Tgs) : Tgs := fun as τ S => match as with
  | a :: as => (g a τ S).bind fun τ1 S1 => gs as τ1 S1
  | [] => .no
theorem ags_nil : AGs X [] gNl := fun pins s σ H vs us Q I r ⟨ρ, S, τ, as, R, sr, va, h⟩ => pgs_nil pins s σ H vs us Q I r (by
  cases va with
  | nil => exact ⟨rfl, h ρ H σ .refl R sr⟩
  | cons _ _ => exact h.elim)
theorem ags_cons {es : List Expr} {g : Tg} {gs : Tgs} (h1 : AG X e g) (h2 : AGs X es gs) (hs : (assignEach (e :: es) X.env).map (·.2) = assign e X.env :: (assignEach es X.env).map (·.2) := by rfl) : AGs X (e :: es) (gCn g gs) :=
  fun pins s σ H vs us Q I r ⟨ρ, S, τ, as, R, sr, va, h⟩ => pgs_cons h1 h2 hs pins s σ H vs us Q I r (by
    cases va with
    | nil => exact h.elim
    | cons ha hr => exact ⟨_, _, rfl, ρ, S, τ, _, R, sr, ha, post_ext (post_bind h) .refl fun τ1 S1 h1 ρ1 H1 σ1 e1 R1 sr1 => ⟨ρ1, S1, τ1, _, R1, sr1, hr.ext e1, post_ext h1 e1 fun _ _ z => z.ext e1⟩⟩)
noncomputable def gTp (n : Nat) (gs : Tgs) : Tg := fun a τ S => match a with
  | .tup xs => gd (xs.length = n) (gs xs τ S)
  | _ => .no
theorem ag_tup {es : List Expr} {k n : Nat} {gs : Tgs} (hc : X.calm = true) (h : AGs X es gs) (hn : (assignEach es X.env).length = n := by rfl) (hst : (assignEach es X.env).findIdx? (·.1) = none := by rfl) : AG X (.Tuple es k pos) (gTp n gs) :=
  PG.imp (pg_tup hc h hn hst) fun v σ H Q ⟨ρ, S, τ, a, R, r, va, h⟩ => by
    cases va with
    | tup h1 r1 =>
      obtain ⟨hl, h⟩ := gd_post h
      exact ⟨_, _, rfl, SqT.of h1, by rw [<- r1.length]; exact hl, ρ, S, τ, _, R, r, r1, h⟩
    | _ => exact h.elim
noncomputable def aSet (o i v : A) (S : Sto) : R Unit := match o, i with
  | .ref n, .int k => opt (lstAt S n) fun xs => opt (ixN xs.length k) fun j => .ok () (S.set n (.lst (xs.set j v)))
  | _, _ => .no
noncomputable def rSt (X : Cx) : TSet := fun o i v H Q => ∃ ρ S ao ai av, Rel X.K ρ H S /\ AV X.K ρ H ao o /\ AV X.K ρ H ai i /\ AV X.K ρ H av v /\ (aSet ao ai av S).post (fun _ S' => ∀ ρ' H', Ext ρ ρ' H H' -> Rel X.K ρ' H' S' -> Q H') (XE X ρ H)
theorem set_any : PSet X (rSt X) := fun pins s σ H o i v ov iv u Q I ro ri rv ⟨ρ, S, ao, ai, av, R, h1, h2, h3, h⟩ => by
  cases h1 with
  | @ref p n hp =>
    cases h2 with
    | int k =>
      obtain ⟨xs, hn, h⟩ := opt_post h
      obtain ⟨j, hj, h⟩ := opt_post h
      obtain ⟨vs, e, r⟩ := R.lst hp (lstAt_of hn)
      obtain ⟨ex, R'⟩ := R.put hp (lstAt_of hn) (r.set h3 j)
      exact set_list pins s σ H _ _ v ov iv u Q I ro ri rv ⟨p, vs, k, j, rfl, rfl, e, by rw [<- r.length]; exact hj, h _ _ ex R'⟩
    | _ => exact h.elim
  | _ => exact h.elim
noncomputable def gSb (co ci : Ex) : Tg := fun a τ S => (co τ S).bind fun o S1 => (ci τ S1).bind fun i S2 => (aSet o i a S2).bind fun _ S3 => .ok τ S3
theorem ag_sub {o i : Expr} {co ci : Ex} (ho : AE X o co) (hi : AE X i ci)
    (ha : ∀ v, assign (.Subscript o i pos) X.env v = (do
      let ov <- holding [v] (eval o X.env)
      let iv <- holding [v, ov] (eval i X.env)
      standAt pos
      holding [v, ov, iv] (setItem ov iv v)
      release [v, ov, iv] []) := by intro _; rfl) : AG X (.Subscript o i pos) (gSb co ci) := PG.imp (pg_sub ho hi set_any ha) fun v σ H Q ⟨ρ, S, τ, a, R, r, va, h⟩ => by
  refine ⟨ρ, S, τ, R, r, post_ext (post_bind h) .refl fun o S1 h1 ρ1 H1 x e1 R1 v1 => ⟨ρ1, S1, τ, R1, r.ext e1, post_ext (post_bind h1) e1 fun i S2 h2 ρ2 H2 y e2 R2 v2 => ?_⟩⟩
  refine ⟨ρ2, S2, o, i, a, R2, v1.ext e2, v2, va.ext (e1.trans e2), post_ext (post_bind h2) (e1.trans e2) fun _ S3 h3 ρ3 H3 e3 R3 => ?_⟩
  exact h3 ρ3 H3 σ ((e1.trans e2).trans e3) R3 (r.ext ((e1.trans e2).trans e3))
noncomputable def sNil : Sm := fun τ S => .nx τ S
noncomputable def sSeq (c d : Sm) : Sm := fun τ S => match c τ S with
  | .nx τ' S' => d τ' S'
  | r => r
theorem ass_nil : ASs X [] sNil := PSs.imp pss_nil fun D σ H ⟨ρ, S, τ, R, r, h⟩ => h ρ H σ .refl R r
theorem seq_imp {D : Ends} {σ : L2.St} {H : Hp} (h : tS X (sSeq c d) D σ H) : tSeq (tS X c) (tS X d) D σ H := by
  obtain ⟨ρ, S, τ, R, r, h⟩ := h
  refine ⟨ρ, S, τ, R, r, ?_⟩
  unfold sSeq at h
  cases hc : c τ S with
  | nx τ1 S1 =>
    rw [hc] at h
    exact fun ρ1 H1 σ1 e1 R1 r1 => ⟨ρ1, S1, τ1, R1, r1, enP.ext h e1⟩
  | rt a S1 => rw [hc] at h; exact h
  | bk τ1 S1 => rw [hc] at h; exact h
  | ct τ1 S1 => rw [hc] at h; exact h
  | ex x S1 => rw [hc] at h; exact h
  | no => rw [hc] at h; exact h
theorem ass_cons (h1 : AS X st c) (h2 : ASs X rest d) : ASs X (st :: rest) (sSeq c d) := PSs.imp (pss_cons h1 h2) fun D σ H h => seq_imp h
theorem ass_one (h1 : AS X st c) : ASs X [st] c := pss_one h1
noncomputable def sBreak : Sm := fun τ S => .bk τ S
noncomputable def sCont : Sm := fun τ S => .ct τ S
noncomputable def sExpr (e : Ex) : Sm := fun τ S => .of (e τ S) fun _ S1 => .nx τ S1
theorem as_expr {f : Ex} (he : AE X e f) (hs : swapsWith e none pos.line X.env = pure false := by rfl) : AS X (.Expr e pos) (sExpr f) := PS.imp (ps_expr he hs) fun D σ H ⟨ρ, S, τ, R, r, h⟩ =>
  ⟨ρ, S, τ, R, r, post_ext (of_post h) .refl fun a S1 h1 ρ1 H1 x e1 R1 v1 => h1 ρ1 H1 σ e1 R1 (r.ext e1)⟩
noncomputable def sRet (e : Ex) : Sm := fun τ S => .of (e τ S) fun a S1 => .rt a S1
theorem as_ret {f : Ex} (he : AE X e f) : AS X (.Return (some e) pos) (sRet f) := PS.imp (ps_ret he) fun D σ H ⟨ρ, S, τ, R, r, h⟩ => ⟨ρ, S, τ, R, r, post_ext (of_post h) .refl fun a S1 h1 => h1⟩
noncomputable def sRetN : Sm := fun τ S => .rt .non S
noncomputable def sIf (t : Te) (c d : Sm) : Sm := fun τ S => .of (t τ S) fun b S1 => match b with | true => c τ S1 | false => d τ S1
theorem as_if {t : Te} {ca cb : List Stmt} (ht : AT X e t) (ha : ASs X ca c) (hb : ASs X cb d) : AS X (.If e ca cb pos) (sIf t c d) := PS.imp (ps_if ht ha hb) fun D σ H ⟨ρ, S, τ, R, r, h⟩ => by
  refine ⟨ρ, S, τ, R, r, post_ext (of_post h) .refl fun b S1 h1 ρ1 H1 e1 R1 => ?_⟩
  cases b with
  | true => rw [if_pos rfl]; exact ⟨ρ1, S1, τ, R1, r.ext e1, enP.ext h1 e1⟩
  | false => rw [if_neg Bool.false_ne_true]; exact ⟨ρ1, S1, τ, R1, r.ext e1, enP.ext h1 e1⟩
noncomputable def sAsg (e : Ex) (g : Tg) : Sm := fun τ S => .of (e τ S) fun a S1 => .of (g a τ S1) fun τ' S2 => .nx τ' S2
theorem asg_imp {f : Ex} {g : Tg} {D : Ends} {σ : L2.St} {H : Hp} (h : tS X (sAsg f g) D σ H) : tAsg (tE X f) (tG X g) D σ H := by
  obtain ⟨ρ, S, τ, R, r, h⟩ := h
  exact ⟨ρ, S, τ, R, r, post_ext (of_post h) .refl fun a S1 h1 ρ1 H1 x e1 R1 v1 => ⟨ρ1, S1, τ, a, R1, r.ext e1, v1, post_ext (of_post h1) e1 fun τ2 S2 h2 => nxP.ext h2 e1⟩⟩
theorem as_asg {tg : Expr} {f : Ex} {g : Tg} (he : AE X e f) (hg : AG X tg g) (hs : swapsWithSole [tg] e pos.line X.env = pure false := by rfl) (hw : swappedStores [tg] e X.env = pure none := by rfl)
    (h1 : (assignEach [tg] X.env).map (·.2) = [assign tg X.env] := by rfl) : AS X (.Assign [tg] e pos) (sAsg f g) := PS.imp (ps_asg he hg hs hw h1) fun D σ H h => asg_imp h
theorem as_set {i : Nat} {x : Str} {f : Ex} {pos' : Pos} (hN : X.N.Nodup) (he : AE X e f) (hi : X.N[i]? = some x := by rfl) (hx : Loc X.env.scope x := by first | exact Or.inl rfl | exact Or.inr rfl) (hs : swapsWith e (some (.Name x pos')) pos.line X.env = pure false := by rfl) (hf : X.fn x = true \/ X.env.scope.names.lookup x = some .local := by first | exact .inl rfl | exact .inr rfl | assumption) :
    AS X (.Assign [.Name x pos'] e pos) (sAsg f (gNm i)) := PS.imp (ps_set hN hi hx he hs hf) fun D σ H ⟨ρ, S, τ, R, r, h⟩ =>
  ⟨ρ, S, τ, R, r, post_ext (of_post h) .refl fun a S1 h1 ρ1 H1 x e1 R1 v1 => h1 ρ1 H1 _ e1 R1 ((r.ext e1).set v1)⟩
noncomputable def sPar (i j : Nat) (c : Exs) : Sm := fun τ S => .of (c τ S) fun as S1 => match as with
  | [a, b] => .nx ((τ.set i a).set j b) S1
  | _ => .no
noncomputable def ip (X : Cx) (f : A -> A -> Sto -> R A) : TIp := fun x y H Q => ∃ ρ S a b, Rel X.K ρ H S /\ AV X.K ρ H a x /\ AV X.K ρ H b y /\ (f a b S).post (okP X ρ H Q) (XE X ρ H)
noncomputable def iAdd (a b : A) (S : Sto) : R A := match a, b with
  | .int i, .int j => .ok (.int (i + j)) S
  | _, _ => .no
theorem ip_addA : PIp X .Add (ip X iAdd) := fun pins s σ H x y v u Q I r1 r2 ⟨ρ, S, a, b, R, va, vb, h⟩ => by
  cases va with
  | int i =>
    cases vb with
    | int j => exact ip_add pins s σ H _ _ v u Q I r1 r2 ⟨i, j, rfl, rfl, h _ _ _ .refl R (.int _)⟩
    | _ => exact h.elim
  | _ => exact h.elim
noncomputable def sAug (i : Nat) (f : A -> A -> Sto -> R A) (e : Ex) : Sm := fun τ S => if (τ.getD i .unb).isUnb then .no else .of (e τ S) fun b S1 => .of (f (τ.getD i .unb) b S1) fun c S2 => .nx (τ.set i c) S2
theorem as_aug {i : Nat} {x : Str} {c : Ex} {op : Operator} {f : A -> A -> Sto -> R A} {pos' : Pos} (hN : X.N.Nodup) (he : AE X e c) (ho : PIp X op (ip X f)) (hi : X.N[i]? = some x := by rfl) (hx : Loc X.env.scope x := by first | exact Or.inl rfl | exact Or.inr rfl) (hf : X.fn x = true \/ X.env.scope.names.lookup x = some .local := by first | exact .inl rfl | exact .inr rfl | assumption) :
    AS X (.AugAssign (.Name x pos') op e pos) (sAug i f c) := PS.imp (ps_aug hN hi hx he ho hf) fun D σ H ⟨ρ, S, τ, R, r, h⟩ => by
  have key : ∀ x, τ[i]? = some x -> x.isUnb = false -> (RS.of (c τ S) fun b S1 => .of (f x b S1) fun c S2 => .nx (τ.set i c) S2).post (nxP X ρ H D.nx) (okP X ρ H D.rt) (nxP X ρ H D.bk) (nxP X ρ H D.ct) (XE X ρ H) ->
      ∃ x, σ[i]? = some (some x) /\ tE X c σ H fun y H1 => ip X f x y H1 fun z H2 => D.nx (σ.set i (some z)) H2 := by
    intro x hi hx h
    rcases r.at i x hi with z | ⟨v, e, q⟩
    · subst z; cases hx
    · refine ⟨v, e, ρ, S, τ, R, r, post_ext (of_post h) .refl fun b S1 h1 ρ1 H1 y e1 R1 v1 => ⟨ρ1, S1, x, b, R1, q.ext e1, v1, post_ext (of_post h1) e1 fun w S2 h2 ρ2 H2 z e2 R2 v2 => ?_⟩⟩
      exact h2 ρ2 H2 _ (e1.trans e2) R2 ((r.ext (e1.trans e2)).set v2)
  unfold sAug enP at h
  rw [List.getD_eq_getElem?_getD] at h
  cases hi : τ[i]? with
  | none => rw [hi] at h; exact h.elim
  | some x =>
    rw [hi] at h
    cases hx : x.isUnb with
    | true => rw [show (some x).getD .unb = x from rfl, hx] at h; exact h.elim
    | false => rw [show (some x).getD .unb = x from rfl, hx] at h; exact key x hi hx h
noncomputable def aGet (a b : A) (S : Sto) : R A := match a, b with
  | .ref n, .int i => opt (lstAt S n) fun xs => gd (0 <= i) (opt (xs[i.toNat]?) fun x => .ok x S)
  | _, _ => .no
noncomputable def sAugS (co ci ce : Ex) (f : A -> A -> Sto -> R A) : Sm := fun τ S => .of (co τ S) fun o S1 => .of (ci τ S1) fun i S2 => .of (aGet o i S2) fun x S3 => .of (ce τ S3) fun y S4 => .of (f x y S4) fun z S5 => .of (aSet o i z S5) fun _ S6 => .nx τ S6
noncomputable def sWhile (t : Te) (c : Sm) : Nat -> Sm
  | 0 => fun _ _ => .no
  | n + 1 => fun τ S => .of (t τ S) fun b S1 => match b with
    | false => .nx τ S1
    | true => match c τ S1 with
      | .nx τ' S' => sWhile t c n τ' S'
      | .ct τ' S' => sWhile t c n τ' S'
      | .bk τ' S' => .nx τ' S'
      | r => r
theorem as_while (n : Nat) {t : Te} {body : List Stmt} (hp : PassesOwn (model X.prog X.w) X.A X.env X.xe) (ht : AT X e t) (hb : ASs X body c) : AS X (.While e body [] pos) (sWhile t c n) := PS.imp (ps_while hp ht hb) fun D σ H ⟨ρ, S, τ, R, r, h⟩ => by
  refine ⟨fun m σ' H' => ∃ ρ' S' τ', Ext ρ ρ' H H' /\ Rel X.K ρ' H' S' /\ SR X.K ρ' H' τ' σ' /\ enP X ρ' H' D (sWhile t c m τ' S'), ⟨n, ρ, S, τ, .refl, R, r, h⟩, ?_⟩
  rintro m σ1 H1 ⟨ρ1, S1, τ1, e1, R1, r1, h1⟩
  cases m with
  | zero => exact h1.elim
  | succ m =>
    refine ⟨ρ1, S1, τ1, R1, r1, post_ext (of_post h1) .refl fun b S2 h2 ρ2 H2 e2 R2 => ?_⟩
    cases b with
    | false => rw [if_neg Bool.false_ne_true]; exact h2 ρ2 H2 σ1 e2 R2 (r1.ext e2)
    | true =>
      rw [if_pos rfl]
      refine ⟨fun σ' H' => ∃ ρ' S' τ', Ext ρ ρ' H H' /\ Rel X.K ρ' H' S' /\ SR X.K ρ' H' τ' σ' /\ enP X ρ' H' D (sWhile t c m τ' S'), fun σ' H' z => ⟨m, Nat.lt_succ_self _, z⟩, ρ2, S2, τ1, R2, r1.ext e2, ?_⟩
      have h2 : enP X ρ1 H1 D (match c τ1 S2 with
        | .nx τ' S' => sWhile t c m τ' S'
        | .ct τ' S' => sWhile t c m τ' S'
        | .bk τ' S' => .nx τ' S'
        | r => r) := h2
      cases hc : c τ1 S2 with
      | nx τ3 S3 => rw [hc] at h2; exact fun ρ3 H3 σ3 e3 R3 r3 => ⟨ρ3, S3, τ3, (e1.trans e2).trans e3, R3, r3, enP.ext h2 (e2.trans e3)⟩
      | ct τ3 S3 => rw [hc] at h2; exact fun ρ3 H3 σ3 e3 R3 r3 => ⟨ρ3, S3, τ3, (e1.trans e2).trans e3, R3, r3, enP.ext h2 (e2.trans e3)⟩
      | bk τ3 S3 => rw [hc] at h2; exact nxP.ext h2 e2
      | rt a S3 => rw [hc] at h2; exact okP.ext h2 e2
      | ex x S3 => rw [hc] at h2; exact XE.ext h2 e2
      | no => rw [hc] at h2; exact h2
end
end Am
set_option Elab.async false
set_option linter.all false
set_option maxRecDepth 100000
set_option maxHeartbeats 4000000
namespace L2
open PySem PySem.Spec PyProof.Rows
section
variable {X : Cx}
noncomputable def tPar3 (i j k : Nat) (ta : TA) : TS := fun D σ H => ta σ H fun vs H1 => ∃ u v w, vs = [u, v, w] /\ D.nx (((σ.set i (some u)).set j (some v)).set k (some w)) H1
theorem ps_par3 {i j k : Nat} {x y z : Str} {a b c : Expr} {ta : TA} {px py pz pt : Pos} {kt k2 pt2} (hc : X.calm = true) (hN : X.N.Nodup) (hi : X.N[i]? = some x) (hj : X.N[j]? = some y) (hk : X.N[k]? = some z) (hij : i ≠ j) (hik : i ≠ k) (hjk : j ≠ k)
    (hx : X.env.scope.names.lookup x = some .local) (hy : X.env.scope.names.lookup y = some .local) (hz : X.env.scope.names.lookup z = some .local) (ha : PA X [a, b, c] ta)
    (hw : swappedStores [.Tuple [.Name x px, .Name y py, .Name z pz] kt pt] (.Tuple [a, b, c] k2 pt2) X.env = pure (some [x, y, z]))
    (hs : swapsWithSole [.Tuple [.Name x px, .Name y py, .Name z pz] kt pt] (.Tuple [a, b, c] k2 pt2) pos.line X.env = pure false := by rfl) :
    PS X (.Assign [.Tuple [.Name x px, .Name y py, .Name z pz] kt pt] (.Tuple [a, b, c] k2 pt2) pos) (tPar3 i j k ta) := by
  intro pins s σ H D I h
  rw [exec_Assign_arm]
  refine wpAny_bind (wpAny_standAt ?_)
  rw [hs]
  refine wpAny_bind (wpAny_pure ?_)
  rw [if_neg (by decide)]
  refine wpAny_bind (Tuple_ (thn (ha _ pins s σ H _ I h) fun us s1 ⟨vs, H1, I1, r1, q1⟩ => ?_))
  obtain ⟨u, v, w, e1, q1⟩ := q1
  subst e1
  obtain ⟨u1, u2, u3, rfl, ru, rv, rw'⟩ : ∃ u1 u2 u3, us = [u1, u2, u3] /\ RelV u u1 /\ RelV v u2 /\ RelV w u3 := by
    cases r1 with
    | cons p q =>
      cases q with
      | cons p' q' =>
        cases q' with
        | cons p'' q'' =>
          cases q''
          exact ⟨_, _, _, rfl, p, p', p''⟩
  refine wpAny_newObj_type ?_ (by show 3 <= sizeLine; decide)
  have I2 : Inv X pins σ H1 { s1 with heap := s1.heap.push { cls := .type "tuple", data := .seq [u1, u2, u3].toArray } } := I1.kept (t' := s1.toks) fun b o e => Heap.get?_push_of_some _ e
  rw [hw]
  refine wpAny_bind (wpAny_pure ?_)
  show wpAny (model X.prog X.w) X.A (do rule "assign.swapped-stores"; let items <- unpackItems (.ref s1.heap.objs.size) 3 none; assignInOrder [fun v => bindName X.env z v, fun v => bindName X.env y v, fun v => bindName X.env x v] items.reverse; pure Flow.next) _ _ _
  refine wpAny_bind (wpAny_rule (wpAny_bind (unpackItems_tuple (items := #[u1, u2, u3]) (I.ok.hd hc) (IsTup.new s1.heap _) fun h' hx' => ?_)))
  have I3 := I2.kept (h' := h') (t' := s1.toks) fun b o e => hx' b o (Nat.ne_of_lt (Heap.lt_size e)) e
  show wpAny _ _ (assignInOrder [fun v => bindName X.env z v, fun v => bindName X.env y v, fun v => bindName X.env x v] [u3, u2, u1] >>= fun _ => pure Flow.next) _ _ _
  refine wpAny_bind (assignInOrder_cons (wpAny_bindName (store_ok I3 hN hk (.inl hz) rw' (fun s2 I4 => ?_) (.inr hz))))
  refine assignInOrder_cons (wpAny_bindName (store_ok I4 hN hj (.inl hy) rv (fun s3 I5 => ?_) (.inr hy)))
  refine assignInOrder_cons (wpAny_bindName (store_ok I5 hN hi (.inl hx) ru (fun s4 I6 => assignInOrder_nil (wpAny_pure ?_)) (.inr hx)))
  rw [List.set_comm _ _ (Ne.symm hij), List.set_comm _ _ (Ne.symm hik), List.set_comm _ _ (Ne.symm hjk)] at I6
  exact ⟨_, H1, I6, q1⟩
end
end L2
namespace Am
open PySem PySem.Spec PyProof.Rows L2
section
variable {X : Cx}
noncomputable def sPar3 (i j k : Nat) (c : Exs) : Sm := fun τ S => .of (c τ S) fun as S1 => match as with
  | [a, b, d] => .nx (((τ.set i a).set j b).set k d) S1
  | _ => .no
theorem sPar3_ap {i j k : Nat} {c : Exs} {τ : List A} {S S1 : Sto} {a b d : A} (h : c τ S = .ok [a, b, d] S1) : sPar3 i j k c τ S = .nx (((τ.set i a).set j b).set k d) S1 := by
  unfold sPar3; rw [h]; rfl
theorem as_par3 {i j k : Nat} {x y z : Str} {a b c : Expr} {f : Exs} {px py pz pt : Pos} {kt k2 pt2} (hc : X.calm = true) (hN : X.N.Nodup) (ha : AL X [a, b, c] f) (hi : X.N[i]? = some x := by rfl) (hj : X.N[j]? = some y := by rfl) (hk : X.N[k]? = some z := by rfl) (hij : i ≠ j := by decide) (hik : i ≠ k := by decide) (hjk : j ≠ k := by decide)
    (hx : X.env.scope.names.lookup x = some .local := by rfl) (hy : X.env.scope.names.lookup y = some .local := by rfl) (hz : X.env.scope.names.lookup z = some .local := by rfl)
    (hw : swappedStores [.Tuple [.Name x px, .Name y py, .Name z pz] kt pt] (.Tuple [a, b, c] k2 pt2) X.env = pure (some [x, y, z]) := by rfl)
    (hs : swapsWithSole [.Tuple [.Name x px, .Name y py, .Name z pz] kt pt] (.Tuple [a, b, c] k2 pt2) pos.line X.env = pure false := by rfl) :
    AS X (.Assign [.Tuple [.Name x px, .Name y py, .Name z pz] kt pt] (.Tuple [a, b, c] k2 pt2) pos) (sPar3 i j k f) := PS.imp (ps_par3 hc hN hi hj hk hij hik hjk hx hy hz ha hw hs) fun D σ H ⟨ρ, S, τ, R, r, h⟩ => by
  refine ⟨ρ, S, τ, R, r, post_ext (of_post h) .refl fun as S1 h1 ρ1 H1 vs e1 R1 v1 => ?_⟩
  cases v1 with
  | nil => exact h1.elim
  | cons g1 v1 =>
    cases v1 with
    | nil => exact h1.elim
    | cons g2 v1 =>
      cases v1 with
      | nil => exact h1.elim
      | cons g3 v1 =>
        cases v1 with
        | nil => exact ⟨_, _, _, rfl, h1 ρ1 H1 _ e1 R1 ((((r.ext e1).set g1).set g2).set g3)⟩
        | cons g4 v1 => exact h1.elim
end
end Am
set_option Elab.async false
set_option linter.all false
set_option maxRecDepth 100000
set_option maxHeartbeats 4000000
namespace Am
open PySem PySem.Spec PyProof.Rows L2
structure Src where
  k : Nat
  get : Nat -> Sto -> Option A
  fin : Sto -> Bool
structure JR (K : PySem.W.Frag) (s : Src) (J : It) (ρ0 : List Addr) (H0 : Hp) : Prop where
  go : ∀ (i : Nat) (S : Sto) (H : Hp) (ρ : List Addr) (x : A), Ext0 ρ0 ρ H0 H -> Rel K ρ H S -> s.get i S = some x -> J.go i H /\ ∀ v H', J.yld i H v H' -> Ext ρ ρ H H' /\ Rel K ρ H' S /\ AV K ρ H' x v
  stop : ∀ (S : Sto) (H : Hp) (ρ : List Addr), Ext0 ρ0 ρ H0 H -> Rel K ρ H S -> s.fin S = true -> J.stop s.k H
noncomputable abbrev Ic := List A -> Sto -> R Src
noncomputable def tI (X : Cx) (c : Ic) : TI := fun σ H Q => ∃ ρ S τ, Rel X.K ρ H S /\ SR X.K ρ H τ σ /\ (c τ S).post (fun s S' => ∀ ρ' H' J, Ext ρ ρ' H H' -> Rel X.K ρ' H' S' -> JR X.K s J ρ' H' -> Q J H') (XE X ρ H)
noncomputable def AI (X : Cx) (tg iter : Expr) (c : Ic) : Prop := PI X tg iter (tI X c)
noncomputable def fixSrc (xs : List A) : Src := ⟨xs.length, fun i _ => xs[i]?, fun _ => true⟩
noncomputable def lstSrc (n k : Nat) : Src := ⟨k, fun i S => (lstAt S n).bind (·[i]?), fun S => match lstAt S n with
  | some ys => decide (ys.length <= k)
  | none => false⟩
noncomputable def rngSrc (lo hi : Int) : Src := ⟨(hi - lo).toNat, fun i _ => if i < (hi - lo).toNat then some (.int (lo + i)) else none, fun _ => true⟩
noncomputable def iVal (c : Ex) : Ic := fun τ S => (c τ S).bind fun a S1 => match a with
  | .tup xs => .ok (fixSrc xs) S1
  | .frz xs => .ok (fixSrc xs) S1
  | .ref n => opt (lstAt S1 n) fun xs => .ok (lstSrc n xs.length) S1
  | .str x => gd (x.cps.all (· < 128) = true) (.ok (fixSrc (x.cps.toList.map fun c => .str ⟨#[c]⟩)) S1)
  | _ => .no
section
variable {X : Cx} {pos : Pos} {tg e a b : Expr}
theorem jr_tup {K : PySem.W.Frag} {ρ0 : List Addr} {H0 : Hp} {p : Addr} {xs : List A} {vs : List V} (h : SqT K H0 p vs) (r : AVs K ρ0 H0 xs vs) : JR K (fixSrc xs) (Itt K p) ρ0 H0 where
  go := fun i S H ρ x e R g => by
    obtain ⟨v, ev, av⟩ := (AVs.ext0 e r).get g
    have hs := e.sqT h
    refine ⟨⟨vs, v, hs, ev⟩, fun w H' ⟨e1, y⟩ => ?_⟩
    subst e1
    have := y vs hs
    rw [ev] at this
    cases this
    exact ⟨.refl, R, av⟩
  stop := fun S H ρ e R _ => ⟨vs, e.sqT h, by rw [<- r.length]; exact Nat.le_refl _⟩
theorem jr_frz {K : PySem.W.Frag} {ρ0 : List Addr} {H0 : Hp} {p : Addr} {xs : List A} {vs : List V} (h : Fz K H0 p vs) (r : AVs K ρ0 H0 xs vs) : JR K (fixSrc xs) (Itl K p) ρ0 H0 where
  go := fun i S H ρ x e R g => by
    obtain ⟨v, ev, av⟩ := (AVs.ext0 e r).get g
    have hs := (e.fz h).sqL
    refine ⟨⟨vs, v, hs, ev⟩, fun w H' ⟨e1, y⟩ => ?_⟩
    subst e1
    have := y vs hs
    rw [ev] at this
    cases this
    exact ⟨.refl, R, av⟩
  stop := fun S H ρ e R _ => ⟨vs, (e.fz h).sqL, by rw [<- r.length]; exact Nat.le_refl _⟩
theorem jr_lst {K : PySem.W.Frag} {ρ0 : List Addr} {H0 : Hp} {p : Addr} {n k : Nat} (h : ρ0[n]? = some p) : JR K (lstSrc n k) (Itl K p) ρ0 H0 where
  go := fun i S H ρ x e R g => by
    obtain ⟨ys, hn, hx⟩ := Option.bind_eq_some_iff.mp (show (lstAt S n).bind (·[i]?) = some x from g)
    obtain ⟨vs, h1, r⟩ := R.lst (e.get h) (lstAt_of hn)
    obtain ⟨v, ev, av⟩ := r.get hx
    refine ⟨⟨vs, v, SqL.of h1, ev⟩, fun w H' ⟨e1, y⟩ => ?_⟩
    subst e1
    have := y vs (SqL.of h1)
    rw [ev] at this
    cases this
    exact ⟨.refl, R, av⟩
  stop := fun S H ρ e R g => by
    have g : (match lstAt S n with
      | some ys => decide (ys.length <= k)
      | none => false) = true := g
    cases hn : lstAt S n with
    | none => rw [hn] at g; cases g
    | some ys =>
      rw [hn] at g
      obtain ⟨vs, h1, r⟩ := R.lst (e.get h) (lstAt_of hn)
      exact ⟨vs, SqL.of h1, by rw [<- r.length]; exact of_decide_eq_true g⟩
theorem jr_rng {K : PySem.W.Frag} {ρ0 : List Addr} {H0 : Hp} {lo hi : Int} : JR K (rngSrc lo hi) (Itr lo (hi - lo).toNat) ρ0 H0 where
  go := fun i S H ρ x e R g => by
    have g : (if i < (hi - lo).toNat then some (A.int (lo + i)) else none) = some x := g
    by_cases hi' : i < (hi - lo).toNat
    · rw [if_pos hi'] at g
      cases g
      refine ⟨hi', fun w H' ⟨e1, y⟩ => ?_⟩
      subst e1 y
      exact ⟨.refl, R, .int _⟩
    · rw [if_neg hi'] at g; cases g
  stop := fun S H ρ e R _ => Nat.le_refl _
theorem jr_str {K : PySem.W.Frag} {ρ0 : List Addr} {H0 : Hp} {x : Str} : JR K (fixSrc (x.cps.toList.map fun c => A.str ⟨#[c]⟩)) (Its x) ρ0 H0 where
  go := fun i S H ρ y e R g => by
    have g : (x.cps.toList.map fun c => A.str ⟨#[c]⟩)[i]? = some y := g
    rw [List.getElem?_map] at g
    obtain ⟨c, hc, rfl⟩ := Option.map_eq_some_iff.mp g
    rw [Array.getElem?_toList] at hc
    refine ⟨(Array.getElem?_eq_some_iff.mp hc).1, fun w H' ⟨e1, c', hc', y'⟩ => ?_⟩
    rw [hc] at hc'
    cases hc'
    subst e1 y'
    exact ⟨.refl, R, .str _⟩
  stop := fun S H ρ e R _ => by
    show (x.cps.toList.map fun c => A.str ⟨#[c]⟩).length = x.cps.size
    rw [List.length_map, Array.length_toList]
theorem ai_val {c : Ex} (he : AE X e c) : AI X tg e (iVal c) := fun pins s σ H Q I ⟨ρ, S, τ, R, r, h⟩ => by
  have hb := post_bind h
  cases hc : c τ S with
  | no => rw [hc] at hb; exact hb.elim
  | ex x S1 =>
    rw [hc] at hb
    exact pi_tup he pins s σ H Q I ⟨ρ, S, τ, R, r, by rw [hc]; exact hb⟩
  | ok a S1 =>
    rw [hc] at hb
    cases a with
    | tup xs =>
      refine pi_tup he pins s σ H Q I ⟨ρ, S, τ, R, r, ?_⟩
      rw [hc]
      intro ρ1 H1 x e1 R1 v1
      cases v1 with
      | tup h1 r1 => exact ⟨_, rfl, ⟨_, (SqT.of h1)⟩, hb ρ1 H1 _ e1 R1 (jr_tup (SqT.of h1) r1)⟩
    | frz xs =>
      refine pi_list he pins s σ H Q I ⟨ρ, S, τ, R, r, ?_⟩
      rw [hc]
      intro ρ1 H1 x e1 R1 v1
      cases v1 with
      | frz h1 r1 => exact ⟨_, rfl, ⟨_, h1.sqL⟩, hb ρ1 H1 _ e1 R1 (jr_frz h1 r1)⟩
    | ref n =>
      obtain ⟨xs, hn, hb⟩ := opt_post hb
      refine pi_list he pins s σ H Q I ⟨ρ, S, τ, R, r, ?_⟩
      rw [hc]
      intro ρ1 H1 x e1 R1 v1
      cases v1 with
      | ref hp =>
        obtain ⟨vs, h1, r1⟩ := R1.lst hp (lstAt_of hn)
        exact ⟨_, rfl, ⟨_, SqL.of h1⟩, hb ρ1 H1 _ e1 R1 (jr_lst hp)⟩
    | str x =>
      obtain ⟨ha, hb⟩ := gd_post hb
      refine pi_str he pins s σ H Q I ⟨ρ, S, τ, R, r, ?_⟩
      rw [hc]
      intro ρ1 H1 v e1 R1 v1
      cases v1 with
      | str => exact ⟨x, rfl, ha, hb ρ1 H1 _ e1 R1 jr_str⟩
    | _ => exact hb.elim
noncomputable def bnd (i : Int) : Prop := -(2 ^ 62) <= i /\ i < 2 ^ 62
instance (i : Int) : Decidable (bnd i) := by unfold bnd; infer_instance
noncomputable def iRng1 (c : Ex) : Ic := fun τ S => (c τ S).bind fun a S1 => match a with
  | .int j => gd (bnd j) (.ok (rngSrc 0 j) S1)
  | _ => .no
noncomputable def iRng2 (c d : Ex) : Ic := fun τ S => (c τ S).bind fun a S1 => (d τ S1).bind fun b S2 => match a, b with
  | .int i, .int j => gd (bnd i /\ bnd j) (.ok (rngSrc i j) S2)
  | _, _ => .no
theorem ai_range1 {p : Pos} {c : Ex} (hm : X.mg "range" = none) (ha : AE X a c) (hg : Gl X "range" := by rfl) (hs : starEach [a] X.env = [(false, eval a X.env)] := by rfl) : AI X tg (.Call (.Name "range" p) [a] [] pos) (iRng1 c) := fun pins s σ H Q I ⟨ρ, S, τ, R, r, h⟩ => by
  refine pi_range1 hg hm (pa_cons ha pa_nil hs) hs pins s σ H Q I ⟨ρ, S, τ, R, r, post_ext (post_bind h) .refl fun x S1 h1 ρ1 H1 v e1 R1 v1 => ?_⟩
  cases v1 with
  | int j =>
    obtain ⟨hb, h1⟩ := gd_post h1
    exact ⟨_, rfl, hb.1, hb.2, by have := h1 ρ1 H1 _ e1 R1 jr_rng; rwa [Int.sub_zero] at this⟩
  | _ => exact h1.elim
noncomputable def enSrc (xs : List A) : Src := ⟨xs.length, fun i _ => (xs[i]?).map fun x => .tup [.int i, x], fun _ => true⟩
noncomputable def iEnT (c : Ex) : Ic := fun τ S => (c τ S).bind fun a S1 => match a with
  | .tup xs => .ok (enSrc xs) S1
  | _ => .no
noncomputable def forGo (s : Src) (g : Tg) (c : Sm) : Nat -> Nat -> Sm
  | 0, _ => fun τ S => if s.fin S then .nx τ S else .no
  | k + 1, i => fun τ S => match s.get i S with
    | none => .no
    | some x => .of (g x τ S) fun τ1 S1 => match c τ1 S1 with
      | .nx τ' S' => forGo s g c k (i + 1) τ' S'
      | .ct τ' S' => forGo s g c k (i + 1) τ' S'
      | .bk τ' S' => .nx τ' S'
      | r => r
noncomputable def sFor (src : Ic) (g : Tg) (c : Sm) : Sm := fun τ S => .of (src τ S) fun s S1 => forGo s g c s.k 0 τ S1
theorem as_for {iter : Expr} {body : List Stmt} {src : Ic} {g : Tg} {c : Sm} (hp : PassesOwn (model X.prog X.w) X.A X.env X.xe) (hc : X.calm = true) (hi : AI X tg iter src) (hg : AG X tg g) (hb : ASs X body c)
    (hs : ∀ x, foldedSetIterable iter X.env x = pure x := by intro _; rfl) : AS X (.For tg iter body [] pos) (sFor src g c) := PS.imp (ps_for hp hc hi hg hb hs) fun D σ H ⟨ρ, S, τ, R, r, h⟩ => by
  refine ⟨ρ, S, τ, R, r, post_ext (of_post h) .refl fun s S1 h1 ρ1 H1 J e1 R1 jr => ?_⟩
  refine ⟨fun i m σ' H' => m + i = s.k /\ ∃ ρ' S' τ', Ext ρ1 ρ' H1 H' /\ Rel X.K ρ' H' S' /\ SR X.K ρ' H' τ' σ' /\ enP X ρ' H' D (forGo s g c m i τ' S'), ⟨s.k, rfl, ρ1, S1, τ, .refl, R1, r.ext e1, enP.ext h1 e1⟩, ?_⟩
  rintro i m σ2 H2 ⟨hm, ρ2, S2, τ2, e2, R2, r2, h2⟩
  cases m with
  | zero =>
    left
    have h2 : enP X ρ2 H2 D (if s.fin S2 then .nx τ2 S2 else .no) := h2
    cases hf : s.fin S2 with
    | false => rw [hf] at h2; exact h2.elim
    | true =>
      rw [hf] at h2
      refine ⟨by rw [show i = s.k by omega]; exact jr.stop S2 H2 ρ2 e2.toExt0 R2 hf, h2 ρ2 H2 σ2 .refl R2 r2⟩
  | succ m =>
    right
    have h2 : enP X ρ2 H2 D (match s.get i S2 with
      | none => .no
      | some x => .of (g x τ2 S2) fun τ1 S1 => match c τ1 S1 with
        | .nx τ' S' => forGo s g c m (i + 1) τ' S'
        | .ct τ' S' => forGo s g c m (i + 1) τ' S'
        | .bk τ' S' => .nx τ' S'
        | r => r) := h2
    cases hx : s.get i S2 with
    | none => rw [hx] at h2; exact h2.elim
    | some x =>
      rw [hx] at h2
      obtain ⟨hgo, hy⟩ := jr.go i S2 H2 ρ2 x e2.toExt0 R2 hx
      refine ⟨hgo, fun σ' H' => m + (i + 1) = s.k /\ ∃ ρ' S' τ', Ext ρ1 ρ' H1 H' /\ Rel X.K ρ' H' S' /\ SR X.K ρ' H' τ' σ' /\ enP X ρ' H' D (forGo s g c m (i + 1) τ' S'), fun σ' H' z => ⟨m, Nat.lt_succ_self _, z⟩, fun v H3 y => ?_⟩
      obtain ⟨e3, R3, v3⟩ := hy v H3 y
      refine ⟨ρ2, S2, τ2, x, R3, r2.ext e3, v3, post_ext (of_post h2) e3 fun τ4 S4 h4 ρ4 H4 σ4 e4 R4 r4 => ⟨ρ4, S4, τ4, R4, r4, ?_⟩⟩
      have e24 := e3.trans e4
      cases hcc : c τ4 S4 with
      | nx τ5 S5 => rw [hcc] at h4; exact fun ρ5 H5 σ5 e5 R5 r5 => ⟨by omega, ρ5, S5, τ5, (e2.trans e24).trans e5, R5, r5, enP.ext h4 (e24.trans e5)⟩
      | ct τ5 S5 => rw [hcc] at h4; exact fun ρ5 H5 σ5 e5 R5 r5 => ⟨by omega, ρ5, S5, τ5, (e2.trans e24).trans e5, R5, r5, enP.ext h4 (e24.trans e5)⟩
      | bk τ5 S5 => rw [hcc] at h4; exact nxP.ext h4 e24
      | rt x5 S5 => rw [hcc] at h4; exact okP.ext h4 e24
      | ex x5 S5 => rw [hcc] at h4; exact XE.ext h4 e24
      | no => rw [hcc] at h4; exact h4
end
end Am
set_option Elab.async false
set_option linter.all false
set_option maxRecDepth 100000
set_option maxHeartbeats 4000000
namespace Am
open PySem PySem.Spec PyProof.Rows L2
noncomputable def R.bindN {α β : Type} (r : R α) (f : α -> Sto -> R β) : R β := match r with
  | .ok a S => f a S
  | _ => .no
theorem bindN_ok {α β : Type} {r : R α} {f : α -> Sto -> R β} {b : β} {S2 : Sto} (h : r.bindN f = .ok b S2) : ∃ a S, r = .ok a S /\ f a S = .ok b S2 := by
  cases r with
  | ok a S => exact ⟨a, S, rfl, h⟩
  | ex _ _ => cases h
  | no => cases h
theorem bindN_post {α β : Type} {r : R α} {f : α -> Sto -> R β} {P : β -> Sto -> Prop} {E : Str -> Sto -> Prop} (h : (r.bindN f).post P E) : ∃ a S, r = .ok a S /\ (f a S).post P E := by
  cases r with
  | ok a S => exact ⟨a, S, rfl, h⟩
  | ex _ _ => exact h.elim
  | no => exact h.elim
theorem opt_ok {α β : Type} {o : Option β} {f : β -> R α} {a : α} {S : Sto} (h : opt o f = .ok a S) : ∃ b, o = some b /\ f b = .ok a S := by
  cases o with
  | none => cases h
  | some b => exact ⟨b, rfl, h⟩
noncomputable def compGo (s : Src) (g : Tg) (t : Te) (e : Ex) : Nat -> Nat -> List A -> Sto -> R (List A)
  | 0, _ => fun _ S => if s.fin S then .ok [] S else .no
  | k + 1, i => fun τ S => opt (s.get i S) fun x => (g x τ S).bindN fun τ1 S1 => (t τ1 S1).bindN fun b S2 => match b with
    | true => (e τ1 S2).bindN fun y S3 => (compGo s g t e k (i + 1) τ1 S3).bindN fun ys S4 => .ok (y :: ys) S4
    | false => compGo s g t e k (i + 1) τ1 S2
noncomputable def capA (cap : List (Option Nat)) (τ : List A) : List A := cap.map fun o => match o with
  | some j => τ.getD j .unb
  | none => .unb
noncomputable def eComp (cap : List (Option Nat)) (src : Ic) (g : Tg) (t : Te) (e : Ex) : Ex := fun τ S => (src τ S).bind fun s S1 => (compGo s g t e s.k 0 (capA cap τ) S1).bindN fun ys S2 => newL ys S2
noncomputable def bYes : Te := fun _ S => .ok true S
theorem compGo_succ {s : Src} {g : Tg} {t : Te} {e : Ex} {k i : Nat} {τ : List A} {S S' : Sto} {zs : List A} (h : compGo s g t e (k + 1) i τ S = .ok zs S') :
    ∃ x τ1 S1 b S2, s.get i S = some x /\ g x τ S = .ok τ1 S1 /\ t τ1 S1 = .ok b S2 /\ (b = true -> ∃ y S3 ws, e τ1 S2 = .ok y S3 /\ compGo s g t e k (i + 1) τ1 S3 = .ok ws S' /\ zs = y :: ws) /\ (b = false -> compGo s g t e k (i + 1) τ1 S2 = .ok zs S') := by
  obtain ⟨x, hx, h⟩ := opt_ok h
  obtain ⟨τ1, S1, h1, h⟩ := bindN_ok h
  obtain ⟨b, S2, h2, h⟩ := bindN_ok h
  refine ⟨x, τ1, S1, b, S2, hx, h1, h2, fun hb => ?_, fun hb => ?_⟩
  · subst hb
    obtain ⟨y, S3, h3, h⟩ := bindN_ok h
    obtain ⟨ws, S4, h4, h⟩ := bindN_ok h
    cases h
    exact ⟨y, S3, ws, h3, h4, rfl⟩
  · subst hb; exact h
noncomputable def tE0 (K : PySem.W.Frag) (c : Ex) : TE := fun σ H Q => ∃ ρ S τ a S', Rel K ρ H S /\ SR K ρ H τ σ /\ c τ S = .ok a S' /\ ∀ ρ' H' v, Ext ρ ρ' H H' -> Rel K ρ' H' S' -> AV K ρ' H' a v -> Q v H'
noncomputable def tT0 (K : PySem.W.Frag) (c : Te) : TT := fun σ H Q => ∃ ρ S τ a S', Rel K ρ H S /\ SR K ρ H τ σ /\ c τ S = .ok a S' /\ ∀ ρ' H', Ext ρ ρ' H H' -> Rel K ρ' H' S' -> Q a H'
noncomputable def tG0 (K : PySem.W.Frag) (g : Tg) : TG := fun v σ H Q => ∃ ρ S τ a τ' S', Rel K ρ H S /\ SR K ρ H τ σ /\ AV K ρ H a v /\ g a τ S = .ok τ' S' /\ ∀ ρ' H' σ', Ext ρ ρ' H H' -> Rel K ρ' H' S' -> SR K ρ' H' τ' σ' -> Q σ' H'
section
variable {X : Cx} {pos : Pos} {tg iter elt e : Expr} {ifs : List Expr} {scope : Scope} {N : List Str} {cap : List (Option Nat)} {src : Ic} {g : Tg} {t : Te} {c : Ex}
theorem AE.e0 {K : PySem.W.Frag} (hK : X.K = K) (h : AE X e c) : PE X e (tE0 K c) := PE.imp h fun σ H Q ⟨ρ, S, τ, a, S', R, r, hc, q⟩ => ⟨ρ, S, τ, by rw [hK]; exact R, by rw [hK]; exact r, by rw [hc]; exact fun ρ' H' v e R' v' => q ρ' H' v e (by rw [<- hK]; exact R') (by rw [<- hK]; exact v')⟩
theorem AT.t0 {K : PySem.W.Frag} (hK : X.K = K) (h : AT X e t) : PT X e (tT0 K t) := PT.imp h fun σ H Q ⟨ρ, S, τ, a, S', R, r, hc, q⟩ => ⟨ρ, S, τ, by rw [hK]; exact R, by rw [hK]; exact r, by rw [hc]; exact fun ρ' H' e R' => q ρ' H' e (by rw [<- hK]; exact R')⟩
theorem AG.g0 {K : PySem.W.Frag} (hK : X.K = K) (h : AG X e g) : PG X e (tG0 K g) := PG.imp h fun v σ H Q ⟨ρ, S, τ, a, τ', S', R, r, va, hc, q⟩ => ⟨ρ, S, τ, a, by rw [hK]; exact R, by rw [hK]; exact r, by rw [hK]; exact va, by rw [hc]; exact fun ρ' H' v e R' v' => q ρ' H' v e (by rw [<- hK]; exact R') (by rw [<- hK]; exact v')⟩
noncomputable def ATs (X : Cx) (ifs : List Expr) (t : Te) : Prop := PTs X ifs (tT0 X.K t)
theorem ats_nil : ATs X [] bYes := fun pins s σ H Q I ⟨ρ, S, τ, a, S', R, r, hc, q⟩ => pts_nil pins s σ H Q I (by cases hc; exact q ρ H .refl R)
theorem ats_one (h : AT X e t) : ATs X [e] t := pts_one (h.t0 rfl)
theorem capSR {K : PySem.W.Frag} {ρ : List Addr} {H : Hp} {τ : List A} {σ : L2.St} (r : SR K ρ H τ σ) (cap : List (Option Nat)) : SR K ρ H (capA cap τ) (cap.map (capV σ)) := by
  refine ⟨by simp [capA], fun i a h => ?_⟩
  unfold capA at h
  rw [List.getElem?_map] at h
  obtain ⟨o, ho, e⟩ := Option.map_eq_some_iff.mp h
  cases o with
  | none => exact .inl e.symm
  | some j =>
    have e : τ.getD j .unb = a := e
    cases hj : τ[j]? with
    | none => rw [List.getD_eq_getElem?_getD, hj] at e; exact .inl e.symm
    | some b =>
      rw [List.getD_eq_getElem?_getD, hj] at e
      have e : b = a := e
      subst e
      rcases r.at j b hj with z | ⟨v, h1, h2⟩
      · exact .inl z
      · exact .inr ⟨v, by rw [List.getElem?_map, ho]; show some ((σ[j]?).getD none) = _; rw [h1]; rfl, h2⟩
theorem Rel.notin {K : PySem.W.Frag} {ρ : List Addr} {H : Hp} {S : Sto} {p : Addr} (R : Rel K ρ H S) (hp : H p = none) : p ∉ ρ := fun hm => by
  obtain ⟨n, hn, e⟩ := List.mem_iff_getElem.mp hm
  have hl : n < S.length := by rw [<- R.len]; exact hn
  have := R.at n p S[n] (by rw [List.getElem?_eq_getElem hn, e]) (List.getElem?_eq_getElem hl)
  cases ho : S[n] with
  | lst xs => rw [ho] at this; obtain ⟨vs, h, _⟩ := this; rw [hp] at h; cases h
  | dct _ => rw [ho] at this; obtain ⟨vs, h, _⟩ := this; rw [hp] at h; cases h
  | ins _ _ => rw [ho] at this; obtain ⟨_, _, h⟩ := this; rw [hp] at h; cases h
theorem comp_imp (σ : L2.St) (H : Hp) (Q : VK) (h : tE X (eComp cap src g t c) σ H Q) : tLC cap (tI X src) (tG0 X.K g) (tT0 X.K t) (tE0 X.K c) σ H Q := by
  obtain ⟨ρ, S, τ, R, r, h⟩ := h
  refine ⟨ρ, S, τ, R, r, post_ext (post_bind h) .refl fun s S1 h1 ρ1 H1 J e1 R1 jr D hD => ?_⟩
  obtain ⟨ys, S2, hcg, h1⟩ := bindN_post h1
  obtain ⟨hlen, h1⟩ := gd_post h1
  have h1 : okP X ρ H Q (.ref S2.length) (S2 ++ [.lst ys]) := h1
  obtain ⟨eD, RD⟩ := R1.im (u := .lst []) hD
  have nD := R1.notin hD
  refine ⟨fun i m σ' H' => m + i = s.k /\ ∃ ρ' S' τ' acc zs accV, Ext0 ρ1 ρ' H1 H' /\ (∀ a u, a ≠ D -> H1 a = some u -> a ∉ ρ1 -> H' a = some u) /\ (∀ a ∈ ρ', a ∈ ρ1 \/ H1 a = none) /\ D ∉ ρ' /\ H' D = some (.lst accV) /\ Rel X.K ρ' H' S' /\ SR X.K ρ' H' τ' σ' /\ AVs X.K ρ' H' acc accV /\ compGo s g t c m i τ' S' = .ok zs S2 /\ acc ++ zs = ys,
    ⟨s.k, rfl, ρ1, S1, capA cap τ, [], ys, [], eD.toExt0, fun a u na hu _ => by rw [upd_ne na]; exact hu, fun a ha => .inl ha, nD, upd_same, RD, (capSR ((r.ext e1).ext eD) cap), .nil, hcg, rfl⟩, ?_⟩
  rintro i m σ3 H3 ⟨hm, ρ3, S3, τ3, acc, zs, accV, e3, fr3, nw3, nD3, hD3, R3, r3, ac3, cg3, eys⟩
  cases m with
  | zero =>
    left
    have cg3 : (if s.fin S3 then Am.R.ok [] S3 else .no) = .ok zs S2 := cg3
    cases hf : s.fin S3 with
    | false => rw [hf] at cg3; cases cg3
    | true =>
      rw [hf] at cg3
      cases cg3
      rw [List.append_nil] at eys
      subst eys
      refine ⟨by rw [show i = s.k by omega]; exact jr.stop _ H3 ρ3 e3 R3 hf, ?_⟩
      obtain ⟨RT, gt⟩ := R3.take hD3 nD3 ac3
      refine h1 (ρ3 ++ [D]) H3 _ (e1.trans ⟨⟨e3.pre.trans (List.prefix_append _ _), e3.im⟩, fun a u hu na => fr3 a u (ne_of_none hu hD) hu na, fun a ha => ?_⟩) RT (.ref gt)
      rcases List.mem_append.mp ha with z | z
      · exact nw3 a z
      · have : a = D := by simpa using z
        rw [this]; exact .inr hD
  | succ m =>
    right
    obtain ⟨x, τ4, S4, b, S5, hx, hg4, ht5, hT, hF⟩ := compGo_succ cg3
    obtain ⟨hgo, hy⟩ := jr.go i S3 H3 ρ3 x e3 R3 hx
    refine ⟨hgo, fun v H4 y => ?_⟩
    obtain ⟨e4, R4, v4⟩ := hy v H4 y
    refine ⟨ρ3, S3, τ3, x, τ4, S4, R4, r3.ext e4, v4, hg4, fun ρ5 H5 σ5 e5 R5 r5 => ?_⟩
    refine ⟨ρ5, S4, τ4, b, S5, R5, r5, ht5, fun ρ6 H6 e6 R6 => ?_⟩
    have e36 := (e4.trans e5).trans e6
    have stay : ∀ {ρ7 : List Addr} {H7 : Hp}, Ext ρ3 ρ7 H3 H7 -> Ext0 ρ1 ρ7 H1 H7 /\ (∀ a u, a ≠ D -> H1 a = some u -> a ∉ ρ1 -> H7 a = some u) /\ (∀ a ∈ ρ7, a ∈ ρ1 \/ H1 a = none) /\ D ∉ ρ7 /\ H7 D = some (.lst accV) := fun {ρ7 H7} e7 => by
      refine ⟨⟨e3.pre.trans e7.pre, fun a u i h => e7.im a u i (e3.im a u i h)⟩, fun a u na hu nr => e7.fr a u (fr3 a u na hu nr) fun z => (nw3 a z).elim nr fun z => by (rw [z] at hu; cases hu), fun a ha => ?_, fun z => (e7.nw D z).elim nD3 fun z => by (rw [hD3] at z; cases z), e7.fr D _ hD3 nD3⟩
      by_cases hr : a ∈ ρ1
      · exact .inl hr
      · right
        cases q : H1 a with
        | none => rfl
        | some u =>
          have aD : a ≠ D := ne_of_none q hD
          rcases e7.nw a ha with z | z
          · exact ((nw3 a z).elim hr fun z => by (rw [z] at q; cases q)).elim
          · rw [fr3 a u aD q hr] at z; cases z
    cases b with
    | false =>
      dsimp only
      rw [if_neg Bool.false_ne_true]
      obtain ⟨g1, g2, g3, g4, g5⟩ := stay e36
      exact ⟨m, Nat.lt_succ_self _, by omega, ρ6, S5, τ4, acc, zs, accV, g1, g2, g3, g4, g5, R6, r5.ext e6, ac3.ext e36, hF rfl, eys⟩
    | true =>
      dsimp only
      rw [if_pos rfl]
      obtain ⟨y, S6, ws, he6, cg6, ezs⟩ := hT rfl
      refine ⟨ρ6, S5, τ4, y, S6, R6, r5.ext e6, he6, fun ρ7 H7 w e7 R7 v7 => ?_⟩
      obtain ⟨g1, g2, g3, g4, g5⟩ := stay (e36.trans e7)
      obtain ⟨ex8, R8⟩ := R7.out (ws := accV ++ [w]) g5 g4
      have l1 := ac3.length
      refine ⟨accV, g5, ?_, m, Nat.lt_succ_self _, by omega, ρ7, S6, τ4, acc ++ [y], ws, accV ++ [w], ?_, fun a u na hu nr => by rw [upd_ne na]; exact g2 a u na hu nr, g3, g4, upd_same, R8, (r5.ext (e6.trans e7)).ext0 ex8, (AVs.ext0 ex8 ((ac3.ext (e36.trans e7)).append (.one v7))), cg6, ?_⟩
      · have : (acc ++ zs).length <= sizeLine := by rw [eys]; exact hlen
        rw [ezs, List.length_append, List.length_cons] at this
        omega
      · exact ⟨g1.pre, fun a u i h => ex8.im a u i (g1.im a u i h)⟩
      · rw [List.append_assoc, <- eys, ezs]; rfl
theorem ae_comp (hc : X.calm = true) (Sc : CpScope X scope N cap) (hi : AI X tg iter src) (hg : ∀ C s₀ H₀ ex, AG (cpCx X scope N C s₀ H₀ ex) tg g) (ht : ∀ C s₀ H₀ ex, ATs (cpCx X scope N C s₀ H₀ ex) ifs t) (he : ∀ C s₀ H₀ ex, AE (cpCx X scope N C s₀ H₀ ex) elt c)
    (hs : ∀ x, foldedSetIterable iter X.env x = pure x := by intro _; rfl) : AE X (.ListComp elt [⟨tg, iter, ifs, 0⟩] scope pos) (eComp cap src g t c) :=
  PE.imp (pe_lc hc Sc hi (g := tG0 X.K g) (tc := tT0 X.K t) (te := tE0 X.K c) (fun C s₀ H₀ ex => (hg C s₀ H₀ ex).g0 rfl) (fun C s₀ H₀ ex => ht C s₀ H₀ ex) (fun C s₀ H₀ ex => (he C s₀ H₀ ex).e0 rfl) hs) comp_imp
end
end Am
set_option Elab.async false
set_option linter.all false
set_option maxRecDepth 100000
set_option maxHeartbeats 4000000
namespace Am
open PySem PySem.Spec PyProof.Rows L2
noncomputable def A.lst? (S : Sto) : A -> Option (List A)
  | .ref n => lstAt S n
  | _ => none
noncomputable def eMe (f : A -> List A -> Sto -> R A) (co : Ex) (d : Exs) : Ex := fun τ S => (co τ S).bind fun o S1 => opt (o.lst? S1) fun _ => (d τ S1).bind fun as S2 => f o as S2
noncomputable def eMe0 (f : A -> List A -> Sto -> R A) (co : Ex) : Ex := fun τ S => (co τ S).bind fun o S1 => opt (o.lst? S1) fun _ => f o [] S1
noncomputable def rM (X : Cx) (f : A -> List A -> Sto -> R A) : V -> List V -> Hp -> VK -> Prop := fun x vs H Q => ∃ ρ S o as, Rel X.K ρ H S /\ AV X.K ρ H o x /\ AVs X.K ρ H as vs /\ (f o as S).post (okP X ρ H Q) (XE X ρ H)
section
variable {X : Cx} {pos apos cpos : Pos} {o e : Expr} {es : List Expr} {name : Str} {id : String} {f : A -> List A -> Sto -> R A} {co : Ex} {d : Exs}
theorem lst?_ty {K : PySem.W.Frag} {ρ : List Addr} {H : Hp} {S : Sto} {x : A} {v : V} {xs : List A} (R : Rel K ρ H S) (h : AV K ρ H x v) (e : x.lst? S = some xs) : tyV K "list" v H := by
  cases h with
  | ref h =>
    obtain ⟨vs, h1, _⟩ := R.lst h (lstAt_of e)
    exact .inl ⟨rfl, vs, SqL.of h1⟩
  | _ => cases e
theorem ae_me (slot : Slot "list" name id) (hty : typeOf (.builtin id) = pure (.type "method_descriptor")) (hm : MtR X id (rM X f)) (ho : AE X o co) (ha : AL X (e :: es) d)
    (hbase : attributeBase o name X.env (eval o X.env) = eval o X.env := by rfl)
    (hfew : ((backTo cpos (starEach (e :: es) X.env)).all (fun x => !x.1) && (backToKw cpos (keywordEach [] X.env)).all (fun x => x.1.isSome)
      && decide ((e :: es).length + ([] : List Keyword).length + (if ([] : List Keyword).isEmpty then 0 else 1) < 30)) = true := by rfl)
    (hline : (apos.endLine == cpos.line) = true := by rfl) (hs : starEach (e :: es) X.env = (false, eval e X.env) :: starEach es X.env := by rfl) (hplain : (backTo cpos (starEach es X.env)).any (·.1) = false := by rfl) :
    AE X (.Call (.Attribute o name apos) (e :: es) [] cpos) (eMe f co d) := PE.imp (pe_bm PySem.F.plainAttrs_list slot hty hm ho ha hbase hfew hline hs hplain) fun σ H Q ⟨ρ, S, τ, R, r, h⟩ => by
  refine ⟨ρ, S, τ, R, r, post_ext (post_bind h) .refl fun x S1 h1 ρ1 H1 v e1 R1 v1 => ?_⟩
  obtain ⟨xs, hx, h1⟩ := opt_post h1
  refine ⟨lst?_ty R1 v1 hx, ρ1, S1, τ, R1, r.ext e1, post_ext (post_bind h1) e1 fun as S2 h2 ρ2 H2 vs e2 R2 v2 => ?_⟩
  exact ⟨ρ2, S2, x, as, R2, v1.ext e2, v2, post_ext h2 (e1.trans e2) fun _ _ z => z.ext (e1.trans e2)⟩
noncomputable def mAppend (o : A) (as : List A) (S : Sto) : R A := match o, as with
  | .ref n, [x] => opt (lstAt S n) fun xs => gd (xs.length < sizeLine) (.ok .non (S.set n (.lst (xs ++ [x]))))
  | _, _ => .no
theorem m_append : MtR X "list.append" (rM X mAppend) := fun pins s σ H x vs v us Q I rx rv ⟨ρ, S, o, as, R, vo, va, h⟩ => by
  cases vo with
  | @ref p n hp =>
    match as, va, h with
    | [], _, h => exact h.elim
    | _ :: _ :: _, _, h => exact h.elim
    | [y], va, h =>
      obtain ⟨w, rfl, hw⟩ := avs1 va
      obtain ⟨xs, hn, h⟩ := opt_post h
      obtain ⟨hl, h⟩ := gd_post h
      obtain ⟨ws, h1, r⟩ := R.lst hp (lstAt_of hn)
      obtain ⟨ex, R'⟩ := R.put hp (lstAt_of hn) (r.append (.one hw))
      exact mt_append pins s σ H _ _ v us Q I rx rv ⟨p, ws, w, rfl, rfl, h1, by rw [<- r.length]; exact hl, h _ _ _ ex R' .non⟩
  | _ => exact h.elim
noncomputable def mPop (o : A) (as : List A) (S : Sto) : R A := match o, as with
  | .ref n, [] => opt (lstAt S n) fun xs => opt (xs[xs.length - 1]?) fun x => .ok x (S.set n (.lst xs.dropLast))
  | _, _ => .no
theorem AVs.dropLast {K : PySem.W.Frag} {ρ : List Addr} {H : Hp} {xs : List A} {vs : List V} (r : AVs K ρ H xs vs) : AVs K ρ H xs.dropLast vs.dropLast := by
  rw [List.dropLast_eq_take, List.dropLast_eq_take, r.length]
  exact r.take _
noncomputable def mPopAt (o : A) (as : List A) (S : Sto) : R A := match o, as with
  | .ref n, [.int i] => opt (lstAt S n) fun xs => gd (-(2 ^ 63) <= i /\ i < 2 ^ 63) (opt (seqIndex? i xs.length) fun k => opt (xs[k]?) fun x => .ok x (S.set n (.lst (xs.eraseIdx k))))
  | _, _ => .no
end
noncomputable def runF (N : List Str) (m : Sm) (as : List A) (S : Sto) : R A := match m (as ++ List.replicate (N.length - as.length) .unb) S with
  | .rt a S' => .ok a S'
  | .nx _ S' => .ok .non S'
  | .ex c S' => .ex c S'
  | _ => .no
noncomputable def spA (K : PySem.W.Frag) (n : Nat) (F : List A -> Sto -> R A) : Sp := fun vs H Q _ => vs.length = n /\ ∃ ρ S as a S', Rel K ρ H S /\ AVs K ρ H as vs /\ F as S = .ok a S' /\ ∀ ρ' H' v, Ext ρ ρ' H H' -> Rel K ρ' H' S' -> AV K ρ' H' a v -> Q v H'
theorem startSR {K : PySem.W.Frag} {ρ : List Addr} {H : Hp} {as : List A} {vs : List V} (r : AVs K ρ H as vs) (N : List Str) : SR K ρ H (as ++ List.replicate (N.length - as.length) .unb) (L2.start N vs) := by
  have hl := r.length
  refine ⟨by unfold L2.start; simp [hl], fun i a h => ?_⟩
  by_cases hi : i < as.length
  · rw [List.getElem?_append_left hi] at h
    obtain ⟨v, hv, av⟩ := r.get h
    exact .inr ⟨v, by unfold L2.start; rw [List.getElem?_append_left (by simp; omega), List.getElem?_map, hv]; rfl, av⟩
  · rw [List.getElem?_append_right (by omega), List.getElem?_replicate] at h
    split at h
    · exact .inl (Option.some.inj h).symm
    · cases h
section
variable {P : Program} {w : World} {K : PySem.W.Frag} {mg : Str -> Option Value} {base : Heap}
theorem fnA {x qual : Str} {st : Stmt} {f : Addr} {fd : FuncData} {N ps : List Str} {k : Nat} {m : Sm} (F : Fun K x qual st f fd) (Sc : FnScope N ps (defScope st))
    (body : ∀ (cdv : Value) (A : Around) (outer : List Env) (s : Shared) (H : Hp) (E : XK), Room k (A.deeper (envOfC qual (defScope st) s.heap.objs.size f cdv)) -> ASs (cxOf CX0 P w K mg base N qual (defScope st) f cdv A outer s H E).nox (defBody st) m) :
    FnOk P w K mg base CX0 (k + 1) f fd ps (spA K ps.length (runF N m)) := by
  refine F.ok Sc (fun vs H Q E h => h.1) fun cdv B outer s H vs Q E hr ⟨hl, ρ, S, as, a, S', R, va, hF, q⟩ => ⟨_, body cdv B outer s H E hr, ρ, S, _, R, startSR va N, ?_⟩
  unfold runF at hF
  cases hm : m (as ++ List.replicate (N.length - as.length) .unb) S with
  | rt b S2 => rw [hm] at hF; cases hF; exact q
  | nx τ S2 => rw [hm] at hF; cases hF; exact fun ρ' H' σ' e R' _ => q ρ' H' _ e R' .non
  | bk τ S2 => rw [hm] at hF; cases hF
  | ct τ S2 => rw [hm] at hF; cases hF
  | ex c S2 => rw [hm] at hF; cases hF
  | no => rw [hm] at hF; cases hF
end
noncomputable abbrev KnA (P : Program) (w : World) (K : PySem.W.Frag) (mg : Str -> Option Value) (base : Heap) (k : Nat) (x : Str) (ps : List Str) (F : List A -> Sto -> R A) : Prop := Kn P w K mg base k x ps (spA K ps.length F)
noncomputable def eFn (F : List A -> Sto -> R A) (d : Exs) : Ex := fun τ S => (d τ S).bind fun as S1 => match F as S1 with
  | .ok a S2 => .ok a S2
  | _ => .no
section
variable {X : Cx} {pos p : Pos} {e : Expr} {es : List Expr} {x : Str} {ps : List Str} {k : Nat} {F : List A -> Sto -> R A} {d : Exs}
theorem ae_fn (G : KnA X.prog X.w X.K X.mg X.base k x ps F) (hr : Room k X.A) (ha : AL X (e :: es) d) (hl : ∀ τ S as S', d τ S = .ok as S' -> as.length = ps.length) (hg : Gl X x := by rfl) (hdb : (x == ("__debug__" : Str)) = false := by decide)
    (hs : starEach (e :: es) X.env = (false, eval e X.env) :: starEach es X.env := by rfl) (hplain : (backTo pos (starEach es X.env)).any (·.1) = false := by rfl) : AE X (.Call (.Name x p) (e :: es) [] pos) (eFn F d) :=
  PE.imp (pe_kn G hr ha hg hdb hs hplain) fun σ H Q ⟨ρ, S, τ, R, r, h⟩ => by
    refine ⟨ρ, S, τ, R, r, ?_⟩
    have hb := post_bind h
    cases hd : d τ S with
    | no => rw [hd] at hb; exact hb
    | ex c S1 => rw [hd] at hb; exact hb
    | ok as S1 =>
      rw [hd] at hb
      intro ρ1 H1 vs e1 R1 v1
      rw [List.append_nil]
      refine ⟨by rw [<- v1.length]; exact hl τ S as S1 hd, ρ1, S1, as, ?_⟩
      have hb : Am.R.post (match F as S1 with
        | .ok a S2 => .ok a S2
        | _ => .no) (okP X ρ H Q) (XE X ρ H) := hb
      cases hF : F as S1 with
      | ok a S2 => rw [hF] at hb; exact ⟨a, S2, R1, v1, rfl, fun ρ2 H2 v e2 => hb ρ2 H2 v (e1.trans e2)⟩
      | ex c S2 => rw [hF] at hb; exact hb.elim
      | no => rw [hF] at hb; exact hb.elim
theorem len_nil : ∀ τ S as S', lNil τ S = .ok as S' -> as.length = 0 := fun τ S as S' h => by cases h; rfl
theorem len_cons {c : Ex} {d : Exs} {n : Nat} (h : ∀ τ S as S', d τ S = .ok as S' -> as.length = n) : ∀ τ S as S', lCons c d τ S = .ok as S' -> as.length = n + 1 := fun τ S as S' e => by
  unfold lCons at e
  cases hc : c τ S with
  | ok a S1 =>
    rw [hc] at e
    cases hd : d τ S1 with
    | ok bs S2 => have e : R.bind (d τ S1) (fun as S2 => .ok (a :: as) S2) = .ok as S' := e
                  rw [hd] at e; cases e; rw [List.length_cons, h τ S1 bs _ hd]
    | ex _ _ => have e : R.bind (d τ S1) (fun as S2 => .ok (a :: as) S2) = .ok as S' := e
                rw [hd] at e; cases e
    | no => have e : R.bind (d τ S1) (fun as S2 => .ok (a :: as) S2) = .ok as S' := e
            rw [hd] at e; cases e
  | ex _ _ => rw [hc] at e; cases e
  | no => rw [hc] at e; cases e
end
end Am
set_option Elab.async false
set_option linter.all false
set_option maxRecDepth 100000
set_option maxHeartbeats 4000000
namespace Am
open PySem PySem.Spec PyProof.Rows L2
section
variable {X : Cx} {pos : Pos} {a b c d : Expr}
noncomputable def kCh (f' : A -> A -> Sto -> R A) (cc : Ex) (τ : List A) (b k : A) (S : Sto) : R A := match k with
  | .bl true => (cc τ S).bind fun c S4 => f' b c S4
  | .bl false => .ok (.bl false) S
  | _ => .no
noncomputable def eCh (f f' : A -> A -> Sto -> R A) (ca cb cc : Ex) : Ex := fun τ S => (ca τ S).bind fun a S1 => (cb τ S1).bind fun b S2 => (f a b S2).bind fun k S3 => kCh f' cc τ b k S3
theorem ch_imp {f f' : A -> A -> Sto -> R A} {ca cb cc : Ex} {σ : L2.St} {H : Hp} {Q : VK} (h : tE X (eCh f f' ca cb cc) σ H Q) : tChain (r2 X f) (r2 X f') (tE X ca) (tE X cb) (tE X cc) σ H Q := by
  obtain ⟨ρ, S, τ, R, r, h⟩ := h
  refine ⟨ρ, S, τ, R, r, post_ext (post_bind h) .refl fun a S1 h1 ρ1 H1 x e1 R1 v1 => ⟨ρ1, S1, τ, R1, r.ext e1, post_ext (post_bind h1) e1 fun b S2 h2 ρ2 H2 y e2 R2 v2 => ?_⟩⟩
  have e12 := e1.trans e2
  refine ⟨ρ2, S2, a, b, R2, v1.ext e2, v2, post_ext (post_bind h2) e12 fun k S3 h3 ρ3 H3 z e3 R3 v3 => ?_⟩
  have e13 := e12.trans e3
  cases k with
  | bl k =>
    cases av_bl v3
    refine ⟨k, rfl, ?_⟩
    cases k with
    | true =>
      rw [if_pos rfl]
      exact ⟨ρ3, S3, τ, R3, r.ext e13, post_ext (post_bind h3) e13 fun c S4 h4 ρ4 H4 w e4 R4 v4 => ⟨ρ4, S4, b, c, R4, v2.ext (e3.trans e4), v4, post_ext h4 (e13.trans e4) fun _ _ q => q.ext (e13.trans e4)⟩⟩
    | false =>
      rw [if_neg Bool.false_ne_true]
      exact h3 ρ3 H3 _ e13 R3 (.bl false)
  | _ => exact h3.elim
theorem ae_ch {op op' : CmpOp} {f f' : A -> A -> Sto -> R A} {ca cb cc : Ex} (ho : OpR X (compareOp op) (r2 X f)) (ho' : OpR X (compareOp op') (r2 X f')) (ha : AE X a ca) (hb : AE X b cb) (hc : AE X c cc) (hm : lastMarks [op, op'] [b, c] = false := by with_unfolding_all rfl) :
    AE X (.Compare a [op, op'] [b, c] pos) (eCh f f' ca cb cc) := PE.imp (pe_chain ho ho' ha hb hc hm) fun _ _ _ h => ch_imp h
theorem at_ch {op op' : CmpOp} {f f' : A -> A -> Sto -> R A} {ca cb cc : Ex} (ho : OpR X (compareOp op) (r2 X f)) (ho' : OpR X (compareOp op') (r2 X f')) (ha : AE X a ca) (hb : AE X b cb) (hc : AE X c cc) (hm : lastMarks [op, op'] [b, c] = false := by with_unfolding_all rfl) :
    AT X (.Compare a [op, op'] [b, c] pos) (toB (eCh f f' ca cb cc)) := PT.imp (pt_chain ho ho' ha hb hc hm) fun σ H Q ⟨ρ, S, τ, R, r, h⟩ => by
  refine ch_imp ⟨ρ, S, τ, R, r, post_ext (post_bind h) .refl fun c S1 h1 ρ1 H1 x e1 R1 v1 => ?_⟩
  cases c with
  | bl k => cases av_bl v1; exact ⟨k, rfl, h1 ρ1 H1 e1 R1⟩
  | _ => exact h1.elim
noncomputable def kCh3 (f' f2 : A -> A -> Sto -> R A) (cc cd : Ex) (τ : List A) (b k : A) (S : Sto) : R A := match k with
  | .bl true => (cc τ S).bind fun c S4 => (f' b c S4).bind fun k' S5 => kCh f2 cd τ c k' S5
  | .bl false => .ok (.bl false) S
  | _ => .no
noncomputable def eCh3 (f f' f2 : A -> A -> Sto -> R A) (ca cb cc cd : Ex) : Ex := fun τ S => (ca τ S).bind fun a S1 => (cb τ S1).bind fun b S2 => (f a b S2).bind fun k S3 => kCh3 f' f2 cc cd τ b k S3
noncomputable def A.flat : A -> Bool
  | .non => true
  | .bl _ => true
  | .int _ => true
  | .str _ => true
  | _ => false
noncomputable def eqF : A -> A -> Bool
  | .non, .non => true
  | .bl a, .bl b => a == b
  | .bl a, .int b => (if a then 1 else 0) == b
  | .int a, .bl b => a == (if b then 1 else 0)
  | .int a, .int b => a == b
  | .str a, .str b => a == b
  | _, _ => false
noncomputable def inA (S : Sto) (x : A) : List A -> Option Bool
  | [] => some false
  | z :: zs => (eqA S 12 z x).bind fun p => (inA S x zs).map fun q => p || q
noncomputable def aIn (neg : Bool) (x y : A) (S : Sto) : R A := opt (y.seq S) fun ys => opt (inA S x ys) fun b => .ok (.bl (if neg then !b else b)) S
theorem in_vals {pins : List (Addr × Obj)} {σ : L2.St} {H : Hp} {s : Shared} {ρ : List Addr} {S : Sto} {x : A} {vx : V} {v : Value} (I : Inv X pins σ H s) (R : Rel X.K ρ H S) (hu : X.A.units + 64 < cLine) (hx : AV X.K ρ H x vx) (rx : RelV vx v) :
    ∀ {ys : List A} {us : List V} {its : List Value} {b : Bool}, AVs X.K ρ H ys us -> Vals us its -> inA S x ys = some b -> ∃ e : Value -> Bool, (∀ w ∈ its, SeqAt.EqAt X.A.in1 s w v (e w)) /\ its.any e = b
  | _, _, _, b, .nil, .nil, h => ⟨fun _ => false, (fun w hw => by cases hw), Option.some.inj h⟩
  | z :: zs, u :: us, w0 :: its, b, .cons hz hzs, .cons r rs, h => by
    classical
    obtain ⟨p, hp, h⟩ := Option.bind_eq_some_iff.mp h
    obtain ⟨q, hq, h⟩ := Option.map_eq_some_iff.mp h
    obtain ⟨e, he, ha⟩ := in_vals I R hu hx rx hzs rs hq
    have h0 := (rc_at I R 12 X.A.in1 z x u vx w0 v p (by rw [in1_units]; omega) hz hx r rx hp).2
    subst h
    cases p with
    | true =>
      refine ⟨fun w => if w = w0 then true else e w, fun w hw => ?_, ?_⟩
      · by_cases hww : w = w0
        · simp only [hww, if_true]; exact h0
        · simp only [hww, if_false]
          rcases List.mem_cons.mp hw with z | z
          · exact absurd z hww
          · exact he w z
      · simp
    | false =>
      by_cases hm : w0 ∈ its
      · refine ⟨e, fun w hw => ?_, ?_⟩
        · rcases List.mem_cons.mp hw with z | z
          · rw [z]; exact he w0 hm
          · exact he w z
        · rw [List.any_cons, ha, Bool.false_or]
          cases q with
          | true => simp
          | false =>
            have := List.any_eq_false.mp ha w0 hm
            simpa using this
      · refine ⟨fun w => if w = w0 then false else e w, fun w hw => ?_, ?_⟩
        · by_cases hww : w = w0
          · simp only [hww, if_true]; exact h0
          · simp only [hww, if_false]
            rcases List.mem_cons.mp hw with z | z
            · exact absurd z hww
            · exact he w z
        · rw [List.any_cons, <- ha]
          simp only [if_true, Bool.false_or]
          have : ∀ l : List Value, (∀ w ∈ l, w ≠ w0) -> l.any (fun w => if w = w0 then false else e w) = l.any e := fun l hl => by
            induction l with
            | nil => rfl
            | cons c l ih => rw [List.any_cons, List.any_cons, ih fun w hw => hl w (List.mem_cons_of_mem _ hw), if_neg (hl c (List.mem_cons_self ..))]
          exact this its fun w hw z => hm (z ▸ hw)
theorem o_in (hu : X.A.units + 64 < cLine) : OpR X (compareOp .In) (r2 X (aIn false)) := fun pins s σ H x y v u Q I rx ry ⟨ρ, S, a, b, R, va, vb, h⟩ => by
  obtain ⟨ys, hy, h⟩ := opt_post h
  obtain ⟨k, hk, h⟩ := opt_post h
  obtain ⟨p, us, rfl, hs, r⟩ := seq_of R vb hy
  cases ry
  rcases hs with hs | hs
  · obtain ⟨its, rv, pl, hz⟩ := I.list hs
    obtain ⟨e, he, ha⟩ := in_vals I R hu va rx r rv hk
    refine SeqAt.in_listAt e pl.isList (fun w hw => he w (by simpa using hw)) ⟨.bl _, H, I, rfl, ?_⟩
    rw [show its.toArray.any e = its.any e by simp, ha]
    exact h _ _ _ .refl R (.bl _)
  · obtain ⟨its, rv, pl, hz⟩ := I.tuple hs
    obtain ⟨e, he, ha⟩ := in_vals I R hu va rx r rv hk
    refine SeqAt.in_tupleAt e pl (fun w hw => he w (by simpa using hw)) ⟨.bl _, H, I, rfl, ?_⟩
    rw [show its.toArray.any e = its.any e by simp, ha]
    exact h _ _ _ .refl R (.bl _)
theorem o_notin (hu : X.A.units + 64 < cLine) : OpR X (compareOp .NotIn) (r2 X (aIn true)) := fun pins s σ H x y v u Q I rx ry ⟨ρ, S, a, b, R, va, vb, h⟩ => by
  obtain ⟨ys, hy, h⟩ := opt_post h
  obtain ⟨k, hk, h⟩ := opt_post h
  obtain ⟨p, us, rfl, hs, r⟩ := seq_of R vb hy
  cases ry
  rcases hs with hs | hs
  · obtain ⟨its, rv, pl, hz⟩ := I.list hs
    obtain ⟨e, he, ha⟩ := in_vals I R hu va rx r rv hk
    refine SeqAt.notIn_listAt e pl.isList (fun w hw => he w (by simpa using hw)) ⟨.bl _, H, I, rfl, ?_⟩
    rw [show its.toArray.any e = its.any e by simp, ha]
    exact h _ _ _ .refl R (.bl _)
  · obtain ⟨its, rv, pl, hz⟩ := I.tuple hs
    obtain ⟨e, he, ha⟩ := in_vals I R hu va rx r rv hk
    refine SeqAt.notIn_tupleAt e pl (fun w hw => he w (by simpa using hw)) ⟨.bl _, H, I, rfl, ?_⟩
    rw [show its.toArray.any e = its.any e by simp, ha]
    exact h _ _ _ .refl R (.bl _)
noncomputable def aIdx (o : A) (as : List A) (S : Sto) : R A := match as with
  | [x] => opt (o.seq S) fun ys => gd (x.flat = true /\ ys.all A.flat = true) (opt (ys.findIdx? fun z => eqF z x) fun k => .ok (.int (k : Nat)) S)
  | _ => .no
noncomputable def eIdx (co : Ex) (d : Exs) : Ex := fun τ S => (co τ S).bind fun o S1 => opt (o.seq S1) fun _ => (d τ S1).bind fun as S2 => aIdx o as S2
noncomputable def A.isTup : A -> Bool
  | .tup _ => true
  | _ => false
noncomputable def mExtend (o : A) (as : List A) (S : Sto) : R A := match o, as with
  | .ref n, [.ref m] => opt (lstAt S n) fun xs => opt (lstAt S m) fun ys => gd (xs.length + ys.length <= sizeLine) (.ok .non (S.set n (.lst (xs ++ ys))))
  | _, _ => .no
noncomputable def mReverse (o : A) (as : List A) (S : Sto) : R A := match o, as with
  | .ref n, [] => opt (lstAt S n) fun xs => .ok .non (S.set n (.lst xs.reverse))
  | _, _ => .no
noncomputable def iMul (a b : A) (S : Sto) : R A := match a, b with
  | .int i, .int j => gd (mulOk i j) (.ok (.int (i * j)) S)
  | _, _ => .no
end
end Am
set_option Elab.async false
set_option linter.all false
set_option maxRecDepth 100000
set_option maxHeartbeats 4000000
namespace Am
open PySem PySem.Spec PyProof.Rows L2
section
variable {X : Cx} {pos apos cpos : Pos} {a b o e : Expr} {es : List Expr}
noncomputable def aSum (x : A) (S : Sto) : R A := match x with
  | .ref n => opt (lstAt S n) fun xs => opt (A.ints xs) fun ns => .ok (.int ns.sum) S
  | _ => .no
noncomputable def aStrI (x : A) (S : Sto) : R A := match x with
  | .int i => gd (i.natAbs.log2 < 1920) (.ok (.str (toString i)) S)
  | _ => .no
noncomputable def A.strs : List A -> Option (List Str)
  | [] => some []
  | .str i :: xs => (A.strs xs).map (i :: ·)
  | _ => none
noncomputable def mJoin (o : A) (as : List A) (S : Sto) : R A := match o, as with
  | .str z, [.ref n] => opt (lstAt S n) fun xs => opt (A.strs xs) fun ys => gd ((ys.map (·.length)).sum + ys.length * z.length <= 16777216) (.ok (.str (Txt.join z ys)) S)
  | _, _ => .no
noncomputable def mSplit (o : A) (as : List A) (S : Sto) : R A := match o, as with
  | .str y, [.str z] => gd ((z.length == 0) = false /\ y.length <= sizeLine /\ (Txt.split y z).length <= sizeLine) (.ok (.ref S.length) (S ++ [.lst ((Txt.split y z).map .str)]))
  | _, _ => .no
noncomputable def mStarts (o : A) (as : List A) (S : Sto) : R A := match o, as with
  | .str y, [.str z] => .ok (.bl (0 + z.length <= y.length && Builtin.Str.subAt y z 0)) S
  | _, _ => .no
noncomputable def aInS (x y : A) (S : Sto) : R A := match x, y with
  | .str i, .str j => .ok (.bl (!(Builtin.Str.occurrences j i 0 j.length 1).isEmpty)) S
  | _, _ => .no
noncomputable def A.isStr : A -> Bool
  | .str _ => true
  | _ => false
noncomputable def eMs (f : A -> List A -> Sto -> R A) (co : Ex) (d : Exs) : Ex := fun τ S => (co τ S).bind fun o S1 => gd (o.isStr = true) ((d τ S1).bind fun as S2 => f o as S2)
noncomputable def aMulS (a b : A) (S : Sto) : R A := match a, b with
  | .str z, .int n => gd (0 <= n /\ n <= 1) (.ok (.str (if n = 1 then z else Str.empty)) S)
  | _, _ => .no
end
end Am
set_option Elab.async false
set_option linter.all false
set_option maxRecDepth 100000
set_option maxHeartbeats 4000000
namespace Am
open PySem PySem.Spec PyProof.Rows L2
noncomputable def dctAt (S : Sto) (n : Nat) : Option (List (List Int × A)) := match S[n]? with
  | some (.dct xs) => some xs
  | _ => none
noncomputable def lookD (kvs : List (List Int × A)) (k : List Int) : Option A := (kvs.find? fun kv => decide (kv.1 = k)).map (·.2)
noncomputable def putD (kvs : List (List Int × A)) (k : List Int) (v : A) : List (List Int × A) :=
  if (lookD kvs k).isSome = true then kvs.map (fun kv => if kv.1 = k then (kv.1, v) else kv) else kvs ++ [(k, v)]
theorem inl_inj : ∀ {a b : List Int}, a.map (Sum.inl : Int -> Key) = b.map Sum.inl -> a = b
  | [], [], _ => rfl
  | [], _ :: _, e => by simp at e
  | _ :: _, [], e => by simp at e
  | x :: xs, y :: ys, e => by
    rw [List.map_cons, List.map_cons] at e
    injection e with e1 e2
    injection e1 with e1
    rw [e1, inl_inj e2]
section
variable {K : PySem.W.Frag} {ρ ρ' : List Addr} {H H' : Hp}
theorem lookD_pos {p : List Int × A} {r : List (List Int × A)} {k : List Int} (e : p.1 = k) : lookD (p :: r) k = some p.2 := by simp [lookD, List.find?_cons, e]
theorem lookD_neg {p : List Int × A} {r : List (List Int × A)} {k : List Int} (e : ¬ p.1 = k) : lookD (p :: r) k = lookD r k := by simp [lookD, List.find?_cons, e]
theorem DV.look : ∀ {kvs : List (List Int × A)} {ks : List (List Key × V)} (k : List Int), DV K ρ H kvs ks -> (lookD kvs k).isSome = (valV ks (k.map Sum.inl)).isSome /\ ∀ x, lookD kvs k = some x -> ∃ v, valV ks (k.map Sum.inl) = some v /\ AV K ρ H x v
  | [], [], k, _ => ⟨rfl, fun x h => nomatch h⟩
  | p :: r, q :: r', k, ⟨⟨e, a⟩, t⟩ => by
    by_cases c : p.1 = k
    · have c' : q.1 = k.map Sum.inl := by rw [e, c]
      rw [lookD_pos c, valV_pos c']
      exact ⟨rfl, fun x h => by cases h; exact ⟨_, rfl, a⟩⟩
    · have c' : ¬ q.1 = k.map Sum.inl := fun z => c (inl_inj (e.symm.trans z))
      rw [lookD_neg c, valV_neg c']
      exact DV.look k t
theorem DV.repl {x : A} {v : V} (h : AV K ρ H x v) (k : List Int) : ∀ {kvs : List (List Int × A)} {ks : List (List Key × V)}, DV K ρ H kvs ks -> DV K ρ H (kvs.map fun kv => if kv.1 = k then (kv.1, x) else kv) (ks.map fun kv => if kv.1 = k.map Sum.inl then (kv.1, v) else kv)
  | [], [], _ => trivial
  | p :: r, q :: r', ⟨⟨e, a⟩, t⟩ => by
    refine ⟨?_, DV.repl h k t⟩
    dsimp only
    by_cases c : p.1 = k
    · rw [if_pos c, if_pos (by rw [e, c])]; exact ⟨e, h⟩
    · rw [if_neg c, if_neg (fun z => c (inl_inj (e.symm.trans z)))]; exact ⟨e, a⟩
theorem DV.snoc {x : A} {v : V} (h : AV K ρ H x v) (k : List Int) : ∀ {kvs : List (List Int × A)} {ks : List (List Key × V)}, DV K ρ H kvs ks -> DV K ρ H (kvs ++ [(k, x)]) (ks ++ [(k.map Sum.inl, v)])
  | [], [], _ => ⟨⟨rfl, h⟩, trivial⟩
  | p :: r, q :: r', ⟨a, t⟩ => ⟨a, DV.snoc h k t⟩
theorem DV.put {x : A} {v : V} (h : AV K ρ H x v) (k : List Int) {kvs : List (List Int × A)} {ks : List (List Key × V)} (d : DV K ρ H kvs ks) : DV K ρ H (putD kvs k x) (putK ks (k.map Sum.inl) v) := by
  unfold putD putK
  rw [valV_any, <- (d.look k).1]
  by_cases c : (lookD kvs k).isSome = true
  · rw [if_pos c, if_pos c]; exact DV.repl h k d
  · rw [if_neg c, if_neg c]; exact DV.snoc h k d
theorem DV.length : ∀ {kvs : List (List Int × A)} {ks : List (List Key × V)}, DV K ρ H kvs ks -> kvs.length = ks.length
  | [], [], _ => rfl
  | _ :: _, _ :: _, ⟨_, t⟩ => congrArg (· + 1) t.length
theorem Rel.dct {S : Sto} {n : Nat} {a : Addr} {xs : List (List Int × A)} (R : Rel K ρ H S) (ha : ρ[n]? = some a) (hS : S[n]? = some (.dct xs)) : ∃ vs, H a = some (.dT vs) /\ DV K ρ H xs vs := R.at n a _ ha hS
theorem Rel.putD {S : Sto} {n : Nat} {a : Addr} {xs ys : List (List Int × A)} {ws : List (List Key × V)} (R : Rel K ρ H S) (ha : ρ[n]? = some a) (hS : S[n]? = some (.dct xs)) (r : DV K ρ H ys ws) : Ext ρ ρ H (upd H a (.dT ws)) /\ Rel K ρ (upd H a (.dT ws)) (S.set n (.dct ys)) := by
  obtain ⟨vs, e, _⟩ := R.at n a _ ha hS
  have ex : Ext ρ ρ H (upd H a (.dT ws)) := ⟨⟨List.prefix_refl _, fun b u i h => by
    have : b ≠ a := by
      intro z; subst z; rw [e] at h; cases h; exact i
    rw [upd_ne this]; exact h⟩, fun b u h n => by
    rw [upd_ne (fun z => n (by rw [z]; exact List.mem_of_getElem? ha))]; exact h, fun _ h => .inl h⟩
  refine ⟨ex, by rw [List.length_set]; exact R.len, R.nd, fun m b o h1 h2 => ?_⟩
  by_cases hm : m = n
  · subst hm
    rw [ha] at h1; cases h1
    rw [List.getElem?_set_self (List.getElem?_eq_some_iff.mp hS).1] at h2
    cases h2
    exact ⟨ws, upd_same, r.ext ex⟩
  · rw [List.getElem?_set_ne (Ne.symm hm)] at h2
    have nb : b ≠ a := fun z => by
      subst z
      obtain ⟨l1, e1⟩ := List.getElem?_eq_some_iff.mp ha
      obtain ⟨l2, e2⟩ := List.getElem?_eq_some_iff.mp h1
      exact hm ((List.getElem_inj R.nd).mp (e2.trans e1.symm))
    have := R.at m b o h1 h2
    cases o with
    | lst ys => obtain ⟨ws', e', q⟩ := this; exact ⟨ws', by rw [upd_ne nb]; exact e', q.ext ex⟩
    | dct _ => obtain ⟨ws', e', q⟩ := this; exact ⟨ws', by rw [upd_ne nb]; exact e', q.ext ex⟩
    | ins _ _ => obtain ⟨oo, uu, e'⟩ := this; exact ⟨oo, uu, by rw [upd_ne nb]; exact e'⟩
end
section
variable {X : Cx} {pos : Pos} {a b : Expr}
noncomputable def aIxD (x y : A) (S : Sto) : R A := match x, y with
  | .ref n, .tup xs => opt (dctAt S n) fun kvs => opt (A.ints xs) fun ns => opt (lookD kvs ns) fun v => .ok v S
  | _, _ => .no
noncomputable def aInD (neg : Bool) (x y : A) (S : Sto) : R A := match x, y with
  | .tup xs, .ref n => opt (dctAt S n) fun kvs => opt (A.ints xs) fun ns => .ok (.bl (if neg then !(lookD kvs ns).isSome else (lookD kvs ns).isSome)) S
  | _, _ => .no
noncomputable def aSetD (o i v : A) (S : Sto) : R Unit := match o, i with
  | .ref n, .tup xs => opt (dctAt S n) fun kvs => opt (A.ints xs) fun ns => gd (kvs.length < sizeLine) (.ok () (S.set n (.dct (putD kvs ns v))))
  | _, _ => .no
noncomputable def rStD (X : Cx) : TSet := fun o i v H Q => ∃ ρ S ao ai av, Rel X.K ρ H S /\ AV X.K ρ H ao o /\ AV X.K ρ H ai i /\ AV X.K ρ H av v /\ (aSetD ao ai av S).post (fun _ S' => ∀ ρ' H', Ext ρ ρ' H H' -> Rel X.K ρ' H' S' -> Q H') (XE X ρ H)
noncomputable def gSbD (co ci : Ex) : Tg := fun a τ S => (co τ S).bind fun o S1 => (ci τ S1).bind fun i S2 => (aSetD o i a S2).bind fun _ S3 => .ok τ S3
noncomputable def eDNew : Ex := fun _ S => .ok (.ref S.length) (S ++ [.dct []])
noncomputable def eDisp (ck cv : Ex) : Ex := fun τ S => (ck τ S).bind fun k S1 => (cv τ S1).bind fun v S2 => match k with
  | .tup xs => opt (A.ints xs) fun ns => .ok (.ref S2.length) (S2 ++ [.dct [(ns, v)]])
  | _ => .no
noncomputable def dct? (a : A) (S : Sto) : Option Unit := match a with
  | .ref n => (dctAt S n).map fun _ => ()
  | _ => none
noncomputable def eMeD (f : A -> List A -> Sto -> R A) (co : Ex) (d : Exs) : Ex := fun τ S => (co τ S).bind fun x S1 => opt (dct? x S1) fun _ => (d τ S1).bind fun as S2 => f x as S2
noncomputable def mGet (o : A) (as : List A) (S : Sto) : R A := match o, as with
  | .ref n, [.tup xs, y] => opt (dctAt S n) fun kvs => opt (A.ints xs) fun k => .ok ((lookD kvs k).getD y) S
  | _, _ => .no
end
end Am
set_option Elab.async false
set_option linter.all false
set_option maxRecDepth 100000
set_option maxHeartbeats 4000000
namespace Am
open PySem PySem.Spec PyProof.Rows L2
section
variable {X : Cx} {pos : Pos} {a b : Expr}
noncomputable def zpSrc (n m k : Nat) : Src := ⟨k, fun i S => (lstAt S n).bind fun xs => (lstAt S m).bind fun ys => (xs[i]?).bind fun x => (ys[i]?).map fun y => .tup [x, y], fun S => match lstAt S n, lstAt S m with
  | some xs, some ys => decide (xs.length <= k) || decide (ys.length <= k)
  | _, _ => false⟩
noncomputable def kZip (a b : A) (S : Sto) : R Src := match a, b with
  | .ref n, .ref m => opt (lstAt S n) fun xs => opt (lstAt S m) fun ys => .ok (zpSrc n m (min xs.length ys.length)) S
  | _, _ => .no
noncomputable def iZip2 (c d : Ex) : Ic := fun τ S => (c τ S).bind fun a S1 => (d τ S1).bind fun b S2 => kZip a b S2
end
end Am
set_option Elab.async false
set_option linter.all false
set_option maxRecDepth 100000
set_option maxHeartbeats 4000000
namespace Am
open PySem PySem.Spec PyProof.Rows L2
section
variable {X : Cx} {pos : Pos} {a b tg : Expr}
noncomputable def rvSrc (n k : Nat) : Src := ⟨k, fun i S => (lstAt S n).bind fun xs => if i < k then xs[k - 1 - i]? else none, fun _ => true⟩
noncomputable def kRv (a : A) (S : Sto) : R Src := match a with
  | .ref n => opt (lstAt S n) fun xs => .ok (rvSrc n xs.length) S
  | _ => .no
noncomputable def iRv (c : Ex) : Ic := fun τ S => (c τ S).bind fun a S1 => kRv a S1
noncomputable def elSrc (n k : Nat) : Src := ⟨k, fun i S => (lstAt S n).bind fun xs => (xs[i]?).map fun x => .tup [.int i, x], fun S => match lstAt S n with
  | some ys => decide (ys.length = k)
  | none => false⟩
noncomputable def kEl (a : A) (S : Sto) : R Src := match a with
  | .ref n => opt (lstAt S n) fun xs => .ok (elSrc n xs.length) S
  | _ => .no
noncomputable def iEnL (c : Ex) : Ic := fun τ S => (c τ S).bind fun a S1 => kEl a S1
theorem jr_enL {K : PySem.W.Frag} {ρ0 : List Addr} {H0 : Hp} {p : Addr} {n k : Nat} (hp : ρ0[n]? = some p) : JR K (elSrc n k) (Itel K p) ρ0 H0 where
  go := fun i S H ρ x e R g => by
    obtain ⟨xs, hn, g⟩ := Option.bind_eq_some_iff.mp g
    obtain ⟨y, hy, rfl⟩ := Option.map_eq_some_iff.mp g
    obtain ⟨vs, h1, r1⟩ := R.lst (e.get hp) (lstAt_of hn)
    obtain ⟨v, ev, av⟩ := r1.get hy
    refine ⟨⟨vs, v, SqL.of h1, ev⟩, fun w H' q => ?_⟩
    obtain ⟨pp, hpp, rfl, hz⟩ := q
    have hz' := hz vs v (SqL.of h1) ev
    subst hz'
    obtain ⟨ex, R'⟩ := R.im (u := .tup [.int i, v]) hpp
    exact ⟨ex, R', .tup upd_same (.cons (.int _) (.cons (av.ext ex) .nil))⟩
  stop := fun S H ρ e R hf => by
    have hf : (match lstAt S n with
      | some ys => decide (ys.length = k)
      | none => false) = true := hf
    cases hn : lstAt S n with
    | none => rw [hn] at hf; cases hf
    | some xs =>
      rw [hn] at hf
      obtain ⟨vs, h1, r1⟩ := R.lst (e.get hp) (lstAt_of hn)
      exact ⟨vs, SqL.of h1, by rw [<- r1.length]; exact of_decide_eq_true hf⟩
theorem ai_enL {elts : List Expr} {x1 : Nat} {tpos p : Pos} {c : Ex} (hm : X.mg "enumerate" = none) (ha : AE X a c) (hg : Gl X "enumerate" := by rfl) (hs : starEach [a] X.env = [(false, eval a X.env)] := by rfl) : AI X (.Tuple elts x1 tpos) (.Call (.Name "enumerate" p) [a] [] pos) (iEnL c) := fun pins s σ H Q I ⟨ρ, S, τ, R, r, h⟩ => by
  refine pi_enumL hg hm (pa_cons ha pa_nil hs) hs pins s σ H Q I ⟨ρ, S, τ, R, r, post_ext (post_bind h) .refl fun x S1 h1 ρ1 H1 v e1 R1 v1 => ?_⟩
  cases v1 with
  | @ref p n hp =>
    obtain ⟨xs, hn, h1⟩ := opt_post h1
    obtain ⟨vs, g1, r1⟩ := R1.lst hp (lstAt_of hn)
    exact ⟨_, vs, rfl, SqL.of g1, h1 ρ1 H1 _ e1 R1 (jr_enL hp)⟩
  | _ => exact h1.elim
theorem iEnL_ap {c : Ex} {τ : List A} {S S1 : Sto} {n : Nat} {xs : List A} (h : c τ S = .ok (.ref n) S1) (hn : lstAt S1 n = some xs) : iEnL c τ S = .ok (elSrc n xs.length) S1 := by
  unfold iEnL
  rw [h]
  show opt (lstAt S1 n) _ = _
  rw [hn]; rfl
noncomputable def itA (p : List Int × A) : A := .tup [.tup (p.1.map .int), p.2]
noncomputable def kItD (a : A) (S : Sto) : R Src := match a with
  | .ref n => opt (dctAt S n) fun kvs => .ok (fixSrc (kvs.map itA)) (S.set n (.ins "" []))
  | _ => .no
noncomputable def iItD (c : Ex) : Ic := fun τ S => (c τ S).bind fun a S1 => kItD a S1
theorem Rel.gone {K : PySem.W.Frag} {ρ : List Addr} {H : Hp} {S : Sto} {n : Nat} {a : Addr} {xs : List (List Int × A)} {o : Obj} {u : HO} (R : Rel K ρ H S) (ha : ρ[n]? = some a) (hS : S[n]? = some (.dct xs)) : Ext ρ ρ H (upd H a (.frz o u)) /\ Rel K ρ (upd H a (.frz o u)) (S.set n (.ins "" [])) := by
  obtain ⟨vs, e, _⟩ := R.at n a _ ha hS
  have ex : Ext ρ ρ H (upd H a (.frz o u)) := ⟨⟨List.prefix_refl _, fun b u' i h => by
    have : b ≠ a := by
      intro z; subst z; rw [e] at h; cases h; exact i
    rw [upd_ne this]; exact h⟩, fun b u' h nb => by
    rw [upd_ne (fun z => nb (by rw [z]; exact List.mem_of_getElem? ha))]; exact h, fun _ h => .inl h⟩
  refine ⟨ex, by rw [List.length_set]; exact R.len, R.nd, fun m b ob h1 h2 => ?_⟩
  by_cases hm : m = n
  · subst hm
    rw [ha] at h1; cases h1
    rw [List.getElem?_set_self (List.getElem?_eq_some_iff.mp hS).1] at h2
    cases h2
    exact ⟨o, u, upd_same⟩
  · rw [List.getElem?_set_ne (Ne.symm hm)] at h2
    have nb : b ≠ a := fun z => by
      subst z
      obtain ⟨l1, e1⟩ := List.getElem?_eq_some_iff.mp ha
      obtain ⟨l2, e2⟩ := List.getElem?_eq_some_iff.mp h1
      exact hm ((List.getElem_inj R.nd).mp (e2.trans e1.symm))
    have := R.at m b ob h1 h2
    cases ob with
    | lst ys => obtain ⟨ws', e', q⟩ := this; exact ⟨ws', by rw [upd_ne nb]; exact e', q.ext ex⟩
    | dct _ => obtain ⟨ws', e', q⟩ := this; exact ⟨ws', by rw [upd_ne nb]; exact e', q.ext ex⟩
    | ins _ _ => obtain ⟨oo, uu, e'⟩ := this; exact ⟨oo, uu, by rw [upd_ne nb]; exact e'⟩
end
end Am
set_option Elab.async false
set_option linter.all false
set_option maxRecDepth 100000
set_option maxHeartbeats 4000000
namespace Am
open PySem PySem.Spec PyProof.Rows L2
noncomputable def compIn (s : Src) (g : Tg) (t : Te) (e : Ex) : Nat -> Nat -> List A -> Sto -> R (List A × List A)
  | 0, _ => fun τ S => if s.fin S then .ok ([], τ) S else .no
  | k + 1, i => fun τ S => opt (s.get i S) fun x => (g x τ S).bindN fun τ1 S1 => (t τ1 S1).bindN fun b S2 => match b with
    | true => (e τ1 S2).bindN fun y S3 => (compIn s g t e k (i + 1) τ1 S3).bindN fun p S4 => .ok (y :: p.1, p.2) S4
    | false => compIn s g t e k (i + 1) τ1 S2
noncomputable def compOut (s : Src) (g : Tg) (t : Te) (src2 : Ic) (g2 : Tg) (t2 : Te) (e : Ex) : Nat -> Nat -> List A -> Sto -> R (List A)
  | 0, _ => fun _ S => if s.fin S then .ok [] S else .no
  | k + 1, i => fun τ S => opt (s.get i S) fun x => (g x τ S).bindN fun τ1 S1 => (t τ1 S1).bindN fun b S2 => match b with
    | true => (src2 τ1 S2).bindN fun s2 S3 => (compIn s2 g2 t2 e s2.k 0 τ1 S3).bindN fun p S4 => (compOut s g t src2 g2 t2 e k (i + 1) p.2 S4).bindN fun ys S5 => .ok (p.1 ++ ys) S5
    | false => compOut s g t src2 g2 t2 e k (i + 1) τ1 S2
noncomputable def eComp2 (cap : List (Option Nat)) (src : Ic) (g : Tg) (t : Te) (src2 : Ic) (g2 : Tg) (t2 : Te) (e : Ex) : Ex := fun τ S => (src τ S).bind fun s S1 => (compOut s g t src2 g2 t2 e s.k 0 (capA cap τ) S1).bindN fun ys S2 => newL ys S2
noncomputable def tI0 (K : PySem.W.Frag) (c : Ic) : TI := fun σ H Q => ∃ ρ S τ s S', Rel K ρ H S /\ SR K ρ H τ σ /\ c τ S = .ok s S' /\ ∀ ρ' H' J, Ext ρ ρ' H H' -> Rel K ρ' H' S' -> JR K s J ρ' H' -> Q J H'
structure Out (ρ1 : List Addr) (H1 : Hp) (D : Addr) (accV : List V) (ρ : List Addr) (H : Hp) : Prop where
  e0 : Ext0 ρ1 ρ H1 H
  fr : ∀ a u, a ≠ D -> H1 a = some u -> a ∉ ρ1 -> H a = some u
  nw : ∀ a ∈ ρ, a ∈ ρ1 \/ H1 a = none
  nD : D ∉ ρ
  hD : H D = some (.lst accV)
theorem Out.stay {ρ1 ρ3 ρ7 : List Addr} {H1 H3 H7 : Hp} {D : Addr} {accV : List V} (o : Out ρ1 H1 D accV ρ3 H3) (hD1 : H1 D = none) (e7 : Ext ρ3 ρ7 H3 H7) : Out ρ1 H1 D accV ρ7 H7 := by
  refine ⟨⟨o.e0.pre.trans e7.pre, fun a u i h => e7.im a u i (o.e0.im a u i h)⟩, fun a u na hu nr => e7.fr a u (o.fr a u na hu nr) fun z => (o.nw a z).elim nr fun z => by (rw [z] at hu; cases hu), fun a ha => ?_, fun z => (e7.nw D z).elim o.nD fun z => by (rw [o.hD] at z; cases z), e7.fr D _ o.hD o.nD⟩
  by_cases hr : a ∈ ρ1
  · exact .inl hr
  · right
    cases q : H1 a with
    | none => rfl
    | some u =>
      have aD : a ≠ D := ne_of_none q hD1
      rcases e7.nw a ha with z | z
      · exact ((o.nw a z).elim hr fun z => by (rw [z] at q; cases q)).elim
      · rw [o.fr a u aD q hr] at z; cases z
section
variable {X : Cx} {pos : Pos} {tg iter tg2 iter2 elt e : Expr} {ifs ifs2 : List Expr} {scope : Scope} {N : List Str} {cap : List (Option Nat)} {src src2 : Ic} {g g2 : Tg} {t t2 : Te} {c : Ex}
theorem AI.i0 {K : PySem.W.Frag} (hK : X.K = K) (h : AI X tg e src) : PI X tg e (tI0 K src) := fun pins s σ H Q I ⟨ρ, S, τ, a, S', R, r, hc, q⟩ => h pins s σ H Q I ⟨ρ, S, τ, by rw [hK]; exact R, by rw [hK]; exact r, by rw [hc]; exact fun ρ' H' J e R' v' => q ρ' H' J e (by rw [<- hK]; exact R') (by rw [<- hK]; exact v')⟩
end
end Am
set_option Elab.async false
set_option linter.all false
set_option maxRecDepth 100000
set_option maxHeartbeats 4000000
namespace Am
open PySem PySem.Spec PyProof.Rows L2
noncomputable def spX (K : PySem.W.Frag) (n : Nat) (F : List A -> Sto -> R A) : Sp := fun vs H Q E => vs.length = n /\ ∃ ρ S as, Rel K ρ H S /\ AVs K ρ H as vs /\ (F as S).post (fun a S' => ∀ ρ' H' v, Ext ρ ρ' H H' -> Rel K ρ' H' S' -> AV K ρ' H' a v -> Q v H') (fun c S' => ∀ C ρ' H', ClN K c C -> Ext ρ ρ' H H' -> Rel K ρ' H' S' -> E (.ref C) none H')
section
variable {P : Program} {w : World} {K : PySem.W.Frag} {mg : Str -> Option Value} {base : Heap}
end
noncomputable def KnX (P : Program) (w : World) (K : PySem.W.Frag) (mg : Str -> Option Value) (base : Heap) (k : Nat) (x : Str) (ps : List Str) (F : List A -> Sto -> R A) : Prop :=
  ∃ (f : Addr) (fd : FuncData), FnOk P w K mg base (CXA P w) k f fd ps (spX K ps.length F) /\ mg x = some (.ref f) /\ PySem.W.keepIn K (.ref f) = true /\ Binds K fd ps []
noncomputable def eFnX (F : List A -> Sto -> R A) (d : Exs) : Ex := fun τ S => (d τ S).bind fun as S1 => F as S1
section
variable {X : Cx} {pos p : Pos} {e : Expr} {es : List Expr} {x : Str} {ps : List Str} {k : Nat} {F : List A -> Sto -> R A} {d : Exs}
end
noncomputable def bmV : List Value := [.type "ValueError", .type "Exception", .type "BaseException", .type "object"]
noncomputable def fsR : List (Str ⊕ Ex) -> List A -> Sto -> R Unit
  | [], _, S => .ok () S
  | .inl _ :: ps, τ, S => fsR ps τ S
  | .inr e :: ps, τ, S => (e τ S).bind fun v S1 => match v with
    | .int i => gd (i.natAbs.log2 < 64) (fsR ps τ S1)
    | _ => .no
noncomputable def fsOk : List (Str ⊕ Ex) -> Bool
  | [] => true
  | .inl x :: ps => decide (x.length <= 1000) && fsOk ps
  | .inr _ :: ps => fsOk ps
noncomputable def sRaise (c : Str) (ps : List (Str ⊕ Ex)) : Sm := fun τ S => .of (fsR ps τ S) fun _ S1 => .ex c S1
noncomputable def tPs (X : Cx) : List (Str ⊕ Ex) -> List (Str ⊕ TE)
  | [] => []
  | .inl x :: ps => .inl x :: tPs X ps
  | .inr e :: ps => .inr (tE X e) :: tPs X ps
section
variable {X : Cx} {pos np cpos fp : Pos} {x : Str} {C : Addr} {e1 e2 : Expr} {es : List Expr} {ps : List (Str ⊕ Ex)}
end
noncomputable def unR (i : Nat) : RS -> RS
  | .nx τ S => .nx (τ.set i .unb) S
  | .bk τ S => .bk (τ.set i .unb) S
  | .ct τ S => .ct (τ.set i .unb) S
  | .rt a S => .rt a S
  | _ => .no
noncomputable def sTry (i n : Nat) (cs : List Str) (c d : Sm) : Sm := fun τ S => match c τ S with
  | .ex x S1 => if x ∈ cs then unR i (d ((List.replicate n .unb).set i (.exn x)) S1) else .no
  | r => r
theorem SR.unset {K : PySem.W.Frag} {ρ : List Addr} {H : Hp} {τ : List A} {σ : L2.St} {i : Nat} (s : SR K ρ H τ σ) : SR K ρ H (τ.set i .unb) (σ.set i none) := by
  refine ⟨by simp [s.len], fun j b e => ?_⟩
  by_cases hj : j = i
  · subst hj
    have hl : j < τ.length := by
      have := (List.getElem?_eq_some_iff.mp e).1
      simpa using this
    rw [List.getElem?_set_self hl] at e
    cases e
    exact .inl rfl
  · rw [List.getElem?_set_ne (Ne.symm hj)] at e
    rw [List.getElem?_set_ne (Ne.symm hj)]
    exact s.at j b e
section
variable {X : Cx} {pos np hp : Pos} {y n : Str} {Dc : Addr} {i : Nat} {body suite : List Stmt} {b0 : Stmt} {c d : Sm} {cs : List Str}
end
noncomputable def eIsX (f : Str -> Option Bool) (c : Ex) : Ex := fun τ S => (c τ S).bind fun v S1 => match v with
  | .exn x => opt (f x) fun b => .ok (.bl b) S1
  | _ => .no
section
variable {X : Cx} {pos p py : Pos} {a : Expr} {y : Str} {vy : V} {cy : Value} {f : Str -> Option Bool} {c : Ex}
end
structure ExcK (K : PySem.W.Frag) (U : Addr) (c : Str) (C : Addr) : Prop where
  n : ClN K c C
  q : PySem.W.excIn K C bmV "ValueError.__new__" = true
  r : L2.mroIn K C = some (.ref U :: bmV)
  x : XCls K C
  cl : (PySem.W.clsIn K C).isSome = true
  v : PySem.W.kitOne K (.ref C) (.type "ValueError") = some true
noncomputable def tbX (tb : List (Str × Bool)) : Str -> Option Bool := fun x => tb.lookup x
section
variable {X : Cx} {pos p py : Pos} {a : Expr} {y : Str} {Cy : Addr} {tb : List (Str × Bool)} {c : Ex}
end
section
variable {P : Program} {w : World} {K : PySem.W.Frag} {mg : Str -> Option Value} {base : Heap}
end
noncomputable abbrev KnHA (P : Program) (w : World) (K : PySem.W.Frag) (mg : Str -> Option Value) (base : Heap) (k : Nat) (x : Str) (ps : List Str) (F : List A -> Sto -> R A) : Prop := KnH P w K mg base k x ps (spA K ps.length F)
noncomputable def EXs (X : Cx) (σ : L2.St) (cls : Value) (H' : Hp) : Prop := X.ex = [] /\ ∀ pins s' e, Inv X pins σ H' s' -> Raised X H' e cls s' -> X.xe (.ref e) s'
noncomputable def XEs (X : Cx) (σ : L2.St) (ρ : List Addr) (H : Hp) : Str -> Sto -> Prop := fun c S' => ∀ (C : Addr) (ρ' : List Addr) (H' : Hp), ClN X.K c C -> Ext ρ ρ' H H' -> Rel X.K ρ' H' S' -> EXs X σ (.ref C) H'
noncomputable def tEs (X : Cx) (c : Ex) : TE := fun σ H Q => ∃ ρ S τ, Rel X.K ρ H S /\ SR X.K ρ H τ σ /\ (c τ S).post (okP X ρ H Q) (XEs X σ ρ H)
noncomputable def AEs (X : Cx) (e : Expr) (c : Ex) : Prop := PE X e (tEs X c)
noncomputable def tSs (X : Cx) (c : Sm) : TS := fun D σ H => ∃ ρ S τ, Rel X.K ρ H S /\ SR X.K ρ H τ σ /\ (c τ S).post (nxP X ρ H D.nx) (okP X ρ H D.rt) (nxP X ρ H D.bk) (nxP X ρ H D.ct) (XEs X σ ρ H)
noncomputable def AS1 (X : Cx) (st : Stmt) (c : Sm) : Prop := PS X st (tSs X c)
noncomputable def eFnK (F : List A -> Sto -> R A) (d : Exs) : Ex := fun τ S => match d τ S with
  | .ok as S1 => F as S1
  | _ => .no
section
variable {X : Cx} {pos p : Pos} {e : Expr} {es : List Expr} {x : Str} {ps : List Str} {k : Nat} {F : List A -> Sto -> R A} {d : Exs}
noncomputable def sIfK (t : Te) (c d : Sm) : Sm := fun τ S => match t τ S with
  | .ok true S1 => c τ S1
  | .ok false S1 => d τ S1
  | _ => .no
theorem XEs.ext {σ : L2.St} {ρ ρ' : List Addr} {H H' : Hp} {c : Str} {S : Sto} (h : XEs X σ ρ H c S) (e : Ext ρ ρ' H H') : XEs X σ ρ' H' c S := fun C ρ2 H2 n e2 => h C ρ2 H2 n (e.trans e2)
end
noncomputable def sTryL (i : Nat) (cs : List Str) (c d : Sm) : Sm := fun τ S => match c τ S with
  | .ex x S1 => if x ∈ cs then unR i (d (τ.set i (.exn x)) S1) else .no
  | r => r
section
variable {X : Cx} {pos np hp : Pos} {y n : Str} {Dc : Addr} {i : Nat} {suite : List Stmt} {b b0 : Stmt} {c d : Sm} {cs : List Str}
end
end Am
set_option Elab.async false
set_option linter.all false
set_option maxRecDepth 100000
set_option maxHeartbeats 4000000
namespace Am
open PySem PySem.Spec PyProof.Rows L2
noncomputable def sNo : Sm := fun _ _ => .no
theorem law_start {K : PySem.W.Frag} {H : Hp} {a : Addr} {ns : List Int} {F : List A -> Sto -> R A} (hO : Only H) (hS : SqL K H a (ns.map V.int)) (h : ∃ S', F [.frz (ns.map .int)] [] = .ok (.bl true) S') : spA K 1 F [.ref a] H (fun v _ => v = .bl true) fun _ _ _ => False := by
  obtain ⟨S', h⟩ := h
  have fz : Fz K H a (ns.map V.int) := by
    rcases hS with (h | ⟨o, h⟩) | h
    · rcases hO a with z | ⟨ob, xs, z⟩
      · rw [h] at z; cases z
      · rw [h] at z; cases z
    · exact .inl ⟨o, h⟩
    · exact .inr h
  exact ⟨rfl, [], [], _, _, S', ⟨rfl, List.nodup_nil, fun n a o h => by simp at h⟩, .cons (.frz fz (avs_ints ns)) .nil, h, fun ρ' H' v _ _ hv => av_bl hv⟩
section
variable {P : Program} {w : World} {K : PySem.W.Frag} {mg : Str -> Option Value} {base : Heap} {f : Addr} {fd : FuncData} {ps : List Str} {k n : Nat}
end
end Am
set_option Elab.async false
set_option linter.all false
set_option maxRecDepth 100000
set_option maxHeartbeats 4000000
namespace Am
open PySem L2
section
variable {α β : Type} {a b : A} {S S1 S2 : Sto} {τ : List A} {x : α}
@[simp] theorem R.bind_ok {f : α -> Sto -> R β} : (R.ok x S).bind f = f x S := rfl
@[simp] theorem R.bind_ex {f : α -> Sto -> R β} {c : Str} : (R.ex c S : R α).bind f = .ex c S := rfl
@[simp] theorem R.bindN_ok' {f : α -> Sto -> R β} : (R.ok x S).bindN f = f x S := rfl
@[simp] theorem RS.of_ok {f : α -> Sto -> RS} : RS.of (R.ok x S) f = f x S := rfl
@[simp] theorem RS.of_ex {f : α -> Sto -> RS} {c : Str} : RS.of (R.ex c S : R α) f = .ex c S := rfl
@[simp] theorem opt_some {f : β -> R α} {y : β} : opt (some y) f = f y := rfl
@[simp] theorem gd_true {r : R α} : gd True r = r := if_pos trivial
theorem gd_of {c : Prop} [Decidable c] {r : R α} (h : c) : gd c r = r := if_pos h
@[simp] theorem eVar_ap {i : Nat} : eVar i τ S = bif (τ.getD i .unb).isUnb then .no else .ok (τ.getD i .unb) S := by unfold eVar; cases (τ.getD i .unb).isUnb <;> rfl
@[simp] theorem unb_tup {xs : List A} : A.isUnb (.tup xs) = false := rfl
@[simp] theorem unb_frz {xs : List A} : A.isUnb (.frz xs) = false := rfl
@[simp] theorem unb_int {i : Int} : A.isUnb (.int i) = false := rfl
@[simp] theorem unb_bl {i : Bool} : A.isUnb (.bl i) = false := rfl
@[simp] theorem unb_str {i : Str} : A.isUnb (.str i) = false := rfl
@[simp] theorem unb_ref {i : Nat} : A.isUnb (.ref i) = false := rfl
@[simp] theorem unb_non : A.isUnb .non = false := rfl
@[simp] theorem unb_rng {i j : Int} : A.isUnb (.rng i j) = false := rfl
@[simp] theorem unb_exn {c : Str} : A.isUnb (.exn c) = false := rfl
@[simp] theorem eC_ap : eC a τ S = .ok a S := rfl
noncomputable def kBin (f : A -> A -> Sto -> R A) (cb : Ex) (τ : List A) (a : A) (S : Sto) : R A := (cb τ S).bind (f a)
@[simp] theorem kBin_ap {f : A -> A -> Sto -> R A} {cb : Ex} : kBin f cb τ a S = (cb τ S).bind (f a) := rfl
@[simp] theorem eBin_ap {f : A -> A -> Sto -> R A} {ca cb : Ex} : eBin f ca cb τ S = (ca τ S).bind (kBin f cb τ) := rfl
@[simp] theorem eUn_ap {f : A -> Sto -> R A} {ca : Ex} : eUn f ca τ S = (ca τ S).bind f := rfl
@[simp] theorem eTru_ap {c : Ex} : eTru c τ S = (c τ S).bind fun a S1 => opt (a.tru S1) fun b => .ok b S1 := rfl
noncomputable def aB (a : A) (S : Sto) : R Bool := match a with
  | .bl b => .ok b S
  | _ => .no
@[simp] theorem aB_bl {b : Bool} : aB (.bl b) S = .ok b S := rfl
@[simp] theorem toB_ap {c : Ex} : toB c τ S = (c τ S).bind aB := rfl
@[simp] theorem bNot_ap {c : Te} : bNot c τ S = (c τ S).bind fun b S1 => .ok (!b) S1 := rfl
noncomputable def kAnd (d : Te) (τ : List A) (b : Bool) (S : Sto) : R Bool := match b with | true => d τ S | false => .ok false S
noncomputable def kOr (d : Te) (τ : List A) (b : Bool) (S : Sto) : R Bool := match b with | true => .ok true S | false => d τ S
@[simp] theorem kAnd_t {d : Te} : kAnd d τ true S = d τ S := rfl
@[simp] theorem kAnd_f {d : Te} : kAnd d τ false S = .ok false S := rfl
@[simp] theorem kOr_t {d : Te} : kOr d τ true S = .ok true S := rfl
@[simp] theorem kOr_f {d : Te} : kOr d τ false S = d τ S := rfl
@[simp] theorem bAnd_ap {c d : Te} : bAnd c d τ S = (c τ S).bind (kAnd d τ) := rfl
@[simp] theorem bOr_ap {c d : Te} : bOr c d τ S = (c τ S).bind (kOr d τ) := rfl
@[simp] theorem bYes_ap : bYes τ S = .ok true S := rfl
noncomputable def aAndB (d : Ex) (τ : List A) (a : A) (S : Sto) : R A := match a with | .bl true => d τ S | .bl false => .ok (.bl false) S | _ => .no
noncomputable def aOrB (d : Ex) (τ : List A) (a : A) (S : Sto) : R A := match a with | .bl true => .ok (.bl true) S | .bl false => d τ S | _ => .no
@[simp] theorem aAndB_t {d : Ex} : aAndB d τ (.bl true) S = d τ S := rfl
@[simp] theorem aAndB_f {d : Ex} : aAndB d τ (.bl false) S = .ok (.bl false) S := rfl
@[simp] theorem aOrB_t {d : Ex} : aOrB d τ (.bl true) S = .ok (.bl true) S := rfl
@[simp] theorem aOrB_f {d : Ex} : aOrB d τ (.bl false) S = d τ S := rfl
@[simp] theorem eAnd_ap {c d : Ex} : eAnd c d τ S = (c τ S).bind (aAndB d τ) := by
  unfold eAnd
  cases c τ S with
  | ok a S1 => cases a <;> first | rfl | (rename_i b; cases b <;> rfl)
  | _ => rfl
@[simp] theorem eOr_ap {c d : Ex} : eOr c d τ S = (c τ S).bind (aOrB d τ) := by
  unfold eOr
  cases c τ S with
  | ok a S1 => cases a <;> first | rfl | (rename_i b; cases b <;> rfl)
  | _ => rfl
noncomputable def aNotB (a : A) (S : Sto) : R A := match a with | .bl b => .ok (.bl !b) S | _ => .no
@[simp] theorem aNotB_bl {b : Bool} : aNotB (.bl b) S = .ok (.bl !b) S := rfl
@[simp] theorem eNot_ap {c : Ex} : eNot c τ S = (c τ S).bind aNotB := rfl
noncomputable def kIfE (c d : Ex) (τ : List A) (b : Bool) (S : Sto) : R A := match b with | true => c τ S | false => d τ S
@[simp] theorem kIfE_t {c d : Ex} : kIfE c d τ true S = c τ S := rfl
@[simp] theorem kIfE_f {c d : Ex} : kIfE c d τ false S = d τ S := rfl
@[simp] theorem eIf_ap {t : Te} {c d : Ex} : eIf t c d τ S = (t τ S).bind (kIfE c d τ) := rfl
@[simp] theorem lNil_ap : lNil τ S = .ok [] S := rfl
noncomputable def kCons2 (a : A) (as : List A) (S : Sto) : R (List A) := .ok (a :: as) S
noncomputable def kCons (d : Exs) (τ : List A) (a : A) (S : Sto) : R (List A) := (d τ S).bind (kCons2 a)
@[simp] theorem kCons2_ap {as : List A} : kCons2 a as S = .ok (a :: as) S := rfl
@[simp] theorem kCons_ap {d : Exs} : kCons d τ a S = (d τ S).bind (kCons2 a) := rfl
@[simp] theorem lCons_ap {c : Ex} {d : Exs} : lCons c d τ S = (c τ S).bind (kCons d τ) := rfl
@[simp] theorem eTup_ap {d : Exs} : eTup d τ S = (d τ S).bind fun as S1 => gd (as.length <= sizeLine) (.ok (.tup as) S1) := rfl
@[simp] theorem eLst_ap {d : Exs} : eLst d τ S = (d τ S).bind newL := rfl
theorem newL_ok {as : List A} (h : as.length <= 16777216) : newL as S = .ok (.ref S.length) (S ++ [.lst as]) := gd_of (by rw [sizeLine_eq]; exact h)
@[simp] theorem eCall_ap {f : List A -> Sto -> R A} {d : Exs} : eCall f d τ S = (d τ S).bind f := rfl
noncomputable def okR (r : R A) : R A := match r with
  | .ok a S => .ok a S
  | _ => .no
@[simp] theorem okR_ok : okR (.ok a S) = .ok a S := rfl
noncomputable def kFn (f : List A -> Sto -> R A) (as : List A) (S : Sto) : R A := okR (f as S)
@[simp] theorem kFn_ap {f : List A -> Sto -> R A} {as : List A} : kFn f as S = okR (f as S) := rfl
@[simp] theorem eFn_ap {f : List A -> Sto -> R A} {d : Exs} : eFn f d τ S = (d τ S).bind (kFn f) := rfl
@[simp] theorem f1_ap {g : A -> Sto -> R A} : f1 g [a] S = g a S := rfl
@[simp] theorem f2_ap {g : A -> A -> Sto -> R A} : f2 g [a, b] S = g a b S := rfl
noncomputable def kSl2 (h : Pt) (τ : List A) (a : A) (l : Option Int) (S : Sto) : R A := (h τ S).bind (aSl a l)
noncomputable def kSl (l h : Pt) (τ : List A) (a : A) (S : Sto) : R A := (l τ S).bind (kSl2 h τ a)
@[simp] theorem kSl2_ap {h : Pt} {l : Option Int} : kSl2 h τ a l S = (h τ S).bind (aSl a l) := rfl
@[simp] theorem kSl_ap {l h : Pt} : kSl l h τ a S = (l τ S).bind (kSl2 h τ a) := rfl
@[simp] theorem eSl_ap {c : Ex} {l h : Pt} : eSl c l h τ S = (c τ S).bind (kSl l h τ) := rfl
@[simp] theorem pNone_ap : pNone τ S = .ok none S := rfl
noncomputable def aPt (a : A) (S : Sto) : R (Option Int) := match a with
  | .int i => .ok (some i) S
  | _ => .no
@[simp] theorem aPt_int {i : Int} : aPt (.int i) S = .ok (some i) S := rfl
@[simp] theorem pSome_ap {c : Ex} : pSome c τ S = (c τ S).bind aPt := rfl
noncomputable def kMe2 (f : A -> List A -> Sto -> R A) (d : Exs) (τ : List A) (o : A) (S : Sto) (_ : List A) : R A := (d τ S).bind (f o)
noncomputable def kMe (f : A -> List A -> Sto -> R A) (d : Exs) (τ : List A) (o : A) (S : Sto) : R A := opt (o.lst? S) (kMe2 f d τ o S)
@[simp] theorem kMe2_ap {f : A -> List A -> Sto -> R A} {d : Exs} {xs : List A} : kMe2 f d τ a S xs = (d τ S).bind (f a) := rfl
@[simp] theorem kMe_ap {f : A -> List A -> Sto -> R A} {d : Exs} : kMe f d τ a S = opt (a.lst? S) (kMe2 f d τ a S) := rfl
@[simp] theorem eMe_ap {f : A -> List A -> Sto -> R A} {c : Ex} {d : Exs} : eMe f c d τ S = (c τ S).bind (kMe f d τ) := rfl
@[simp] theorem eMe0_ap {f : A -> List A -> Sto -> R A} {c : Ex} : eMe0 f c τ S = (c τ S).bind fun o S1 => opt (o.lst? S1) fun _ => f o [] S1 := rfl
@[simp] theorem lst?_ref {n : Nat} : A.lst? S (.ref n) = lstAt S n := rfl
noncomputable def RS.seq (r : RS) (d : Sm) : RS := match r with
  | .nx τ S => d τ S
  | r => r
@[simp] theorem RS.seq_nx {d : Sm} : RS.seq (.nx τ S) d = d τ S := rfl
@[simp] theorem RS.seq_rt {d : Sm} : RS.seq (.rt a S) d = .rt a S := rfl
@[simp] theorem RS.seq_ex {d : Sm} {c : Str} : RS.seq (.ex c S) d = .ex c S := rfl
@[simp] theorem RS.seq_bk {d : Sm} : RS.seq (.bk τ S) d = .bk τ S := rfl
@[simp] theorem RS.seq_ct {d : Sm} : RS.seq (.ct τ S) d = .ct τ S := rfl
@[simp] theorem sSeq_ap {c d : Sm} : sSeq c d τ S = RS.seq (c τ S) d := by unfold sSeq RS.seq; cases c τ S <;> rfl
@[simp] theorem sNil_ap : sNil τ S = .nx τ S := rfl
@[simp] theorem sBreak_ap : sBreak τ S = .bk τ S := rfl
@[simp] theorem sCont_ap : sCont τ S = .ct τ S := rfl
@[simp] theorem sExpr_ap {e : Ex} : sExpr e τ S = RS.of (e τ S) fun _ S1 => .nx τ S1 := rfl
@[simp] theorem sRet_ap {e : Ex} : sRet e τ S = RS.of (e τ S) .rt := rfl
@[simp] theorem sRetN_ap : sRetN τ S = .rt .non S := rfl
noncomputable def kIf (c d : Sm) (τ : List A) (b : Bool) (S : Sto) : RS := match b with | true => c τ S | false => d τ S
@[simp] theorem kIf_t {c d : Sm} : kIf c d τ true S = c τ S := rfl
@[simp] theorem kIf_f {c d : Sm} : kIf c d τ false S = d τ S := rfl
@[simp] theorem sIf_ap {t : Te} {c d : Sm} : sIf t c d τ S = RS.of (t τ S) (kIf c d τ) := rfl
noncomputable def kAsg (g : Tg) (τ : List A) (a : A) (S : Sto) : RS := RS.of (g a τ S) .nx
@[simp] theorem kAsg_ap {g : Tg} : kAsg g τ a S = RS.of (g a τ S) .nx := rfl
@[simp] theorem sAsg_ap {e : Ex} {g : Tg} : sAsg e g τ S = RS.of (e τ S) (kAsg g τ) := rfl
@[simp] theorem gNm_ap {i : Nat} : gNm i a τ S = .ok (τ.set i a) S := rfl
noncomputable def kSb2 (a o : A) (τ : List A) (i : A) (S : Sto) : R (List A) := (aSet o i a S).bind fun _ S3 => .ok τ S3
noncomputable def kSb (ci : Ex) (τ : List A) (a o : A) (S : Sto) : R (List A) := (ci τ S).bind (kSb2 a o τ)
@[simp] theorem kSb2_ap {o i : A} : kSb2 a o τ i S = (aSet o i a S).bind fun _ S3 => .ok τ S3 := rfl
@[simp] theorem kSb_ap {ci : Ex} {o : A} : kSb ci τ a o S = (ci τ S).bind (kSb2 a o τ) := rfl
@[simp] theorem gSb_ap {co ci : Ex} : gSb co ci a τ S = (co τ S).bind (kSb ci τ a) := rfl
@[simp] theorem gTp_ap {n : Nat} {gs : Tgs} {xs : List A} : gTp n gs (.tup xs) τ S = gd (xs.length = n) (gs xs τ S) := rfl
@[simp] theorem gNl_ap : gNl [] τ S = .ok τ S := rfl
@[simp] theorem gCn_ap {g : Tg} {gs : Tgs} {as : List A} : gCn g gs (a :: as) τ S = (g a τ S).bind (gs as) := rfl
noncomputable def sPr (i j : Nat) (τ : List A) (as : List A) (S : Sto) : RS := match as with
  | [a, b] => .nx ((τ.set i a).set j b) S
  | _ => .no
@[simp] theorem sPr_ap {i j : Nat} : sPr i j τ [a, b] S = .nx ((τ.set i a).set j b) S := rfl
@[simp] theorem sPar_ap {i j : Nat} {c : Exs} : sPar i j c τ S = RS.of (c τ S) (sPr i j τ) := rfl
noncomputable def kAug2 (i : Nat) (τ : List A) (c : A) (S : Sto) : RS := .nx (τ.set i c) S
noncomputable def kAug (i : Nat) (f : A -> A -> Sto -> R A) (τ : List A) (b : A) (S : Sto) : RS := .of (f (τ.getD i .unb) b S) (kAug2 i τ)
@[simp] theorem kAug2_ap {i : Nat} : kAug2 i τ a S = .nx (τ.set i a) S := rfl
@[simp] theorem kAug_ap {i : Nat} {f : A -> A -> Sto -> R A} : kAug i f τ a S = .of (f (τ.getD i .unb) a S) (kAug2 i τ) := rfl
@[simp] theorem sAug_ap {i : Nat} {f : A -> A -> Sto -> R A} {e : Ex} : sAug i f e τ S = bif (τ.getD i .unb).isUnb then .no else .of (e τ S) (kAug i f τ) := by
  unfold sAug; cases (τ.getD i .unb).isUnb <;> rfl
noncomputable def kS5 (o i : A) (τ : List A) (z : A) (S : Sto) : RS := .of (aSet o i z S) fun _ S6 => .nx τ S6
noncomputable def kS4 (f : A -> A -> Sto -> R A) (o i x : A) (τ : List A) (y : A) (S : Sto) : RS := .of (f x y S) (kS5 o i τ)
noncomputable def kS3 (ce : Ex) (f : A -> A -> Sto -> R A) (o i : A) (τ : List A) (x : A) (S : Sto) : RS := .of (ce τ S) (kS4 f o i x τ)
noncomputable def kS2 (ce : Ex) (f : A -> A -> Sto -> R A) (o : A) (τ : List A) (i : A) (S : Sto) : RS := .of (aGet o i S) (kS3 ce f o i τ)
noncomputable def kS1 (ci ce : Ex) (f : A -> A -> Sto -> R A) (τ : List A) (o : A) (S : Sto) : RS := .of (ci τ S) (kS2 ce f o τ)
@[simp] theorem kS5_ap {o i : A} : kS5 o i τ a S = .of (aSet o i a S) fun _ S6 => .nx τ S6 := rfl
@[simp] theorem kS4_ap {f : A -> A -> Sto -> R A} {o i x : A} : kS4 f o i x τ a S = .of (f x a S) (kS5 o i τ) := rfl
@[simp] theorem kS3_ap {ce : Ex} {f : A -> A -> Sto -> R A} {o i : A} : kS3 ce f o i τ a S = .of (ce τ S) (kS4 f o i a τ) := rfl
@[simp] theorem kS2_ap {ce : Ex} {f : A -> A -> Sto -> R A} {o : A} : kS2 ce f o τ a S = .of (aGet o a S) (kS3 ce f o a τ) := rfl
@[simp] theorem kS1_ap {ci ce : Ex} {f : A -> A -> Sto -> R A} : kS1 ci ce f τ a S = .of (ci τ S) (kS2 ce f a τ) := rfl
@[simp] theorem sAugS_ap {co ci ce : Ex} {f : A -> A -> Sto -> R A} : sAugS co ci ce f τ S = RS.of (co τ S) (kS1 ci ce f τ) := rfl
noncomputable def RS.end (r : RS) : R A := match r with
  | .rt a S' => .ok a S'
  | .nx _ S' => .ok .non S'
  | .ex c S' => .ex c S'
  | _ => .no
@[simp] theorem RS.end_rt : RS.end (.rt a S) = .ok a S := rfl
@[simp] theorem RS.end_nx : RS.end (.nx τ S) = .ok .non S := rfl
@[simp] theorem RS.end_ex {c : Str} : RS.end (.ex c S) = .ex c S := rfl
theorem runF_ap {N : List Str} {m : Sm} {as : List A} : runF N m as S = RS.end (m (as ++ List.replicate (N.length - as.length) .unb) S) := by
  unfold runF RS.end; cases m (as ++ List.replicate (N.length - as.length) .unb) S <;> rfl
@[simp] theorem aAdd_i {i j : Int} : aAdd (.int i) (.int j) S = .ok (.int (i + j)) S := rfl
@[simp] theorem aSub_i {i j : Int} : aSub (.int i) (.int j) S = .ok (.int (i - j)) S := rfl
@[simp] theorem iAdd_i {i j : Int} : iAdd (.int i) (.int j) S = .ok (.int (i + j)) S := rfl
theorem mul_l {i j : Int} (h : -18446744073709551616 < i) (h' : i < 18446744073709551616) : aMul (.int i) (.int j) S = .ok (.int (i * j)) S := gd_of (by unfold mulOk; simp; left; exact ⟨by omega, by omega⟩)
theorem fdiv_i {i j : Int} (h : 0 < j) (h' : j < 1073741824) : aFdiv (.int i) (.int j) S = .ok (.int (i / j)) S := gd_of ⟨h, by omega⟩
theorem mod_i {i j : Int} (h : 0 < j) : aMod (.int i) (.int j) S = .ok (.int (i % j)) S := gd_of h
@[simp] theorem aLt_i {i j : Int} : aLt (.int i) (.int j) S = .ok (.bl (decide (i < j))) S := rfl
@[simp] theorem aLe_i {i j : Int} : aLe (.int i) (.int j) S = .ok (.bl (decide (i <= j))) S := rfl
@[simp] theorem aGt_i {i j : Int} : aGt (.int i) (.int j) S = .ok (.bl (decide (j < i))) S := rfl
@[simp] theorem aGe_i {i j : Int} : aGe (.int i) (.int j) S = .ok (.bl (decide (j <= i))) S := rfl
@[simp] theorem aIs_b {i j : Bool} : aIs false (.bl i) (.bl j) S = .ok (.bl (i == j)) S := rfl
@[simp] theorem aIs_nb {i j : Bool} : aIs true (.bl i) (.bl j) S = .ok (.bl (i != j)) S := rfl
@[simp] theorem aNeg_i {i : Int} : aNeg (.int i) S = .ok (.int (-i)) S := rfl
@[simp] theorem aLen_t {xs : List A} : aLen (.tup xs) S = .ok (.int xs.length) S := rfl
@[simp] theorem aLen_f {xs : List A} : aLen (.frz xs) S = .ok (.int xs.length) S := rfl
@[simp] theorem aLen_r {n : Nat} : aLen (.ref n) S = opt (lstAt S n) fun xs => .ok (.int xs.length) S := rfl
@[simp] theorem aAbs_i {i : Int} : aAbs (.int i) S = .ok (.int (if i < 0 then -i else i)) S := rfl
@[simp] theorem aMax2_i {i j : Int} : aMax2 (.int i) (.int j) S = .ok (.int (if j > i then j else i)) S := rfl
@[simp] theorem aMin2_i {i j : Int} : aMin2 (.int i) (.int j) S = .ok (.int (if j < i then j else i)) S := rfl
@[simp] theorem aInt1_i {i : Int} : aInt1 (.int i) S = .ok (.int i) S := rfl
@[simp] theorem aInt1_b {i : Bool} : aInt1 (.bl i) S = .ok (.int (if i then 1 else 0)) S := rfl
@[simp] theorem aRange2_i {i j : Int} : aRange2 (.int i) (.int j) S = .ok (.rng i j) S := rfl
@[simp] theorem aIx_t {xs : List A} {i : Int} : aIx (.tup xs) (.int i) S = opt (atI xs i) fun x => .ok x S := rfl
@[simp] theorem aIx_f {xs : List A} {i : Int} : aIx (.frz xs) (.int i) S = opt (atI xs i) fun x => .ok x S := rfl
@[simp] theorem aIx_r {n : Nat} {i : Int} : aIx (.ref n) (.int i) S = opt (lstAt S n) fun xs => opt (atI xs i) fun x => .ok x S := rfl
@[simp] theorem aSet_r {n : Nat} {k : Int} : aSet (.ref n) (.int k) a S = opt (lstAt S n) fun xs => opt (ixN xs.length k) fun j => .ok () (S.set n (.lst (xs.set j a))) := rfl
@[simp] theorem aGet_r {n : Nat} {i : Int} : aGet (.ref n) (.int i) S = opt (lstAt S n) fun xs => gd (0 <= i) (opt (xs[i.toNat]?) fun x => .ok x S) := rfl
@[simp] theorem aList_t {xs : List A} : aList (.tup xs) S = .ok (.ref S.length) (S ++ [.lst xs]) := rfl
@[simp] theorem aList_f {xs : List A} : aList (.frz xs) S = .ok (.ref S.length) (S ++ [.lst xs]) := rfl
@[simp] theorem aList_r {n : Nat} : aList (.ref n) S = opt (lstAt S n) fun xs => .ok (.ref S.length) (S ++ [.lst xs]) := rfl
@[simp] theorem aTuple_t {xs : List A} : aTuple (.tup xs) S = .ok (.tup xs) S := rfl
@[simp] theorem aTuple_r {n : Nat} : aTuple (.ref n) S = opt (lstAt S n) fun xs => .ok (.tup xs) S := rfl
@[simp] theorem aRev_t {xs : List A} : aRev (.tup xs) S = .ok (.tup xs.reverse) S := rfl
@[simp] theorem aRev_r {n : Nat} : aRev (.ref n) S = opt (lstAt S n) fun xs => .ok (.ref S.length) (S ++ [.lst xs.reverse]) := rfl
@[simp] theorem aSl_r {n : Nat} {l u : Option Int} : aSl (.ref n) l u S = opt (lstAt S n) fun xs => .ok (.ref S.length) (S ++ [.lst (cutA xs l u)]) := rfl
@[simp] theorem mAppend_ap {n : Nat} : mAppend (.ref n) [a] S = opt (lstAt S n) fun xs => gd (xs.length < sizeLine) (.ok .non (S.set n (.lst (xs ++ [a])))) := rfl
@[simp] theorem tru_bl {b : Bool} : A.tru (.bl b) S = some b := rfl
@[simp] theorem tru_int {i : Int} : A.tru (.int i) S = some (i != 0) := rfl
theorem at_lay {o : O} : (S ++ [o])[S.length]? = some o := by simp
@[simp] theorem lst_lay {xs : List A} : lstAt (S ++ [.lst xs]) S.length = some xs := lstAt_eq at_lay
theorem lst_app {o : O} {n : Nat} {xs : List A} (h : lstAt S n = some xs) : lstAt (S ++ [o]) n = some xs := by
  have h' := lstAt_of h
  exact lstAt_eq (by rw [List.getElem?_append_left (List.getElem?_eq_some_iff.mp h').1]; exact h')
theorem lst_lt {n : Nat} {xs : List A} (h : lstAt S n = some xs) : n < S.length := (List.getElem?_eq_some_iff.mp (lstAt_of h)).1
theorem lst_set {n : Nat} {ys : List A} (h : n < S.length) : lstAt (S.set n (.lst ys)) n = some ys := lstAt_eq (List.getElem?_set_self h)
theorem lst_set_ne {n m : Nat} {ys : List A} (h : n ≠ m) : lstAt (S.set n (.lst ys)) m = lstAt S m := by unfold lstAt; rw [List.getElem?_set_ne h]
theorem atI_at {xs : List A} {i : Int} {k : Nat} {x : A} (h : i = k) (hx : xs[k]? = some x) : atI xs i = some x := by rw [h]; exact atI_nat hx
theorem ixN_at {n : Nat} {i : Int} {k : Nat} (h : i = k) (hk : k < n) : ixN n i = some k := by
  subst h
  unfold ixN
  rw [if_pos (by omega), if_pos (by omega)]
  simp
end
end Am
set_option Elab.async false
set_option linter.all false
set_option maxRecDepth 100000
set_option maxHeartbeats 4000000
namespace Am
open PySem L2
structure Kp (b : Nat -> Prop) (S S' : Sto) : Prop where
  len : S.length <= S'.length
  lst : ∀ n xs, ¬ b n -> lstAt S n = some xs -> lstAt S' n = some xs
noncomputable abbrev Kp0 := Kp fun _ => False
theorem Kp.refl {b : Nat -> Prop} {S : Sto} : Kp b S S := ⟨Nat.le_refl _, fun _ _ _ h => h⟩
theorem Kp.trans {b : Nat -> Prop} {S S1 S2 : Sto} (h : Kp b S S1) (h' : Kp b S1 S2) : Kp b S S2 := ⟨Nat.le_trans h.len h'.len, fun n xs hb e => h'.lst n xs hb (h.lst n xs hb e)⟩
theorem Kp.lay {b : Nat -> Prop} {S S1 : Sto} {o : O} (h : Kp b S S1) : Kp b S (S1 ++ [o]) := ⟨Nat.le_trans h.len (by simp), fun n xs hb e => lst_app (h.lst n xs hb e)⟩
theorem Kp.set {b : Nat -> Prop} {S S1 : Sto} {m : Nat} {ys : List A} (h : Kp b S S1) (hm : b m \/ S.length <= m) : Kp b S (S1.set m (.lst ys)) := ⟨by rw [List.length_set]; exact h.len, fun n xs hb e => by
  have : m ≠ n := fun z => by
    subst z
    rcases hm with z | z
    · exact hb z
    · exact absurd (lst_lt e) (by omega)
  rw [lst_set_ne this]
  exact h.lst n xs hb e⟩
theorem Kp.mono {b c : Nat -> Prop} {S S1 : Sto} (h : Kp b S S1) (hb : ∀ n, n < S.length -> b n -> c n) : Kp c S S1 := ⟨h.len, fun n xs hc e => h.lst n xs (fun z => hc (hb n (lst_lt e) z)) e⟩
theorem while_by {t : Te} {c : Sm} (Inv : List A -> Sto -> Prop) (μ : List A -> Sto -> Nat) (Post : RS -> Prop)
    (h : ∀ τ S, Inv τ S -> (∃ S1, t τ S = .ok false S1 /\ Post (.nx τ S1)) \/ (∃ S1, t τ S = .ok true S1 /\ ((∃ τ' S', c τ S1 = .nx τ' S' /\ Inv τ' S' /\ μ τ' S' < μ τ S) \/ (∃ a S', c τ S1 = .rt a S' /\ Post (.rt a S'))))) :
    ∀ n τ S, Inv τ S -> μ τ S < n -> Post (sWhile t c n τ S)
  | 0, _, _, _, hn => absurd hn (Nat.not_lt_zero _)
  | n + 1, τ, S, hi, hn => by
    unfold sWhile
    rcases h τ S hi with ⟨S1, e, q⟩ | ⟨S1, e, ⟨τ', S', e2, hi', hm⟩ | ⟨a, S', e2, q⟩⟩
    · rw [e]; exact q
    · rw [e]
      show Post (match c τ S1 with
        | .nx τ' S' => sWhile t c n τ' S'
        | .ct τ' S' => sWhile t c n τ' S'
        | .bk τ' S' => .nx τ' S'
        | r => r)
      rw [e2]
      exact while_by Inv μ Post h n τ' S' hi' (by omega)
    · rw [e]
      show Post (match c τ S1 with
        | .nx τ' S' => sWhile t c n τ' S'
        | .ct τ' S' => sWhile t c n τ' S'
        | .bk τ' S' => .nx τ' S'
        | r => r)
      rw [e2]
      exact q
theorem for_go {s : Src} {g : Tg} {c : Sm} (Inv : Nat -> List A -> Sto -> Prop) (Post : RS -> Prop)
    (step : ∀ i τ S, i < s.k -> Inv i τ S -> ∃ x τ1 S1, s.get i S = some x /\ g x τ S = .ok τ1 S1 /\ ((∃ τ' S', c τ1 S1 = .nx τ' S' /\ Inv (i + 1) τ' S') \/ (∃ a S', c τ1 S1 = .rt a S' /\ Post (.rt a S'))))
    (fin : ∀ τ S, Inv s.k τ S -> s.fin S = true /\ Post (.nx τ S)) : ∀ k i τ S, k + i = s.k -> Inv i τ S -> Post (forGo s g c k i τ S)
  | 0, i, τ, S, hk, hi => by
    have : i = s.k := by omega
    subst this
    obtain ⟨hf, q⟩ := fin τ S hi
    unfold forGo
    rw [if_pos hf]
    exact q
  | k + 1, i, τ, S, hk, hi => by
    obtain ⟨x, τ1, S1, hx, hg, h⟩ := step i τ S (by omega) hi
    unfold forGo
    rw [hx]
    show Post (RS.of (g x τ S) fun τ1 S1 => match c τ1 S1 with
      | .nx τ' S' => forGo s g c k (i + 1) τ' S'
      | .ct τ' S' => forGo s g c k (i + 1) τ' S'
      | .bk τ' S' => .nx τ' S'
      | r => r)
    rw [hg]
    show Post (match c τ1 S1 with
      | .nx τ' S' => forGo s g c k (i + 1) τ' S'
      | .ct τ' S' => forGo s g c k (i + 1) τ' S'
      | .bk τ' S' => .nx τ' S'
      | r => r)
    rcases h with ⟨τ', S', e, hi'⟩ | ⟨a, S', e, q⟩
    · rw [e]; exact for_go Inv Post step fin k (i + 1) τ' S' (by omega) hi'
    · rw [e]; exact q
theorem for_rng {lo hi : Int} {j : Nat} {c : Sm} {src : Ic} {τ : List A} {S S1 : Sto} (hs : src τ S = .ok (rngSrc lo hi) S1) (Inv : Nat -> List A -> Sto -> Prop) (Post : RS -> Prop) (h0 : Inv 0 τ S1)
    (step : ∀ (i : Nat) τ S, (i : Int) < hi - lo -> Inv i τ S -> (∃ τ' S', c (τ.set j (.int (lo + i))) S = .nx τ' S' /\ Inv (i + 1) τ' S') \/ (∃ a S', c (τ.set j (.int (lo + i))) S = .rt a S' /\ Post (.rt a S')))
    (fin : ∀ τ S, Inv (hi - lo).toNat τ S -> Post (.nx τ S)) : Post (sFor src (gNm j) c τ S) := by
  unfold sFor
  rw [hs]
  refine for_go (s := rngSrc lo hi) Inv Post (fun i τ S hi' h => ?_) (fun τ S h => ⟨rfl, fin τ S h⟩) _ 0 τ S1 rfl h0
  have hi' : i < (hi - lo).toNat := hi'
  exact ⟨.int (lo + i), _, S, if_pos hi', rfl, step i τ S (by omega) h⟩
theorem for_lst {n : Nat} {xs : List A} {g : Tg} {c : Sm} {src : Ic} {τ : List A} {S S1 : Sto} (hs : src τ S = .ok (lstSrc n xs.length) S1) (Inv : Nat -> List A -> Sto -> Prop) (Post : RS -> Prop) (h0 : Inv 0 τ S1) (hl : ∀ i τ S, Inv i τ S -> lstAt S n = some xs)
    (step : ∀ (i : Nat) x τ S, xs[i]? = some x -> Inv i τ S -> ∃ τ1 S1, g x τ S = .ok τ1 S1 /\ ((∃ τ' S', c τ1 S1 = .nx τ' S' /\ Inv (i + 1) τ' S') \/ (∃ a S', c τ1 S1 = .rt a S' /\ Post (.rt a S'))))
    (fin : ∀ τ S, Inv xs.length τ S -> Post (.nx τ S)) : Post (sFor src g c τ S) := by
  unfold sFor
  rw [hs]
  refine for_go (s := lstSrc n xs.length) Inv Post (fun i τ S hi' h => ?_) (fun τ S h => ⟨?_, fin τ S h⟩) _ 0 τ S1 rfl h0
  · have hi' : i < xs.length := hi'
    obtain ⟨τ1, S1, e, q⟩ := step i xs[i] τ S (List.getElem?_eq_getElem hi') h
    exact ⟨xs[i], τ1, S1, by show (lstAt S n).bind _ = _; rw [hl i τ S h]; exact List.getElem?_eq_getElem hi', e, q⟩
  · show (match lstAt S n with
      | some ys => decide (ys.length <= xs.length)
      | none => false) = true
    rw [hl _ τ S h]
    exact decide_eq_true (Nat.le_refl _)
@[simp] theorem iRng1_ap {c : Ex} {τ : List A} {S S1 : Sto} {j : Int} (h : c τ S = .ok (.int j) S1) (hb : bnd j) : iRng1 c τ S = .ok (rngSrc 0 j) S1 := by
  unfold iRng1; rw [h]; exact gd_of hb
theorem iVal_r {c : Ex} {τ : List A} {S S1 : Sto} {n : Nat} {xs : List A} (h : c τ S = .ok (.ref n) S1) (hl : lstAt S1 n = some xs) : iVal c τ S = .ok (lstSrc n xs.length) S1 := by
  unfold iVal; rw [h]; show opt (lstAt S1 n) _ = _; rw [hl]; rfl
theorem comp_go {s : Src} {g : Tg} {t : Te} {e : Ex} {P : Sto -> Prop} {T : List A -> Prop} (it : Nat -> A) (p : Nat -> Bool) (f : Nat -> A)
    (hget : ∀ i S, i < s.k -> P S -> s.get i S = some (it i)) (hfin : ∀ S, P S -> s.fin S = true)
    (step : ∀ i τ S, i < s.k -> T τ -> P S -> ∃ τ1 S1 S2, g (it i) τ S = .ok τ1 S1 /\ t τ1 S1 = .ok (p i) S2 /\ T τ1 /\ (p i = false -> P S2) /\ (p i = true -> ∃ S3, e τ1 S2 = .ok (f i) S3 /\ P S3)) :
    ∀ k i τ S, k + i = s.k -> T τ -> P S -> ∃ S', compGo s g t e k i τ S = .ok (((List.range' i k).filter p).map f) S' /\ P S'
  | 0, i, τ, S, hk, hT, hP => ⟨S, by unfold compGo; rw [if_pos (hfin S hP)]; rfl, hP⟩
  | k + 1, i, τ, S, hk, hT, hP => by
    obtain ⟨τ1, S1, S2, hg, ht, hT1, hF, hTr⟩ := step i τ S (by omega) hT hP
    unfold compGo
    rw [hget i S (by omega) hP, opt_some, hg, R.bindN_ok', ht, R.bindN_ok', List.range'_succ, List.filter_cons]
    cases hp : p i with
    | false =>
      obtain ⟨S', h1, h2⟩ := comp_go it p f hget hfin step k (i + 1) τ1 S2 (by omega) hT1 (hF hp)
      exact ⟨S', by simpa using h1, h2⟩
    | true =>
      obtain ⟨S3, he, hP3⟩ := hTr hp
      obtain ⟨S', h1, h2⟩ := comp_go it p f hget hfin step k (i + 1) τ1 S3 (by omega) hT1 hP3
      refine ⟨S', ?_, h2⟩
      show (e τ1 S2).bindN _ = _
      rw [he, R.bindN_ok', h1]
      rfl
theorem comp_pure {s : Src} {cap : List (Option Nat)} {src : Ic} {t : Te} {e : Ex} {τ : List A} {S S1 : Sto} (hs : src τ S = .ok s S1) (it : Nat -> A) (p : Nat -> Bool) (f : Nat -> A) (hget : ∀ i, i < s.k -> s.get i S1 = some (it i)) (hfin : s.fin S1 = true)
    (ht : ∀ i, i < s.k -> t (it i :: capA cap τ) S1 = .ok (p i) S1) (he : ∀ i, i < s.k -> p i = true -> e (it i :: capA cap τ) S1 = .ok (f i) S1) (hl : s.k <= 16777216) :
    eComp (none :: cap) src (gNm 0) t e τ S = .ok (.ref S1.length) (S1 ++ [.lst (((List.range s.k).filter p).map f)]) := by
  unfold eComp
  rw [hs, R.bind_ok]
  obtain ⟨S', h1, h2⟩ := comp_go (s := s) (g := gNm 0) (t := t) (e := e) (P := fun S => S = S1) (T := fun τ' => ∃ y, τ' = y :: capA cap τ) it p f (fun i S hi h => by subst h; exact hget i hi) (fun S h => by subst h; exact hfin)
    (fun i τ' S hi ⟨y, hy⟩ h => by
      subst h hy
      exact ⟨it i :: capA cap τ, S, S, rfl, ht i hi, ⟨_, rfl⟩, fun _ => rfl, fun hp => ⟨S, he i hi hp, rfl⟩⟩) s.k 0 (capA (none :: cap) τ) S1 rfl ⟨_, rfl⟩ rfl
  subst h2
  rw [h1, R.bindN_ok', List.range_eq_range']
  refine newL_ok ?_
  rw [List.length_map]
  refine Nat.le_trans (List.length_filter_le _ _) ?_
  rw [List.length_range']
  exact hl
theorem filter_range_map {α β : Type} (xs : List α) (p : α -> Bool) (f : α -> β) : ∀ (d : α) , (((List.range xs.length).filter fun i => p (xs.getD i d)).map fun i => f (xs.getD i d)) = (xs.filter p).map f := by
  intro d
  induction xs with
  | nil => rfl
  | cons x xs ih =>
    rw [List.length_cons, List.range_succ_eq_map, List.filter_cons, List.filter_cons]
    have e : ((List.filter (fun i => p ((x :: xs).getD i d)) (List.map Nat.succ (List.range xs.length))).map fun i => f ((x :: xs).getD i d)) = (xs.filter p).map f := by
      rw [List.filter_map, List.map_map]
      rw [<- ih]
      rfl
    show List.map _ (if p x = true then _ else _) = List.map f (if p x = true then _ else _)
    by_cases hp : p x = true
    · rw [if_pos hp, if_pos hp, List.map_cons, List.map_cons, e]; rfl
    · rw [if_neg hp, if_neg hp, e]
@[simp] theorem capA_n {cap : List (Option Nat)} {τ : List A} : capA (none :: cap) τ = .unb :: capA cap τ := rfl
@[simp] theorem capA_s {cap : List (Option Nat)} {τ : List A} {j : Nat} : capA (some j :: cap) τ = τ.getD j .unb :: capA cap τ := rfl
@[simp] theorem capA_nil {τ : List A} : capA [] τ = [] := rfl
theorem atI_0 {x : A} {xs : List A} : atI (x :: xs) 0 = some x := atI_at (k := 0) rfl rfl
theorem atI_1 {x y : A} {xs : List A} : atI (x :: y :: xs) 1 = some y := atI_at (k := 1) rfl rfl
theorem atI_map {ns : List Int} {i : Int} {k : Nat} {x : Int} (h : i = k) (hx : ns[k]? = some x) : atI (ns.map A.int) i = some (.int x) := atI_at h (by rw [List.getElem?_map, hx]; rfl)
theorem bnd_of {j : Int} (h : -4611686018427387904 <= j) (h' : j < 4611686018427387904) : bnd j := ⟨by omega, by omega⟩
theorem ints_map : ∀ (ns : List Int), A.ints (ns.map .int) = some ns
  | [] => rfl
  | n :: ns => by show (A.ints (ns.map .int)).map (n :: ·) = _; rw [ints_map ns]; rfl
theorem eqLs_ints {S : Sto} {n : Nat} : ∀ (xs ys : List Int), eqLs (eqA S (n + 1)) (xs.map .int) (ys.map .int) = some (decide (xs = ys))
  | [], [] => rfl
  | [], _ :: _ => rfl
  | _ :: _, [] => rfl
  | x :: xs, y :: ys => by
    show (eqA S (n + 1) (.int x) (.int y)).bind _ = _
    show Option.bind (some (x == y)) _ = _
    show Option.map _ (eqLs (eqA S (n + 1)) (xs.map .int) (ys.map .int)) = _
    rw [eqLs_ints xs ys]
    show some (x == y && decide (xs = ys)) = _
    by_cases h1 : x = y <;> by_cases h2 : xs = ys <;> simp [h1, h2]
@[simp] theorem aEq_b {S : Sto} {x y : Bool} : aEq false (.bl x) (.bl y) S = .ok (.bl (x == y)) S := rfl
@[simp] theorem aNe_b {S : Sto} {x y : Bool} : aEq true (.bl x) (.bl y) S = .ok (.bl (!(x == y))) S := rfl
@[simp] theorem aEq_i {S : Sto} {x y : Int} : aEq false (.int x) (.int y) S = .ok (.bl (x == y)) S := rfl
@[simp] theorem aNe_i {S : Sto} {x y : Int} : aEq true (.int x) (.int y) S = .ok (.bl (!(x == y))) S := rfl
@[simp] theorem aIs_non {S : Sto} : aIs false .non .non S = .ok (.bl true) S := rfl
@[simp] theorem aIs_tup {S : Sto} {xs : List A} : aIs false (.tup xs) .non S = .ok (.bl false) S := rfl
@[simp] theorem aIs_ref {S : Sto} {n : Nat} : aIs false (.ref n) .non S = .ok (.bl false) S := rfl
@[simp] theorem aIsn_non {S : Sto} : aIs true .non .non S = .ok (.bl false) S := rfl
@[simp] theorem aIsn_tup {S : Sto} {xs : List A} : aIs true (.tup xs) .non S = .ok (.bl true) S := rfl
@[simp] theorem aIsn_ref {S : Sto} {n : Nat} : aIs true (.ref n) .non S = .ok (.bl true) S := rfl
@[simp] theorem aIsi_ap {S : Sto} {x : A} {c : String} : aIsi x (.ty c) S = opt (x.kd S) fun k => opt (isKd k c) fun b => .ok (.bl b) S := rfl
@[simp] theorem kd_bl {S : Sto} {b : Bool} : A.kd (.bl b) S = some .bl := rfl
@[simp] theorem kd_int {S : Sto} {b : Int} : A.kd (.int b) S = some .int := rfl
@[simp] theorem kd_tup {S : Sto} {b : List A} : A.kd (.tup b) S = some .tup := rfl
@[simp] theorem kd_non {S : Sto} : A.kd .non S = some .non := rfl
@[simp] theorem kd_str {S : Sto} {b : Str} : A.kd (.str b) S = some .str := rfl
@[simp] theorem kd_ref {S : Sto} {n : Nat} : A.kd (.ref n) S = (lstAt S n).map fun _ => .lst := rfl
@[simp] theorem newL_0 {S : Sto} : newL [] S = .ok (.ref S.length) (S ++ [.lst []]) := newL_ok (by simp)
@[simp] theorem newL_1 {S : Sto} {x0 : A} : newL [x0] S = .ok (.ref S.length) (S ++ [.lst [x0]]) := newL_ok (by simp)
@[simp] theorem newL_2 {S : Sto} {x0 x1 : A} : newL [x0, x1] S = .ok (.ref S.length) (S ++ [.lst [x0, x1]]) := newL_ok (by simp)
@[simp] theorem newL_3 {S : Sto} {x0 x1 x2 : A} : newL [x0, x1, x2] S = .ok (.ref S.length) (S ++ [.lst [x0, x1, x2]]) := newL_ok (by simp)
@[simp] theorem newL_4 {S : Sto} {x0 x1 x2 x3 : A} : newL [x0, x1, x2, x3] S = .ok (.ref S.length) (S ++ [.lst [x0, x1, x2, x3]]) := newL_ok (by simp)
@[simp] theorem newL_5 {S : Sto} {x0 x1 x2 x3 x4 : A} : newL [x0, x1, x2, x3, x4] S = .ok (.ref S.length) (S ++ [.lst [x0, x1, x2, x3, x4]]) := newL_ok (by simp)
@[simp] theorem newL_6 {S : Sto} {x0 x1 x2 x3 x4 x5 : A} : newL [x0, x1, x2, x3, x4, x5] S = .ok (.ref S.length) (S ++ [.lst [x0, x1, x2, x3, x4, x5]]) := newL_ok (by simp)
@[simp] theorem newL_7 {S : Sto} {x0 x1 x2 x3 x4 x5 x6 : A} : newL [x0, x1, x2, x3, x4, x5, x6] S = .ok (.ref S.length) (S ++ [.lst [x0, x1, x2, x3, x4, x5, x6]]) := newL_ok (by simp)
@[simp] theorem newL_8 {S : Sto} {x0 x1 x2 x3 x4 x5 x6 x7 : A} : newL [x0, x1, x2, x3, x4, x5, x6, x7] S = .ok (.ref S.length) (S ++ [.lst [x0, x1, x2, x3, x4, x5, x6, x7]]) := newL_ok (by simp)
@[simp] theorem newL_9 {S : Sto} {x0 x1 x2 x3 x4 x5 x6 x7 x8 : A} : newL [x0, x1, x2, x3, x4, x5, x6, x7, x8] S = .ok (.ref S.length) (S ++ [.lst [x0, x1, x2, x3, x4, x5, x6, x7, x8]]) := newL_ok (by simp)
@[simp] theorem newL_10 {S : Sto} {x0 x1 x2 x3 x4 x5 x6 x7 x8 x9 : A} : newL [x0, x1, x2, x3, x4, x5, x6, x7, x8, x9] S = .ok (.ref S.length) (S ++ [.lst [x0, x1, x2, x3, x4, x5, x6, x7, x8, x9]]) := newL_ok (by simp)
theorem gd_len {α : Type} {n : Nat} {r : R α} (h : n <= 16777216) : gd (n <= sizeLine) r = r := gd_of (by rw [sizeLine_eq]; exact h)
theorem gd_lt {α : Type} {n : Nat} {r : R α} (h : n < 16777216) : gd (n < sizeLine) r = r := gd_of (by rw [sizeLine_eq]; exact h)
end Am
set_option Elab.async false
set_option linter.all false
set_option maxRecDepth 100000
set_option maxHeartbeats 4000000
namespace Am
open PySem L2
theorem getD0 {x : A} {xs : List A} : (x :: xs).getD 0 .unb = x := rfl
theorem getDs {x : A} {xs : List A} {n : Nat} : (x :: xs).getD (n + 1) .unb = xs.getD n .unb := rfl
theorem set0 {x y : A} {xs : List A} : (x :: xs).set 0 y = y :: xs := rfl
theorem sets {x y : A} {xs : List A} {n : Nat} : (x :: xs).set (n + 1) y = x :: xs.set n y := rfl
theorem rep0 {x : A} : List.replicate 0 x = [] := rfl
theorem reps {x : A} {n : Nat} : List.replicate (n + 1) x = x :: List.replicate n x := rfl
theorem capp {x : A} {xs ys : List A} : (x :: xs) ++ ys = x :: (xs ++ ys) := rfl
theorem napp {ys : List A} : [] ++ ys = ys := rfl
theorem ams : type_of% (And.intro @R.bind_ok (And.intro @R.bind_ex (And.intro @R.bindN_ok' (And.intro @RS.of_ok (And.intro @RS.of_ex (And.intro @opt_some (And.intro @gd_true (And.intro @eVar_ap (And.intro @unb_tup (And.intro @unb_frz (And.intro @unb_int (And.intro @unb_bl (And.intro @unb_str (And.intro @unb_ref (And.intro @unb_non (And.intro @unb_rng (And.intro @unb_exn (And.intro @eC_ap (And.intro @eBin_ap (And.intro @eUn_ap (And.intro @eTru_ap (And.intro @aB_bl (And.intro @toB_ap (And.intro @bNot_ap (And.intro @bAnd_ap (And.intro @bOr_ap (And.intro @bYes_ap (And.intro @aAndB_t (And.intro @aAndB_f (And.intro @aOrB_t (And.intro @aOrB_f (And.intro @eAnd_ap (And.intro @eOr_ap (And.intro @aNotB_bl (And.intro @eNot_ap (And.intro @eIf_ap (And.intro @lNil_ap (And.intro @lCons_ap (And.intro @eTup_ap (And.intro @eLst_ap (And.intro @eCall_ap (And.intro @okR_ok (And.intro @eFn_ap (And.intro @f1_ap (And.intro @f2_ap (And.intro @eSl_ap (And.intro @pNone_ap (And.intro @aPt_int (And.intro @pSome_ap (And.intro @eMe_ap (And.intro @eMe0_ap (And.intro @lst?_ref (And.intro @RS.seq_nx (And.intro @RS.seq_rt (And.intro @RS.seq_ex (And.intro @RS.seq_bk (And.intro @RS.seq_ct (And.intro @sSeq_ap (And.intro @sNil_ap (And.intro @sBreak_ap (And.intro @sCont_ap (And.intro @sExpr_ap (And.intro @sRet_ap (And.intro @sRetN_ap (And.intro @sIf_ap (And.intro @sAsg_ap (And.intro @gNm_ap (And.intro @gSb_ap (And.intro @gTp_ap (And.intro @gNl_ap (And.intro @gCn_ap (And.intro @sPr_ap (And.intro @sPar_ap (And.intro @sAug_ap (And.intro @sAugS_ap (And.intro @RS.end_rt (And.intro @RS.end_nx (And.intro @RS.end_ex (And.intro @aAdd_i (And.intro @aSub_i (And.intro @iAdd_i (And.intro @aLt_i (And.intro @aLe_i (And.intro @aGt_i (And.intro @aGe_i (And.intro @aIs_b (And.intro @aIs_nb (And.intro @aNeg_i (And.intro @aLen_t (And.intro @aLen_f (And.intro @aLen_r (And.intro @aAbs_i (And.intro @aMax2_i (And.intro @aMin2_i (And.intro @aInt1_i (And.intro @aInt1_b (And.intro @aRange2_i (And.intro @aIx_t (And.intro @aIx_f (And.intro @aIx_r (And.intro @aSet_r (And.intro @aGet_r (And.intro @aList_t (And.intro @aList_f (And.intro @aList_r (And.intro @aTuple_t (And.intro @aTuple_r (And.intro @aRev_t (And.intro @aRev_r (And.intro @aSl_r (And.intro @mAppend_ap (And.intro @tru_bl (And.intro @tru_int (And.intro @lst_lay (And.intro @capA_n (And.intro @capA_s (And.intro @capA_nil (And.intro @aEq_b (And.intro @aNe_b (And.intro @aEq_i (And.intro @aNe_i (And.intro @aIs_non (And.intro @aIs_tup (And.intro @aIs_ref (And.intro @aIsn_non (And.intro @aIsn_tup (And.intro @aIsn_ref (And.intro @aIsi_ap (And.intro @kd_bl (And.intro @kd_int (And.intro @kd_tup (And.intro @kd_non (And.intro @kd_str (And.intro @kd_ref (And.intro @newL_0 (And.intro @newL_1 (And.intro @newL_2 (And.intro @newL_3 (And.intro @newL_4 (And.intro @newL_5 (And.intro @newL_6 (And.intro @newL_7 (And.intro @newL_8 (And.intro @newL_9 (And.intro @newL_10 (And.intro @getD0 (And.intro @getDs (And.intro @set0 (And.intro @sets (And.intro @rep0 (And.intro @reps (And.intro @capp (And.intro @napp (And.intro @runF_ap (And.intro @kBin_ap (And.intro @kAnd_t (And.intro @kAnd_f (And.intro @kOr_t (And.intro @kOr_f (And.intro @kIfE_t (And.intro @kIfE_f (And.intro @kCons2_ap (And.intro @kCons_ap (And.intro @kFn_ap (And.intro @kSl2_ap (And.intro @kSl_ap (And.intro @kMe2_ap (And.intro @kMe_ap (And.intro @kIf_t (And.intro @kIf_f (And.intro @kAsg_ap (And.intro @kSb2_ap (And.intro @kSb_ap (And.intro @kAug2_ap (And.intro @kAug_ap (And.intro @kS1_ap (And.intro @kS2_ap (And.intro @kS3_ap (And.intro @kS4_ap (@kS5_ap)))))))))))))))))))))))))))))))))))))))))))))))))))))))))))))))))))))))))))))))))))))))))))))))))))))))))))))))))))))))))))))))))))))))))))))))))))))))))))))))))))))))))))))))))))) := And.intro @R.bind_ok (And.intro @R.bind_ex (And.intro @R.bindN_ok' (And.intro @RS.of_ok (And.intro @RS.of_ex (And.intro @opt_some (And.intro @gd_true (And.intro @eVar_ap (And.intro @unb_tup (And.intro @unb_frz (And.intro @unb_int (And.intro @unb_bl (And.intro @unb_str (And.intro @unb_ref (And.intro @unb_non (And.intro @unb_rng (And.intro @unb_exn (And.intro @eC_ap (And.intro @eBin_ap (And.intro @eUn_ap (And.intro @eTru_ap (And.intro @aB_bl (And.intro @toB_ap (And.intro @bNot_ap (And.intro @bAnd_ap (And.intro @bOr_ap (And.intro @bYes_ap (And.intro @aAndB_t (And.intro @aAndB_f (And.intro @aOrB_t (And.intro @aOrB_f (And.intro @eAnd_ap (And.intro @eOr_ap (And.intro @aNotB_bl (And.intro @eNot_ap (And.intro @eIf_ap (And.intro @lNil_ap (And.intro @lCons_ap (And.intro @eTup_ap (And.intro @eLst_ap (And.intro @eCall_ap (And.intro @okR_ok (And.intro @eFn_ap (And.intro @f1_ap (And.intro @f2_ap (And.intro @eSl_ap (And.intro @pNone_ap (And.intro @aPt_int (And.intro @pSome_ap (And.intro @eMe_ap (And.intro @eMe0_ap (And.intro @lst?_ref (And.intro @RS.seq_nx (And.intro @RS.seq_rt (And.intro @RS.seq_ex (And.intro @RS.seq_bk (And.intro @RS.seq_ct (And.intro @sSeq_ap (And.intro @sNil_ap (And.intro @sBreak_ap (And.intro @sCont_ap (And.intro @sExpr_ap (And.intro @sRet_ap (And.intro @sRetN_ap (And.intro @sIf_ap (And.intro @sAsg_ap (And.intro @gNm_ap (And.intro @gSb_ap (And.intro @gTp_ap (And.intro @gNl_ap (And.intro @gCn_ap (And.intro @sPr_ap (And.intro @sPar_ap (And.intro @sAug_ap (And.intro @sAugS_ap (And.intro @RS.end_rt (And.intro @RS.end_nx (And.intro @RS.end_ex (And.intro @aAdd_i (And.intro @aSub_i (And.intro @iAdd_i (And.intro @aLt_i (And.intro @aLe_i (And.intro @aGt_i (And.intro @aGe_i (And.intro @aIs_b (And.intro @aIs_nb (And.intro @aNeg_i (And.intro @aLen_t (And.intro @aLen_f (And.intro @aLen_r (And.intro @aAbs_i (And.intro @aMax2_i (And.intro @aMin2_i (And.intro @aInt1_i (And.intro @aInt1_b (And.intro @aRange2_i (And.intro @aIx_t (And.intro @aIx_f (And.intro @aIx_r (And.intro @aSet_r (And.intro @aGet_r (And.intro @aList_t (And.intro @aList_f (And.intro @aList_r (And.intro @aTuple_t (And.intro @aTuple_r (And.intro @aRev_t (And.intro @aRev_r (And.intro @aSl_r (And.intro @mAppend_ap (And.intro @tru_bl (And.intro @tru_int (And.intro @lst_lay (And.intro @capA_n (And.intro @capA_s (And.intro @capA_nil (And.intro @aEq_b (And.intro @aNe_b (And.intro @aEq_i (And.intro @aNe_i (And.intro @aIs_non (And.intro @aIs_tup (And.intro @aIs_ref (And.intro @aIsn_non (And.intro @aIsn_tup (And.intro @aIsn_ref (And.intro @aIsi_ap (And.intro @kd_bl (And.intro @kd_int (And.intro @kd_tup (And.intro @kd_non (And.intro @kd_str (And.intro @kd_ref (And.intro @newL_0 (And.intro @newL_1 (And.intro @newL_2 (And.intro @newL_3 (And.intro @newL_4 (And.intro @newL_5 (And.intro @newL_6 (And.intro @newL_7 (And.intro @newL_8 (And.intro @newL_9 (And.intro @newL_10 (And.intro @getD0 (And.intro @getDs (And.intro @set0 (And.intro @sets (And.intro @rep0 (And.intro @reps (And.intro @capp (And.intro @napp (And.intro @runF_ap (And.intro @kBin_ap (And.intro @kAnd_t (And.intro @kAnd_f (And.intro @kOr_t (And.intro @kOr_f (And.intro @kIfE_t (And.intro @kIfE_f (And.intro @kCons2_ap (And.intro @kCons_ap (And.intro @kFn_ap (And.intro @kSl2_ap (And.intro @kSl_ap (And.intro @kMe2_ap (And.intro @kMe_ap (And.intro @kIf_t (And.intro @kIf_f (And.intro @kAsg_ap (And.intro @kSb2_ap (And.intro @kSb_ap (And.intro @kAug2_ap (And.intro @kAug_ap (And.intro @kS1_ap (And.intro @kS2_ap (And.intro @kS3_ap (And.intro @kS4_ap (@kS5_ap)))))))))))))))))))))))))))))))))))))))))))))))))))))))))))))))))))))))))))))))))))))))))))))))))))))))))))))))))))))))))))))))))))))))))))))))))))))))))))))))))))))))))))))))))))
theorem bools : (∀ b : Bool, cond false b b = b) /\ (∀ (α : Type) (x y : α), cond false x y = y) /\ (∀ (α : Type) (x y : α), cond true x y = x) := ⟨fun _ => rfl, fun _ _ _ => rfl, fun _ _ _ => rfl⟩
theorem nlen : (∀ (x : Str) (xs : List Str), (x :: xs).length = xs.length + 1) /\ ([] : List Str).length = 0 /\ (∀ (x : A) (xs : List A), (x :: xs).length = xs.length + 1) /\ ([] : List A).length = 0 := ⟨fun _ _ => rfl, rfl, fun _ _ => rfl, rfl⟩
end Am
set_option Elab.async false
set_option linter.all false
set_option maxRecDepth 100000
set_option maxHeartbeats 4000000
namespace Am
open PySem L2
section
variable {τ : List A} {S : Sto}
noncomputable def kRz (c : Str) : Unit -> Sto -> RS := fun _ S1 => .ex c S1
noncomputable def kFs (ps : List (Str ⊕ Ex)) (τ : List A) : A -> Sto -> R Unit := fun v S1 => match v with
  | .int i => gd (i.natAbs.log2 < 64) (fsR ps τ S1)
  | _ => .no
noncomputable def RS.try (i n : Nat) (cs : List Str) (d : Sm) : RS -> RS
  | .ex x S1 => if x ∈ cs then unR i (d ((List.replicate n .unb).set i (.exn x)) S1) else .no
  | r => r
noncomputable def kIsX (f : Str -> Option Bool) : A -> Sto -> R A := fun v S1 => match v with
  | .exn x => opt (f x) fun b => .ok (.bl b) S1
  | _ => .no
noncomputable def R.bindK {α β : Type} (r : R α) (f : α -> Sto -> R β) : R β := match r with
  | .ok a S => f a S
  | _ => .no
noncomputable def RS.ofK {α : Type} (r : R α) (f : α -> Sto -> RS) : RS := match r with
  | .ok a S => f a S
  | _ => .no
noncomputable def RS.tryL (i : Nat) (cs : List Str) (d : Sm) (τ : List A) : RS -> RS
  | .ex x S1 => if x ∈ cs then unR i (d (τ.set i (.exn x)) S1) else .no
  | r => r
end
end Am
set_option Elab.async false
set_option linter.all false
set_option maxRecDepth 100000
set_option maxHeartbeats 4000000
namespace Bl
open L2
noncomputable def cnt : List Int -> Int -> Int
  | [], _ => 0
  | x :: l, j => (if j <= x then 1 else 0) + cnt l j
noncomputable def Below (xs ys : List Int) : Prop := ∀ (i : Nat) (j : Int), cnt (xs.take i) j <= cnt (ys.take i) j
theorem Below.refl (xs : List Int) : Below xs xs := fun _ _ => Int.le_refl _
theorem Below.trans {a b c : List Int} (h : Below a b) (k : Below b c) : Below a c := fun i j => Int.le_trans (h i j) (k i j)
theorem cnt_append (a b : List Int) (j : Int) : cnt (a ++ b) j = cnt a j + cnt b j := by
  induction a with
  | nil => simp [cnt]
  | cons x a ih => rw [List.cons_append, cnt, cnt, ih]; omega
theorem take_snoc {l : List Int} {i : Nat} (h : i < l.length) : l.take (i + 1) = l.take i ++ [l[i]] := by
  rw [List.take_succ, List.getElem?_eq_getElem h]; rfl
theorem cnt_set {l : List Int} {p : Nat} (h : p < l.length) (v : Int) (i : Nat) (j : Int) :
    cnt ((l.set p v).take i) j = cnt (l.take i) j + (if p < i then (if j <= v then 1 else 0) - (if j <= l[p] then 1 else 0) else 0) := by
  induction l generalizing p i with
  | nil => cases h
  | cons x l ih =>
    cases i with
    | zero => simp [cnt]
    | succ i =>
      cases p with
      | zero =>
        show (if j <= v then 1 else 0) + cnt (l.take i) j = (if j <= x then 1 else 0) + cnt (l.take i) j + _
        rw [if_pos (Nat.succ_pos _)]
        show _ = (if j <= x then 1 else 0) + cnt (l.take i) j + ((if j <= v then 1 else 0) - (if j <= x then 1 else 0))
        omega
      | succ p =>
        show (if j <= x then 1 else 0) + cnt ((l.set p v).take i) j = (if j <= x then 1 else 0) + cnt (l.take i) j + _
        have hp : p < l.length := Nat.lt_of_succ_lt_succ h
        rw [ih hp]
        by_cases z : p < i
        · rw [if_pos z, if_pos (Nat.succ_lt_succ z)]
          show _ = (if j <= x then 1 else 0) + cnt (l.take i) j + ((if j <= v then 1 else 0) - (if j <= l[p] then 1 else 0))
          omega
        · rw [if_neg z, if_neg (fun y => z (Nat.lt_of_succ_lt_succ y))]
          omega
theorem raise_below {l : List Int} {p q : Nat} (hp : p < l.length) (hq : q < l.length) (hpq : p < q) (h : l[p] < l[q]) : Below l ((l.set p l[q]).set q l[p]) := by
  intro i j
  have hq' : q < (l.set p l[q]).length := by rw [List.length_set]; exact hq
  rw [cnt_set hq', cnt_set hp]
  have e : (l.set p l[q])[q] = l[q] := by rw [List.getElem_set_ne (Nat.ne_of_lt hpq)]
  rw [e]
  (repeat' split) <;> omega
noncomputable def IsBack (a b : List Int) : Prop := a.length = b.length /\ ∀ (p : Nat) (h : p < a.length), b[(a[p] - 1).toNat]? = some ((p : Int) + 1)
noncomputable def sumBy (f : Int -> Int) : List Int -> Int
  | [] => 0
  | x :: l => f x + sumBy f l
end Bl
set_option Elab.async false
set_option linter.all false
set_option maxRecDepth 100000
set_option maxHeartbeats 4000000
namespace Am
open PySem L2 Bl
noncomputable def addTo : Nat -> Int -> List Int -> List Int
  | 0, _, ms => ms
  | _ + 1, _, [] => []
  | x + 1, d, m :: ms => (m + d) :: addTo x d ms
noncomputable def moreL (n : Nat) (xs ys : List Int) (t : Nat) : List Int := (List.range n).map fun (j : Nat) => cnt (xs.take t) ((j : Int) + 1) - cnt (ys.take t) ((j : Int) + 1)
end Am
set_option Elab.async false
set_option linter.all false
namespace Tb
noncomputable def fg (r : List Int) (x : Int) : Nat := r.findIdx fun y => decide (x < y)
theorem fg_le (r : List Int) (x : Int) : fg r x <= r.length := List.findIdx_le_length
theorem fg_lt {r : List Int} {x : Int} (h : fg r x ≠ r.length) : fg r x < r.length := Nat.lt_of_le_of_ne (fg_le r x) h
noncomputable def put : List (List Int) -> Int -> List (List Int)
  | [], x => [[x]]
  | r :: rs, x => if fg r x = r.length then (r ++ [x]) :: rs else r.set (fg r x) x :: put rs (r.getD (fg r x) 0)
noncomputable def row : List (List Int) -> Int -> Nat
  | [], _ => 0
  | r :: rs, x => if fg r x = r.length then 0 else row rs (r.getD (fg r x) 0) + 1
theorem put_end {r : List Int} {rs : List (List Int)} {x : Int} (h : fg r x = r.length) : put (r :: rs) x = (r ++ [x]) :: rs := if_pos h
theorem put_on {r : List Int} {rs : List (List Int)} {x : Int} (h : fg r x ≠ r.length) : put (r :: rs) x = r.set (fg r x) x :: put rs (r.getD (fg r x) 0) := if_neg h
theorem row_end {r : List Int} {rs : List (List Int)} {x : Int} (h : fg r x = r.length) : row (r :: rs) x = 0 := if_pos h
theorem row_on {r : List Int} {rs : List (List Int)} {x : Int} (h : fg r x ≠ r.length) : row (r :: rs) x = row rs (r.getD (fg r x) 0) + 1 := if_neg h
theorem row_le : ∀ (T : List (List Int)) (x : Int), row T x <= T.length
  | [], _ => Nat.le_refl _
  | r :: rs, x => by
    by_cases h : fg r x = r.length
    · rw [row_end h]; exact Nat.zero_le _
    · rw [row_on h, List.length_cons]; exact Nat.succ_le_succ (row_le rs _)
noncomputable def bump : List Nat -> Nat -> List Nat
  | [], _ => [1]
  | n :: ns, 0 => (n + 1) :: ns
  | n :: ns, i + 1 => n :: bump ns i
theorem put_shape : ∀ (T : List (List Int)) (x : Int), (put T x).map List.length = bump (T.map List.length) (row T x)
  | [], _ => rfl
  | r :: rs, x => by
    by_cases h : fg r x = r.length
    · rw [put_end h, row_end h, List.map_cons, List.map_cons, List.length_append]; rfl
    · rw [put_on h, row_on h, List.map_cons, List.map_cons, List.length_set, put_shape rs]; rfl
theorem bump_sum : ∀ (ns : List Nat) (i : Nat), (bump ns i).sum = ns.sum + 1
  | [], _ => rfl
  | n :: ns, 0 => by simp [bump]; omega
  | n :: ns, i + 1 => by simp [bump, bump_sum ns i]; omega
theorem getD_len (T : List (List Int)) (j : Nat) : (T.map List.length).getD j 0 = (T.getD j []).length := by
  rw [List.getD_eq_getElem?_getD, List.getD_eq_getElem?_getD, List.getElem?_map]
  cases T[j]? <;> rfl
theorem put_sum (T : List (List Int)) (x : Int) : ((put T x).map List.length).sum = (T.map List.length).sum + 1 := by
  rw [put_shape, bump_sum]
noncomputable def add : List (List Int) -> Nat -> Int -> List (List Int)
  | [], _, k => [[k]]
  | q :: qs, 0, k => (q ++ [k]) :: qs
  | q :: qs, i + 1, k => q :: add qs i k
theorem add_shape : ∀ (Q : List (List Int)) (i : Nat) (k : Int), (add Q i k).map List.length = bump (Q.map List.length) i
  | [], _, _ => rfl
  | q :: qs, 0, k => by simp [add, bump]
  | q :: qs, i + 1, k => by simp [add, bump, add_shape qs i k]
theorem add_end : ∀ (Q : List (List Int)) (k : Int), add Q Q.length k = Q ++ [[k]]
  | [], _ => rfl
  | q :: qs, k => by show q :: add qs qs.length k = _; rw [add_end qs k]; rfl
theorem add_in : ∀ (Q : List (List Int)) (i : Nat) (k : Int), i < Q.length -> add Q i k = Q.set i (Q.getD i [] ++ [k])
  | [], _, _, h => absurd h (Nat.not_lt_zero _)
  | q :: qs, 0, k, _ => rfl
  | q :: qs, i + 1, k, h => by show q :: add qs i k = _; rw [add_in qs i k (Nat.lt_of_succ_lt_succ h)]; rfl
noncomputable def tabs (xs : List Int) : Nat -> List (List Int) × List (List Int)
  | 0 => ([], [])
  | i + 1 => (put (tabs xs i).1 (xs.getD i 0), add (tabs xs i).2 (row (tabs xs i).1 (xs.getD i 0)) ((i : Int) + 1))
theorem tabs_shape (xs : List Int) : ∀ i, (tabs xs i).2.map List.length = (tabs xs i).1.map List.length
  | 0 => rfl
  | i + 1 => by
    show (add _ _ _).map List.length = (put _ _).map List.length
    rw [add_shape, put_shape, tabs_shape xs i]
theorem tabs_len (xs : List Int) (i : Nat) : (tabs xs i).2.length = (tabs xs i).1.length := by
  have := congrArg List.length (tabs_shape xs i)
  simpa using this
theorem tabs_sum (xs : List Int) : ∀ i, ((tabs xs i).1.map List.length).sum = i
  | 0 => rfl
  | i + 1 => by
    show ((put _ _).map List.length).sum = _
    rw [put_sum, tabs_sum xs i]
theorem len_le_sum : ∀ {ns : List Nat}, (∀ n ∈ ns, 0 < n) -> ns.length <= ns.sum
  | [], _ => Nat.le_refl _
  | n :: ns, h => by
    have h1 := h n (List.mem_cons_self ..)
    have h2 := len_le_sum fun m hm => h m (List.mem_cons_of_mem _ hm)
    rw [List.length_cons, List.sum_cons]; omega
theorem at_le_sum : ∀ (ns : List Nat) (j : Nat), ns.getD j 0 <= ns.sum
  | [], j => by simp
  | n :: ns, 0 => by simp
  | n :: ns, j + 1 => by have := at_le_sum ns j; rw [List.sum_cons]; simp only [List.getD_cons_succ]; omega
theorem bump_pos : ∀ {ns : List Nat} {i : Nat}, (∀ n ∈ ns, 0 < n) -> ∀ n ∈ bump ns i, 0 < n
  | [], _, _, n, h => by simp [bump] at h; omega
  | m :: ns, 0, hp, n, h => by
    rcases List.mem_cons.mp h with z | z
    · omega
    · exact hp n (List.mem_cons_of_mem _ z)
  | m :: ns, i + 1, hp, n, h => by
    rcases List.mem_cons.mp h with z | z
    · rw [z]; exact hp m (List.mem_cons_self ..)
    · exact bump_pos (fun k hk => hp k (List.mem_cons_of_mem _ hk)) n z
theorem tabs_pos (xs : List Int) : ∀ i, ∀ n ∈ (tabs xs i).1.map List.length, 0 < n
  | 0 => fun n h => by cases h
  | i + 1 => by
    show ∀ n ∈ (put _ _).map List.length, 0 < n
    rw [put_shape]
    exact bump_pos (tabs_pos xs i)
theorem tabs_small (xs : List Int) (i : Nat) : (tabs xs i).1.length <= i /\ ∀ j, ((tabs xs i).1.getD j []).length <= i := by
  refine ⟨?_, fun j => ?_⟩
  · have := len_le_sum (tabs_pos xs i)
    rw [tabs_sum, List.length_map] at this; exact this
  · have := at_le_sum ((tabs xs i).1.map List.length) j
    rw [getD_len, tabs_sum] at this; exact this
noncomputable def gs (r : List Int) (x : Int) : List Nat := (List.range r.length).filter fun k => decide (x < r.getD k 0)
end Tb
set_option Elab.async false
set_option linter.all false
set_option maxRecDepth 100000
set_option maxHeartbeats 4000000
namespace Am
open PySem L2
noncomputable def Rows (S : Sto) : List Nat -> List (List Int) -> Prop
  | [], [] => True
  | r :: rs, x :: T => lstAt S r = some (x.map .int) /\ Rows S rs T
  | _, _ => False
theorem Rows.len {S : Sto} : ∀ {rs : List Nat} {T : List (List Int)}, Rows S rs T -> rs.length = T.length
  | [], [], _ => rfl
  | _ :: _, _ :: _, h => congrArg (· + 1) (Rows.len h.2)
  | [], _ :: _, h => h.elim
  | _ :: _, [], h => h.elim
theorem Rows.get {S : Sto} : ∀ {rs : List Nat} {T : List (List Int)} {i : Nat} {r : Nat}, Rows S rs T -> rs[i]? = some r -> i < T.length /\ lstAt S r = some ((T.getD i []).map .int)
  | [], [], _, _, _, e => by simp at e
  | r :: rs, x :: T, 0, _, h, e => by simp at e; subst e; exact ⟨Nat.zero_lt_succ _, h.1⟩
  | r :: rs, x :: T, i + 1, q, h, e => by
    obtain ⟨h1, h2⟩ := Rows.get (i := i) (r := q) h.2 (by simpa using e)
    exact ⟨Nat.succ_lt_succ h1, by simpa using h2⟩
  | [], _ :: _, _, _, h, _ => h.elim
  | _ :: _, [], _, _, h, _ => h.elim
theorem Rows.mono {S S' : Sto} : ∀ {rs : List Nat} {T : List (List Int)}, Rows S rs T -> (∀ r ∈ rs, ∀ xs, lstAt S r = some xs -> lstAt S' r = some xs) -> Rows S' rs T
  | [], [], _, _ => trivial
  | r :: rs, x :: T, h, k => ⟨k r (List.mem_cons_self ..) _ h.1, Rows.mono h.2 fun q hq => k q (List.mem_cons_of_mem _ hq)⟩
  | [], _ :: _, h, _ => h.elim
  | _ :: _, [], h, _ => h.elim
theorem Rows.set {S : Sto} {ys : List Int} : ∀ {rs : List Nat} {T : List (List Int)} {i : Nat} {r : Nat}, Rows S rs T -> rs.Nodup -> rs[i]? = some r -> Rows (S.set r (.lst (ys.map .int))) rs (T.set i ys)
  | [], [], _, _, _, _, e => by simp at e
  | r :: rs, x :: T, 0, q, h, nd, e => by
    simp at e; subst e
    refine ⟨lst_set (lst_lt h.1), Rows.mono h.2 fun q hq xs e => ?_⟩
    rw [lst_set_ne (show r ≠ q from fun z => (List.nodup_cons.mp nd).1 (by rw [z]; exact hq))]; exact e
  | r :: rs, x :: T, i + 1, q, h, nd, e => by
    have e' : rs[i]? = some q := by simpa using e
    refine ⟨?_, Rows.set h.2 (List.nodup_cons.mp nd).2 e'⟩
    rw [lst_set_ne (show q ≠ r from fun z => (List.nodup_cons.mp nd).1 (by rw [<- z]; exact List.mem_of_getElem? e'))]; exact h.1
  | [], _ :: _, _, _, h, _, _ => h.elim
  | _ :: _, [], _, _, h, _, _ => h.elim
theorem Rows.app {S : Sto} : ∀ {rs rs' : List Nat} {T T' : List (List Int)}, Rows S rs T -> Rows S rs' T' -> Rows S (rs ++ rs') (T ++ T')
  | [], _, [], _, _, h => h
  | r :: rs, _, x :: T, _, h, h' => ⟨h.1, Rows.app h.2 h'⟩
  | [], _, _ :: _, _, h, _ => h.elim
  | _ :: _, _, [], _, h, _ => h.elim
theorem eqLs_rows {S : Sto} {n : Nat} : ∀ {rs rs' : List Nat} {T T' : List (List Int)}, Rows S rs T -> Rows S rs' T' -> eqLs (eqA S (n + 2)) (rs.map .ref) (rs'.map .ref) = some (decide (T = T'))
  | [], [], [], [], _, _ => rfl
  | [], _ :: _, [], _ :: _, _, _ => rfl
  | _ :: _, [], _ :: _, [], _, _ => rfl
  | r :: rs, q :: qs, x :: T, y :: T', h, h' => by
    show (eqA S (n + 2) (.ref r) (.ref q)).bind _ = _
    have e : eqA S (n + 2) (.ref r) (.ref q) = some (decide (x = y)) := by
      show (lstAt S r).bind (fun xs => (lstAt S q).bind fun ys => eqLs (eqA S (n + 1)) xs ys) = _
      rw [h.1, Option.bind_some, h'.1, Option.bind_some]
      exact eqLs_ints x y
    rw [e, Option.bind_some]
    show Option.map _ (eqLs (eqA S (n + 2)) (rs.map .ref) (qs.map .ref)) = _
    rw [eqLs_rows h.2 h'.2]
    show some (decide (x = y) && decide (T = T')) = _
    by_cases h1 : x = y <;> by_cases h2 : T = T' <;> simp [h1, h2]
  | [], _, _ :: _, _, h, _ => h.elim
  | _ :: _, _, [], _, h, _ => h.elim
  | _, [], _, _ :: _, _, h => h.elim
  | _, _ :: _, _, [], _, h => h.elim
structure Tab (S : Sto) (n : Nat) (rs : List Nat) (T : List (List Int)) : Prop where
  top : lstAt S n = some (rs.map .ref)
  rows : Rows S rs T
  nd : (n :: rs).Nodup
theorem Tab.len {S : Sto} {n : Nat} {rs : List Nat} {T : List (List Int)} (h : Tab S n rs T) : rs.length = T.length := h.rows.len
theorem Tab.kp {S S' : Sto} {n : Nat} {rs : List Nat} {T : List (List Int)} {c : Nat -> Prop} (h : Tab S n rs T) (k : Kp c S S') (hc : ∀ r ∈ n :: rs, ¬ c r) : Tab S' n rs T :=
  ⟨k.lst _ _ (hc n (List.mem_cons_self ..)) h.top, h.rows.mono fun r hr xs e => k.lst r xs (hc r (List.mem_cons_of_mem _ hr)) e, h.nd⟩
theorem Tab.kp0 {S S' : Sto} {n : Nat} {rs : List Nat} {T : List (List Int)} (h : Tab S n rs T) (k : Kp0 S S') : Tab S' n rs T := h.kp k fun _ _ z => z
theorem Rows.lt {S : Sto} {rs : List Nat} {T : List (List Int)} (h : Rows S rs T) : ∀ r ∈ rs, r < S.length := fun r hr => by
  obtain ⟨i, hi, e⟩ := List.mem_iff_getElem.mp hr
  exact lst_lt (h.get (by rw [List.getElem?_eq_getElem hi, e])).2
theorem Tab.lt {S : Sto} {n : Nat} {rs : List Nat} {T : List (List Int)} (h : Tab S n rs T) : ∀ r ∈ n :: rs, r < S.length := fun r hr => by
  rcases List.mem_cons.mp hr with z | z
  · rw [z]; exact lst_lt h.top
  · exact h.rows.lt r z
theorem Tab.set {S : Sto} {n : Nat} {rs : List Nat} {T : List (List Int)} {i r : Nat} {ys : List Int} (h : Tab S n rs T) (hi : rs[i]? = some r) : Tab (S.set r (.lst (ys.map .int))) n rs (T.set i ys) :=
  ⟨by rw [lst_set_ne (show r ≠ n from fun z => (List.nodup_cons.mp h.nd).1 (by rw [<- z]; exact List.mem_of_getElem? hi))]; exact h.top, h.rows.set (List.nodup_cons.mp h.nd).2 hi, h.nd⟩
theorem Tab.push {S : Sto} {n : Nat} {rs : List Nat} {T : List (List Int)} {ys : List Int} (h : Tab S n rs T) : Tab ((S ++ [O.lst (ys.map .int)]).set n (.lst ((rs ++ [S.length]).map .ref))) n (rs ++ [S.length]) (T ++ [ys]) := by
  have hn : n < S.length := h.lt n (List.mem_cons_self ..)
  have nn : ∀ r ∈ rs, n ≠ r := fun r hr z => (List.nodup_cons.mp h.nd).1 (z ▸ hr)
  refine ⟨lst_set (by rw [List.length_append]; simp; omega), Rows.app (h.rows.mono fun r hr xs e => ?_) ⟨?_, trivial⟩, ?_⟩
  · rw [lst_set_ne (nn r hr)]; exact lst_app e
  · rw [lst_set_ne (by omega)]; exact lst_lay
  · rw [List.nodup_cons, List.nodup_append]
    refine ⟨fun z => ?_, (List.nodup_cons.mp h.nd).2, by simp, fun a ha b hb z => ?_⟩
    · rcases List.mem_append.mp z with z | z
      · exact nn n z rfl
      · have : n = S.length := by simpa using z
        omega
    · have hb' : b = S.length := by simpa using hb
      have := h.rows.lt a ha
      omega
theorem Tab.eq {S : Sto} {n m : Nat} {rs qs : List Nat} {T U : List (List Int)} (h : Tab S n rs T) (h' : Tab S m qs U) : eqA S 12 (.ref n) (.ref m) = some (decide (T = U)) := by
  show (lstAt S n).bind (fun xs => (lstAt S m).bind fun ys => eqLs (eqA S 11) xs ys) = _
  rw [h.top, Option.bind_some, h'.top, Option.bind_some]
  exact eqLs_rows h.rows h'.rows
theorem Tab.nil {S : Sto} {n : Nat} (h : lstAt S n = some []) : Tab S n [] [] := ⟨h, trivial, by simp⟩
theorem eq_nil {S : Sto} {a b : Nat} {xs : List A} (h : lstAt S a = some xs) (h' : lstAt S b = some []) : eqA S 12 (.ref a) (.ref b) = some xs.isEmpty := by
  show (lstAt S a).bind (fun xs => (lstAt S b).bind fun ys => eqLs (eqA S 11) xs ys) = _
  rw [h, Option.bind_some, h', Option.bind_some]
  cases xs <;> rfl
theorem eq_il {S : Sto} {a b : Nat} {xs ys : List Int} (h : lstAt S a = some (xs.map .int)) (h' : lstAt S b = some (ys.map .int)) : eqA S 12 (.ref a) (.ref b) = some (decide (xs = ys)) := by
  show (lstAt S a).bind (fun xs => (lstAt S b).bind fun ys => eqLs (eqA S 11) xs ys) = _
  rw [h, Option.bind_some, h', Option.bind_some]
  exact eqLs_ints xs ys
theorem aEq_of {S : Sto} {a b : A} {k : Bool} (h : eqA S 12 a b = some k) : aEq false a b S = .ok (.bl k) S := by unfold aEq; rw [h]; rfl
theorem aNe_of {S : Sto} {a b : A} {k : Bool} (h : eqA S 12 a b = some k) : aEq true a b S = .ok (.bl (!k)) S := by unfold aEq; rw [h]; rfl
theorem comp_lst {xs : List A} {n : Nat} {cap : List (Option Nat)} {src : Ic} {t : Te} {e : Ex} {τ : List A} {S : Sto} (hs : src τ S = .ok (lstSrc n xs.length) S) (hx : lstAt S n = some xs) (p : A -> Bool) (f : A -> A)
    (ht : ∀ x ∈ xs, t (x :: capA cap τ) S = .ok (p x) S) (he : ∀ x ∈ xs, p x = true -> e (x :: capA cap τ) S = .ok (f x) S) (hl : xs.length <= 16777216) :
    eComp (none :: cap) src (gNm 0) t e τ S = .ok (.ref S.length) (S ++ [.lst ((xs.filter p).map f)]) := by
  have hm : ∀ i, i < xs.length -> xs.getD i .unb ∈ xs := fun i hi => by
    rw [List.getD_eq_getElem?_getD, List.getElem?_eq_getElem hi]; exact List.getElem_mem hi
  rw [comp_pure hs (fun i => xs.getD i .unb) (fun i => p (xs.getD i .unb)) (fun i => f (xs.getD i .unb)) (fun i hi => by
    have hi : i < xs.length := hi
    show (lstAt S n).bind _ = _
    rw [hx, Option.bind_some, List.getD_eq_getElem?_getD, List.getElem?_eq_getElem hi]; rfl) (by
      show (match lstAt S n with
        | some ys => decide (ys.length <= xs.length)
        | none => false) = true
      rw [hx]
      simp) (fun i hi => ht _ (hm i hi)) (fun i hi => he _ (hm i hi)) hl]
  have := filter_range_map xs p f .unb
  show R.ok _ (S ++ [O.lst (((List.range xs.length).filter _).map _)]) = _
  rw [this]
theorem getD_at {r : List Int} {k : Nat} (h : k < r.length) : r[k]? = some (r.getD k 0) := by rw [List.getD_eq_getElem?_getD, List.getElem?_eq_getElem h]; rfl
theorem at_int {r : List Int} {i : Int} {k : Nat} (h : i = k) (hk : k < r.length) : atI (r.map A.int) i = some (.int (r.getD k 0)) := atI_map h (getD_at hk)
theorem bls_map : ∀ (bs : List Bool), A.bls (bs.map .bl) = some bs
  | [] => rfl
  | b :: bs => by show (A.bls (bs.map .bl)).map (b :: ·) = _; rw [bls_map bs]; rfl
end Am
set_option Elab.async false
set_option linter.all false
namespace Wd
open Bl L2
noncomputable def ex (l : List Int) (k : Nat) : List Int := (l.set (k - 1) (l.getD k 0)).set k (l.getD (k - 1) 0)
noncomputable def led (l : List Int) (w : List Nat) : List Int := w.foldl ex l
theorem getD_el {l : List Int} {k : Nat} (h : k < l.length) : l.getD k 0 = l[k] := by rw [List.getD_eq_getElem?_getD, List.getElem?_eq_getElem h]; rfl
theorem ex_eq {l : List Int} {k : Nat} (h0 : 1 <= k) (h : k < l.length) : ex l k = (l.set (k - 1) l[k]).set k (l[k - 1]'(by omega)) := by
  unfold ex
  rw [getD_el h, getD_el (show k - 1 < l.length by omega)]
theorem ex_len (l : List Int) (k : Nat) : (ex l k).length = l.length := by unfold ex; rw [List.length_set, List.length_set]
theorem up {l : List Int} {k : Nat} (h0 : 1 <= k) (h : k < l.length) (hr : l[k - 1]'(by omega) < l[k]) : Below l (ex l k) := by
  rw [ex_eq h0 h]
  exact raise_below (by omega) h (by omega) hr
noncomputable def Rising : List Int -> List Nat -> Prop
  | _, [] => True
  | l, k :: w => 1 <= k /\ k < l.length /\ l.getD (k - 1) 0 < l.getD k 0 /\ Rising (ex l k) w
theorem Rising.snoc : ∀ {w : List Nat} {l : List Int} {k : Nat}, Rising l w -> 1 <= k -> k < l.length -> (led l w).getD (k - 1) 0 < (led l w).getD k 0 -> Rising l (w ++ [k])
  | [], l, k, _, h0, h1, h2 => ⟨h0, h1, h2, trivial⟩
  | m :: w, l, k, h, h0, h1, h2 => ⟨h.1, h.2.1, h.2.2.1, Rising.snoc h.2.2.2 h0 (by rw [ex_len]; exact h1) h2⟩
theorem Rising.drop : ∀ {a b : List Nat} {l : List Int}, Rising l (a ++ b) -> Rising (led l a) b
  | [], _, _, h => h
  | _ :: a, b, l, h => Rising.drop (a := a) h.2.2.2
noncomputable def sw (k : Nat) (x : Int) : Int := if x = k then (k : Int) + 1 else if x = (k : Int) + 1 then k else x
end Wd
set_option Elab.async false
set_option linter.all false
set_option maxRecDepth 100000
set_option maxHeartbeats 4000000
namespace Iv
open L2 Bl
noncomputable def inv : List Int -> Nat
  | [] => 0
  | x :: l => l.countP (fun y => decide (y < x)) + inv l
noncomputable def cross (a b : List Int) : Nat := (a.map fun x => b.countP fun y => decide (y < x)).sum
theorem cross_cons (x : Int) (a b : List Int) : cross (x :: a) b = b.countP (fun y => decide (y < x)) + cross a b := rfl
theorem inv_append : ∀ (a b : List Int), inv (a ++ b) = inv a + inv b + cross a b
  | [], b => by show inv b = 0 + inv b + 0; omega
  | x :: a, b => by
    show (a ++ b).countP _ + inv (a ++ b) = (a.countP _ + inv a) + inv b + cross (x :: a) b
    rw [List.countP_append, inv_append a b, cross_cons]; omega
theorem sum_perm : ∀ {a b : List Nat}, a.Perm b -> a.sum = b.sum
  | _, _, .nil => rfl
  | _, _, .cons x h => by rw [List.sum_cons, List.sum_cons, sum_perm h]
  | _, _, .swap x y l => by rw [List.sum_cons, List.sum_cons, List.sum_cons, List.sum_cons]; omega
  | _, _, .trans h k => (sum_perm h).trans (sum_perm k)
theorem cross_l {a a' : List Int} (b : List Int) (h : a.Perm a') : cross a b = cross a' b := sum_perm (h.map _)
theorem cross_r (a : List Int) {b b' : List Int} (h : b.Perm b') : cross a b = cross a b' := by
  unfold cross
  congr 1
  refine List.map_congr_left fun x _ => h.countP_eq _
theorem countP_split {M : List Int} {x y : Int} (h : ∀ m ∈ M, m < x \/ y < m) (hxy : x < y) : M.countP (fun m => decide (m < x)) = M.countP (fun m => decide (m < y)) := by
  refine List.countP_congr fun m hm => ?_
  rw [decide_eq_true_iff, decide_eq_true_iff]
  rcases h m hm with z | z <;> omega
theorem cross_split : ∀ {M : List Int} {x y : Int}, (∀ m ∈ M, m < x \/ y < m) -> x < y -> cross M [x] = cross M [y]
  | [], _, _, _, _ => rfl
  | m :: M, x, y, h, hxy => by
    rw [cross_cons, cross_cons, cross_split (fun m' hm => h m' (List.mem_cons_of_mem _ hm)) hxy]
    congr 1
    have := h m (List.mem_cons_self ..)
    simp only [List.countP_cons, List.countP_nil]
    by_cases c : x < m
    · rw [decide_eq_true c, decide_eq_true (show y < m by omega)]
    · rw [decide_eq_false c, decide_eq_false (show ¬ y < m by omega)]
theorem mid {M : List Int} {x y : Int} (h : ∀ m ∈ M, m < x \/ y < m) (hxy : x < y) : inv ([y] ++ M ++ [x]) = inv ([x] ++ M ++ [y]) + 1 := by
  rw [inv_append, inv_append, inv_append ([x] ++ M), inv_append [x]]
  have e1 : cross [y] M = cross [x] M := by
    show M.countP _ + 0 = M.countP _ + 0
    rw [countP_split h hxy]
  have e2 : cross ([y] ++ M) [x] = 1 + cross M [x] := by
    show [x].countP _ + cross M [x] = _
    rw [List.countP_cons, decide_eq_true hxy]; rfl
  have e3 : cross ([x] ++ M) [y] = cross M [y] := by
    show [y].countP _ + cross M [y] = _
    rw [List.countP_cons, decide_eq_false (by omega : ¬ y < x)]; simp
  rw [e1, e2, e3, cross_split h hxy]
  show 0 + inv M + _ + 0 + _ = 0 + inv M + _ + 0 + _ + 1
  omega
theorem swap_mid (M : List Int) (x y : Int) : ([y] ++ M ++ [x]).Perm ([x] ++ M ++ [y]) := by
  refine (List.perm_append_comm (l₁ := [y] ++ M) (l₂ := [x])).trans ?_
  show (x :: (y :: M)).Perm (x :: (M ++ [y]))
  exact .cons x (List.perm_append_comm (l₁ := [y]) (l₂ := M))
theorem step {P M R : List Int} {x y : Int} (h : ∀ m ∈ M, m < x \/ y < m) (hxy : x < y) : inv (P ++ ([y] ++ M ++ [x]) ++ R) = inv (P ++ ([x] ++ M ++ [y]) ++ R) + 1 := by
  have p := swap_mid M x y
  rw [inv_append, inv_append P, inv_append (P ++ ([x] ++ M ++ [y])), inv_append P, mid h hxy, cross_r P p, cross_l R (p.append_left P)]
  omega
theorem cnt_one (x v : Int) : cnt [x] v = if v <= x then 1 else 0 := by show (if v <= x then 1 else 0) + 0 = _; omega
noncomputable def sw (a : List Int) (i j : Nat) : List Int := (a.set i (a.getD j 0)).set j (a.getD i 0)
theorem sw_len (a : List Int) (i j : Nat) : (sw a i j).length = a.length := by unfold sw; rw [List.length_set, List.length_set]
theorem split {a : List Int} {i j : Nat} (hij : i < j) (hj : j < a.length) : ∃ P M R : List Int, a = P ++ ([a.getD i 0] ++ M ++ [a.getD j 0]) ++ R /\ P = a.take i /\ (∀ m ∈ M, ∃ k, i < k /\ k < j /\ a[k]? = some m) /\ sw a i j = P ++ ([a.getD j 0] ++ M ++ [a.getD i 0]) ++ R := by
  have gi : a.getD i 0 = a[i] := by rw [List.getD_eq_getElem?_getD, List.getElem?_eq_getElem (by omega)]; rfl
  have gj : a.getD j 0 = a[j] := by rw [List.getD_eq_getElem?_getD, List.getElem?_eq_getElem hj]; rfl
  obtain ⟨M, hM⟩ : ∃ M, M = (a.drop (i + 1)).take (j - i - 1) := ⟨_, rfl⟩
  have lM : M.length = j - i - 1 := by rw [hM, List.length_take, List.length_drop]; omega
  have ea : a = a.take i ++ ([a.getD i 0] ++ M ++ [a.getD j 0]) ++ a.drop (j + 1) := by
    have h1 : a.drop i = a[i] :: a.drop (i + 1) := List.drop_eq_getElem_cons (by omega)
    have h2 : a.drop (i + 1) = M ++ a.drop j := by
      rw [hM]
      have := List.take_append_drop (j - i - 1) (a.drop (i + 1))
      rw [List.drop_drop, show i + 1 + (j - i - 1) = j by omega] at this
      exact this.symm
    have h3 : a.drop j = a[j] :: a.drop (j + 1) := List.drop_eq_getElem_cons hj
    conv => lhs; rw [<- List.take_append_drop i a, h1, h2, h3]
    rw [gi, gj]; simp
  refine ⟨a.take i, M, a.drop (j + 1), ea, rfl, fun m hm => ?_, ?_⟩
  · rw [hM] at hm
    obtain ⟨k, hk⟩ := List.getElem?_of_mem hm
    have hlt : k < j - i - 1 := by
      have := (List.getElem?_eq_some_iff.mp hk).1
      rw [List.length_take] at this; omega
    rw [List.getElem?_take_of_lt hlt, List.getElem?_drop] at hk
    exact ⟨i + 1 + k, by omega, by omega, hk⟩
  · have key : ∀ (P R : List Int) (x y x' y' : Int), P.length = i -> ((P ++ ([x] ++ M ++ [y]) ++ R).set i y').set j x' = P ++ ([y'] ++ M ++ [x']) ++ R := fun P R x y x' y' lP => by
      rw [List.append_assoc, List.set_append_right _ _ (by omega), lP, Nat.sub_self]
      show (P ++ (y' :: ((M ++ [y]) ++ R))).set j x' = _
      rw [List.set_append_right _ _ (by omega), lP, show j - i = (j - i - 1) + 1 by omega, List.set_cons_succ, List.append_assoc, List.set_append_right _ _ (by omega), lM, Nat.sub_self]
      simp
    have := key (a.take i) (a.drop (j + 1)) (a.getD i 0) (a.getD j 0) (a.getD i 0) (a.getD j 0) (by rw [List.length_take]; omega)
    rw [<- ea] at this
    exact this
theorem getD_of {a : List Int} {i : Nat} (h : i < a.length) : a[i]? = some (a.getD i 0) := by rw [List.getD_eq_getElem?_getD, List.getElem?_eq_getElem h]; rfl
theorem part {a b : List Int} {n i : Nat} (pa : a.Perm (rngL 1 ((n : Int) + 1))) (pb : b.Perm (rngL 1 ((n : Int) + 1))) (la : a.length = n) (lb : b.length = n) (hb : Below a b) (hi : a.take i = b.take i) (hin : i < n) (hne : a.getD i 0 ≠ b.getD i 0) :
    a.getD i 0 < b.getD i 0 /\ ∃ j, i < j /\ j < n /\ a.getD j 0 = b.getD i 0 := by
  have hx := getD_of (a := a) (i := i) (by omega)
  have hy := getD_of (a := b) (i := i) (by omega)
  have ta : a.take (i + 1) = a.take i ++ [a.getD i 0] := by rw [List.take_succ, hx]; rfl
  have tb : b.take (i + 1) = b.take i ++ [b.getD i 0] := by rw [List.take_succ, hy]; rfl
  have h := hb (i + 1) (a.getD i 0)
  rw [ta, tb, hi, cnt_append, cnt_append, cnt_one, cnt_one, if_pos (Int.le_refl _)] at h
  have hle : a.getD i 0 <= b.getD i 0 := by
    by_cases c : a.getD i 0 <= b.getD i 0
    · exact c
    · rw [if_neg c] at h; omega
  refine ⟨by omega, ?_⟩
  have hm : b.getD i 0 ∈ a := (pa.trans pb.symm).mem_iff.mpr (List.mem_of_getElem? hy)
  obtain ⟨j, hj⟩ := List.getElem?_of_mem hm
  have hjn : j < n := by have := (List.getElem?_eq_some_iff.mp hj).1; omega
  have nb : b.Nodup := pb.nodup_iff.mpr (rngL_nodup _ _)
  refine ⟨j, ?_, hjn, ?_⟩
  · rcases Nat.lt_trichotomy j i with c | c | c
    · have e : (a.take i)[j]? = some (b.getD i 0) := by rw [List.getElem?_take_of_lt c]; exact hj
      rw [hi, List.getElem?_take_of_lt c] at e
      obtain ⟨h1, g1⟩ := List.getElem?_eq_some_iff.mp e
      obtain ⟨h2, g2⟩ := List.getElem?_eq_some_iff.mp hy
      exact absurd ((List.getElem_inj nb).mp (g1.trans g2.symm)) (by omega)
    · subst c
      rw [hx] at hj
      exact absurd (Option.some.inj hj) hne
    · exact c
  · rw [List.getD_eq_getElem?_getD, hj]; rfl
theorem sw_get {a : List Int} {i j : Nat} (hij : i < j) (hj : j < a.length) (p : Nat) : (sw a i j).getD p 0 = if p = j then a.getD i 0 else if p = i then a.getD j 0 else a.getD p 0 := by
  unfold sw
  rw [List.getD_eq_getElem?_getD]
  by_cases c : p = j
  · subst c
    rw [if_pos rfl, List.getElem?_set_self (by rw [List.length_set]; exact hj)]; rfl
  · rw [if_neg c, List.getElem?_set_ne (Ne.symm c)]
    by_cases d : p = i
    · subst d
      rw [if_pos rfl, List.getElem?_set_self (by omega)]; rfl
    · rw [if_neg d, List.getElem?_set_ne (Ne.symm d), <- List.getD_eq_getElem?_getD]
end Iv
set_option Elab.async false
set_option linter.all false
set_option maxRecDepth 100000
set_option maxHeartbeats 4000000
namespace Stp
open PySem L2 Iv
noncomputable def mm (a : List Int) (i j : Nat) : List Int := (a.drop (i + 1)).take (j - i - 1)
noncomputable def btw (x y m : Int) : Bool := decide (x < m) && decide (m < y)
theorem cnt2 {x y : Int} (hxy : x < y) : ∀ {M : List Int}, (∀ m ∈ M, m ≠ x /\ m ≠ y) -> M.countP (fun m => decide (m < y)) = M.countP (fun m => decide (m < x)) + M.countP (btw x y)
  | [], _ => rfl
  | m :: M, h => by
    have ih := cnt2 hxy (M := M) fun k hk => h k (List.mem_cons_of_mem _ hk)
    have hm := h m (List.mem_cons_self ..)
    rw [List.countP_cons, List.countP_cons, List.countP_cons, ih]
    unfold btw
    by_cases c : m < x
    · rw [decide_eq_true c, decide_eq_true (show m < y by omega), decide_eq_false (show ¬ x < m by omega)]; simp; omega
    · rw [decide_eq_false c, decide_eq_true (show x < m by omega)]
      by_cases c2 : m < y
      · rw [decide_eq_true c2]; simp; omega
      · rw [decide_eq_false c2]; simp
theorem crs2 {x y : Int} (hxy : x < y) : ∀ {M : List Int}, (∀ m ∈ M, m ≠ x /\ m ≠ y) -> cross M [x] = cross M [y] + M.countP (btw x y)
  | [], _ => rfl
  | m :: M, h => by
    have ih := crs2 hxy (M := M) fun k hk => h k (List.mem_cons_of_mem _ hk)
    have hm := h m (List.mem_cons_self ..)
    rw [cross_cons, cross_cons, ih, List.countP_cons (l := M)]
    simp only [List.countP_cons, List.countP_nil]
    unfold btw
    by_cases c : x < m
    · rw [decide_eq_true c]
      by_cases c2 : m < y
      · rw [decide_eq_true c2, decide_eq_false (show ¬ y < m by omega)]; simp; omega
      · rw [decide_eq_false c2, decide_eq_true (show y < m by omega)]; simp; omega
    · rw [decide_eq_false c, decide_eq_false (show ¬ y < m by omega)]; simp
theorem mid2 {M : List Int} {x y : Int} (h : ∀ m ∈ M, m ≠ x /\ m ≠ y) (hxy : x < y) : inv ([y] ++ M ++ [x]) = inv ([x] ++ M ++ [y]) + 1 + 2 * M.countP (btw x y) := by
  rw [inv_append, inv_append, inv_append ([x] ++ M), inv_append [x]]
  have e1 : cross [y] M = cross [x] M + M.countP (btw x y) := by
    show M.countP _ + 0 = M.countP _ + 0 + _
    rw [cnt2 hxy h]; omega
  have e2 : cross ([y] ++ M) [x] = 1 + cross M [x] := by
    show [x].countP _ + cross M [x] = _
    rw [List.countP_cons, decide_eq_true hxy]; rfl
  have e3 : cross ([x] ++ M) [y] = cross M [y] := by
    show [y].countP _ + cross M [y] = _
    rw [List.countP_cons, decide_eq_false (by omega : ¬ y < x)]; simp
  rw [e1, e2, e3, crs2 hxy h]
  show 0 + inv M + _ + 0 + _ = 0 + inv M + _ + 0 + _ + 1 + _
  omega
theorem step2 {P M R : List Int} {x y : Int} (h : ∀ m ∈ M, m ≠ x /\ m ≠ y) (hxy : x < y) : inv (P ++ ([y] ++ M ++ [x]) ++ R) = inv (P ++ ([x] ++ M ++ [y]) ++ R) + 1 + 2 * M.countP (btw x y) := by
  have p := swap_mid M x y
  rw [inv_append, inv_append P, inv_append (P ++ ([x] ++ M ++ [y])), inv_append P, mid2 h hxy, cross_r P p, cross_l R (p.append_left P)]
  omega
theorem parts {a : List Int} {i j : Nat} (hij : i < j) (hj : j < a.length) : a = a.take i ++ ([a.getD i 0] ++ mm a i j ++ [a.getD j 0]) ++ a.drop (j + 1) := by
  have gi : a.getD i 0 = a[i] := by rw [List.getD_eq_getElem?_getD, List.getElem?_eq_getElem (by omega)]; rfl
  have gj : a.getD j 0 = a[j] := by rw [List.getD_eq_getElem?_getD, List.getElem?_eq_getElem hj]; rfl
  have h1 : a.drop i = a[i] :: a.drop (i + 1) := List.drop_eq_getElem_cons (by omega)
  have h2 : a.drop (i + 1) = mm a i j ++ a.drop j := by
    have := List.take_append_drop (j - i - 1) (a.drop (i + 1))
    rw [List.drop_drop, show i + 1 + (j - i - 1) = j by omega] at this
    exact this.symm
  have h3 : a.drop j = a[j] :: a.drop (j + 1) := List.drop_eq_getElem_cons hj
  conv => lhs; rw [<- List.take_append_drop i a, h1, h2, h3]
  rw [gi, gj]; simp
theorem swpl {a : List Int} {i j : Nat} (hij : i < j) (hj : j < a.length) : sw a i j = a.take i ++ ([a.getD j 0] ++ mm a i j ++ [a.getD i 0]) ++ a.drop (j + 1) := by
  have lM : (mm a i j).length = j - i - 1 := by unfold mm; rw [List.length_take, List.length_drop]; omega
  have key : ∀ (P R : List Int) (x y x' y' : Int), P.length = i -> ((P ++ ([x] ++ mm a i j ++ [y]) ++ R).set i y').set j x' = P ++ ([y'] ++ mm a i j ++ [x']) ++ R := fun P R x y x' y' lP => by
    rw [List.append_assoc, List.set_append_right _ _ (by omega), lP, Nat.sub_self]
    show (P ++ (y' :: ((mm a i j ++ [y]) ++ R))).set j x' = _
    rw [List.set_append_right _ _ (by omega), lP, show j - i = (j - i - 1) + 1 by omega, List.set_cons_succ, List.append_assoc, List.set_append_right _ _ (by omega), lM, Nat.sub_self]
    simp
  have := key (a.take i) (a.drop (j + 1)) (a.getD i 0) (a.getD j 0) (a.getD i 0) (a.getD j 0) (by rw [List.length_take]; omega)
  rw [<- parts hij hj] at this
  exact this
noncomputable def isS (a : List Int) (i j : Nat) : Bool := !(mm a i j).any fun m => btw (if a.getD j 0 < a.getD i 0 then a.getD j 0 else a.getD i 0) (if a.getD j 0 > a.getD i 0 then a.getD j 0 else a.getD i 0) m
theorem sw_i {a : List Int} {i j : Nat} (hij : i < j) (hj : j < a.length) : (sw a i j).getD i 0 = a.getD j 0 := by
  unfold sw
  rw [List.getD_eq_getElem?_getD, List.getElem?_set_ne (by omega), List.getElem?_set_self (by omega)]; rfl
theorem sw_j {a : List Int} {i j : Nat} (hij : i < j) (hj : j < a.length) : (sw a i j).getD j 0 = a.getD i 0 := by
  unfold sw
  rw [List.getD_eq_getElem?_getD, List.getElem?_set_self (by rw [List.length_set]; exact hj)]; rfl
theorem sw_sw {a : List Int} {i j : Nat} (hij : i < j) (hj : j < a.length) : sw (sw a i j) i j = a := by
  have h1 := sw_i hij hj
  have h2 := sw_j hij hj
  unfold sw at h1 h2 ⊢
  rw [h1, h2]
  apply List.ext_getElem?
  intro k
  by_cases c : k = j
  · subst c
    rw [List.getElem?_set_self (by simp only [List.length_set]; exact hj), Iv.getD_of hj]
  · rw [List.getElem?_set_ne (by omega)]
    by_cases c2 : k = i
    · subst c2
      rw [List.getElem?_set_self (by simp only [List.length_set]; omega), Iv.getD_of (by omega)]
    · rw [List.getElem?_set_ne (by omega), List.getElem?_set_ne (by omega), List.getElem?_set_ne (by omega)]
end Stp
set_option Elab.async false
set_option linter.all false
set_option maxRecDepth 100000
set_option maxHeartbeats 4000000
namespace Kn
open Tb (fg put)
theorem fg_seg : ∀ {A B : List Int} {x : Int}, (∀ a ∈ A, a <= x) -> (∀ b ∈ B, x < b) -> fg (A ++ B) x = A.length
  | [], [], _, _, _ => rfl
  | [], b :: B, x, _, hB => by
    have := hB b (List.mem_cons_self ..)
    unfold Tb.fg
    simp [List.findIdx_cons, this]
  | a :: A, B, x, hA, hB => by
    have h := hA a (List.mem_cons_self ..)
    have ih := fg_seg (A := A) (B := B) (x := x) (fun c hc => hA c (List.mem_cons_of_mem _ hc)) hB
    unfold Tb.fg at ih ⊢
    rw [List.cons_append, List.findIdx_cons, decide_eq_false (by omega)]
    simp [ih]
theorem put_e {A : List Int} {T : List (List Int)} {x : Int} (hA : ∀ a ∈ A, a <= x) : put (A :: T) x = (A ++ [x]) :: T := by
  refine Tb.put_end ?_
  have := fg_seg (A := A) (B := []) (x := x) hA (fun b hb => absurd hb (by simp))
  rwa [List.append_nil] at this
theorem put_b {A B : List Int} {T : List (List Int)} {x b : Int} (hA : ∀ a ∈ A, a <= x) (hb : x < b) (hB : ∀ c ∈ B, x < c) : put ((A ++ b :: B) :: T) x = (A ++ x :: B) :: put T b := by
  have e := fg_seg (A := A) (B := b :: B) (x := x) hA (fun c hc => by
    rcases List.mem_cons.mp hc with rfl | z
    · exact hb
    · exact hB c z)
  rw [Tb.put_on (by rw [e]; simp), e]
  simp [List.getD_eq_getElem?_getD]
theorem cut (x : Int) : ∀ {R : List Int}, R.Pairwise (· <= ·) -> ∃ A B, R = A ++ B /\ (∀ a ∈ A, a <= x) /\ ∀ b ∈ B, x < b
  | [], _ => ⟨[], [], rfl, fun a ha => absurd ha (by simp), fun a ha => absurd ha (by simp)⟩
  | r :: R, h => by
    rw [List.pairwise_cons] at h
    by_cases c : r <= x
    · obtain ⟨A, B, rfl, hA, hB⟩ := cut x h.2
      refine ⟨r :: A, B, rfl, fun a ha => ?_, hB⟩
      rcases List.mem_cons.mp ha with rfl | z
      · exact c
      · exact hA a z
    · refine ⟨[], r :: R, rfl, fun a ha => absurd ha (by simp), fun b hb => ?_⟩
      rcases List.mem_cons.mp hb with rfl | z
      · omega
      · have := h.1 b z; omega
inductive Mv : List Int -> List Int -> Prop
  | one (x y z : Int) (h : x <= y) (h' : y < z) : Mv [x, z, y] [z, x, y]
  | two (x y z : Int) (h : x < y) (h' : y <= z) : Mv [y, x, z] [y, z, x]
noncomputable def Srt (T : List (List Int)) : Prop := ∀ R ∈ T, R.Pairwise (· <= ·)
theorem le_app {A B : List Int} {x : Int} (h1 : ∀ a ∈ A, a <= x) (h2 : ∀ b ∈ B, b <= x) : ∀ a ∈ A ++ B, a <= x := fun a ha => (List.mem_append.mp ha).elim (h1 a) (h2 a)
theorem le_cons {B : List Int} {b x : Int} (h1 : b <= x) (h2 : ∀ b ∈ B, b <= x) : ∀ a ∈ b :: B, a <= x := fun a ha => (List.mem_cons.mp ha).elim (fun z => z ▸ h1) (h2 a)
theorem lt_app {A B : List Int} {x : Int} (h1 : ∀ a ∈ A, x < a) (h2 : ∀ b ∈ B, x < b) : ∀ a ∈ A ++ B, x < a := fun a ha => (List.mem_append.mp ha).elim (h1 a) (h2 a)
theorem lt_cons {B : List Int} {b x : Int} (h1 : x < b) (h2 : ∀ b ∈ B, x < b) : ∀ a ∈ b :: B, x < a := fun a ha => (List.mem_cons.mp ha).elim (fun z => z ▸ h1) (h2 a)
theorem le_nil {x : Int} : ∀ a ∈ ([] : List Int), a <= x := fun a ha => absurd ha (by simp)
theorem lt_nil {x : Int} : ∀ a ∈ ([] : List Int), x < a := fun a ha => absurd ha (by simp)
theorem le_le {A : List Int} {x y : Int} (h : ∀ a ∈ A, a <= x) (k : x <= y) : ∀ a ∈ A, a <= y := fun a ha => by have := h a ha; omega
theorem lt_le {A : List Int} {x y : Int} (h : ∀ a ∈ A, y < a) (k : x <= y) : ∀ a ∈ A, x < a := fun a ha => by have := h a ha; omega
theorem pe {L R' : List Int} {R : List Int} {T : List (List Int)} {x : Int} (e : R = L) (hL : ∀ a ∈ L, a <= x) (e' : R' = L ++ [x]) : put (R :: T) x = R' :: T := by rw [e, e', put_e hL]
theorem pb {L M R R' : List Int} {T : List (List Int)} {x b : Int} (e : R = L ++ b :: M) (hL : ∀ a ∈ L, a <= x) (hb : x < b) (hM : ∀ c ∈ M, x < c) (e' : R' = L ++ x :: M) : put (R :: T) x = R' :: put T b := by rw [e, e', put_b hL hb hM]
theorem two_of {T : List (List Int)} (ih : ∀ w w', Mv w w' -> w.foldl put T = w'.foldl put T) {x y z : Int} (h : x < y) (h' : y <= z) : put (put (put T y) x) z = put (put (put T y) z) x := ih _ _ (.two x y z h h')
theorem one_of {T : List (List Int)} (ih : ∀ w w', Mv w w' -> w.foldl put T = w'.foldl put T) {x y z : Int} (h : x <= y) (h' : y < z) : put (put (put T x) z) y = put (put (put T z) x) y := ih _ _ (.one x y z h h')
theorem row_two {R : List Int} {T : List (List Int)} (hR : R.Pairwise (· <= ·)) (ih : ∀ w w', Mv w w' -> w.foldl put T = w'.foldl put T) {x y z : Int} (h : x < y) (h' : y <= z) : put (put (put (R :: T) y) x) z = put (put (put (R :: T) y) z) x := by
  obtain ⟨A0, E, rfl, hA0, hE⟩ := cut y hR
  obtain ⟨h1, h2, _⟩ := List.pairwise_append.mp hR
  obtain ⟨A, B, rfl, hA, hB⟩ := cut x h1
  have hBy : ∀ b ∈ B, b <= y := fun b hb => hA0 b (List.mem_append_right _ hb)
  have hAy := le_le hA (show x <= y by omega)
  have hAz := le_le hA (show x <= z by omega)
  have hBz := le_le hBy h'
  cases E with
  | nil =>
    rw [pe (R' := A ++ B ++ [y]) (List.append_nil _) hA0 rfl]
    cases B with
    | nil =>
      rw [pb (L := A) (M := []) (b := y) (R' := A ++ [x]) (by simp) hA h lt_nil rfl, pe (R' := A ++ [x] ++ [z]) rfl (le_app hAz (le_cons (by omega) le_nil)) rfl,
        pe (R := A ++ [] ++ [y]) (R' := A ++ [y] ++ [z]) (L := A ++ [y]) (by simp) (le_app hAz (le_cons h' le_nil)) rfl, pb (L := A) (M := [z]) (b := y) (R' := A ++ [x] ++ [z]) (by simp) hA h (lt_cons (by omega) lt_nil) (by simp)]
    | cons b B =>
      have hb := hB b (List.mem_cons_self ..)
      have hB' : ∀ c ∈ B, x < c := fun c hc => hB c (List.mem_cons_of_mem _ hc)
      have hBz' : ∀ c ∈ B, c <= z := fun c hc => hBz c (List.mem_cons_of_mem _ hc)
      rw [pb (L := A) (M := B ++ [y]) (b := b) (R' := A ++ x :: (B ++ [y])) (by simp) hA hb (lt_app hB' (lt_cons h lt_nil)) rfl,
        pe (R' := A ++ x :: (B ++ [y]) ++ [z]) rfl (le_app hAz (le_cons (by omega) (le_app hBz' (le_cons h' le_nil)))) rfl,
        pe (R := A ++ b :: B ++ [y]) (R' := A ++ b :: B ++ [y] ++ [z]) rfl (le_app (le_app hAz hBz) (le_cons h' le_nil)) rfl,
        pb (L := A) (M := B ++ [y] ++ [z]) (b := b) (R' := A ++ x :: (B ++ [y]) ++ [z]) (by simp) hA hb (lt_app (lt_app hB' (lt_cons h lt_nil)) (lt_cons (by omega) lt_nil)) (by simp)]
  | cons e E =>
    have he := hE e (List.mem_cons_self ..)
    have hE' : ∀ c ∈ E, y < c := fun c hc => hE c (List.mem_cons_of_mem _ hc)
    rw [List.pairwise_cons] at h2
    obtain ⟨C, D, rfl, hC, hD⟩ := cut z h2.2
    have hCx : ∀ c ∈ C ++ D, x < c := fun c hc => by have := hE' c hc; omega
    rw [pb (L := A ++ B) (M := C ++ D) (b := e) (R' := A ++ B ++ y :: (C ++ D)) rfl hA0 he hE' rfl]
    obtain ⟨f, X, hf, hfy, ex, ez⟩ : ∃ (f : Int) (X : List Int), f < e /\ (∀ a ∈ X ++ C, a <= z) /\ (∀ T, put ((A ++ B ++ y :: (C ++ D)) :: T) x = (X ++ (C ++ D)) :: put T f) /\ ∀ (N : List Int) T, (∀ c ∈ N, x < c) -> put ((A ++ B ++ y :: N) :: T) x = (X ++ N) :: put T f := by
      cases B with
      | nil =>
        refine ⟨y, A ++ [x], he, le_app (le_app hAz (le_cons (by omega) le_nil)) hC, fun T => ?_, fun N T hN => ?_⟩
        · exact pb (L := A) (M := C ++ D) (b := y) (by simp) hA h hCx (by simp)
        · exact pb (L := A) (M := N) (b := y) (by simp) hA h hN (by simp)
      | cons b B =>
        have hb := hB b (List.mem_cons_self ..)
        have hB' : ∀ c ∈ B, x < c := fun c hc => hB c (List.mem_cons_of_mem _ hc)
        have hby := hBy b (List.mem_cons_self ..)
        have hBz' : ∀ c ∈ B, c <= z := fun c hc => hBz c (List.mem_cons_of_mem _ hc)
        refine ⟨b, A ++ x :: (B ++ [y]), by omega, le_app (le_app hAz (le_cons (by omega) (le_app hBz' (le_cons h' le_nil)))) hC, fun T => ?_, fun N T hN => ?_⟩
        · exact pb (L := A) (M := B ++ y :: (C ++ D)) (b := b) (by simp) hA hb (lt_app hB' (lt_cons h hCx)) (by simp)
        · exact pb (L := A) (M := B ++ y :: N) (b := b) (by simp) hA hb (lt_app hB' (lt_cons h hN)) (by simp)
    have hABz : ∀ a ∈ A ++ B ++ y :: C, a <= z := le_app (le_app hAz hBz) (le_cons h' hC)
    rw [ex]
    cases D with
    | nil =>
      rw [pe (L := X ++ C) (R' := X ++ (C ++ [z])) (by simp) hfy (by simp), pe (L := A ++ B ++ y :: C) (R := A ++ B ++ y :: (C ++ [])) (R' := A ++ B ++ y :: (C ++ [z])) (by simp) hABz (by simp),
        ez _ _ (fun c hc => by
          rcases List.mem_append.mp hc with w | w
          · exact hCx c (List.mem_append_left _ w)
          · rw [show c = z by simpa using w]; omega)]
    | cons d D =>
      have hd := hD d (List.mem_cons_self ..)
      have hD' : ∀ c ∈ D, z < c := fun c hc => hD c (List.mem_cons_of_mem _ hc)
      have hed : e <= d := h2.1 d (by simp)
      rw [pb (L := X ++ C) (M := D) (b := d) (R' := X ++ (C ++ z :: D)) (by simp) hfy hd hD' (by simp), pb (L := A ++ B ++ y :: C) (R := A ++ B ++ y :: (C ++ d :: D)) (M := D) (b := d) (R' := A ++ B ++ y :: (C ++ z :: D)) (by simp) hABz hd hD' (by simp),
        ez _ _ (lt_app (fun c hc => hCx c (List.mem_append_left _ hc)) (lt_cons (by omega) (lt_le hD' (by omega)))), two_of ih hf hed]
theorem row_one {R : List Int} {T : List (List Int)} (hR : R.Pairwise (· <= ·)) (ih : ∀ w w', Mv w w' -> w.foldl put T = w'.foldl put T) {x y z : Int} (h : x <= y) (h' : y < z) : put (put (put (R :: T) x) z) y = put (put (put (R :: T) z) x) y := by
  obtain ⟨A, G, rfl, hA, hG⟩ := cut x hR
  obtain ⟨_, h2, _⟩ := List.pairwise_append.mp hR
  obtain ⟨C, D, rfl, hC, hD⟩ := cut z h2
  have hxz : x < z := by omega
  have hAy := le_le hA h
  have hAz := le_le hA (show x <= z by omega)
  obtain ⟨g1, g2, g3⟩ := List.pairwise_append.mp h2
  cases C with
  | nil =>
    cases D with
    | nil =>
      rw [pe (L := A) (R' := A ++ [x]) (by simp) hA rfl, pe (L := A ++ [x]) (R' := A ++ [x] ++ [z]) rfl (le_app hAz (le_cons (by omega) le_nil)) rfl, pb (L := A ++ [x]) (M := []) (b := z) (R' := A ++ [x] ++ [y]) rfl (le_app hAy (le_cons h le_nil)) h' lt_nil rfl,
        pe (L := A) (R' := A ++ [z]) (R := A ++ ([] ++ [])) (by simp) hAz rfl, pb (L := A) (M := []) (b := z) (R' := A ++ [x]) rfl hA hxz lt_nil rfl, pe (L := A ++ [x]) (R' := A ++ [x] ++ [y]) rfl (le_app hAy (le_cons h le_nil)) rfl]
    | cons d D =>
      have hd := hD d (List.mem_cons_self ..)
      have hD' : ∀ c ∈ D, z < c := fun c hc => hD c (List.mem_cons_of_mem _ hc)
      rw [pb (L := A) (M := D) (b := d) (R := A ++ ([] ++ d :: D)) (R' := A ++ x :: D) rfl hA (by omega) (lt_le hD' (by omega)) rfl]
      rw [pb (L := A) (M := D) (b := d) (R := A ++ ([] ++ d :: D)) (R' := A ++ z :: D) rfl hAz hd hD' rfl, pb (L := A) (M := D) (b := z) (R' := A ++ x :: D) rfl hA hxz (lt_le hD' (by omega)) rfl]
      cases D with
      | nil =>
        rw [pe (L := A ++ [x]) (R' := A ++ [x] ++ [z]) rfl (le_app hAz (le_cons (by omega) le_nil)) rfl, pb (L := A ++ [x]) (M := []) (b := z) (R' := A ++ [x] ++ [y]) rfl (le_app hAy (le_cons h le_nil)) h' lt_nil rfl,
          pe (L := A ++ [x]) (R' := A ++ [x] ++ [y]) rfl (le_app hAy (le_cons h le_nil)) rfl]
      | cons d2 D =>
        have hd2 := hD' d2 (List.mem_cons_self ..)
        have hD2 : ∀ c ∈ D, z < c := fun c hc => hD' c (List.mem_cons_of_mem _ hc)
        have hdd : d <= d2 := (List.pairwise_cons.mp g2).1 d2 (List.mem_cons_self ..)
        rw [pb (L := A ++ [x]) (M := D) (b := d2) (R' := A ++ [x] ++ z :: D) (by simp) (le_app hAz (le_cons (by omega) le_nil)) hd2 hD2 rfl, pb (L := A ++ [x]) (M := D) (b := z) (R' := A ++ [x] ++ y :: D) rfl (le_app hAy (le_cons h le_nil)) h' (lt_le hD2 (by omega)) rfl,
          pb (L := A ++ [x]) (M := D) (b := d2) (R' := A ++ [x] ++ y :: D) (by simp) (le_app hAy (le_cons h le_nil)) (by omega) (lt_le hD2 (by omega)) rfl, two_of ih hd hdd]
  | cons c C =>
    have hc := hC c (List.mem_cons_self ..)
    have hC' : ∀ a ∈ C, a <= z := fun a ha => hC a (List.mem_cons_of_mem _ ha)
    have hcx := hG c (by simp)
    have hCx : ∀ a ∈ C, x < a := fun a ha => hG a (by simp [ha])
    have hDx : ∀ a ∈ D, x < a := fun a ha => hG a (by simp [ha])
    rw [List.pairwise_cons] at g1
    obtain ⟨F, H, rfl, hF, hH⟩ := cut y g1.2
    obtain ⟨f, Y, hcf, hfz, ey⟩ : ∃ (f : Int) (Y : List Int), c <= f /\ f <= z /\ ∀ (N : List Int) T, (∀ a ∈ N, z < a) -> put ((A ++ x :: (F ++ H ++ z :: N)) :: T) y = (Y ++ N) :: put T f := by
      cases H with
      | nil => exact ⟨z, A ++ x :: (F ++ [y]), hc, Int.le_refl _, fun N T hN => pb (L := A ++ x :: F) (M := N) (b := z) (by simp) (le_app hAy (le_cons h hF)) h' (lt_le hN (by omega)) (by simp)⟩
      | cons g H =>
        have hg := hH g (List.mem_cons_self ..)
        have hH' : ∀ a ∈ H, y < a := fun a ha => hH a (List.mem_cons_of_mem _ ha)
        exact ⟨g, A ++ x :: (F ++ y :: (H ++ [z])), g1.1 g (by simp), hC' g (by simp), fun N T hN => pb (L := A ++ x :: F) (M := H ++ z :: N) (b := g) (by simp) (le_app hAy (le_cons h hF)) hg (lt_app hH' (lt_cons h' (lt_le hN (by omega)))) (by simp)⟩
    rw [pb (L := A) (M := F ++ H ++ D) (b := c) (R' := A ++ x :: (F ++ H ++ D)) (by simp) hA hcx (lt_app hCx hDx) rfl]
    cases D with
    | nil =>
      rw [pe (L := A ++ x :: (F ++ H)) (R' := A ++ x :: (F ++ H ++ z :: [])) (by simp) (le_app hAz (le_cons (by omega) hC')) (by simp), ey _ _ lt_nil,
        pe (L := A ++ c :: (F ++ H)) (R := A ++ (c :: (F ++ H) ++ [])) (R' := A ++ c :: (F ++ H ++ z :: [])) (by simp) (le_app hAz (le_cons hc hC')) (by simp), pb (L := A) (M := F ++ H ++ z :: []) (b := c) (R' := A ++ x :: (F ++ H ++ z :: [])) rfl hA hcx (lt_app hCx (lt_cons hxz lt_nil)) rfl, ey _ _ lt_nil]
    | cons d D =>
      have hd := hD d (List.mem_cons_self ..)
      have hD' : ∀ a ∈ D, z < a := fun a ha => hD a (List.mem_cons_of_mem _ ha)
      rw [pb (L := A ++ x :: (F ++ H)) (M := D) (b := d) (R' := A ++ x :: (F ++ H ++ z :: D)) (by simp) (le_app hAz (le_cons (by omega) hC')) hd hD' (by simp), ey _ _ hD',
        pb (L := A ++ c :: (F ++ H)) (R := A ++ (c :: (F ++ H) ++ d :: D)) (M := D) (b := d) (R' := A ++ c :: (F ++ H ++ z :: D)) (by simp) (le_app hAz (le_cons hc hC')) hd hD' (by simp), pb (L := A) (M := F ++ H ++ z :: D) (b := c) (R' := A ++ x :: (F ++ H ++ z :: D)) rfl hA hcx (lt_app hCx (lt_cons hxz (lt_le hD' (by omega)))) rfl, ey _ _ hD', one_of ih hcf (by omega)]
theorem keeps : ∀ {T : List (List Int)} {w w' : List Int}, Srt T -> Mv w w' -> w.foldl put T = w'.foldl put T
  | [], _, _, _, .one x y z h h' => by
    show put (put [[x]] z) y = put (put [[z]] x) y
    have hxz : x < z := by omega
    rw [pe (L := [x]) (R' := [x] ++ [z]) rfl (le_cons (by omega) le_nil) rfl, pb (L := [x]) (M := []) (b := z) (R' := [x] ++ [y]) rfl (le_cons h le_nil) h' lt_nil rfl,
      pb (L := []) (M := []) (b := z) (R := [z]) (R' := [x]) rfl le_nil hxz lt_nil rfl, pe (L := [x]) (R' := [x] ++ [y]) rfl (le_cons h le_nil) rfl]
  | [], _, _, _, .two x y z h h' => by
    show put (put [[y]] x) z = put (put [[y]] z) x
    rw [pb (L := []) (M := []) (b := y) (R := [y]) (R' := [x]) rfl le_nil h lt_nil rfl, pe (L := [x]) (R' := [x] ++ [z]) rfl (le_cons (by omega) le_nil) rfl,
      pe (L := [y]) (R' := [y] ++ [z]) rfl (le_cons h' le_nil) rfl, pb (L := []) (M := [z]) (b := y) (R := [y] ++ [z]) (R' := [x] ++ [z]) rfl le_nil h (lt_cons (by omega) lt_nil) rfl]
  | R :: T, _, _, hs, .one x y z h h' => row_one (hs R (List.mem_cons_self ..)) (fun w w' m => keeps (fun R' hR' => hs R' (List.mem_cons_of_mem _ hR')) m) h h'
  | R :: T, _, _, hs, .two x y z h h' => row_two (hs R (List.mem_cons_self ..)) (fun w w' m => keeps (fun R' hR' => hs R' (List.mem_cons_of_mem _ hR')) m) h h'
end Kn
set_option Elab.async false
set_option linter.all false
set_option maxRecDepth 100000
set_option maxHeartbeats 4000000
namespace Mo
open PySem L2 Am Tb
noncomputable def chg (r : List Int) (k : Nat) : List Int := Iv.sw r k (k + 1)
noncomputable def lo (r : List Int) (k : Nat) : Int := if r.getD (k + 1) 0 < r.getD k 0 then r.getD (k + 1) 0 else r.getD k 0
noncomputable def hi (r : List Int) (k : Nat) : Int := if r.getD (k + 1) 0 > r.getD k 0 then r.getD (k + 1) 0 else r.getD k 0
noncomputable def c1 (r : List Int) (k : Nat) : Bool := decide (k + 2 < r.length) && (decide (lo r k <= r.getD (k + 2) 0) && decide (r.getD (k + 2) 0 < hi r k))
noncomputable def c2 (r : List Int) (k : Nat) : Bool := decide (0 < k) && (decide (lo r k < r.getD (k - 1) 0) && decide (r.getD (k - 1) 0 <= hi r k))
noncomputable def may (r : List Int) (k : Nat) : Bool := c1 r k || c2 r k
noncomputable def mvs (r : List Int) : List (List Int) := ((List.range (r.length - 1)).filter (may r)).map (chg r)
noncomputable def lA (r : List Int) (k : Nat) : Bool := (decide (r.getD k 0 <= r.getD (k + 2) 0) && decide (r.getD (k + 2) 0 < r.getD (k + 1) 0)) || (decide (r.getD (k + 1) 0 <= r.getD (k + 2) 0) && decide (r.getD (k + 2) 0 < r.getD k 0))
noncomputable def lB (r : List Int) (k : Nat) : Bool := (decide (r.getD (k + 1) 0 < r.getD k 0) && decide (r.getD k 0 <= r.getD (k + 2) 0)) || (decide (r.getD (k + 2) 0 < r.getD k 0) && decide (r.getD k 0 <= r.getD (k + 1) 0))
noncomputable def lrow (r : List Int) (k : Nat) : List (List Int) := (if lA r k = true then [chg r k] else []) ++ (if lB r k = true then [chg r (k + 1)] else [])
noncomputable def lms (r : List Int) : List (List Int) := (List.range (r.length - 2)).flatMap (lrow r)
theorem chg_eq {r : List Int} {k : Nat} (h : k + 1 < r.length) : chg r k = r.take k ++ [r.getD (k + 1) 0, r.getD k 0] ++ r.drop (k + 2) := by
  unfold chg
  rw [Stp.swpl (by omega) h]
  unfold Stp.mm
  rw [show k + 1 - k - 1 = 0 by omega, List.take_zero]; rfl
theorem chg_len (r : List Int) (k : Nat) : (chg r k).length = r.length := Iv.sw_len ..
theorem chg_at {r : List Int} {k : Nat} (h : k + 1 < r.length) (p : Nat) : (chg r k).getD p 0 = if p = k + 1 then r.getD k 0 else if p = k then r.getD (k + 1) 0 else r.getD p 0 := Iv.sw_get (by omega) h p
theorem chg_chg {r : List Int} {k : Nat} (h : k + 1 < r.length) : chg (chg r k) k = r := Stp.sw_sw (by omega) h
theorem lohi {r : List Int} {k : Nat} (h : k + 1 < r.length) : lo (chg r k) k = lo r k /\ hi (chg r k) k = hi r k := by
  have e1 : (chg r k).getD (k + 1) 0 = r.getD k 0 := by rw [chg_at h, if_pos rfl]
  have e2 : (chg r k).getD k 0 = r.getD (k + 1) 0 := by rw [chg_at h, if_neg (by omega), if_pos rfl]
  unfold lo hi
  rw [e1, e2]
  constructor
  · by_cases a : r.getD (k + 1) 0 < r.getD k 0
    · rw [if_pos a, if_neg (by omega)]
    · rw [if_neg a]; split <;> omega
  · by_cases a : r.getD (k + 1) 0 > r.getD k 0
    · rw [if_pos a, if_neg (by omega)]
    · rw [if_neg a]; split <;> omega
theorem may_chg {r : List Int} {k : Nat} (h : k + 1 < r.length) : may (chg r k) k = may r k := by
  obtain ⟨e1, e2⟩ := lohi h
  unfold may c1 c2
  rw [e1, e2, chg_len, chg_at h (k + 2), if_neg (by omega), if_neg (by omega)]
  by_cases c : 0 < k
  · rw [chg_at h (k - 1), if_neg (by omega), if_neg (by omega)]
  · rw [decide_eq_false c]; simp
theorem c1_lA {r : List Int} {k : Nat} (h : k + 2 < r.length) : c1 r k = lA r k := by
  unfold c1 lA lo hi
  rw [decide_eq_true h, Bool.true_and, Bool.eq_iff_iff]
  simp only [Bool.and_eq_true, Bool.or_eq_true, decide_eq_true_iff]
  by_cases a : r.getD (k + 1) 0 < r.getD k 0
  · rw [if_pos a, if_neg (by omega)]; omega
  · rw [if_neg a]; split <;> omega
theorem c2_lB {r : List Int} {k : Nat} : c2 r (k + 1) = lB r k := by
  unfold c2 lB lo hi
  rw [decide_eq_true (by omega), Bool.true_and, Bool.eq_iff_iff, show k + 1 - 1 = k by omega, show k + 1 + 1 = k + 2 by omega]
  simp only [Bool.and_eq_true, Bool.or_eq_true, decide_eq_true_iff]
  by_cases a : r.getD (k + 2) 0 < r.getD (k + 1) 0
  · rw [if_pos a, if_neg (by omega)]; omega
  · rw [if_neg a]; split <;> omega
theorem mvs_mem {r x : List Int} : x ∈ mvs r ↔ ∃ k, k + 1 < r.length /\ may r k = true /\ x = chg r k := by
  unfold mvs
  rw [List.mem_map]
  constructor
  · rintro ⟨k, hk, rfl⟩
    obtain ⟨h1, h2⟩ := List.mem_filter.mp hk
    have := List.mem_range.mp h1
    exact ⟨k, by omega, h2, rfl⟩
  · rintro ⟨k, h1, h2, rfl⟩
    exact ⟨k, List.mem_filter.mpr ⟨List.mem_range.mpr (by omega), h2⟩, rfl⟩
theorem both {r x : List Int} : x ∈ mvs r ↔ x ∈ lms r := by
  rw [mvs_mem]
  unfold lms
  rw [List.mem_flatMap]
  constructor
  · rintro ⟨k, h1, h2, rfl⟩
    rcases Bool.or_eq_true _ _ ▸ (show (c1 r k || c2 r k) = true from h2) with z | z
    · have hk : k + 2 < r.length := by
        unfold c1 at z
        exact of_decide_eq_true (Bool.and_eq_true _ _ ▸ z).1
      refine ⟨k, List.mem_range.mpr (by omega), ?_⟩
      unfold lrow
      rw [<- c1_lA hk, z]
      exact List.mem_append_left _ (by simp)
    · have hk : 0 < k := by
        unfold c2 at z
        exact of_decide_eq_true (Bool.and_eq_true _ _ ▸ z).1
      obtain ⟨m, rfl⟩ : ∃ m, k = m + 1 := ⟨k - 1, by omega⟩
      refine ⟨m, List.mem_range.mpr (by omega), ?_⟩
      unfold lrow
      rw [<- c2_lB, z]
      exact List.mem_append_right _ (by simp)
  · rintro ⟨k, h1, h2⟩
    have hk := List.mem_range.mp h1
    unfold lrow at h2
    rcases List.mem_append.mp h2 with z | z
    · by_cases c : lA r k = true
      · rw [if_pos c] at z
        exact ⟨k, by omega, by unfold may; rw [c1_lA (by omega), c]; rfl, List.mem_singleton.mp z⟩
      · rw [if_neg c] at z; cases z
    · by_cases c : lB r k = true
      · rw [if_pos c] at z
        exact ⟨k + 1, by omega, by unfold may; rw [c2_lB, c, Bool.or_true], List.mem_singleton.mp z⟩
      · rw [if_neg c] at z; cases z
theorem may_ne {r : List Int} {k : Nat} (h : may r k = true) : r.getD k 0 ≠ r.getD (k + 1) 0 := fun z => by
  unfold may c1 c2 lo hi at h
  rw [<- z] at h
  simp only [Bool.or_eq_true, Bool.and_eq_true, decide_eq_true_iff, gt_iff_lt, Int.lt_irrefl, if_false] at h
  omega
theorem mvs_nd (r : List Int) : (mvs r).Nodup := by
  unfold mvs List.Nodup
  rw [List.pairwise_map]
  have := (List.nodup_range (n := r.length - 1)).sublist (List.filter_sublist (p := may r))
  refine List.Pairwise.imp_of_mem ?_ ((List.pairwise_lt_range (n := r.length - 1)).sublist (List.filter_sublist (p := may r)))
  intro a b ha hb hab z
  obtain ⟨a1, a2⟩ := List.mem_filter.mp ha
  obtain ⟨b1, b2⟩ := List.mem_filter.mp hb
  have a1 := List.mem_range.mp a1
  have b1 := List.mem_range.mp b1
  have e : (chg r a).getD a 0 = (chg r b).getD a 0 := by rw [z]
  rw [chg_at (by omega), if_neg (by omega), if_pos rfl, chg_at (by omega), if_neg (by omega), if_neg (by omega)] at e
  exact may_ne a2 e.symm
theorem back {r x : List Int} (h : x ∈ mvs r) : x.length = r.length /\ r ∈ mvs x := by
  obtain ⟨k, h1, h2, rfl⟩ := mvs_mem.mp h
  refine ⟨chg_len r k, mvs_mem.mpr ⟨k, by rw [chg_len]; exact h1, by rw [may_chg h1]; exact h2, (chg_chg h1).symm⟩⟩
theorem srt_put : ∀ {T : List (List Int)} {x : Int}, Kn.Srt T -> Kn.Srt (put T x)
  | [], x, _ => fun R hR => by
    have : R = [x] := List.mem_singleton.mp hR
    rw [this]; exact List.pairwise_singleton ..
  | R :: T, x, h => by
    have hR := h R (List.mem_cons_self ..)
    have hT : Kn.Srt T := fun Q hQ => h Q (List.mem_cons_of_mem _ hQ)
    obtain ⟨L, B, e, hL, hB⟩ := Kn.cut x hR
    cases B with
    | nil =>
      rw [List.append_nil] at e
      subst e
      rw [Kn.put_e hL]
      intro Q hQ
      rcases List.mem_cons.mp hQ with rfl | z
      · rw [List.pairwise_append]
        exact ⟨hR, List.pairwise_singleton .., fun a ha b hb => by rw [List.mem_singleton.mp hb]; exact hL a ha⟩
      · exact hT Q z
    | cons b B =>
      subst e
      rw [Kn.put_b hL (hB b (List.mem_cons_self ..)) fun c hc => hB c (List.mem_cons_of_mem _ hc)]
      intro Q hQ
      rcases List.mem_cons.mp hQ with rfl | z
      · have p := List.pairwise_append.mp hR
        rw [List.pairwise_append]
        refine ⟨p.1, List.pairwise_cons.mpr ⟨fun c hc => ?_, (List.pairwise_cons.mp p.2.1).2⟩, fun a ha c hc => ?_⟩
        · have := hB c (List.mem_cons_of_mem _ hc); omega
        · rcases List.mem_cons.mp hc with rfl | z
          · exact hL a ha
          · exact p.2.2 a ha c (List.mem_cons_of_mem _ z)
      · exact srt_put hT Q z
theorem srt_fold : ∀ {w : List Int} {T : List (List Int)}, Kn.Srt T -> Kn.Srt (w.foldl put T)
  | [], _, h => h
  | x :: w, _, h => srt_fold (w := w) (srt_put h)
theorem mv_fold {P Q R S : List Int} (h : Kn.Mv P Q \/ Kn.Mv Q P) : (R ++ P ++ S).foldl put [] = (R ++ Q ++ S).foldl put [] := by
  rw [List.foldl_append, List.foldl_append, List.foldl_append, List.foldl_append]
  have s : Kn.Srt (R.foldl put []) := srt_fold fun _ h => absurd h (by simp)
  rcases h with h | h
  · rw [Kn.keeps s h]
  · rw [Kn.keeps s h]
theorem split3 {r : List Int} {k : Nat} (h : k + 2 < r.length) : r = r.take k ++ [r.getD k 0, r.getD (k + 1) 0, r.getD (k + 2) 0] ++ r.drop (k + 3) := by
  have e : ∀ i, i < r.length -> r.drop i = r.getD i 0 :: r.drop (i + 1) := fun i hi => by
    rw [List.drop_eq_getElem_cons hi, List.getD_eq_getElem?_getD, List.getElem?_eq_getElem hi]; rfl
  conv => lhs; rw [<- List.take_append_drop k r, e k (by omega), e (k + 1) (by omega), e (k + 2) (by omega)]
  simp
theorem tab {r : List Int} {k : Nat} (h : k + 1 < r.length) (hm : may r k = true) : (chg r k).foldl put [] = r.foldl put [] := by
  have drp : ∀ {i : Nat}, i < r.length -> r.drop i = r.getD i 0 :: r.drop (i + 1) := fun {i} hi => by
    rw [List.drop_eq_getElem_cons hi, List.getD_eq_getElem?_getD, List.getElem?_eq_getElem hi]; rfl
  rcases Bool.or_eq_true _ _ ▸ (show (c1 r k || c2 r k) = true from hm) with z | z
  · have hk : k + 2 < r.length := by
      unfold c1 at z
      exact of_decide_eq_true (Bool.and_eq_true _ _ ▸ z).1
    rw [c1_lA hk] at z
    have e1 := split3 hk
    have e2 : chg r k = r.take k ++ [r.getD (k + 1) 0, r.getD k 0, r.getD (k + 2) 0] ++ r.drop (k + 3) := by
      rw [chg_eq h, drp hk]; simp
    rw [e2]
    conv => rhs; rw [e1]
    refine mv_fold ?_
    unfold lA at z
    simp only [Bool.or_eq_true, Bool.and_eq_true, decide_eq_true_iff] at z
    rcases z with ⟨z1, z2⟩ | ⟨z1, z2⟩
    · exact .inr (.one _ _ _ z1 z2)
    · exact .inl (.one _ _ _ z1 z2)
  · have hk : 0 < k := by
      unfold c2 at z
      exact of_decide_eq_true (Bool.and_eq_true _ _ ▸ z).1
    obtain ⟨m, rfl⟩ : ∃ m, k = m + 1 := ⟨k - 1, by omega⟩
    rw [c2_lB] at z
    have e1 := split3 (r := r) (k := m) (by omega)
    have e2 : chg r (m + 1) = r.take m ++ [r.getD m 0, r.getD (m + 2) 0, r.getD (m + 1) 0] ++ r.drop (m + 3) := by
      rw [chg_eq h]
      have : r.take (m + 1) = r.take m ++ [r.getD m 0] := by
        rw [List.take_succ_eq_append_getElem (show m < r.length by omega), List.getD_eq_getElem?_getD, List.getElem?_eq_getElem (show m < r.length by omega)]; rfl
      rw [this]; simp
    rw [e2]
    conv => rhs; rw [e1]
    refine mv_fold ?_
    unfold lB at z
    simp only [Bool.or_eq_true, Bool.and_eq_true, decide_eq_true_iff] at z
    rcases z with ⟨z1, z2⟩ | ⟨z1, z2⟩
    · exact .inr (.two _ _ _ z1 z2)
    · exact .inl (.two _ _ _ z1 z2)
theorem tabs_fold (xs : List Int) : ∀ i, i <= xs.length -> (tabs xs i).1 = (xs.take i).foldl put []
  | 0, _ => rfl
  | i + 1, h => by
    have ih := tabs_fold xs i (by omega)
    rw [List.take_succ_eq_append_getElem (show i < xs.length by omega), List.foldl_append, <- ih]
    show put (tabs xs i).1 (xs.getD i 0) = put (tabs xs i).1 xs[i]
    rw [List.getD_eq_getElem?_getD, List.getElem?_eq_getElem (show i < xs.length by omega)]; rfl
theorem tabs_same {r x : List Int} (h : x ∈ mvs r) : (tabs x x.length).1 = (tabs r r.length).1 := by
  obtain ⟨k, h1, h2, rfl⟩ := mvs_mem.mp h
  rw [tabs_fold _ _ (Nat.le_refl _), tabs_fold _ _ (Nat.le_refl _), List.take_length, List.take_length, tab h1 h2]
noncomputable def dd : List (List Int) -> List (List Int) -> List (List Int)
  | acc, [] => acc
  | acc, x :: xs => dd (if x ∈ acc then acc else acc ++ [x]) xs
theorem dd_snoc : ∀ (xs : List (List Int)) (acc : List (List Int)) (x : List Int), dd acc (xs ++ [x]) = if x ∈ dd acc xs then dd acc xs else dd acc xs ++ [x]
  | [], acc, x => rfl
  | y :: xs, acc, x => dd_snoc xs _ x
theorem dd_ok : ∀ {xs acc : List (List Int)}, xs.Pairwise LeT -> acc.Pairwise (fun a b => HT.lexLt a b = true) -> (∀ a ∈ acc, ∀ x ∈ xs, LeT a x) -> (dd acc xs).Pairwise (fun a b => HT.lexLt a b = true) /\ ∀ z, z ∈ dd acc xs ↔ z ∈ acc \/ z ∈ xs
  | [], acc, _, h, _ => ⟨h, fun z => by show z ∈ acc ↔ _; simp⟩
  | x :: xs, acc, hx, h, hle => by
    obtain ⟨x1, x2⟩ := List.pairwise_cons.mp hx
    show (dd (if x ∈ acc then acc else acc ++ [x]) xs).Pairwise _ /\ ∀ z, z ∈ dd (if x ∈ acc then acc else acc ++ [x]) xs ↔ _
    by_cases c : x ∈ acc
    · rw [if_pos c]
      obtain ⟨i1, i2⟩ := dd_ok x2 h fun a ha y hy => hle a ha y (List.mem_cons_of_mem _ hy)
      refine ⟨i1, fun z => ?_⟩
      rw [i2 z, List.mem_cons]
      constructor
      · rintro (z' | z')
        · exact .inl z'
        · exact .inr (.inr z')
      · rintro (z' | z' | z')
        · exact .inl z'
        · exact .inl (z' ▸ c)
        · exact .inr z'
    · rw [if_neg c]
      obtain ⟨i1, i2⟩ := dd_ok (acc := acc ++ [x]) x2 (List.pairwise_append.mpr ⟨h, List.pairwise_singleton .., fun a ha b hb => by
        rw [List.mem_singleton.mp hb]
        cases e : HT.lexLt a x with
        | true => rfl
        | false => exact absurd (Sx.lex_tot e (hle a ha x (List.mem_cons_self ..)) ▸ ha) c⟩) fun a ha y hy => by
          rcases List.mem_append.mp ha with z | z
          · exact hle a z y (List.mem_cons_of_mem _ hy)
          · rw [List.mem_singleton.mp z]; exact x1 y hy
      refine ⟨i1, fun z => ?_⟩
      rw [i2 z, List.mem_append, List.mem_singleton, List.mem_cons, or_assoc]
theorem due (r : List Int) : dd [] (sortT (lms r)) = sortT (mvs r) := by
  obtain ⟨p1, p2⟩ := dd_ok (acc := []) (sortT_pw (lms r)) List.Pairwise.nil fun a ha => absurd ha (by simp)
  have nd : (dd [] (sortT (lms r))).Nodup := p1.imp fun h z => by rw [z, Sx.lex_irr] at h; cases h
  refine sortT_uniq ((List.perm_ext_iff_of_nodup nd (mvs_nd r)).mpr fun z => ?_) (p1.imp fun {a b} h => ?_)
  · rw [p2 z, (sortT_perm _).mem_iff, both]; simp
  · show HT.lexLt b a = false
    cases e : HT.lexLt b a with
    | false => rfl
    | true => have := Sx.lex_tr h e; rw [Sx.lex_irr] at this; cases this
end Mo
set_option Elab.async false
set_option linter.all false
set_option maxRecDepth 100000
set_option maxHeartbeats 4000000
namespace K61
open PySem L2 Am
noncomputable def top (i : Nat) : Stmt := PySem.Challenge.pw_undercells_k61_rows_moved.main.body.getD i (.Pass ⟨0, 0, 0, 0⟩)
noncomputable abbrev s_first_greater : Stmt := top 1
noncomputable def N_first_greater : List Str := ["row", "letter", "place"]
noncomputable def t_first_greater_1 : Te :=
 bAnd (toB (eBin aLt (eVar 2) (eCall (f1 aLen) (lCons (eVar 0) (lNil))))) (toB (eBin aLe (eBin aIx (eVar 0) (eVar 2)) (eVar 1)))
noncomputable def b_first_greater_1 : Sm :=
 sAug 2 iAdd (eC (.int 1))
noncomputable def m_first_greater : Sm :=
 sSeq (sAsg (eC (.int 0)) (gNm 2))
 (sSeq (sWhile (t_first_greater_1)
 (b_first_greater_1) 1000000)
 (sRet (eVar 2)))
noncomputable def F_first_greater : List A -> Sto -> R A := runF N_first_greater m_first_greater
noncomputable abbrev s_put_into_rows : Stmt := top 2
noncomputable def N_put_into_rows : List Str := ["rows", "letter", "at", "place"]
noncomputable def t_put_into_rows_1 : Te :=
 toB (eBin aLt (eVar 2) (eCall (f1 aLen) (lCons (eVar 0) (lNil))))
noncomputable def b_put_into_rows_1 : Sm :=
 sSeq (sAsg (eFn F_first_greater (lCons (eBin aIx (eVar 0) (eVar 2)) (lCons (eVar 1) (lNil)))) (gNm 3))
 (sSeq (sIf (toB (eBin (aEq false) (eVar 3) (eCall (f1 aLen) (lCons (eBin aIx (eVar 0) (eVar 2)) (lNil)))))
 (sSeq (sExpr (eMe mAppend (eBin aIx (eVar 0) (eVar 2)) (lCons (eVar 1) (lNil))))
 (sRet (eVar 2)))
 (sNil))
 (sSeq (sAsg (eTup (lCons (eVar 1) (lCons (eBin aIx (eBin aIx (eVar 0) (eVar 2)) (eVar 3)) (lNil)))) (gTp 2 (gCn (gSb (eBin aIx (eVar 0) (eVar 2)) (eVar 3)) (gCn (gNm 1) (gNl)))))
 (sAug 2 iAdd (eC (.int 1)))))
noncomputable def m_put_into_rows : Sm :=
 sSeq (sAsg (eC (.int 0)) (gNm 2))
 (sSeq (sWhile (t_put_into_rows_1)
 (b_put_into_rows_1) 1000000)
 (sSeq (sExpr (eMe mAppend (eVar 0) (lCons (eLst (lCons (eVar 1) (lNil))) (lNil))))
 (sRet (eVar 2))))
noncomputable def F_put_into_rows : List A -> Sto -> R A := runF N_put_into_rows m_put_into_rows
noncomputable abbrev s_tables : Stmt := top 3
noncomputable def N_tables : List Str := ["row", "first", "second", "at", "letter", "new"]
noncomputable def i_tables_1 : Ic :=
 iEnL (eVar 0)
noncomputable def b_tables_1 : Sm :=
 sSeq (sAsg (eFn F_put_into_rows (lCons (eVar 1) (lCons (eVar 4) (lNil)))) (gNm 5))
 (sSeq (sIf (toB (eBin (aEq false) (eVar 5) (eCall (f1 aLen) (lCons (eVar 2) (lNil)))))
 (sExpr (eMe mAppend (eVar 2) (lCons (eLst (lNil)) (lNil))))
 (sNil))
 (sExpr (eMe mAppend (eBin aIx (eVar 2) (eVar 5)) (lCons (eBin aAdd (eVar 3) (eC (.int 1))) (lNil)))))
noncomputable def m_tables : Sm :=
 sSeq (sAsg (eLst (lNil)) (gNm 1))
 (sSeq (sAsg (eLst (lNil)) (gNm 2))
 (sSeq (sFor (i_tables_1) (gTp 2 (gCn (gNm 3) (gCn (gNm 4) (gNl))))
 (b_tables_1))
 (sRet (eTup (lCons (eVar 1) (lCons (eVar 2) (lNil)))))))
noncomputable def F_tables : List A -> Sto -> R A := runF N_tables m_tables
noncomputable abbrev s_may_change : Stmt := top 5
noncomputable def N_may_change : List Str := ["row", "at", "low", "high"]
noncomputable def m_may_change : Sm :=
 sSeq (sAsg (eCall (f2 aMin2) (lCons (eBin aIx (eVar 0) (eVar 1)) (lCons (eBin aIx (eVar 0) (eBin aAdd (eVar 1) (eC (.int 1)))) (lNil)))) (gNm 2))
 (sSeq (sAsg (eCall (f2 aMax2) (lCons (eBin aIx (eVar 0) (eVar 1)) (lCons (eBin aIx (eVar 0) (eBin aAdd (eVar 1) (eC (.int 1)))) (lNil)))) (gNm 3))
 (sSeq (sIf (bAnd (toB (eBin aLt (eBin aAdd (eVar 1) (eC (.int 2))) (eCall (f1 aLen) (lCons (eVar 0) (lNil))))) (toB (eCh aLe aLt (eVar 2) (eBin aIx (eVar 0) (eBin aAdd (eVar 1) (eC (.int 2)))) (eVar 3))))
 (sRet (eC (.bl true)))
 (sNil))
 (sRet (eAnd (eBin aGt (eVar 1) (eC (.int 0))) (eCh aLt aLe (eVar 2) (eBin aIx (eVar 0) (eBin aSub (eVar 1) (eC (.int 1)))) (eVar 3))))))
noncomputable def F_may_change : List A -> Sto -> R A := runF N_may_change m_may_change
noncomputable abbrev s_changed : Stmt := top 6
noncomputable def N_changed : List Str := ["row", "at"]
noncomputable def m_changed : Sm :=
 sRet (eBin aAdd (eBin aAdd (eSl (eVar 0) pNone (pSome (eVar 1))) (eLst (lCons (eBin aIx (eVar 0) (eBin aAdd (eVar 1) (eC (.int 1)))) (lCons (eBin aIx (eVar 0) (eVar 1)) (lNil))))) (eSl (eVar 0) (pSome (eBin aAdd (eVar 1) (eC (.int 2)))) pNone))
noncomputable def F_changed : List A -> Sto -> R A := runF N_changed m_changed
noncomputable abbrev s_moved : Stmt := top 7
noncomputable def N_moved : List Str := ["row"]
noncomputable def m_moved : Sm :=
 sRet (eCall (f1 aSortX) (lCons (eComp [none, some 0] (iRng1 (eBin aSub (eCall (f1 aLen) (lCons (eVar 0) (lNil))) (eC (.int 1)))) (gNm 0) (eTru (eFn F_may_change (lCons (eVar 1) (lCons (eVar 0) (lNil))))) (eFn F_changed (lCons (eVar 1) (lCons (eVar 0) (lNil))))) (lNil)))
noncomputable def F_moved : List A -> Sto -> R A := runF N_moved m_moved
noncomputable abbrev s_law_bag : Stmt := top 9
noncomputable def N_law_bag : List Str := ["_law_script", "_law_at", "_law_cell", "_law_great"]
noncomputable def m_law_bag : Sm :=
 sSeq (sAsg (eC (.int 0)) (gNm 2))
 (sSeq (sIf (toB (eBin aLt (eVar 1) (eCall (f1 aLen) (lCons (eVar 0) (lNil)))))
 (sAsg (eBin aIx (eVar 0) (eVar 1)) (gNm 2))
 (sNil))
 (sSeq (sAsg (eC (.int 0)) (gNm 3))
 (sSeq (sIf (toB (eBin aGe (eVar 2) (eBin aPow (eC (.int 10)) (eC (.int 18)))))
 (sAsg (eVar 2) (gNm 3))
 (sNil))
 (sRet (eLst (lCons (eVar 3) (lCons (eBin aMod (eBin aAdd (eBin aAdd (eVar 2) (eBin aMul (eC (.int 7919)) (eVar 1))) (eC (.int 13))) (eC (.int 2147483647))) (lNil))))))))
noncomputable def F_law_bag : List A -> Sto -> R A := runF N_law_bag m_law_bag
noncomputable abbrev s_law_digit : Stmt := top 10
noncomputable def N_law_digit : List Str := ["_law_bag_here", "_law_many", "_law_found"]
noncomputable def m_law_digit : Sm :=
 sSeq (sIf (toB (eBin aGt (eBin aIx (eVar 0) (eC (.int 0))) (eC (.int 0))))
 (sSeq (sAsg (eBin aMod (eBin aIx (eVar 0) (eC (.int 0))) (eVar 1)) (gNm 2))
 (sSeq (sAsg (eBin aFdiv (eBin aIx (eVar 0) (eC (.int 0))) (eVar 1)) (gSb (eVar 0) (eC (.int 0))))
 (sRet (eVar 2))))
 (sNil))
 (sSeq (sAsg (eBin aMod (eBin aAdd (eBin aMul (eBin aIx (eVar 0) (eC (.int 1))) (eC (.int 48271))) (eC (.int 11))) (eC (.int 2147483647))) (gSb (eVar 0) (eC (.int 1))))
 (sRet (eBin aMod (eBin aMod (eBin aMul (eBin aFdiv (eBin aIx (eVar 0) (eC (.int 1))) (eC (.int 8))) (eC (.int 69621))) (eC (.int 2147483629))) (eVar 1))))
noncomputable def F_law_digit : List A -> Sto -> R A := runF N_law_digit m_law_digit
noncomputable abbrev s_law_letters : Stmt := top 11
noncomputable def N_law_letters : List Str := ["_law_bag_here", "_law_most", "_law_many", "_law_way", "_law_base", "_law_made", "_law_k", "_law_letter"]
noncomputable def i_law_letters_1 : Ic :=
 iRng1 (eVar 2)
noncomputable def b_law_letters_1 : Sm :=
 sSeq (sAsg (eBin aAdd (eC (.int 1)) (eFn F_law_digit (lCons (eVar 0) (lCons (eVar 4) (lNil))))) (gNm 7))
 (sSeq (sIf (bAnd (toB (eBin (aEq false) (eVar 3) (eC (.int 3)))) (toB (eBin (aIn false) (eVar 7) (eVar 5))))
 (sAsg (eBin aAdd (eC (.int 41)) (eVar 6)) (gNm 7))
 (sNil))
 (sExpr (eMe mAppend (eVar 5) (lCons (eVar 7) (lNil)))))
noncomputable def m_law_letters : Sm :=
 sSeq (sAsg (eFn F_law_digit (lCons (eVar 0) (lCons (eBin aAdd (eVar 1) (eC (.int 1))) (lNil)))) (gNm 2))
 (sSeq (sAsg (eFn F_law_digit (lCons (eVar 0) (lCons (eC (.int 4)) (lNil)))) (gNm 3))
 (sSeq (sAsg (eBin aIx (eLst (lCons (eC (.int 3)) (lCons (eC (.int 6)) (lCons (eBin aPow (eC (.int 10)) (eC (.int 9))) (lCons (eC (.int 40)) (lNil)))))) (eVar 3)) (gNm 4))
 (sSeq (sAsg (eLst (lNil)) (gNm 5))
 (sSeq (sFor (i_law_letters_1) (gNm 6)
 (b_law_letters_1))
 (sRet (eVar 5))))))
noncomputable def F_law_letters : List A -> Sto -> R A := runF N_law_letters m_law_letters
noncomputable abbrev s_law_is_rows : Stmt := top 12
noncomputable def N_law_is_rows : List Str := ["_law_found", "_law_due_here", "_law_row"]
noncomputable def i_law_is_rows_1 : Ic :=
 iVal (eVar 0)
noncomputable def b_law_is_rows_1 : Sm :=
 sSeq (sIf (bNot (eTru (eCall (f2 aIsi) (lCons (eVar 2) (lCons (eC (.ty "list")) (lNil))))))
 (sRet (eC (.bl false)))
 (sNil))
 (sIf (bNot (eTru (eCall (f1 aAll) (lCons (eComp [none] (iVal (eVar 2)) (gNm 0) (bYes) (eAnd (eCall (f2 aIsi) (lCons (eVar 0) (lCons (eC (.ty "int")) (lNil)))) (eNot (eCall (f2 aIsi) (lCons (eVar 0) (lCons (eC (.ty "bool")) (lNil))))))) (lNil)))))
 (sRet (eC (.bl false)))
 (sNil))
noncomputable def m_law_is_rows : Sm :=
 sSeq (sIf (bOr (bNot (eTru (eCall (f2 aIsi) (lCons (eVar 0) (lCons (eC (.ty "list")) (lNil)))))) (toB (eBin (aEq true) (eVar 0) (eVar 1))))
 (sRet (eC (.bl false)))
 (sNil))
 (sSeq (sFor (i_law_is_rows_1) (gNm 2)
 (b_law_is_rows_1))
 (sRet (eC (.bl true))))
noncomputable def F_law_is_rows : List A -> Sto -> R A := runF N_law_is_rows m_law_is_rows
noncomputable abbrev s_law_moved : Stmt := top 13
noncomputable def N_law_moved : List Str := ["_law_letters_here", "_law_found", "_law_k", "_law_a", "_law_b", "_law_c"]
noncomputable def i_law_moved_1 : Ic :=
 iRng1 (eBin aSub (eCall (f1 aLen) (lCons (eVar 0) (lNil))) (eC (.int 2)))
noncomputable def b_law_moved_1 : Sm :=
 sSeq (sPar3 3 4 5 (lCons (eBin aIx (eVar 0) (eVar 2)) (lCons (eBin aIx (eVar 0) (eBin aAdd (eVar 2) (eC (.int 1)))) (lCons (eBin aIx (eVar 0) (eBin aAdd (eVar 2) (eC (.int 2)))) (lNil)))))
 (sSeq (sIf (bOr (toB (eCh aLe aLt (eVar 3) (eVar 5) (eVar 4))) (toB (eCh aLe aLt (eVar 4) (eVar 5) (eVar 3))))
 (sExpr (eMe mAppend (eVar 1) (lCons (eBin aAdd (eBin aAdd (eSl (eVar 0) pNone (pSome (eVar 2))) (eLst (lCons (eVar 4) (lCons (eVar 3) (lCons (eVar 5) (lNil)))))) (eSl (eVar 0) (pSome (eBin aAdd (eVar 2) (eC (.int 3)))) pNone)) (lNil))))
 (sNil))
 (sIf (bOr (toB (eCh aLt aLe (eVar 4) (eVar 3) (eVar 5))) (toB (eCh aLt aLe (eVar 5) (eVar 3) (eVar 4))))
 (sExpr (eMe mAppend (eVar 1) (lCons (eBin aAdd (eBin aAdd (eSl (eVar 0) pNone (pSome (eVar 2))) (eLst (lCons (eVar 3) (lCons (eVar 5) (lCons (eVar 4) (lNil)))))) (eSl (eVar 0) (pSome (eBin aAdd (eVar 2) (eC (.int 3)))) pNone)) (lNil))))
 (sNil)))
noncomputable def m_law_moved : Sm :=
 sSeq (sAsg (eLst (lNil)) (gNm 1))
 (sSeq (sFor (i_law_moved_1) (gNm 2)
 (b_law_moved_1))
 (sRet (eVar 1)))
noncomputable def F_law_moved : List A -> Sto -> R A := runF N_law_moved m_law_moved
noncomputable abbrev s_law_due : Stmt := top 14
noncomputable def N_law_due : List Str := ["_law_letters_here", "_law_due_here", "_law_one"]
noncomputable def i_law_due_1 : Ic :=
 iVal (eCall (f1 aSortX) (lCons (eFn F_law_moved (lCons (eVar 0) (lNil))) (lNil)))
noncomputable def b_law_due_1 : Sm :=
 sIf (toB (eBin (aIn true) (eVar 2) (eVar 1)))
 (sExpr (eMe mAppend (eVar 1) (lCons (eVar 2) (lNil))))
 (sNil)
noncomputable def m_law_due : Sm :=
 sSeq (sAsg (eLst (lNil)) (gNm 1))
 (sSeq (sFor (i_law_due_1) (gNm 2)
 (b_law_due_1))
 (sRet (eVar 1)))
noncomputable def F_law_due : List A -> Sto -> R A := runF N_law_due m_law_due
noncomputable abbrev s_law : Stmt := top 15
noncomputable def N_law : List Str := ["_law_script", "_law_k", "_law_bag_here", "_law_letters_here", "_law_due_here", "_law_handed", "_law_turn", "_law_found", "_law_one"]
noncomputable def i_law_3 : Ic :=
 iVal (eVar 7)
noncomputable def b_law_3 : Sm :=
 sExpr (eMe mAppend (eVar 8) (lCons (eC (.int 1)) (lNil)))
noncomputable def i_law_2 : Ic :=
 iRng1 (eC (.int 2))
noncomputable def b_law_2 : Sm :=
 sSeq (sAsg (eFn F_moved (lCons (eVar 5) (lNil))) (gNm 7))
 (sSeq (sIf (bOr (bNot (eTru (eFn F_law_is_rows (lCons (eVar 7) (lCons (eVar 4) (lNil)))))) (toB (eBin (aEq true) (eVar 5) (eVar 3))))
 (sRet (eC (.bl false)))
 (sNil))
 (sSeq (sFor (i_law_3) (gNm 8)
 (b_law_3))
 (sExpr (eMe mAppend (eVar 7) (lCons (eLst (lNil)) (lNil))))))
noncomputable def i_law_4 : Ic :=
 iVal (eSl (eVar 4) pNone (pSome (eBin aIx (eLst (lCons (eC (.int 6)) (lCons (eC (.int 2)) (lNil)))) (eCall (f1 aInt1) (lCons (eBin aGt (eCall (f1 aLen) (lCons (eVar 3) (lNil))) (eC (.int 12))) (lNil))))))
noncomputable def b_law_4 : Sm :=
 sIf (bOr (toB (eBin (aIn true) (eVar 3) (eFn F_moved (lCons (eCall (f1 aList) (lCons (eVar 8) (lNil))) (lNil))))) (toB (eBin (aEq true) (eBin aIx (eFn F_tables (lCons (eCall (f1 aList) (lCons (eVar 8) (lNil))) (lNil))) (eC (.int 0))) (eBin aIx (eFn F_tables (lCons (eCall (f1 aList) (lCons (eVar 3) (lNil))) (lNil))) (eC (.int 0))))))
 (sRet (eC (.bl false)))
 (sNil)
noncomputable def i_law_1 : Ic :=
 iRng1 (eCall (f2 aMax2) (lCons (eC (.int 2)) (lCons (eCall (f2 aMin2) (lCons (eCall (f1 aLen) (lCons (eVar 0) (lNil))) (lCons (eC (.int 6)) (lNil)))) (lNil))))
noncomputable def b_law_1 : Sm :=
 sSeq (sAsg (eFn F_law_bag (lCons (eVar 0) (lCons (eVar 1) (lNil)))) (gNm 2))
 (sSeq (sAsg (eFn F_law_letters (lCons (eVar 2) (lCons (eBin aIx (eLst (lCons (eC (.int 12)) (lCons (eC (.int 40)) (lNil)))) (eCall (f1 aInt1) (lCons (eAnd (eBin (aEq false) (eVar 1) (eC (.int 0))) (eBin (aEq false) (eFn F_law_digit (lCons (eVar 2) (lCons (eC (.int 4)) (lNil)))) (eC (.int 2)))) (lNil)))) (lNil)))) (gNm 3))
 (sSeq (sAsg (eFn F_law_due (lCons (eVar 3) (lNil))) (gNm 4))
 (sSeq (sAsg (eCall (f1 aList) (lCons (eVar 3) (lNil))) (gNm 5))
 (sSeq (sFor (i_law_2) (gNm 6)
 (b_law_2))
 (sFor (i_law_4) (gNm 8)
 (b_law_4))))))
noncomputable def m_law : Sm :=
 sSeq (sFor (i_law_1) (gNm 1)
 (b_law_1))
 (sRet (eAnd (eBin (aEq false) (eFn F_moved (lCons (eLst (lNil)) (lNil))) (eLst (lNil))) (eBin (aEq false) (eFn F_moved (lCons (eLst (lCons (eC (.int 2)) (lCons (eC (.int 1)) (lNil)))) (lNil))) (eLst (lNil)))))
noncomputable def F_law : List A -> Sto -> R A := runF N_law m_law
section
variable {P : Program} {w : World} {K : PySem.W.Frag} {mg : Str -> Option Value} {base : Heap}
theorem sc_first_greater : FnScope ["row", "letter", "place"] ["row", "letter"] (defScope s_first_greater) := ⟨rfl, rfl, rfl, by decide +kernel, rfl, by decide +kernel, by decide +kernel⟩
theorem ok_first_greater {f : Addr} {fd : FuncData} (F : Fun K "first_greater" "first_greater" s_first_greater f fd) (b_len : mg "len" = none) : FnOk P w K mg base CX0 1 f fd ["row", "letter"] (spA K 2 F_first_greater) := fnA (m := m_first_greater) F sc_first_greater fun cdv B outer s H E hr =>
 ass_cons (as_set (i := 2) sc_first_greater.nd (ae_int))
 (ass_cons (as_while 1000000 PassesOwn.never (AW.at (aw_and (at_cmp (o_lt hr.units) (ae_var 2) (ae_callB c_len b_len bt_len (al_cons (ae_var 0) (al_nil)))) (aw_and1 (at_cmp o_le (ae_ix (ae_var 0) (ae_var 2)) (ae_var 1)))))
 (ass_one (as_aug (i := 2) sc_first_greater.nd (ae_int) ip_addA)))
 (ass_one (as_ret (ae_var 2))))
theorem sc_put_into_rows : FnScope ["rows", "letter", "at", "place"] ["rows", "letter"] (defScope s_put_into_rows) := ⟨rfl, rfl, rfl, by decide +kernel, rfl, by decide +kernel, by decide +kernel⟩
theorem ok_put_into_rows {f : Addr} {fd : FuncData} (F : Fun K "put_into_rows" "put_into_rows" s_put_into_rows f fd) (b_len : mg "len" = none) (G_first_greater : KnA P w K mg base 1 "first_greater" ["row", "letter"] F_first_greater) : FnOk P w K mg base CX0 2 f fd ["rows", "letter"] (spA K 2 F_put_into_rows) := fnA (m := m_put_into_rows) F sc_put_into_rows fun cdv B outer s H E hr =>
 ass_cons (as_set (i := 2) sc_put_into_rows.nd (ae_int))
 (ass_cons (as_while 1000000 PassesOwn.never (at_cmp (o_lt hr.units) (ae_var 2) (ae_callB c_len b_len bt_len (al_cons (ae_var 0) (al_nil))))
 (ass_cons (as_set (i := 3) sc_put_into_rows.nd (ae_fn G_first_greater (hr.mono (by decide)) (al_cons (ae_ix (ae_var 0) (ae_var 2)) (al_cons (ae_var 1) (al_nil))) (len_cons (len_cons len_nil))))
 (ass_cons (as_if (at_cmp (o_eq hr.units) (ae_var 3) (ae_callB c_len b_len bt_len (al_cons (ae_ix (ae_var 0) (ae_var 2)) (al_nil))))
 (ass_cons (as_expr (ae_me PySem.F.slot_list_append PySem.F.type_list_append m_append (ae_ix (ae_var 0) (ae_var 2)) (al_cons (ae_var 1) (al_nil))))
 (ass_one (as_ret (ae_var 2))))
 (ass_nil))
 (ass_cons (as_asg (ae_tup (al_cons (ae_var 1) (al_cons (ae_ix (ae_ix (ae_var 0) (ae_var 2)) (ae_var 3)) (al_nil)))) (ag_tup rfl (ags_cons (ag_sub (ae_ix (ae_var 0) (ae_var 2)) (ae_var 3)) (ags_cons (ag_name (i := 1) sc_put_into_rows.nd) (ags_nil)))))
 (ass_one (as_aug (i := 2) sc_put_into_rows.nd (ae_int) ip_addA))))))
 (ass_cons (as_expr (ae_me PySem.F.slot_list_append PySem.F.type_list_append m_append (ae_var 0) (al_cons (ae_lst (al_cons (ae_var 1) (al_nil))) (al_nil))))
 (ass_one (as_ret (ae_var 2)))))
theorem sc_tables : FnScope ["row", "first", "second", "at", "letter", "new"] ["row"] (defScope s_tables) := ⟨rfl, rfl, rfl, by decide +kernel, rfl, by decide +kernel, by decide +kernel⟩
theorem ok_tables {f : Addr} {fd : FuncData} (F : Fun K "tables" "tables" s_tables f fd) (b_enumerate : mg "enumerate" = none) (b_len : mg "len" = none) (G_put_into_rows : KnA P w K mg base 2 "put_into_rows" ["rows", "letter"] F_put_into_rows) : FnOk P w K mg base CX0 3 f fd ["row"] (spA K 1 F_tables) := fnA (m := m_tables) F sc_tables fun cdv B outer s H E hr =>
 ass_cons (as_set (i := 1) sc_tables.nd (ae_lst (al_nil)))
 (ass_cons (as_set (i := 2) sc_tables.nd (ae_lst (al_nil)))
 (ass_cons (as_for PassesOwn.never rfl (ai_enL b_enumerate (ae_var 0)) (ag_tup rfl (ags_cons (ag_name (i := 3) sc_tables.nd) (ags_cons (ag_name (i := 4) sc_tables.nd) (ags_nil))))
 (ass_cons (as_set (i := 5) sc_tables.nd (ae_fn G_put_into_rows (hr.mono (by decide)) (al_cons (ae_var 1) (al_cons (ae_var 4) (al_nil))) (len_cons (len_cons len_nil))))
 (ass_cons (as_if (at_cmp (o_eq hr.units) (ae_var 5) (ae_callB c_len b_len bt_len (al_cons (ae_var 2) (al_nil))))
 (ass_one (as_expr (ae_me PySem.F.slot_list_append PySem.F.type_list_append m_append (ae_var 2) (al_cons (ae_lst (al_nil)) (al_nil)))))
 (ass_nil))
 (ass_one (as_expr (ae_me PySem.F.slot_list_append PySem.F.type_list_append m_append (ae_ix (ae_var 2) (ae_var 5)) (al_cons (ae_bin o_add (ae_var 3) (ae_int)) (al_nil))))))))
 (ass_one (as_ret (ae_tup (al_cons (ae_var 1) (al_cons (ae_var 2) (al_nil))))))))
theorem sc_may_change : FnScope ["row", "at", "low", "high"] ["row", "at"] (defScope s_may_change) := ⟨rfl, rfl, rfl, by decide +kernel, rfl, by decide +kernel, by decide +kernel⟩
theorem ok_may_change {f : Addr} {fd : FuncData} (F : Fun K "may_change" "may_change" s_may_change f fd) (b_min : mg "min" = none) (b_max : mg "max" = none) (b_len : mg "len" = none) : FnOk P w K mg base CX0 1 f fd ["row", "at"] (spA K 2 F_may_change) := fnA (m := m_may_change) F sc_may_change fun cdv B outer s H E hr =>
 ass_cons (as_set (i := 2) sc_may_change.nd (ae_callB (c_min2 rfl) b_min bt_min (al_cons (ae_ix (ae_var 0) (ae_var 1)) (al_cons (ae_ix (ae_var 0) (ae_bin o_add (ae_var 1) (ae_int))) (al_nil)))))
 (ass_cons (as_set (i := 3) sc_may_change.nd (ae_callB (c_max2 rfl) b_max bt_max (al_cons (ae_ix (ae_var 0) (ae_var 1)) (al_cons (ae_ix (ae_var 0) (ae_bin o_add (ae_var 1) (ae_int))) (al_nil)))))
 (ass_cons (as_if (AW.at (aw_and (at_cmp (o_lt hr.units) (ae_bin o_add (ae_var 1) (ae_int)) (ae_callB c_len b_len bt_len (al_cons (ae_var 0) (al_nil)))) (aw_and1 (at_ch o_le (o_lt hr.units) (ae_var 2) (ae_ix (ae_var 0) (ae_bin o_add (ae_var 1) (ae_int))) (ae_var 3)))))
 (ass_one (as_ret (ae_bl)))
 (ass_nil))
 (ass_one (as_ret (ae_and (ae_cmp (o_gt hr.units) (ae_var 1) (ae_int)) (ae_one (ae_ch (o_lt hr.units) o_le (ae_var 2) (ae_ix (ae_var 0) (ae_bin o_sub (ae_var 1) (ae_int))) (ae_var 3))))))))
theorem sc_changed : FnScope ["row", "at"] ["row", "at"] (defScope s_changed) := ⟨rfl, rfl, rfl, by decide +kernel, rfl, by decide +kernel, by decide +kernel⟩
theorem ok_changed {f : Addr} {fd : FuncData} (F : Fun K "changed" "changed" s_changed f fd) : FnOk P w K mg base CX0 1 f fd ["row", "at"] (spA K 2 F_changed) := fnA (m := m_changed) F sc_changed fun cdv B outer s H E hr =>
 ass_one (as_ret (ae_bin o_add (ae_bin o_add (ae_sl (ae_var 0) ao_none (ao_some (ae_var 1))) (ae_lst (al_cons (ae_ix (ae_var 0) (ae_bin o_add (ae_var 1) (ae_int))) (al_cons (ae_ix (ae_var 0) (ae_var 1)) (al_nil))))) (ae_sl (ae_var 0) (ao_some (ae_bin o_add (ae_var 1) (ae_int))) ao_none)))
theorem sc_moved : FnScope ["row"] ["row"] (defScope s_moved) := ⟨rfl, rfl, rfl, by decide +kernel, rfl, by decide +kernel, by decide +kernel⟩
theorem ok_moved {f : Addr} {fd : FuncData} (F : Fun K "moved" "moved" s_moved f fd) (b_sorted : mg "sorted" = none) (b_range : mg "range" = none) (b_len : mg "len" = none) (G_may_change : KnA P w K mg base 1 "may_change" ["row", "at"] F_may_change) (G_changed : KnA P w K mg base 1 "changed" ["row", "at"] F_changed) : FnOk P w K mg base CX0 2 f fd ["row"] (spA K 1 F_moved) := fnA (m := m_moved) F sc_moved fun cdv B outer s H E hr =>
 ass_one (as_ret (ae_callB (c_sortX hr.units) b_sorted bt_sorted (al_cons (ae_comp (N := ["at", "row"]) (cap := [none, some 0]) rfl (cp_mk ["row"] rfl (by decide +kernel) (by decide +kernel) (by decide +kernel) (by decide +kernel) (by decide +kernel) (List.forall_mem_cons.mpr ⟨by first | exact Or.inl rfl | exact Or.inr rfl, (fun _ h => nomatch h)⟩) ⟨rfl, by decide +kernel, trivial⟩) (ai_range1 b_range (ae_bin o_sub (ae_callB c_len b_len bt_len (al_cons (ae_var 0) (al_nil))) (ae_int))) (fun _ _ _ _ => ag_name (i := 0) (show (["at", "row"] : List Str).Nodup by decide +kernel) rfl (Or.inl rfl) (.inr rfl)) (fun _ _ _ _ => ats_one (at_val (ae_fn G_may_change (hr.mono (by decide)) (al_cons (ae_var 1) (al_cons (ae_var 0) (al_nil))) (len_cons (len_cons len_nil))))) (fun _ _ _ _ => ae_fn G_changed (hr.mono (by decide)) (al_cons (ae_var 1) (al_cons (ae_var 0) (al_nil))) (len_cons (len_cons len_nil)))) (al_nil))))
theorem sc_law_bag : FnScope ["_law_script", "_law_at", "_law_cell", "_law_great"] ["_law_script", "_law_at"] (defScope s_law_bag) := ⟨rfl, rfl, rfl, by decide +kernel, rfl, by decide +kernel, by decide +kernel⟩
theorem ok_law_bag {f : Addr} {fd : FuncData} (F : Fun K "_law_bag" "_law_bag" s_law_bag f fd) (b_len : mg "len" = none) : FnOk P w K mg base CX0 1 f fd ["_law_script", "_law_at"] (spA K 2 F_law_bag) := fnA (m := m_law_bag) F sc_law_bag fun cdv B outer s H E hr =>
 ass_cons (as_set (i := 2) sc_law_bag.nd (ae_int))
 (ass_cons (as_if (at_cmp (o_lt hr.units) (ae_var 1) (ae_callB c_len b_len bt_len (al_cons (ae_var 0) (al_nil))))
 (ass_one (as_set (i := 2) sc_law_bag.nd (ae_ix (ae_var 0) (ae_var 1))))
 (ass_nil))
 (ass_cons (as_set (i := 3) sc_law_bag.nd (ae_int))
 (ass_cons (as_if (at_cmp o_ge (ae_var 2) (ae_bin o_pow (ae_int) (ae_int)))
 (ass_one (as_set (i := 3) sc_law_bag.nd (ae_var 2)))
 (ass_nil))
 (ass_one (as_ret (ae_lst (al_cons (ae_var 3) (al_cons (ae_bin o_mod (ae_bin o_add (ae_bin o_add (ae_var 2) (ae_bin o_mul (ae_int) (ae_var 1))) (ae_int)) (ae_int)) (al_nil)))))))))
theorem sc_law_digit : FnScope ["_law_bag_here", "_law_many", "_law_found"] ["_law_bag_here", "_law_many"] (defScope s_law_digit) := ⟨rfl, rfl, rfl, by decide +kernel, rfl, by decide +kernel, by decide +kernel⟩
theorem ok_law_digit {f : Addr} {fd : FuncData} (F : Fun K "_law_digit" "_law_digit" s_law_digit f fd) : FnOk P w K mg base CX0 1 f fd ["_law_bag_here", "_law_many"] (spA K 2 F_law_digit) := fnA (m := m_law_digit) F sc_law_digit fun cdv B outer s H E hr =>
 ass_cons (as_if (at_cmp (o_gt hr.units) (ae_ix (ae_var 0) (ae_int)) (ae_int))
 (ass_cons (as_set (i := 2) sc_law_digit.nd (ae_bin o_mod (ae_ix (ae_var 0) (ae_int)) (ae_var 1)))
 (ass_cons (as_asg (ae_bin o_fdiv (ae_ix (ae_var 0) (ae_int)) (ae_var 1)) (ag_sub (ae_var 0) (ae_int)))
 (ass_one (as_ret (ae_var 2)))))
 (ass_nil))
 (ass_cons (as_asg (ae_bin o_mod (ae_bin o_add (ae_bin o_mul (ae_ix (ae_var 0) (ae_int)) (ae_int)) (ae_int)) (ae_int)) (ag_sub (ae_var 0) (ae_int)))
 (ass_one (as_ret (ae_bin o_mod (ae_bin o_mod (ae_bin o_mul (ae_bin o_fdiv (ae_ix (ae_var 0) (ae_int)) (ae_int)) (ae_int)) (ae_int)) (ae_var 1)))))
theorem sc_law_letters : FnScope ["_law_bag_here", "_law_most", "_law_many", "_law_way", "_law_base", "_law_made", "_law_k", "_law_letter"] ["_law_bag_here", "_law_most"] (defScope s_law_letters) := ⟨rfl, rfl, rfl, by decide +kernel, rfl, by decide +kernel, by decide +kernel⟩
theorem ok_law_letters {f : Addr} {fd : FuncData} (F : Fun K "_law_letters" "_law_letters" s_law_letters f fd) (b_range : mg "range" = none) (G_law_digit : KnA P w K mg base 1 "_law_digit" ["_law_bag_here", "_law_many"] F_law_digit) : FnOk P w K mg base CX0 2 f fd ["_law_bag_here", "_law_most"] (spA K 2 F_law_letters) := fnA (m := m_law_letters) F sc_law_letters fun cdv B outer s H E hr =>
 ass_cons (as_set (i := 2) sc_law_letters.nd (ae_fn G_law_digit (hr.mono (by decide)) (al_cons (ae_var 0) (al_cons (ae_bin o_add (ae_var 1) (ae_int)) (al_nil))) (len_cons (len_cons len_nil))))
 (ass_cons (as_set (i := 3) sc_law_letters.nd (ae_fn G_law_digit (hr.mono (by decide)) (al_cons (ae_var 0) (al_cons (ae_int) (al_nil))) (len_cons (len_cons len_nil))))
 (ass_cons (as_set (i := 4) sc_law_letters.nd (ae_ix (ae_lst (al_cons (ae_int) (al_cons (ae_int) (al_cons (ae_bin o_pow (ae_int) (ae_int)) (al_cons (ae_int) (al_nil)))))) (ae_var 3)))
 (ass_cons (as_set (i := 5) sc_law_letters.nd (ae_lst (al_nil)))
 (ass_cons (as_for PassesOwn.never rfl (ai_range1 b_range (ae_var 2)) (ag_name (i := 6) sc_law_letters.nd)
 (ass_cons (as_set (i := 7) sc_law_letters.nd (ae_bin o_add (ae_int) (ae_fn G_law_digit (hr.mono (by decide)) (al_cons (ae_var 0) (al_cons (ae_var 4) (al_nil))) (len_cons (len_cons len_nil)))))
 (ass_cons (as_if (AW.at (aw_and (at_cmp (o_eq hr.units) (ae_var 3) (ae_int)) (aw_and1 (at_cmp (o_in hr.units) (ae_var 7) (ae_var 5)))))
 (ass_one (as_set (i := 7) sc_law_letters.nd (ae_bin o_add (ae_int) (ae_var 6))))
 (ass_nil))
 (ass_one (as_expr (ae_me PySem.F.slot_list_append PySem.F.type_list_append m_append (ae_var 5) (al_cons (ae_var 7) (al_nil))))))))
 (ass_one (as_ret (ae_var 5)))))))
theorem sc_law_is_rows : FnScope ["_law_found", "_law_due_here", "_law_row"] ["_law_found", "_law_due_here"] (defScope s_law_is_rows) := ⟨rfl, rfl, rfl, by decide +kernel, rfl, by decide +kernel, by decide +kernel⟩
theorem ok_law_is_rows {f : Addr} {fd : FuncData} (F : Fun K "_law_is_rows" "_law_is_rows" s_law_is_rows f fd) (b_isinstance : mg "isinstance" = none) (b_list : mg "list" = none) (b_all : mg "all" = none) (b_bool : mg "bool" = none) (b_int : mg "int" = none) : FnOk P w K mg base CX0 1 f fd ["_law_found", "_law_due_here"] (spA K 2 F_law_is_rows) := fnA (m := m_law_is_rows) F sc_law_is_rows fun cdv B outer s H E hr =>
 ass_cons (as_if (AW.at (aw_or (at_not (at_val (ae_callB c_isi b_isinstance bt_isinstance (al_cons (ae_var 0) (al_cons (ae_ty b_list bt_list) (al_nil)))))) (aw_or1 (at_cmp (o_ne hr.units) (ae_var 0) (ae_var 1)))))
 (ass_one (as_ret (ae_bl)))
 (ass_nil))
 (ass_cons (as_for PassesOwn.never rfl (ai_val (ae_var 0)) (ag_name (i := 2) sc_law_is_rows.nd)
 (ass_cons (as_if (at_not (at_val (ae_callB c_isi b_isinstance bt_isinstance (al_cons (ae_var 2) (al_cons (ae_ty b_list bt_list) (al_nil))))))
 (ass_one (as_ret (ae_bl)))
 (ass_nil))
 (ass_one (as_if (at_not (at_val (ae_callB (c_all rfl) b_all bt_all (al_cons (ae_comp (N := ["_law_one"]) (cap := [none]) rfl (cp_mk [] rfl (by decide +kernel) (by decide +kernel) (by decide +kernel) (by decide +kernel) (by decide +kernel) (fun _ h => nomatch h) trivial) (ai_val (ae_var 2)) (fun _ _ _ _ => ag_name (i := 0) (show (["_law_one"] : List Str).Nodup by decide +kernel) rfl (Or.inl rfl) (.inr rfl)) (fun _ _ _ _ => ats_nil) (fun _ _ _ _ => ae_and (ae_callB c_isi b_isinstance bt_isinstance (al_cons (ae_var 0) (al_cons (ae_ty b_int bt_int) (al_nil)))) (ae_one (ae_not (ae_callB c_isi b_isinstance bt_isinstance (al_cons (ae_var 0) (al_cons (ae_ty b_bool bt_bool) (al_nil)))))))) (al_nil)))))
 (ass_one (as_ret (ae_bl)))
 (ass_nil)))))
 (ass_one (as_ret (ae_bl))))
theorem sc_law_moved : FnScope ["_law_letters_here", "_law_found", "_law_k", "_law_a", "_law_b", "_law_c"] ["_law_letters_here"] (defScope s_law_moved) := ⟨rfl, rfl, rfl, by decide +kernel, rfl, by decide +kernel, by decide +kernel⟩
theorem ok_law_moved {f : Addr} {fd : FuncData} (F : Fun K "_law_moved" "_law_moved" s_law_moved f fd) (b_range : mg "range" = none) (b_len : mg "len" = none) : FnOk P w K mg base CX0 1 f fd ["_law_letters_here"] (spA K 1 F_law_moved) := fnA (m := m_law_moved) F sc_law_moved fun cdv B outer s H E hr =>
 ass_cons (as_set (i := 1) sc_law_moved.nd (ae_lst (al_nil)))
 (ass_cons (as_for PassesOwn.never rfl (ai_range1 b_range (ae_bin o_sub (ae_callB c_len b_len bt_len (al_cons (ae_var 0) (al_nil))) (ae_int))) (ag_name (i := 2) sc_law_moved.nd)
 (ass_cons (as_par3 (i := 3) (j := 4) (k := 5) rfl sc_law_moved.nd (al_cons (ae_ix (ae_var 0) (ae_var 2)) (al_cons (ae_ix (ae_var 0) (ae_bin o_add (ae_var 2) (ae_int))) (al_cons (ae_ix (ae_var 0) (ae_bin o_add (ae_var 2) (ae_int))) (al_nil)))))
 (ass_cons (as_if (AW.at (aw_or (at_ch o_le (o_lt hr.units) (ae_var 3) (ae_var 5) (ae_var 4)) (aw_or1 (at_ch o_le (o_lt hr.units) (ae_var 4) (ae_var 5) (ae_var 3)))))
 (ass_one (as_expr (ae_me PySem.F.slot_list_append PySem.F.type_list_append m_append (ae_var 1) (al_cons (ae_bin o_add (ae_bin o_add (ae_sl (ae_var 0) ao_none (ao_some (ae_var 2))) (ae_lst (al_cons (ae_var 4) (al_cons (ae_var 3) (al_cons (ae_var 5) (al_nil)))))) (ae_sl (ae_var 0) (ao_some (ae_bin o_add (ae_var 2) (ae_int))) ao_none)) (al_nil)))))
 (ass_nil))
 (ass_one (as_if (AW.at (aw_or (at_ch (o_lt hr.units) o_le (ae_var 4) (ae_var 3) (ae_var 5)) (aw_or1 (at_ch (o_lt hr.units) o_le (ae_var 5) (ae_var 3) (ae_var 4)))))
 (ass_one (as_expr (ae_me PySem.F.slot_list_append PySem.F.type_list_append m_append (ae_var 1) (al_cons (ae_bin o_add (ae_bin o_add (ae_sl (ae_var 0) ao_none (ao_some (ae_var 2))) (ae_lst (al_cons (ae_var 3) (al_cons (ae_var 5) (al_cons (ae_var 4) (al_nil)))))) (ae_sl (ae_var 0) (ao_some (ae_bin o_add (ae_var 2) (ae_int))) ao_none)) (al_nil)))))
 (ass_nil))))))
 (ass_one (as_ret (ae_var 1))))
theorem sc_law_due : FnScope ["_law_letters_here", "_law_due_here", "_law_one"] ["_law_letters_here"] (defScope s_law_due) := ⟨rfl, rfl, rfl, by decide +kernel, rfl, by decide +kernel, by decide +kernel⟩
theorem ok_law_due {f : Addr} {fd : FuncData} (F : Fun K "_law_due" "_law_due" s_law_due f fd) (b_sorted : mg "sorted" = none) (G_law_moved : KnA P w K mg base 1 "_law_moved" ["_law_letters_here"] F_law_moved) : FnOk P w K mg base CX0 2 f fd ["_law_letters_here"] (spA K 1 F_law_due) := fnA (m := m_law_due) F sc_law_due fun cdv B outer s H E hr =>
 ass_cons (as_set (i := 1) sc_law_due.nd (ae_lst (al_nil)))
 (ass_cons (as_for PassesOwn.never rfl (ai_val (ae_callB (c_sortX hr.units) b_sorted bt_sorted (al_cons (ae_fn G_law_moved (hr.mono (by decide)) (al_cons (ae_var 0) (al_nil)) (len_cons len_nil)) (al_nil)))) (ag_name (i := 2) sc_law_due.nd)
 (ass_one (as_if (at_cmp (o_notin hr.units) (ae_var 2) (ae_var 1))
 (ass_one (as_expr (ae_me PySem.F.slot_list_append PySem.F.type_list_append m_append (ae_var 1) (al_cons (ae_var 2) (al_nil)))))
 (ass_nil))))
 (ass_one (as_ret (ae_var 1))))
theorem sc_law : FnScope ["_law_script", "_law_k", "_law_bag_here", "_law_letters_here", "_law_due_here", "_law_handed", "_law_turn", "_law_found", "_law_one"] ["_law_script"] (defScope s_law) := ⟨rfl, rfl, rfl, by decide +kernel, rfl, by decide +kernel, by decide +kernel⟩
theorem ok_law {f : Addr} {fd : FuncData} (F : Fun K "law" "law" s_law f fd) (b_range : mg "range" = none) (b_max : mg "max" = none) (b_min : mg "min" = none) (b_len : mg "len" = none) (b_int : mg "int" = none) (b_list : mg "list" = none) (G_law_bag : KnA P w K mg base 1 "_law_bag" ["_law_script", "_law_at"] F_law_bag) (G_law_letters : KnA P w K mg base 2 "_law_letters" ["_law_bag_here", "_law_most"] F_law_letters) (G_law_digit : KnA P w K mg base 1 "_law_digit" ["_law_bag_here", "_law_many"] F_law_digit) (G_law_due : KnA P w K mg base 2 "_law_due" ["_law_letters_here"] F_law_due) (G_moved : KnA P w K mg base 2 "moved" ["row"] F_moved) (G_law_is_rows : KnA P w K mg base 1 "_law_is_rows" ["_law_found", "_law_due_here"] F_law_is_rows) (G_tables : KnA P w K mg base 3 "tables" ["row"] F_tables) : FnOk P w K mg base CX0 4 f fd ["_law_script"] (spA K 1 F_law) := fnA (m := m_law) F sc_law fun cdv B outer s H E hr =>
 ass_cons (as_for PassesOwn.never rfl (ai_range1 b_range (ae_callB (c_max2 rfl) b_max bt_max (al_cons (ae_int) (al_cons (ae_callB (c_min2 rfl) b_min bt_min (al_cons (ae_callB c_len b_len bt_len (al_cons (ae_var 0) (al_nil))) (al_cons (ae_int) (al_nil)))) (al_nil))))) (ag_name (i := 1) sc_law.nd)
 (ass_cons (as_set (i := 2) sc_law.nd (ae_fn G_law_bag (hr.mono (by decide)) (al_cons (ae_var 0) (al_cons (ae_var 1) (al_nil))) (len_cons (len_cons len_nil))))
 (ass_cons (as_set (i := 3) sc_law.nd (ae_fn G_law_letters (hr.mono (by decide)) (al_cons (ae_var 2) (al_cons (ae_ix (ae_lst (al_cons (ae_int) (al_cons (ae_int) (al_nil)))) (ae_callT c_int1 b_int bt_int (al_cons (ae_and (ae_cmp (o_eq hr.units) (ae_var 1) (ae_int)) (ae_one (ae_cmp (o_eq hr.units) (ae_fn G_law_digit (hr.mono (by decide)) (al_cons (ae_var 2) (al_cons (ae_int) (al_nil))) (len_cons (len_cons len_nil))) (ae_int)))) (al_nil)))) (al_nil))) (len_cons (len_cons len_nil))))
 (ass_cons (as_set (i := 4) sc_law.nd (ae_fn G_law_due (hr.mono (by decide)) (al_cons (ae_var 3) (al_nil)) (len_cons len_nil)))
 (ass_cons (as_set (i := 5) sc_law.nd (ae_callT (c_list rfl) b_list bt_list (al_cons (ae_var 3) (al_nil))))
 (ass_cons (as_for PassesOwn.never rfl (ai_range1 b_range (ae_int)) (ag_name (i := 6) sc_law.nd)
 (ass_cons (as_set (i := 7) sc_law.nd (ae_fn G_moved (hr.mono (by decide)) (al_cons (ae_var 5) (al_nil)) (len_cons len_nil)))
 (ass_cons (as_if (AW.at (aw_or (at_not (at_val (ae_fn G_law_is_rows (hr.mono (by decide)) (al_cons (ae_var 7) (al_cons (ae_var 4) (al_nil))) (len_cons (len_cons len_nil))))) (aw_or1 (at_cmp (o_ne hr.units) (ae_var 5) (ae_var 3)))))
 (ass_one (as_ret (ae_bl)))
 (ass_nil))
 (ass_cons (as_for PassesOwn.never rfl (ai_val (ae_var 7)) (ag_name (i := 8) sc_law.nd)
 (ass_one (as_expr (ae_me PySem.F.slot_list_append PySem.F.type_list_append m_append (ae_var 8) (al_cons (ae_int) (al_nil))))))
 (ass_one (as_expr (ae_me PySem.F.slot_list_append PySem.F.type_list_append m_append (ae_var 7) (al_cons (ae_lst (al_nil)) (al_nil)))))))))
 (ass_one (as_for PassesOwn.never rfl (ai_val (ae_sl (ae_var 4) ao_none (ao_some (ae_ix (ae_lst (al_cons (ae_int) (al_cons (ae_int) (al_nil)))) (ae_callT c_int1 b_int bt_int (al_cons (ae_cmp (o_gt hr.units) (ae_callB c_len b_len bt_len (al_cons (ae_var 3) (al_nil))) (ae_int)) (al_nil))))))) (ag_name (i := 8) sc_law.nd)
 (ass_one (as_if (AW.at (aw_or (at_cmp (o_notin hr.units) (ae_var 3) (ae_fn G_moved (hr.mono (by decide)) (al_cons (ae_callT (c_list rfl) b_list bt_list (al_cons (ae_var 8) (al_nil))) (al_nil)) (len_cons len_nil))) (aw_or1 (at_cmp (o_ne hr.units) (ae_ix (ae_fn G_tables (hr.mono (by decide)) (al_cons (ae_callT (c_list rfl) b_list bt_list (al_cons (ae_var 8) (al_nil))) (al_nil)) (len_cons len_nil)) (ae_int)) (ae_ix (ae_fn G_tables (hr.mono (by decide)) (al_cons (ae_callT (c_list rfl) b_list bt_list (al_cons (ae_var 3) (al_nil))) (al_nil)) (len_cons len_nil)) (ae_int))))))
 (ass_one (as_ret (ae_bl)))
 (ass_nil)))))))))))
 (ass_one (as_ret (ae_and (ae_cmp (o_eq hr.units) (ae_fn G_moved (hr.mono (by decide)) (al_cons (ae_lst (al_nil)) (al_nil)) (len_cons len_nil)) (ae_lst (al_nil))) (ae_one (ae_cmp (o_eq hr.units) (ae_fn G_moved (hr.mono (by decide)) (al_cons (ae_lst (al_cons (ae_int) (al_cons (ae_int) (al_nil)))) (al_nil)) (len_cons len_nil)) (ae_lst (al_nil)))))))
end
end K61
set_option Elab.async false
set_option linter.all false
set_option maxRecDepth 100000
set_option maxHeartbeats 4000000
namespace K61
open PySem L2 Am
noncomputable def Bag (S : Sto) (b : Nat) : Prop := ∃ g st : Int, lstAt S b = some [.int g, .int st] /\ 0 <= g /\ 0 <= st /\ st < 4294967296
theorem Bag.kp {S S' : Sto} {b : Nat} {c : Nat -> Prop} (h : Bag S b) (k : Kp c S S') (hb : ¬ c b) : Bag S' b := by
  obtain ⟨g, st, e, q⟩ := h
  exact ⟨g, st, k.lst b _ hb e, q⟩
theorem Bag.lt {S : Sto} {b : Nat} (h : Bag S b) : b < S.length := by obtain ⟨_, _, e, _⟩ := h; exact lst_lt e
theorem bag_new {S : Sto} {ns : List Int} {k : Int} (h0 : 0 <= k) (h1 : k <= 100) : ∃ S', F_law_bag [.frz (ns.map .int), .int k] S = .ok (.ref S.length) S' /\ Bag S' S.length /\ Kp0 S S' := by
  have e3 : aPow (.int 10) (.int 18) = fun S => R.ok (.int 1000000000000000000) S := by
    funext S; exact gd_of ⟨by decide, by decide, by decide⟩
  have m1 : ∀ x : Int, aMod (.int x) (.int 2147483647) = fun S => R.ok (.int (x % 2147483647)) S := fun x => by funext S; exact mod_i (by decide)
  have m3 : ∀ x : Int, aMul (.int 7919) (.int x) = fun S => R.ok (.int (7919 * x)) S := fun x => by funext S; exact mul_l (by decide) (by decide)
  have s0 : ∀ x : Int, 0 <= x % 2147483647 := fun x => Int.emod_nonneg _ (by decide)
  have s1 : ∀ x : Int, x % 2147483647 < 4294967296 := fun x => by have := Int.emod_lt_of_pos x (show (0 : Int) < 2147483647 by decide); omega
  have go : ∀ cell : Int, ∃ S', ((RS.seq (.nx [A.frz (ns.map .int), .int k, .int cell, .unb] S) (sSeq (sAsg (eC (.int 0)) (gNm 3))
    (sSeq (sIf (toB (eBin aGe (eVar 2) (eBin aPow (eC (.int 10)) (eC (.int 18))))) (sAsg (eVar 2) (gNm 3)) (sNil))
    (sRet (eLst (lCons (eVar 3) (lCons (eBin aMod (eBin aAdd (eBin aAdd (eVar 2) (eBin aMul (eC (.int 7919)) (eVar 1))) (eC (.int 13))) (eC (.int 2147483647))) (lNil)))))))).end = .ok (.ref S.length) S') /\ Bag S' S.length /\ Kp0 S S' := by
    intro cell
    by_cases hc : 1000000000000000000 <= cell
    · simp only [ams, bools, e3, m1, m3, decide_eq_true hc]
      exact ⟨_, rfl, ⟨_, _, lst_lay, by omega, s0 _, s1 _⟩, Kp.refl.lay⟩
    · simp only [ams, bools, e3, m1, m3, decide_eq_false hc]
      exact ⟨_, rfl, ⟨_, _, lst_lay, Int.le_refl 0, s0 _, s1 _⟩, Kp.refl.lay⟩
  unfold F_law_bag m_law_bag N_law_bag
  simp only [ams, bools, nlen, Nat.reduceAdd, Nat.reduceSub, List.length_map]
  by_cases hk : k < (ns.length : Int)
  · have hn : k.toNat < ns.length := by omega
    have ha : atI (ns.map A.int) k = some (.int ns[k.toNat]) := atI_map (k := k.toNat) (by omega) (List.getElem?_eq_getElem hn)
    rw [decide_eq_true hk]
    simp only [ams, bools, ha]
    have := go ns[k.toNat]
    simpa only [ams, bools] using this
  · rw [decide_eq_false hk]
    simp only [ams, bools]
    have := go 0
    simpa only [ams, bools] using this
theorem digit {S : Sto} {b : Nat} {m : Int} (h : Bag S b) (h1 : 1 <= m) (h2 : m < 1073741824) : ∃ d S', F_law_digit [.ref b, .int m] S = .ok (.int d) S' /\ 0 <= d /\ d < m /\ Bag S' b /\ Kp (· = b) S S' := by
  obtain ⟨g, st, hl, hg, hs, hs2⟩ := h
  have hb := lst_lt hl
  have i0 : ixN 2 0 = some 0 := ixN_at rfl (by decide)
  have i1 : ixN 2 1 = some 1 := ixN_at rfl (by decide)
  have fin : ∀ d g' st' : Int, 0 <= d -> d < m -> 0 <= g' -> 0 <= st' -> st' < 4294967296 -> F_law_digit [.ref b, .int m] S = .ok (.int d) (S.set b (.lst [.int g', .int st'])) -> ∃ d S', F_law_digit [.ref b, .int m] S = .ok (.int d) S' /\ 0 <= d /\ d < m /\ Bag S' b /\ Kp (· = b) S S' :=
    fun d g' st' a1 a2 a3 a4 a5 e => ⟨d, _, e, a1, a2, ⟨g', st', lst_set hb, a3, a4, a5⟩, Kp.refl.set (.inl rfl)⟩
  by_cases hg0 : 0 < g
  · refine fin (g % m) (g / m) st (Int.emod_nonneg _ (by omega)) (Int.emod_lt_of_pos _ (by omega)) (Int.ediv_nonneg hg (by omega)) hs hs2 ?_
    unfold F_law_digit m_law_digit N_law_digit
    rw [runF_ap]
    simp [hl, atI_0, atI_1, hg0, mod_i (show 0 < m by omega), fdiv_i (show 0 < m by omega) h2, i0]
  · have e1 : 0 <= (st * 48271 + 11) % 2147483647 := Int.emod_nonneg _ (by decide)
    have e2 : (st * 48271 + 11) % 2147483647 < 2147483647 := Int.emod_lt_of_pos _ (by decide)
    have e3 : 0 <= (st * 48271 + 11) % 2147483647 / 8 := by omega
    refine fin ((st * 48271 + 11) % 2147483647 / 8 * 69621 % 2147483629 % m) g ((st * 48271 + 11) % 2147483647) (Int.emod_nonneg _ (by omega)) (Int.emod_lt_of_pos _ (by omega)) hg e1 (by omega) ?_
    unfold F_law_digit m_law_digit N_law_digit
    rw [runF_ap]
    simp [hl, atI_0, atI_1, hg0, i1, mul_l (show -18446744073709551616 < st by omega) (by omega), mod_i (show (0 : Int) < 2147483647 by decide), lst_set hb, fdiv_i (show (0 : Int) < 8 by decide) (by decide), mul_l (show -18446744073709551616 < (st * 48271 + 11) % 2147483647 / 8 by omega) (by omega), mod_i (show (0 : Int) < 2147483629 by decide), mod_i (show 0 < m by omega)]
theorem inA_some {S : Sto} {v : Int} : ∀ (xs : List Int), ∃ b, inA S (.int v) (xs.map .int) = some b
  | [] => ⟨_, rfl⟩
  | x :: xs => by
    obtain ⟨b, e⟩ := inA_some (S := S) (v := v) xs
    refine ⟨(x == v) || b, ?_⟩
    show (eqA S 12 (.int x) (.int v)).bind _ = _
    show Option.bind (some (x == v)) _ = _
    show Option.map _ (inA S (.int v) (xs.map .int)) = _
    rw [e]; rfl
theorem pow9 : aPow (.int 10) (.int 9) = fun S => R.ok (.int 1000000000) S := by funext S; exact gd_of ⟨by decide, by decide, by decide⟩
theorem letters_ok {S : Sto} {b : Nat} {most : Int} (h : Bag S b) (h0 : 0 <= most) (h1 : most <= 100) :
    ∃ (xs : List Int) (L : Nat) (S' : Sto), F_law_letters [.ref b, .int most] S = .ok (.ref L) S' /\ lstAt S' L = some (xs.map .int) /\ (xs.length : Int) <= most /\ (∀ x ∈ xs, 1 <= x /\ x <= 1000000000) /\ Bag S' b /\ Kp (· = b) S S' /\ S.length <= L := by
  obtain ⟨d, S1, e1, d0, d1, hb1, k1⟩ := digit (m := most + 1) h (by omega) (by omega)
  obtain ⟨w, S2, e2, w0, w1, hb2, k2⟩ := digit (m := 4) hb1 (by decide) (by decide)
  obtain ⟨base, hbase, b0, b1⟩ : ∃ base : Int, atI ([.int 3, .int 6, .int 1000000000, .int 40] : List A) w = some (.int base) /\ 1 <= base /\ base <= 1000000000 := by
    rcases (by omega : w = 0 \/ w = 1 \/ w = 2 \/ w = 3) with z | z | z | z <;> subst z
    · exact ⟨3, rfl, by decide, by decide⟩
    · exact ⟨6, rfl, by decide, by decide⟩
    · exact ⟨1000000000, rfl, by decide, by decide⟩
    · exact ⟨40, rfl, by decide, by decide⟩
  have hbS := h.lt
  have l1 := k1.len
  have l2 := k2.len
  unfold F_law_letters m_law_letters N_law_letters
  simp only [ams, bools, nlen, Nat.reduceAdd, Nat.reduceSub, e1, e2, pow9, hbase]
  generalize hS3 : S2 ++ [O.lst [.int 3, .int 6, .int 1000000000, .int 40]] = S3
  have k3 : Kp (· = b) S S3 := by rw [<- hS3]; exact (k1.trans k2).lay
  have hb3 : Bag S3 b := by rw [<- hS3]; exact hb2.kp (c := fun _ => False) Kp.refl.lay fun z => z
  have l3 : S.length <= S3.length := k3.len
  have nb : S3.length ≠ b := by omega
  refine for_rng (lo := 0) (hi := d) (S1 := S3 ++ [.lst []]) (iRng1_ap (by simp only [ams, bools]) (bnd_of (by omega) (by omega)))
    (fun i τ S4 => ∃ (xs : List Int) (a6 a7 : A), τ = [.ref b, .int most, .int d, .int w, .int base, .ref S3.length, a6, a7] /\ lstAt S4 S3.length = some (xs.map .int) /\ xs.length = i /\ (∀ x ∈ xs, 1 <= x /\ x <= 1000000000) /\ Bag S4 b /\ Kp (· = b) S S4)
    (fun r => ∃ (xs : List Int) (L : Nat) (S' : Sto), RS.end (RS.seq r _) = .ok (.ref L) S' /\ lstAt S' L = some (xs.map .int) /\ (xs.length : Int) <= most /\ (∀ x ∈ xs, 1 <= x /\ x <= 1000000000) /\ Bag S' b /\ Kp (· = b) S S' /\ S.length <= L)
    ⟨[], _, _, rfl, lst_lay, rfl, (fun _ h => by cases h), hb3.kp (c := fun _ => False) Kp.refl.lay fun z => z, k3.lay⟩ ?_ ?_
  · rintro i τ S4 hi ⟨xs, a6, a7, rfl, hL, hlen, hx, hb4, k4⟩
    left
    obtain ⟨e, S5, e5, f0, f1', hb5, k5⟩ := digit (m := base) hb4 b0 (by omega)
    have hL5 := k5.lst _ _ nb hL
    have lL := lst_lt hL5
    have fin : ∀ l : Int, 1 <= l -> l <= 1000000000 -> ∃ (ys : List Int) (a6 a7 : A), [A.ref b, .int most, .int d, .int w, .int base, .ref S3.length, .int (0 + (i : Int)), .int l] = [.ref b, .int most, .int d, .int w, .int base, .ref S3.length, a6, a7] /\ lstAt (S5.set S3.length (.lst (xs.map A.int ++ [.int l]))) S3.length = some (ys.map .int) /\ ys.length = i + 1 /\ (∀ x ∈ ys, 1 <= x /\ x <= 1000000000) /\ Bag (S5.set S3.length (.lst (xs.map A.int ++ [.int l]))) b /\ Kp (· = b) S (S5.set S3.length (.lst (xs.map A.int ++ [.int l]))) := fun l hl0 hl1 => by
      refine ⟨xs ++ [l], _, _, rfl, by rw [lst_set lL, List.map_append]; rfl, by rw [List.length_append, hlen]; rfl, fun x hx' => ?_, ?_, (k4.trans k5).set (.inr l3)⟩
      · rcases List.mem_append.mp hx' with z | z
        · exact hx x z
        · rw [List.mem_singleton.mp z]; exact ⟨hl0, hl1⟩
      · obtain ⟨g, st, e, q⟩ := hb5
        exact ⟨g, st, by rw [lst_set_ne nb]; exact e, q⟩
    have gd1 : gd (xs.length < sizeLine) = fun r : Am.R A => r := by funext r; exact gd_lt (show xs.length < 16777216 by omega)
    unfold b_law_letters_1
    simp only [ams, bools, e5]
    by_cases hw : w = 3
    · rw [show (w == 3) = true by simpa using hw]
      obtain ⟨bb, hin⟩ := inA_some (S := S5) (v := 1 + e) xs
      have ein : aIn false (.int (1 + e)) (.ref S3.length) S5 = .ok (.bl bb) S5 := by
        show opt (lstAt S5 S3.length) _ = _
        rw [hL5, opt_some, hin]; rfl
      simp only [ams, bools, ein]
      cases bb with
      | true =>
        simp only [ams, bools, hL5, List.length_map, gd1]
        exact ⟨_, _, rfl, fin _ (by omega) (by omega)⟩
      | false =>
        simp only [ams, bools, hL5, List.length_map, gd1]
        exact ⟨_, _, rfl, fin _ (by omega) (by omega)⟩
    · rw [show (w == 3) = false by simpa using hw]
      simp only [ams, bools, hL5, List.length_map, gd1]
      exact ⟨_, _, rfl, fin _ (by omega) (by omega)⟩
  · rintro τ S4 ⟨xs, a6, a7, rfl, hL, hlen, hx, hb4, k4⟩
    simp only [ams, bools]
    exact ⟨xs, _, _, rfl, hL, by omega, hx, hb4, k4, l3⟩
theorem fg_ok {S : Sto} {r : Nat} {R : List Int} {x : Int} (h : lstAt S r = some (R.map .int)) (hl : R.length <= 1000) : F_first_greater [.ref r, .int x] S = .ok (.int (Tb.fg R x : Nat)) S := by
  unfold F_first_greater m_first_greater N_first_greater
  simp only [ams, bools, nlen, Nat.reduceAdd, Nat.reduceSub]
  have hfl := Tb.fg_le R x
  have key := while_by (t := t_first_greater_1) (c := b_first_greater_1)
    (fun τ S1 => S1 = S /\ ∃ k : Nat, τ = [.ref r, .int x, .int k] /\ k <= Tb.fg R x)
    (fun τ S1 => match τ with
      | [_, _, .int k] => R.length - k.toNat
      | _ => 0)
    (fun q => RS.end (RS.seq q (sRet (eVar 2))) = .ok (.int (Tb.fg R x : Nat)) S) ?_ 1000000
  · refine key _ _ ⟨rfl, 0, rfl, Nat.zero_le _⟩ ?_
    show R.length - _ < _
    omega
  · rintro τ S1 ⟨rfl, k, rfl, hk⟩
    unfold t_first_greater_1 b_first_greater_1
    simp only [ams, bools, h, List.length_map]
    by_cases h1 : k < R.length
    · have ea : atI (R.map A.int) (k : Int) = some (.int (R.getD k 0)) := at_int rfl h1
      rw [decide_eq_true (show (k : Int) < R.length by omega)]
      simp only [ams, bools, h, ea]
      by_cases h2 : k = Tb.fg R x
      · have hg : x < R.getD k 0 := by
          have := List.findIdx_getElem (xs := R) (p := fun y => decide (x < y)) (w := by subst h2; exact h1)
          have e : R.findIdx (fun y => decide (x < y)) = k := h2.symm
          simp only [e] at this
          rw [List.getD_eq_getElem?_getD, List.getElem?_eq_getElem h1]
          simpa using this
        left
        refine ⟨S1, by rw [decide_eq_false (by omega)], ?_⟩
        simp only [ams, bools, h2]
      · have hg : R.getD k 0 <= x := by
          have := List.not_of_lt_findIdx (xs := R) (p := fun y => decide (x < y)) (i := k) (show k < Tb.fg R x by omega)
          rw [List.getD_eq_getElem?_getD, List.getElem?_eq_getElem h1]
          simpa using this
        right
        refine ⟨S1, by rw [decide_eq_true hg], .inl ⟨_, _, rfl, ⟨rfl, k + 1, rfl, by omega⟩, ?_⟩⟩
        show R.length - ((k : Int) + 1).toNat < R.length - (k : Int).toNat
        omega
    · left
      rw [decide_eq_false (show ¬ (k : Int) < R.length by omega)]
      have : k = Tb.fg R x := by omega
      refine ⟨S1, by simp only [ams, bools], ?_⟩
      simp only [ams, bools, this]
theorem pir_ok {S : Sto} {m : Nat} {qs : List Nat} {T : List (List Int)} {x : Int} (h : Tab S m qs T) (hl : T.length <= 1000) (hr : ∀ i, (T.getD i []).length <= 1000) :
    ∃ (qs' : List Nat) (S' : Sto), F_put_into_rows [.ref m, .int x] S = .ok (.int (Tb.row T x : Nat)) S' /\ Tab S' m qs' (Tb.put T x) /\ Kp (· ∈ m :: qs) S S' /\ ∀ r ∈ qs', r ∈ qs \/ S.length <= r := by
  unfold F_put_into_rows m_put_into_rows N_put_into_rows
  simp only [ams, bools, nlen, Nat.reduceAdd, Nat.reduceSub]
  have hq1 := h.len
  have hm : m ∈ m :: qs := List.mem_cons_self ..
  have key := while_by (t := t_put_into_rows_1) (c := b_put_into_rows_1)
    (fun τ S2 => ∃ (i : Nat) (U : List (List Int)) (y : Int) (a3 : A), τ = [.ref m, .int y, .int i, a3] /\ i <= T.length /\ Tab S2 m qs U /\ Kp (· ∈ m :: qs) S S2 /\ U.length = T.length /\ (∀ j, (U.getD j []).length <= 1000) /\ Tb.put T x = U.take i ++ Tb.put (U.drop i) y /\ Tb.row T x = i + Tb.row (U.drop i) y)
    (fun τ S1 => match τ with
      | [_, _, .int k, _] => T.length - k.toNat
      | _ => 0)
    (fun q => ∃ (qs' : List Nat) (S' : Sto), RS.end (RS.seq q (sSeq (sExpr (eMe mAppend (eVar 0) (lCons (eLst (lCons (eVar 1) lNil)) lNil))) (sRet (eVar 2)))) = .ok (.int (Tb.row T x : Nat)) S' /\ Tab S' m qs' (Tb.put T x) /\ Kp (· ∈ m :: qs) S S' /\ ∀ r ∈ qs', r ∈ qs \/ S.length <= r) ?_ 1000000
  · refine key _ _ ⟨0, T, x, _, rfl, Nat.zero_le _, h, Kp.refl, rfl, hr, rfl, by rw [Nat.zero_add]; rfl⟩ ?_
    show T.length - _ < _
    omega
  · rintro τ S2 ⟨i, U, y, a3, rfl, hi0, h2, k2, hU, hUr, hput, hrow0⟩
    unfold t_put_into_rows_1
    simp only [ams, bools, h2.top, List.length_map, hq1]
    by_cases hi' : i < T.length
    · right
      refine ⟨S2, by rw [decide_eq_true (by omega)], ?_⟩
      have hiq : i < qs.length := by omega
      have hi : i < U.length := by omega
      generalize hr0 : qs.getD i 0 = r
      have hr' : qs[i]? = some r := by rw [<- hr0, List.getD_eq_getElem?_getD, List.getElem?_eq_getElem hiq]; rfl
      obtain ⟨_, hrow⟩ := h2.rows.get hr'
      generalize hR : U.getD i [] = R at hrow
      have hRl : R.length <= 1000 := by rw [<- hR]; exact hUr i
      have hdrop : U.drop i = R :: U.drop (i + 1) := by
        rw [List.drop_eq_getElem_cons hi, <- hR, List.getD_eq_getElem?_getD, List.getElem?_eq_getElem hi]; rfl
      have hmem : r ∈ m :: qs := List.mem_cons_of_mem _ (List.mem_of_getElem? hr')
      have hnm : r ≠ m := fun z => (List.nodup_cons.mp h2.nd).1 (by rw [<- z]; exact List.mem_of_getElem? hr')
      have ea : atI (qs.map A.ref) (i : Int) = some (.ref r) := atI_at rfl (by rw [List.getElem?_map, hr']; rfl)
      have e6 : ∀ R', U.set i R' = U.take i ++ R' :: U.drop (i + 1) := fun R' => by rw [List.set_eq_take_append_cons_drop, if_pos hi]
      unfold b_put_into_rows_1
      simp only [ams, bools, h2.top, ea, fg_ok hrow hRl, hrow, List.length_map]
      by_cases hfg : Tb.fg R y = R.length
      · right
        rw [show (((Tb.fg R y : Nat) : Int) == (R.length : Int)) = true by rw [hfg]; simp]
        simp only [ams, bools, h2.top, ea, hrow, List.length_map, gd_lt (show R.length < 16777216 by omega)]
        have h4 := h2.set (i := i) (r := r) (ys := R ++ [y]) hr'
        rw [List.map_append] at h4
        rw [hdrop, Tb.row_end hfg] at hrow0
        refine ⟨_, _, rfl, qs, _, by rw [hrow0]; rfl, ?_, k2.set (.inl hmem), fun r hr => .inl hr⟩
        rw [hput, hdrop, Tb.put_end hfg, <- e6]; exact h4
      · left
        have hlt := Tb.fg_lt hfg
        have e1 : atI (R.map A.int) (Tb.fg R y : Int) = some (.int (R.getD (Tb.fg R y) 0)) := at_int rfl hlt
        have e2 : ixN R.length (Tb.fg R y : Int) = some (Tb.fg R y) := ixN_at rfl hlt
        rw [show (((Tb.fg R y : Nat) : Int) == (R.length : Int)) = false by rw [beq_eq_false_iff_ne]; omega]
        simp only [ams, bools, h2.top, ea, hrow, e1, List.length_map, e2, gd_len (show ([_, _] : List A).length <= 16777216 by simp), gd_of (show ([_, _] : List A).length = 2 from rfl)]
        have h4 := h2.set (i := i) (r := r) (ys := R.set (Tb.fg R y) y) hr'
        rw [List.map_set] at h4
        have l1 : (U.take i).length = i := by rw [List.length_take]; omega
        have d1 : (U.set i (R.set (Tb.fg R y) y)).drop (i + 1) = U.drop (i + 1) := by
          rw [e6, List.drop_append, l1, Nat.add_sub_cancel_left, List.drop_of_length_le (by omega : (U.take i).length <= i + 1)]
          simp
        have t1 : (U.set i (R.set (Tb.fg R y) y)).take (i + 1) = U.take i ++ [R.set (Tb.fg R y) y] := by
          rw [e6, List.take_append, l1, Nat.add_sub_cancel_left, List.take_of_length_le (by omega : (U.take i).length <= i + 1)]
          simp
        refine ⟨_, _, rfl, ⟨i + 1, U.set i (R.set (Tb.fg R y) y), _, _, rfl, by omega, h4, k2.set (.inl hmem), by rw [List.length_set]; exact hU, fun j => ?_, ?_, ?_⟩, ?_⟩
        · rw [List.getD_eq_getElem?_getD, List.getElem?_set]
          by_cases hj : i = j
          · rw [if_pos hj, if_pos hi]; simpa using hRl
          · rw [if_neg hj, <- List.getD_eq_getElem?_getD]; exact hUr j
        · rw [hput, hdrop, Tb.put_on hfg, t1, d1]
          simp
        · rw [hrow0, hdrop, Tb.row_on hfg, d1]; omega
        · show T.length - ((i : Int) + 1).toNat < T.length - (i : Int).toNat
          omega
    · left
      have hie : i = U.length := by omega
      refine ⟨S2, by rw [decide_eq_false (by omega)], ?_⟩
      rw [hie, List.take_length, List.drop_length] at hput
      rw [hie, List.drop_length] at hrow0
      have lm : lstAt (S2 ++ [O.lst [.int y]]) m = some (qs.map .ref) := lst_app h2.top
      simp only [ams, bools, h2.top, lm, List.length_map, gd_lt (show qs.length < 16777216 by omega)]
      have h4 := h2.push (ys := [y])
      rw [List.map_append] at h4
      refine ⟨qs ++ [S2.length], _, by rw [hrow0, hie]; rfl, ?_, k2.lay.set (.inl hm), fun r hr => ?_⟩
      · rw [hput]; exact h4
      · rcases List.mem_append.mp hr with z | z
        · exact .inl z
        · right; rw [List.mem_singleton.mp z]; exact k2.len
theorem ptabs_ok {S : Sto} {L : Nat} {xs : List Int} (h : lstAt S L = some (xs.map .int)) (hl : xs.length <= 100) :
    ∃ (rs qs : List Nat) (n m : Nat) (S' : Sto), F_tables [.ref L] S = .ok (.tup [.ref n, .ref m]) S' /\ Tab S' n rs (Tb.tabs xs xs.length).1 /\ Tab S' m qs (Tb.tabs xs xs.length).2 /\ Kp0 S S' /\ (∀ r ∈ n :: rs, S.length <= r) /\ (∀ r ∈ m :: qs, S.length <= r) /\ ∀ r ∈ n :: rs, r ∉ m :: qs := by
  have lL := lst_lt h
  unfold F_tables m_tables N_tables
  simp only [ams, bools, nlen, Nat.reduceAdd, Nat.reduceSub]
  have lb : (S ++ [O.lst []]).length = S.length + 1 := by rw [List.length_append]; rfl
  have k0 : Kp0 S (S ++ [O.lst []] ++ [O.lst []]) := Kp.refl.lay.lay
  have h0 := k0.lst _ _ (fun z => z) h
  have hs : i_tables_1 [.ref L, .ref S.length, .ref (S ++ [O.lst []]).length, .unb, .unb, .unb] (S ++ [O.lst []] ++ [O.lst []]) = .ok (elSrc L (xs.map A.int).length) (S ++ [O.lst []] ++ [O.lst []]) := iEnL_ap (by simp only [ams, bools]) h0
  unfold sFor
  rw [hs]
  refine for_go (s := elSrc L (xs.map A.int).length)
    (fun i τ S1 => ∃ (rs qs : List Nat) (a3 a4 a5 : A), τ = [.ref L, .ref S.length, .ref (S ++ [O.lst []]).length, a3, a4, a5] /\ Tab S1 S.length rs (Tb.tabs xs i).1 /\ Tab S1 (S ++ [O.lst []]).length qs (Tb.tabs xs i).2 /\ Kp0 S S1 /\ (∀ r ∈ S.length :: rs, S.length <= r) /\ (∀ r ∈ (S ++ [O.lst []]).length :: qs, S.length <= r) /\ ∀ r ∈ S.length :: rs, r ∉ (S ++ [O.lst []]).length :: qs)
    (fun q => ∃ (rs qs : List Nat) (n m : Nat) (S' : Sto), RS.end (RS.seq q _) = .ok (.tup [.ref n, .ref m]) S' /\ Tab S' n rs (Tb.tabs xs xs.length).1 /\ Tab S' m qs (Tb.tabs xs xs.length).2 /\ Kp0 S S' /\ (∀ r ∈ n :: rs, S.length <= r) /\ (∀ r ∈ m :: qs, S.length <= r) /\ ∀ r ∈ n :: rs, r ∉ m :: qs)
    ?_ ?_ (xs.map A.int).length 0 _ _ rfl
    ⟨[], [], _, _, _, rfl, Tab.nil (lst_app lst_lay), Tab.nil lst_lay, k0, (fun r hr => by rw [List.mem_singleton.mp hr]; exact Nat.le_refl _), (fun r hr => by rw [List.mem_singleton.mp hr, lb]; omega), fun r hr hq => by rw [List.mem_singleton.mp hr] at hq; have := List.mem_singleton.mp hq; omega⟩
  · rintro i τ S1 hi ⟨rs, qs, a3, a4, a5, rfl, hT, hQ, k1, fr, fq, dj⟩
    have hi : i < (xs.map A.int).length := hi
    rw [List.length_map] at hi
    generalize hm : (S ++ [O.lst []]).length = m at hQ fq dj
    obtain ⟨z1, z2⟩ := Tb.tabs_small xs i
    have hL1 := k1.lst _ _ (fun z => z) h
    obtain ⟨rs', S2, e2, hT2, k2, fr2⟩ := pir_ok (x := xs.getD i 0) hT (by omega) (fun j => by have := z2 j; omega)
    have hQ2 : Tab S2 m qs (Tb.tabs xs i).2 := hQ.kp k2 fun r hr z => dj r z hr
    generalize hX : xs.getD i 0 = x at e2 hT2
    generalize hTT : (Tb.tabs xs i).1 = T at hT hT2 z1 z2 e2
    generalize hQQ : (Tb.tabs xs i).2 = Q at hQ hQ2
    have hQl : Q.length = T.length := by rw [<- hQQ, <- hTT]; exact Tb.tabs_len xs i
    have hrl := Tb.row_le T x
    have lQ := hQ2.len
    have l12 := k2.len
    have ltQ := hQ.lt
    have ltT := hT.lt
    have hmm : m ∈ m :: qs := List.mem_cons_self ..
    have nx : Tb.tabs xs (i + 1) = (Tb.put T x, Tb.add Q (Tb.row T x) ((i : Int) + 1)) := by rw [<- hTT, <- hQQ, <- hX]; rfl
    have frS : ∀ r ∈ S.length :: rs', S.length <= r := fun r hr => by
      rcases List.mem_cons.mp hr with z | z
      · rw [z]; exact Nat.le_refl _
      · rcases fr2 r z with z | z
        · exact fr r (List.mem_cons_of_mem _ z)
        · exact Nat.le_trans k1.len z
    have dj2 : ∀ r ∈ S.length :: rs', r ∉ m :: qs := fun r hr hq => by
      rcases List.mem_cons.mp hr with z | z
      · exact dj r (by rw [z]; exact List.mem_cons_self ..) hq
      · rcases fr2 r z with z | z
        · exact dj r (List.mem_cons_of_mem _ z) hq
        · have := ltQ r hq; omega
    have k02 : Kp0 S S2 := ⟨Nat.le_trans k1.len k2.len, fun a ys _ e => k2.lst a ys (fun z => absurd (fr a z) (by have := lst_lt e; omega)) (k1.lst a ys (fun z => z) e)⟩
    refine ⟨.tup [.int i, .int x], [.ref L, .ref S.length, .ref m, .int i, .int x, a5], S1, ?_, by simp only [ams, bools, gd_of (show ([_, _] : List A).length = 2 from rfl)], .inl ?_⟩
    · show (lstAt S1 L).bind _ = _
      rw [hL1, Option.bind_some, List.getElem?_map, List.getElem?_eq_getElem hi, <- hX, List.getD_eq_getElem?_getD, List.getElem?_eq_getElem hi]; rfl
    unfold b_tables_1
    simp only [ams, bools, e2, hQ2.top, List.length_map, lQ, hQl]
    by_cases hr : Tb.row T x = T.length
    · rw [show (((Tb.row T x : Nat) : Int) == (T.length : Int)) = true by rw [hr]; simp]
      have lm : lstAt (S2 ++ [O.lst []]) m = some (qs.map .ref) := lst_app hQ2.top
      have hP := hQ2.push (ys := [])
      rw [List.map_nil] at hP
      have hPq := hP.rows.get (i := qs.length) (r := S2.length) (by simp)
      have g4 := hPq.2
      have e4 : (Q ++ [([] : List Int)]).getD qs.length [] = [] := by rw [List.getD_eq_getElem?_getD, lQ]; simp
      rw [e4, List.map_nil] at g4
      have a4' : atI ((qs ++ [S2.length]).map A.ref) (Tb.row T x : Int) = some (.ref S2.length) := atI_at (k := qs.length) (by omega) (by simp)
      have top4 := hP.top
      rw [List.map_append] at top4 a4' g4
      simp only [ams, bools, hQ2.top, lm, List.length_map, gd_lt (show qs.length < 16777216 by omega)]
      simp only [List.map_cons, List.map_nil] at top4 a4' g4
      simp only [ams, bools, top4, a4', g4, List.length_nil, gd_lt (show 0 < 16777216 by decide)]
      have h5 := hP.set (i := qs.length) (r := S2.length) (ys := [(i : Int) + 1]) (by simp)
      have s5 : (Q ++ [[]]).set qs.length [(i : Int) + 1] = Tb.add Q (Tb.row T x) ((i : Int) + 1) := by
        rw [show Tb.row T x = Q.length by omega, Tb.add_end, lQ]; simp
      rw [s5, List.map_append] at h5
      simp only [List.map_cons, List.map_nil, List.nil_append] at h5
      have kk : Kp (fun a => a ∈ m :: qs \/ S2.length <= a) S2 (((S2 ++ [O.lst []]).set m (O.lst (List.map A.ref qs ++ [A.ref S2.length]))).set S2.length (O.lst ([] ++ [A.int ((i : Int) + 1)]))) := (Kp.refl.lay.set (.inl (.inl hmm))).set (.inr (Nat.le_refl _))
      refine ⟨_, _, rfl, rs', qs ++ [S2.length], _, _, _, rfl, ?_, ?_, ?_, frS, fun r hr => ?_, fun r hr hq => ?_⟩
      · rw [nx]
        exact hT2.kp kk fun r hr z => by
          rcases z with z | z
          · exact dj2 r hr z
          · exact absurd (hT2.lt r hr) (by omega)
      · rw [nx]; exact h5
      · exact (k02.lay.set (.inr (fq m hmm))).set (.inr (Nat.le_trans k1.len l12))
      · rcases List.mem_cons.mp hr with z | z
        · rw [z]; exact fq m hmm
        · rcases List.mem_append.mp z with z | z
          · exact fq r (List.mem_cons_of_mem _ z)
          · rw [List.mem_singleton.mp z]; exact Nat.le_trans k1.len l12
      · have hrl := hT2.lt r hr
        rcases List.mem_cons.mp hq with z | z
        · exact dj2 r hr (by rw [z]; exact hmm)
        · rcases List.mem_append.mp z with z | z
          · exact dj2 r hr (List.mem_cons_of_mem _ z)
          · have := List.mem_singleton.mp z; omega
    · rw [show (((Tb.row T x : Nat) : Int) == (T.length : Int)) = false by rw [beq_eq_false_iff_ne]; omega]
      have hrq : Tb.row T x < qs.length := by omega
      generalize hq0 : qs.getD (Tb.row T x) 0 = q
      have hq' : qs[Tb.row T x]? = some q := by rw [<- hq0, List.getD_eq_getElem?_getD, List.getElem?_eq_getElem hrq]; rfl
      have g4 := (hQ2.rows.get hq').2
      have a4' : atI (qs.map A.ref) (Tb.row T x : Int) = some (.ref q) := atI_at rfl (by rw [List.getElem?_map, hq']; rfl)
      have hbq : (Q.getD (Tb.row T x) []).length <= 100 := by
        have e := Tb.getD_len Q (Tb.row T x)
        have := Tb.tabs_shape xs i
        rw [hTT, hQQ] at this
        rw [<- e, this, Tb.getD_len]
        have := z2 (Tb.row T x); omega
      have hmq : q ∈ m :: qs := List.mem_cons_of_mem _ (List.mem_of_getElem? hq')
      simp only [ams, bools, hQ2.top, a4', g4, List.length_map, gd_lt (show (Q.getD (Tb.row T x) []).length < 16777216 by omega)]
      have h5 := hQ2.set (i := Tb.row T x) (r := q) (ys := Q.getD (Tb.row T x) [] ++ [(i : Int) + 1]) hq'
      rw [<- Tb.add_in Q (Tb.row T x) _ (by omega), List.map_append] at h5
      have kk : Kp (· ∈ m :: qs) S2 (S2.set q (O.lst ((Q.getD (Tb.row T x) []).map A.int ++ [A.int ((i : Int) + 1)]))) := Kp.refl.set (.inl hmq)
      refine ⟨_, _, rfl, rs', qs, _, _, _, rfl, ?_, ?_, ?_, frS, fun r hr => fq r hr, fun r hr hq => dj2 r hr hq⟩
      · rw [nx]
        exact hT2.kp kk fun r hr z => dj2 r hr z
      · rw [nx]; exact h5
      · exact k02.set (.inr (fq q hmq))
  · rintro τ S1 ⟨rs, qs, a3, a4, a5, rfl, hT, hQ, k1, fr, fq, dj⟩
    have ek : (elSrc L (xs.map A.int).length).k = xs.length := List.length_map ..
    rw [ek] at hT hQ
    refine ⟨?_, ?_⟩
    · show (match lstAt S1 L with
        | some ys => decide (ys.length = (xs.map A.int).length)
        | none => false) = true
      rw [k1.lst _ _ (fun z => z) h]
      simp
    · simp only [ams, bools, gd_len (show ([_, _] : List A).length <= 16777216 by simp)]
      exact ⟨rs, qs, _, _, _, rfl, hT, hQ, k1, fr, fq, dj⟩
theorem isr_ok {S : Sto} {n m : Nat} {rs qs : List Nat} {T : List (List Int)} (h : Tab S n rs T) (h' : Tab S m qs T) (hl : T.length <= 1000) (hr : ∀ i, (T.getD i []).length <= 1000) : ∃ S', F_law_is_rows [.ref n, .ref m] S = .ok (.bl true) S' /\ Kp0 S S' := by
  have en := aNe_of (h.eq h')
  rw [decide_eq_true rfl] at en
  have hq := h.len
  unfold F_law_is_rows m_law_is_rows N_law_is_rows
  simp only [ams, bools, nlen, Nat.reduceAdd, Nat.reduceSub, h.top, Option.map_some, show isKd .lst "list" = some true from rfl, en, Bool.not_true]
  refine for_lst (n := n) (xs := rs.map .ref) (S1 := S) (iVal_r (by simp only [ams, bools]) h.top)
    (fun i τ S1 => (∃ a2, τ = [.ref n, .ref m, a2]) /\ Kp0 S S1)
    (fun r => ∃ S', RS.end (RS.seq r _) = .ok (.bl true) S' /\ Kp0 S S') ⟨⟨_, rfl⟩, Kp.refl⟩ (fun i τ S1 ⟨_, k⟩ => k.lst _ _ (fun z => z) h.top) ?_ ?_
  · rintro i z τ S1 hz ⟨⟨a2, rfl⟩, k⟩
    rw [List.getElem?_map] at hz
    obtain ⟨r, hr', rfl⟩ := Option.map_eq_some_iff.mp hz
    have hrow := k.lst _ _ (fun z => z) (h.rows.get hr').2
    have hRl := hr i
    generalize T.getD i [] = R at hrow hRl
    refine ⟨[.ref n, .ref m, .ref r], S1, rfl, .inl ?_⟩
    have ec := comp_lst (cap := []) (t := bYes) (e := eAnd (eCall (f2 aIsi) (lCons (eVar 0) (lCons (eC (.ty "int")) (lNil)))) (eNot (eCall (f2 aIsi) (lCons (eVar 0) (lCons (eC (.ty "bool")) (lNil)))))) (τ := [.ref n, .ref m, .ref r]) (src := iVal (eVar 2)) (iVal_r (by simp only [ams, bools]) hrow) hrow (fun _ => true) (fun _ => .bl true)
      (fun x hx => by simp only [ams, bools]) (fun x hx _ => by
        obtain ⟨v, _, rfl⟩ := List.mem_map.mp hx
        simp only [ams, bools, show isKd .int "int" = some true from rfl, show isKd .int "bool" = some false from rfl, Bool.not_false]) (by rw [List.length_map]; omega)
    have eb : ((R.map A.int).filter fun _ => true).map (fun _ => A.bl true) = (R.map fun _ => true).map A.bl := by
      rw [List.filter_eq_self.mpr fun _ _ => rfl, List.map_map, List.map_map]; rfl
    rw [eb] at ec
    have ea : aAll (.ref S1.length) (S1 ++ [O.lst ((R.map fun _ => true).map A.bl)]) = .ok (.bl true) (S1 ++ [O.lst ((R.map fun _ => true).map A.bl)]) := by
      show opt (lstAt _ S1.length) _ = _
      rw [lst_lay, opt_some, bls_map, opt_some]
      congr 2
      simp
    unfold b_law_is_rows_1
    simp only [ams, bools, hrow, Option.map_some, show isKd .lst "list" = some true from rfl, Bool.not_true, ec, ea]
    exact ⟨_, _, rfl, ⟨_, rfl⟩, k.lay⟩
  · rintro τ S1 ⟨⟨a2, rfl⟩, k⟩
    simp only [ams, bools]
    exact ⟨_, rfl, k⟩
end K61
set_option Elab.async false
set_option linter.all false
set_option maxRecDepth 100000
set_option maxHeartbeats 4000000
namespace K61
open PySem L2 Am
open Mo
theorem ixD {l : List Int} {k : Nat} {i : Int} (h : i = k) (hk : k < l.length) : atI (l.map A.int) i = some (.int (l.getD k 0)) := atI_map h (by rw [List.getD_eq_getElem?_getD, List.getElem?_eq_getElem hk]; rfl)
theorem ch_b {f g : A -> A -> Sto -> R A} {ca cb cc : Ex} {τ : List A} {S : Sto} {a b c : A} {x y : Bool} (h1 : ca τ S = .ok a S) (h2 : cb τ S = .ok b S) (h3 : f a b S = .ok (.bl x) S) (h4 : cc τ S = .ok c S) (h5 : g b c S = .ok (.bl y) S) : eCh f g ca cb cc τ S = .ok (.bl (x && y)) S := by
  unfold eCh; rw [h1, R.bind_ok, h2, R.bind_ok, h3, R.bind_ok]
  cases x with
  | true => unfold kCh; show (cc τ S).bind _ = _; rw [h4]; exact h5
  | false => rfl
theorem may_ok {S : Sto} {L k : Nat} {r : List Int} (h : lstAt S L = some (r.map .int)) (hk : k + 1 < r.length) : F_may_change [.ref L, .int k] S = .ok (.bl (may r k)) S := by
  have a0 : atI (r.map A.int) (k : Int) = some (.int (r.getD k 0)) := ixD rfl (by omega)
  have a1 : atI (r.map A.int) ((k : Int) + 1) = some (.int (r.getD (k + 1) 0)) := ixD (k := k + 1) (by omega) hk
  have hlo : (if r.getD (k + 1) 0 < r.getD k 0 then r.getD (k + 1) 0 else r.getD k 0) = lo r k := rfl
  have hhi : (if r.getD (k + 1) 0 > r.getD k 0 then r.getD (k + 1) 0 else r.getD k 0) = hi r k := rfl
  have e2 : (eAnd (eBin aGt (eVar 1) (eC (.int 0))) (eCh aLt aLe (eVar 2) (eBin aIx (eVar 0) (eBin aSub (eVar 1) (eC (.int 1)))) (eVar 3))) [.ref L, .int k, .int (lo r k), .int (hi r k)] S = .ok (.bl (c2 r k)) S := by
    unfold c2
    by_cases c : 0 < k
    · have a3 : atI (r.map A.int) ((k : Int) - 1) = some (.int (r.getD (k - 1) 0)) := ixD (k := k - 1) (by omega) (by omega)
      have ec := ch_b (f := aLt) (g := aLe) (ca := eVar 2) (cb := eBin aIx (eVar 0) (eBin aSub (eVar 1) (eC (.int 1)))) (cc := eVar 3) (τ := [.ref L, .int k, .int (lo r k), .int (hi r k)]) (S := S) (a := .int (lo r k)) (b := .int (r.getD (k - 1) 0)) (c := .int (hi r k)) (x := decide (lo r k < r.getD (k - 1) 0)) (y := decide (r.getD (k - 1) 0 <= hi r k)) rfl (by simp only [ams, bools, h, a3]) (by simp only [ams]) rfl (by simp only [ams])
      simp only [ams, bools, decide_eq_true (show (k : Int) > 0 by omega), ec, decide_eq_true c, Bool.true_and]
    · simp only [ams, bools, decide_eq_false (show ¬ (k : Int) > 0 by omega), decide_eq_false c, Bool.false_and]
  unfold F_may_change m_may_change N_may_change may
  by_cases c : k + 2 < r.length
  · have a3 : atI (r.map A.int) ((k : Int) + 2) = some (.int (r.getD (k + 2) 0)) := ixD (k := k + 2) (by omega) c
    have ec := ch_b (f := aLe) (g := aLt) (ca := eVar 2) (cb := eBin aIx (eVar 0) (eBin aAdd (eVar 1) (eC (.int 2)))) (cc := eVar 3) (τ := [.ref L, .int k, .int (lo r k), .int (hi r k)]) (S := S) (a := .int (lo r k)) (b := .int (r.getD (k + 2) 0)) (c := .int (hi r k)) (x := decide (lo r k <= r.getD (k + 2) 0)) (y := decide (r.getD (k + 2) 0 < hi r k)) rfl (by simp only [ams, bools, h, a3]) (by simp only [ams]) rfl (by simp only [ams])
    have e1 : c1 r k = (decide (lo r k <= r.getD (k + 2) 0) && decide (r.getD (k + 2) 0 < hi r k)) := by unfold c1; rw [decide_eq_true c, Bool.true_and]
    rw [e1]
    cases hb : (decide (lo r k <= r.getD (k + 2) 0) && decide (r.getD (k + 2) 0 < hi r k))
    · rw [hb] at ec
      rw [Bool.false_or, <- e2]
      simp only [ams, bools, nlen, Nat.reduceAdd, Nat.reduceSub, h, a0, a1, hlo, hhi, List.length_map, decide_eq_true (show (k : Int) + 2 < (r.length : Int) by omega), ec]
      simp only [ams, bools, nlen, Nat.reduceAdd, Nat.reduceSub, h, a0, a1, hlo, hhi] at e2 ⊢
      rw [e2]; rfl
    · rw [hb] at ec
      simp only [ams, bools, nlen, Nat.reduceAdd, Nat.reduceSub, h, a0, a1, hlo, hhi, List.length_map, decide_eq_true (show (k : Int) + 2 < (r.length : Int) by omega), ec, Bool.true_or]
  · have e1 : c1 r k = false := by unfold c1; rw [decide_eq_false c]; rfl
    rw [e1, Bool.false_or]
    simp only [ams, bools, nlen, Nat.reduceAdd, Nat.reduceSub, h, a0, a1, hlo, hhi, List.length_map, decide_eq_false (show ¬ (k : Int) + 2 < (r.length : Int) by omega)]
    simp only [ams, bools, nlen, Nat.reduceAdd, Nat.reduceSub] at e2
    rw [e2]; rfl
theorem add_ll {S : Sto} {n m : Nat} {xs ys : List A} (h1 : lstAt S n = some xs) (h2 : lstAt S m = some ys) (h3 : xs.length + ys.length <= 16777216) : aAdd (.ref n) (.ref m) S = .ok (.ref S.length) (S ++ [.lst (xs ++ ys)]) := by
  show opt (lstAt S n) _ = _
  rw [h1]
  show opt (lstAt S m) _ = _
  rw [h2]
  exact gd_t h3
theorem cut_tk (xs : List A) (j : Nat) : cutA xs none (some (j : Int)) = xs.take j := by
  unfold cutA
  rw [HT.sIx_nat, HT.sIx_none, List.drop_zero, Nat.sub_zero]
  by_cases h : j <= xs.length
  · rw [Nat.min_eq_left h]
  · rw [Nat.min_eq_right (by omega), List.take_of_length_le (Nat.le_refl _), List.take_of_length_le (by omega)]
theorem cut_dr (xs : List A) (j : Nat) : cutA xs (some (j : Int)) none = xs.drop j := by
  unfold cutA
  rw [HT.sIx_nat, HT.sIx_none]
  by_cases h : j <= xs.length
  · rw [Nat.min_eq_left h, List.take_of_length_le (by rw [List.length_drop]; omega)]
  · rw [Nat.min_eq_right (by omega), List.drop_of_length_le (Nat.le_refl _), List.drop_of_length_le (by omega)]; simp
theorem cat3 {S : Sto} {L i j : Nat} {r : List Int} {mid : List Int} {ρ : List A} {ci cj : Ex} {cm : Ex} (h : lstAt S L = some (r.map .int)) (hl : r.length <= 100) (hmid : mid.length <= 3)
    (hi : ∀ T, ci (.ref L :: ρ) T = .ok (.int i) T) (hj : ∀ T, cj (.ref L :: ρ) T = .ok (.int j) T) (hm : ∀ T, Kp0 S T -> cm (.ref L :: ρ) T = .ok (.ref T.length) (T ++ [.lst (mid.map .int)])) :
    ∃ S', (eBin aAdd (eBin aAdd (eSl (eVar 0) pNone (pSome ci)) cm) (eSl (eVar 0) (pSome cj) pNone)) (.ref L :: ρ) S = .ok (.ref (S.length + 4)) S' /\ lstAt S' (S.length + 4) = some ((r.take i ++ mid ++ r.drop j).map .int) /\ Kp0 S S' /\ S'.length = S.length + 5 := by
  obtain ⟨S1, hS1⟩ : ∃ S1, S1 = S ++ [O.lst ((r.take i).map .int)] := ⟨_, rfl⟩
  have k1 : Kp0 S S1 := by rw [hS1]; exact Kp.refl.lay
  have e1 : (eSl (eVar 0) pNone (pSome ci)) (.ref L :: ρ) S = .ok (.ref S.length) S1 := by
    simp only [ams, bools, hi, h, cut_tk]
    rw [hS1, List.map_take]
  have e2 := hm S1 k1
  obtain ⟨S2, hS2⟩ : ∃ S2, S2 = S1 ++ [O.lst (mid.map .int)] := ⟨_, rfl⟩
  rw [<- hS2] at e2
  have k2 : Kp0 S1 S2 := by rw [hS2]; exact Kp.refl.lay
  have g1 : lstAt S2 S.length = some ((r.take i).map .int) := k2.lst _ _ (fun z => z) (by rw [hS1]; exact lst_lay)
  have g2 : lstAt S2 S1.length = some (mid.map .int) := by rw [hS2]; exact lst_lay
  have l1 : (r.take i).length <= 100 := by rw [List.length_take]; omega
  have l2 : (r.drop j).length <= 100 := by rw [List.length_drop]; omega
  have e3 := add_ll g1 g2 (by rw [List.length_map, List.length_map]; omega)
  obtain ⟨S3, hS3⟩ : ∃ S3, S3 = S2 ++ [O.lst ((r.take i).map .int ++ mid.map .int)] := ⟨_, rfl⟩
  rw [<- hS3] at e3
  have k3 : Kp0 S2 S3 := by rw [hS3]; exact Kp.refl.lay
  have kk : Kp0 S S3 := (k1.trans k2).trans k3
  have hL3 := kk.lst _ _ (fun z => z) h
  have g3 : lstAt S3 S2.length = some ((r.take i).map .int ++ mid.map .int) := by rw [hS3]; exact lst_lay
  obtain ⟨S4, hS4⟩ : ∃ S4, S4 = S3 ++ [O.lst ((r.drop j).map .int)] := ⟨_, rfl⟩
  have k4 : Kp0 S3 S4 := by rw [hS4]; exact Kp.refl.lay
  have e4 : (eSl (eVar 0) (pSome cj) pNone) (.ref L :: ρ) S3 = .ok (.ref S3.length) S4 := by
    simp only [ams, bools, hj, hL3, cut_dr]
    rw [hS4, List.map_drop]
  have g4 : lstAt S4 S3.length = some ((r.drop j).map .int) := by rw [hS4]; exact lst_lay
  have g34 := k4.lst _ _ (fun z => z) g3
  have e5 := add_ll g34 g4 (by rw [List.length_append, List.length_map, List.length_map, List.length_map]; omega)
  have n1 : S1.length = S.length + 1 := by rw [hS1, List.length_append]; rfl
  have n2 : S2.length = S.length + 2 := by rw [hS2, List.length_append, n1]; rfl
  have n3 : S3.length = S.length + 3 := by rw [hS3, List.length_append, n2]; rfl
  have n4 : S4.length = S.length + 4 := by rw [hS4, List.length_append, n3]; rfl
  refine ⟨S4 ++ [O.lst ((r.take i).map .int ++ mid.map .int ++ (r.drop j).map .int)], ?_, ?_, (kk.trans k4).lay, by rw [List.length_append, n4]; rfl⟩
  · show (((((eSl (eVar 0) pNone (pSome ci)) (.ref L :: ρ) S).bind fun a S1 => (cm (.ref L :: ρ) S1).bind fun b S2 => aAdd a b S2)).bind fun a S1 => ((eSl (eVar 0) (pSome cj) pNone) (.ref L :: ρ) S1).bind fun b S2 => aAdd a b S2) = _
    rw [e1, R.bind_ok, e2, R.bind_ok, e3, R.bind_ok, e4, R.bind_ok, e5, n4]
  · rw [<- n4, lst_lay, List.map_append, List.map_append]
theorem changed_ok {S : Sto} {L k : Nat} {r : List Int} (h : lstAt S L = some (r.map .int)) (hk : k + 1 < r.length) (hl : r.length <= 100) : ∃ S', F_changed [.ref L, .int k] S = .ok (.ref (S.length + 4)) S' /\ lstAt S' (S.length + 4) = some ((chg r k).map .int) /\ Kp0 S S' /\ S'.length = S.length + 5 := by
  have a0 : atI (r.map A.int) (k : Int) = some (.int (r.getD k 0)) := ixD rfl (by omega)
  have a1 : atI (r.map A.int) ((k : Int) + 1) = some (.int (r.getD (k + 1) 0)) := ixD (k := k + 1) (by omega) hk
  obtain ⟨S', e, g, kp, n⟩ := cat3 (S := S) (L := L) (i := k) (j := k + 2) (r := r) (mid := [r.getD (k + 1) 0, r.getD k 0]) (ρ := [.int k]) (ci := eVar 1) (cj := eBin aAdd (eVar 1) (eC (.int 2))) (cm := eLst (lCons (eBin aIx (eVar 0) (eBin aAdd (eVar 1) (eC (.int 1)))) (lCons (eBin aIx (eVar 0) (eVar 1)) (lNil)))) h hl (Nat.le_succ 2) (fun T => rfl) (fun T => by simp only [ams, bools]; rfl) fun T kT => by
    have hT := kT.lst _ _ (fun z => z) h
    simp only [ams, bools, hT, a0, a1]
    rfl
  refine ⟨S', ?_, by rw [chg_eq hk]; exact g, kp, n⟩
  unfold F_changed m_changed N_changed
  have e' : RS.end (sRet _ _ S) = _ := congrArg RS.end (show sRet _ [.ref L, .int k] S = _ from congrArg (fun q => RS.of q fun a S1 => RS.rt a S1) e)
  exact e'
end K61
set_option Elab.async false
set_option linter.all false
set_option maxRecDepth 100000
set_option maxHeartbeats 4000000
namespace K61
open PySem L2 Am
open Mo
theorem comp_accF {s : Src} {g : Tg} {t : Te} {e : Ex} {T : List A -> Prop} (P : Nat -> List A -> Sto -> Prop) (p : Nat -> Bool)
    (step : ∀ i acc τ S, i < s.k -> T τ -> P i acc S -> ∃ x τ1 S1 S2, s.get i S = some x /\ g x τ S = .ok τ1 S1 /\ T τ1 /\ t τ1 S1 = .ok (p i) S2 /\ (p i = false -> P (i + 1) acc S2) /\ (p i = true -> ∃ y S3, e τ1 S2 = .ok y S3 /\ P (i + 1) (acc ++ [y]) S3)) (hfin : ∀ acc S, P s.k acc S -> s.fin S = true) :
    ∀ k i acc τ S, k + i = s.k -> T τ -> P i acc S -> ∃ ys S', compGo s g t e k i τ S = .ok ys S' /\ P s.k (acc ++ ys) S'
  | 0, i, acc, τ, S, hk, hT, hP => by
    have : i = s.k := by omega
    subst this
    exact ⟨[], S, by unfold compGo; rw [if_pos (hfin acc S hP)], by rw [List.append_nil]; exact hP⟩
  | k + 1, i, acc, τ, S, hk, hT, hP => by
    obtain ⟨x, τ1, S1, S2, hx, hg, hT1, ht, hF, hTr⟩ := step i acc τ S (by omega) hT hP
    unfold compGo
    rw [hx, opt_some, hg, R.bindN_ok', ht, R.bindN_ok']
    cases hp : p i with
    | false =>
      obtain ⟨ys, S', h1, h2⟩ := comp_accF P p step hfin k (i + 1) acc τ1 S2 (by omega) hT1 (hF hp)
      exact ⟨ys, S', by simpa using h1, h2⟩
    | true =>
      obtain ⟨y, S3, he, hP3⟩ := hTr hp
      obtain ⟨ys, S', h1, h2⟩ := comp_accF P p step hfin k (i + 1) (acc ++ [y]) τ1 S3 (by omega) hT1 hP3
      refine ⟨y :: ys, S', ?_, by rw [List.append_assoc] at h2; exact h2⟩
      show (e τ1 S2).bindN _ = _
      rw [he, R.bindN_ok', h1]
      rfl
theorem rsA_rows {S : Sto} : ∀ {rs : List Nat} {T : List (List Int)}, Rows S rs T -> rsA S (rs.map .ref) = some T
  | [], [], _ => rfl
  | r :: rs, x :: T, h => by
    show ((lstAt S r).bind fun xs => (A.ints xs).bind fun ks => (rsA S (rs.map .ref)).map fun q => ks :: q) = _
    rw [h.1, Option.bind_some, ints_map, Option.bind_some, rsA_rows h.2]; rfl
  | [], x :: T, h => h.elim
  | r :: rs, [], h => h.elim
theorem getD_inj {rs : List Nat} (nd : rs.Nodup) {i j : Nat} (hi : i < rs.length) (hj : j < rs.length) (h : rs.getD i 0 = rs.getD j 0) : i = j := by
  rw [List.getD_eq_getElem?_getD, List.getD_eq_getElem?_getD, List.getElem?_eq_getElem hi, List.getElem?_eq_getElem hj] at h
  exact (List.getElem_inj nd).mp h
theorem plX_lt {T : List (List Int)} {i : Nat} (h : i ∈ plX T) : i < T.length := List.mem_range.mp ((ordX_perm _ _).mem_iff.mp h)
theorem sort_tab {S : Sto} {n : Nat} {rs : List Nat} {T : List (List Int)} (h : Tab S n rs T) : ∃ fs : List Nat, aSortX (.ref n) S = .ok (.ref S.length) (S ++ [.lst (fs.map .ref)]) /\ Tab (S ++ [.lst (fs.map .ref)]) S.length fs (sortT T) /\ ∀ q ∈ fs, q ∈ rs := by
  have hl := h.len
  have hlt := h.rows.lt
  have gm : ∀ i, i < T.length -> rs.getD i 0 ∈ rs := fun i hi => by rw [List.getD_eq_getElem?_getD, List.getElem?_eq_getElem (by omega)]; exact List.getElem_mem _
  refine ⟨(plX T).map fun i => rs.getD i 0, ?_, ⟨lst_lay, ?_, ?_⟩, fun q hq => ?_⟩
  · show aSortR n S = _
    unfold aSortR
    rw [h.top, opt_some, rsA_rows h.rows, opt_some, List.map_map]
    have : (plX T).map (fun i => (rs.map A.ref).getD i .non) = (plX T).map (A.ref ∘ fun i => rs.getD i 0) := List.map_congr_left fun i hi => by
      have := plX_lt hi
      show (rs.map A.ref).getD i .non = .ref (rs.getD i 0)
      rw [List.getD_eq_getElem?_getD, List.getElem?_map, List.getElem?_eq_getElem (by omega), List.getD_eq_getElem?_getD, List.getElem?_eq_getElem (by omega)]; rfl
    rw [this]
  · rw [<- plX_sort T]
    have : ∀ (l : List Nat), (∀ i ∈ l, i < T.length) -> Rows (S ++ [.lst (((plX T).map fun i => rs.getD i 0).map .ref)]) (l.map fun i => rs.getD i 0) (l.map fun i => T.getD i []) := by
      intro l
      induction l with
      | nil => intro _; trivial
      | cons i l ih =>
        intro hh
        refine ⟨lst_app ?_, ih fun j hj => hh j (List.mem_cons_of_mem _ hj)⟩
        have hi := hh i (List.mem_cons_self ..)
        exact (h.rows.get (i := i) (r := rs.getD i 0) (by rw [List.getD_eq_getElem?_getD, List.getElem?_eq_getElem (by omega)]; rfl)).2
    exact this _ fun i hi => plX_lt hi
  · rw [List.nodup_cons]
    refine ⟨fun z => ?_, ?_⟩
    · obtain ⟨i, hi, e⟩ := List.mem_map.mp z
      have := hlt _ (gm i (plX_lt hi))
      omega
    · unfold List.Nodup
      rw [List.pairwise_map]
      have nd : (plX T).Nodup := (ordX_perm _ _).nodup_iff.mpr List.nodup_range
      exact List.Pairwise.imp_of_mem (fun {a b} ha hb hab z => hab (getD_inj (List.nodup_cons.mp h.nd).2 (by have := plX_lt ha; omega) (by have := plX_lt hb; omega) z)) nd
  · obtain ⟨i, hi, rfl⟩ := List.mem_map.mp hq
    exact gm i (plX_lt hi)
theorem range_filter_snoc (p : Nat -> Bool) (i : Nat) : (List.range (i + 1)).filter p = (List.range i).filter p ++ (if p i = true then [i] else []) := by
  rw [List.range_succ, List.filter_append]
  congr 1
  by_cases c : p i = true
  · rw [if_pos c, List.filter_cons_of_pos c]; rfl
  · rw [if_neg c, List.filter_cons_of_neg c]; rfl
theorem moved_ok {S : Sto} {L : Nat} {r : List Int} (h : lstAt S L = some (r.map .int)) (hl : r.length <= 100) : ∃ (F : Nat) (fs : List Nat) (S' : Sto), F_moved [.ref L] S = .ok (.ref F) S' /\ Tab S' F fs (sortT (mvs r)) /\ Kp0 S S' /\ ∀ q ∈ F :: fs, S.length <= q := by
  obtain ⟨ys, S1, g1, rs, hys, hrows, hnd, hge, hL1, k1⟩ := comp_accF (s := rngSrc 0 ((r.length : Int) - 1)) (g := gNm 0) (t := eTru (eFn F_may_change (lCons (eVar 1) (lCons (eVar 0) (lNil))))) (e := eFn F_changed (lCons (eVar 1) (lCons (eVar 0) (lNil)))) (T := fun τ => ∃ y, τ = [y, .ref L])
    (fun i acc T => ∃ rs : List Nat, acc = rs.map .ref /\ Rows T rs (((List.range i).filter (may r)).map (chg r)) /\ rs.Nodup /\ (∀ q ∈ rs, S.length <= q) /\ lstAt T L = some (r.map .int) /\ Kp0 S T) (may r)
    (fun i acc τ T hi ⟨y, hy⟩ ⟨rs, ha, hr, hnd, hge, hL, kT⟩ => by
      have hi : i < ((r.length : Int) - 1 - 0).toNat := hi
      subst hy
      have hk : i + 1 < r.length := by omega
      have em := may_ok hL hk
      refine ⟨.int (0 + (i : Int)), [.int (0 + (i : Int)), .ref L], T, T, if_pos hi, rfl, ⟨_, rfl⟩, by rw [show (0 : Int) + (i : Int) = i by omega]; simp only [ams, bools, em], fun hp => ?_, fun hp => ?_⟩
      · refine ⟨rs, ha, ?_, hnd, hge, hL, kT⟩
        rw [range_filter_snoc, hp]; simpa using hr
      · obtain ⟨T', e, g, kp, n⟩ := changed_ok hL hk hl
        refine ⟨.ref (T.length + 4), T', by rw [show (0 : Int) + (i : Int) = i by omega]; simp only [ams, bools, e], rs ++ [T.length + 4], by rw [ha, List.map_append]; rfl, ?_, ?_, fun q hq => ?_, kp.lst _ _ (fun z => z) hL, kT.trans kp⟩
        · rw [range_filter_snoc, hp, List.map_append]
          exact (hr.mono fun q _ xs e => kp.lst q xs (fun z => z) e).app ⟨g, trivial⟩
        · rw [List.nodup_append]
          refine ⟨hnd, by simp, fun a ha' b hb z => ?_⟩
          have hb' : b = T.length + 4 := by simpa using hb
          have := hr.lt a ha'
          omega
        · have kl := kT.len
          rcases List.mem_append.mp hq with z | z
          · exact hge q z
          · have : q = T.length + 4 := by simpa using z
            omega)
    (fun acc T _ => rfl) ((r.length : Int) - 1 - 0).toNat 0 [] (capA [none, some 0] [.ref L]) S rfl ⟨_, rfl⟩ ⟨[], rfl, trivial, List.nodup_nil, (fun _ h => nomatch h), h, Kp.refl⟩
  rw [List.nil_append] at hys
  have hrows : Rows S1 rs (mvs r) := by
    have e : (rngSrc 0 ((r.length : Int) - 1)).k = r.length - 1 := by show ((r.length : Int) - 1 - 0).toNat = _; omega
    rw [e] at hrows
    exact hrows
  have hrl := hrows.len
  have ml : (mvs r).length <= 100 := by
    unfold mvs
    rw [List.length_map]
    have := List.length_filter_le (may r) (List.range (r.length - 1))
    rw [List.length_range] at this
    omega
  have ec : eComp [none, some 0] (iRng1 (eBin aSub (eCall (f1 aLen) (lCons (eVar 0) (lNil))) (eC (.int 1)))) (gNm 0) (eTru (eFn F_may_change (lCons (eVar 1) (lCons (eVar 0) (lNil))))) (eFn F_changed (lCons (eVar 1) (lCons (eVar 0) (lNil)))) [.ref L] S = .ok (.ref S1.length) (S1 ++ [.lst (rs.map .ref)]) := by
    unfold eComp
    rw [iRng1_ap (S1 := S) (j := (r.length : Int) - 1) (by simp only [ams, bools, h, List.length_map]) (bnd_of (by omega) (by omega)), R.bind_ok]
    show R.bindN (compGo (rngSrc 0 ((r.length : Int) - 1)) _ _ _ ((r.length : Int) - 1 - 0).toNat 0 _ _) _ = _
    rw [g1, R.bindN_ok', hys, newL_ok (by rw [List.length_map]; omega)]
  have t1 : Tab (S1 ++ [.lst (rs.map .ref)]) S1.length rs (mvs r) := ⟨lst_lay, hrows.mono fun q _ xs e => lst_app e, List.nodup_cons.mpr ⟨fun z => by have := hrows.lt _ z; omega, hnd⟩⟩
  obtain ⟨fs, e2, t2, sub⟩ := sort_tab t1
  have kl := k1.len
  refine ⟨_, fs, _, ?_, t2, k1.lay.lay, fun q hq => ?_⟩
  · unfold F_moved m_moved N_moved
    simp only [ams, bools, nlen, Nat.reduceAdd, Nat.reduceSub, ec, e2]
  · rcases List.mem_cons.mp hq with rfl | z
    · rw [List.length_append]; omega
    · exact hge q (sub q z)
theorem in_rows {S : Sto} {o : Nat} {x : List Int} (ho : lstAt S o = some (x.map .int)) : ∀ {rs : List Nat} {T : List (List Int)}, Rows S rs T -> inA S (.ref o) (rs.map .ref) = some (decide (x ∈ T))
  | [], [], _ => rfl
  | r :: rs, y :: T, h => by
    show (eqA S 12 (.ref r) (.ref o)).bind _ = _
    rw [eq_il h.1 ho, Option.bind_some, in_rows ho h.2]
    show some (decide (y = x) || decide (x ∈ T)) = _
    congr 1
    rw [Bool.eq_iff_iff, Bool.or_eq_true, decide_eq_true_iff, decide_eq_true_iff, decide_eq_true_iff, List.mem_cons]
    constructor
    · rintro (z | z)
      · exact .inl z.symm
      · exact .inr z
    · rintro (z | z)
      · exact .inl z.symm
      · exact .inr z
  | [], x :: T, h => h.elim
  | r :: rs, [], h => h.elim
end K61
set_option Elab.async false
set_option linter.all false
set_option maxRecDepth 100000
set_option maxHeartbeats 4000000
namespace K61
open PySem L2 Am
open Mo
theorem bOr_b {t u : Te} {τ : List A} {S : Sto} {x y : Bool} (h1 : t τ S = .ok x S) (h2 : u τ S = .ok y S) : bOr t u τ S = .ok (x || y) S := by
  cases x with
  | true => simp only [ams, bools, h1, Bool.true_or]
  | false => simp only [ams, bools, h1, h2, Bool.false_or]
theorem toB_b {c : Ex} {τ : List A} {S : Sto} {b : Bool} (h : c τ S = .ok (.bl b) S) : toB c τ S = .ok b S := by simp only [ams, h]
theorem app_row {S S0 : Sto} {L D k i1 i2 i3 : Nat} {ds : List Nat} {row : List Int} {T : List (List Int)} {x y z : Int} {τ : List A} (hτ : τ = [.ref L, .ref D, .int k, .int (row.getD k 0), .int (row.getD (k + 1) 0), .int (row.getD (k + 2) 0)]) (h : lstAt S L = some (row.map .int)) (hl : row.length <= 100)
    (t : Tab S D ds T) (hT : T.length <= 1000) (kp : Kp0 S0 S) (hD : S0.length <= D) (hLD : L < S0.length) (e1 : ∀ U, eVar i1 τ U = .ok (.int x) U) (e2 : ∀ U, eVar i2 τ U = .ok (.int y) U) (e3 : ∀ U, eVar i3 τ U = .ok (.int z) U) :
    ∃ S', sExpr (eMe mAppend (eVar 1) (lCons (eBin aAdd (eBin aAdd (eSl (eVar 0) pNone (pSome (eVar 2))) (eLst (lCons (eVar i1) (lCons (eVar i2) (lCons (eVar i3) (lNil)))))) (eSl (eVar 0) (pSome (eBin aAdd (eVar 2) (eC (.int 3)))) pNone)) (lNil))) τ S = .nx τ S' /\ Tab S' D (ds ++ [S.length + 4]) (T ++ [row.take k ++ [x, y, z] ++ row.drop (k + 3)]) /\ Kp0 S0 S' /\ lstAt S' L = some (row.map .int) := by
  have em : ∀ U, eLst (lCons (eVar i1) (lCons (eVar i2) (lCons (eVar i3) (lNil)))) τ U = .ok (.ref U.length) (U ++ [.lst ([x, y, z].map .int)]) := fun U => by
    show ((eVar i1 τ U).bind fun a S1 => ((((eVar i2 τ S1).bind fun b S2 => (((eVar i3 τ S2).bind fun c S3 => (R.ok ([] : List A) S3).bind fun cs S4 => .ok (c :: cs) S4)).bind fun cs S4 => .ok (b :: cs) S4)).bind fun cs S4 => .ok (a :: cs) S4)).bind (fun as S1 => newL as S1) = _
    rw [e1, R.bind_ok, e2, R.bind_ok, e3]
    rfl
  subst hτ
  obtain ⟨S', e, g, k1, n⟩ := cat3 (S := S) (L := L) (i := k) (j := k + 3) (r := row) (mid := [x, y, z]) (ρ := [.ref D, .int k, .int (row.getD k 0), .int (row.getD (k + 1) 0), .int (row.getD (k + 2) 0)]) (ci := eVar 2) (cj := eBin aAdd (eVar 2) (eC (.int 3))) (cm := eLst (lCons (eVar i1) (lCons (eVar i2) (lCons (eVar i3) (lNil))))) h hl (Nat.le_refl 3) (fun T => rfl) (fun T => by simp only [ams, bools]; rfl) fun T kT => em T
  have t' := t.kp0 k1
  have tl := t'.len
  have eA : mAppend (.ref D) [.ref (S.length + 4)] S' = .ok .non (S'.set D (.lst ((ds ++ [S.length + 4]).map .ref))) := by
    show opt (lstAt S' D) _ = _
    rw [t'.top, opt_some, List.map_append]
    exact gd_of (by rw [List.length_map, sizeLine_eq]; omega)
  have lt := t.lt D (List.mem_cons_self ..)
  refine ⟨S'.set D (.lst ((ds ++ [S.length + 4]).map .ref)), ?_, ⟨lst_set (by omega), ?_, ?_⟩, (kp.trans k1).set (.inr hD), ?_⟩
  · have : (eMe mAppend (eVar 1) (lCons (eBin aAdd (eBin aAdd (eSl (eVar 0) pNone (pSome (eVar 2))) (eLst (lCons (eVar i1) (lCons (eVar i2) (lCons (eVar i3) (lNil)))))) (eSl (eVar 0) (pSome (eBin aAdd (eVar 2) (eC (.int 3)))) pNone)) (lNil))) [.ref L, .ref D, .int k, .int (row.getD k 0), .int (row.getD (k + 1) 0), .int (row.getD (k + 2) 0)] S = .ok .non (S'.set D (.lst ((ds ++ [S.length + 4]).map .ref))) := by
      unfold eMe
      rw [show eVar 1 [.ref L, .ref D, .int k, .int (row.getD k 0), .int (row.getD (k + 1) 0), .int (row.getD (k + 2) 0)] S = .ok (.ref D) S from rfl, R.bind_ok]
      show opt ((A.ref D).lst? S) _ = _
      rw [show (A.ref D).lst? S = some (ds.map .ref) from t.top, opt_some]
      show ((((eBin aAdd (eBin aAdd (eSl (eVar 0) pNone (pSome (eVar 2))) (eLst (lCons (eVar i1) (lCons (eVar i2) (lCons (eVar i3) (lNil)))))) (eSl (eVar 0) (pSome (eBin aAdd (eVar 2) (eC (.int 3)))) pNone)) (.ref L :: [.ref D, .int k, .int (row.getD k 0), .int (row.getD (k + 1) 0), .int (row.getD (k + 2) 0)]) S).bind fun a S1 => (R.ok ([] : List A) S1).bind fun as S2 => .ok (a :: as) S2).bind _) = _
      rw [e]
      exact eA
    show RS.of (eMe mAppend _ _ _ S) _ = _
    rw [this]; rfl
  · refine Rows.app (t'.rows.mono fun q hq xs e => ?_) ⟨?_, trivial⟩
    · rw [lst_set_ne (fun z => (List.nodup_cons.mp t.nd).1 (by rw [z]; exact hq))]; exact e
    · rw [lst_set_ne (by omega)]; exact g
  · rw [<- List.cons_append, List.nodup_append]
    refine ⟨t.nd, by simp, fun a ha b hb z => ?_⟩
    have := t.lt a ha
    have hb' : b = S.length + 4 := by simpa using hb
    omega
  · rw [lst_set_ne (show D ≠ L by omega)]
    exact k1.lst _ _ (fun z => z) h
theorem lm_ok {S : Sto} {L : Nat} {r : List Int} (h : lstAt S L = some (r.map .int)) (hl : r.length <= 100) : ∃ (D : Nat) (ds : List Nat) (S' : Sto), F_law_moved [.ref L] S = .ok (.ref D) S' /\ Tab S' D ds (lms r) /\ Kp0 S S' /\ ∀ q ∈ D :: ds, S.length <= q := by
  have lL := lst_lt h
  unfold F_law_moved m_law_moved N_law_moved
  simp only [ams, bools, nlen, Nat.reduceAdd, Nat.reduceSub]
  refine for_rng (lo := 0) (hi := (r.length : Int) - 2) (S1 := S ++ [.lst []]) (show i_law_moved_1 _ _ = _ from iRng1_ap (by simp only [ams, bools, lst_app h, List.length_map]) (bnd_of (by omega) (by omega)))
    (fun t τ S1 => (∃ a2 a3 a4 a5, τ = [.ref L, .ref S.length, a2, a3, a4, a5]) /\ ∃ ds, Tab S1 S.length ds ((List.range t).flatMap (lrow r)) /\ (∀ q ∈ ds, S.length <= q) /\ Kp0 S S1 /\ lstAt S1 L = some (r.map .int))
    (fun q => ∃ (D : Nat) (ds : List Nat) (S' : Sto), RS.end (RS.seq q _) = .ok (.ref D) S' /\ Tab S' D ds (lms r) /\ Kp0 S S' /\ ∀ q ∈ D :: ds, S.length <= q) ⟨⟨_, _, _, _, rfl⟩, [], Tab.nil lst_lay, (fun _ h => nomatch h), Kp.refl.lay, lst_app h⟩ ?_ ?_
  · rintro k τ S1 hk ⟨⟨a2, a3, a4, a5, rfl⟩, ds, t, hge, kp, hL⟩
    left
    have kl : k + 2 < r.length := by omega
    rw [show (0 : Int) + (k : Int) = k by omega]
    have x0 : atI (r.map A.int) (k : Int) = some (.int (r.getD k 0)) := ixD rfl (by omega)
    have x1 : atI (r.map A.int) ((k : Int) + 1) = some (.int (r.getD (k + 1) 0)) := ixD (k := k + 1) (by omega) (by omega)
    have x2 : atI (r.map A.int) ((k : Int) + 2) = some (.int (r.getD (k + 2) 0)) := ixD (k := k + 2) (by omega) kl
    have ep : sPar3 3 4 5 (lCons (eBin aIx (eVar 0) (eVar 2)) (lCons (eBin aIx (eVar 0) (eBin aAdd (eVar 2) (eC (.int 1)))) (lCons (eBin aIx (eVar 0) (eBin aAdd (eVar 2) (eC (.int 2)))) (lNil)))) [.ref L, .ref S.length, .int k, a3, a4, a5] S1 = .nx [.ref L, .ref S.length, .int k, .int (r.getD k 0), .int (r.getD (k + 1) 0), .int (r.getD (k + 2) 0)] S1 :=
      sPar3_ap (by simp only [ams, bools, hL, x0, x1, x2])
    have tl : ∀ n, ((List.range n).flatMap (lrow r)).length <= 2 * n := fun n => by
      induction n with
      | zero => exact Nat.le_refl _
      | succ n ih =>
        rw [List.range_succ, List.flatMap_append, List.length_append, List.flatMap_cons, List.flatMap_nil, List.append_nil]
        have : (lrow r n).length <= 2 := by
          unfold lrow
          rw [List.length_append]
          split <;> split <;> simp
        omega
    have tk := tl k
    have chA : ∀ T : Sto, (bOr (toB (eCh aLe aLt (eVar 3) (eVar 5) (eVar 4))) (toB (eCh aLe aLt (eVar 4) (eVar 5) (eVar 3)))) [.ref L, .ref S.length, .int k, .int (r.getD k 0), .int (r.getD (k + 1) 0), .int (r.getD (k + 2) 0)] T = .ok (lA r k) T := fun T =>
      bOr_b (toB_b (ch_b (a := .int (r.getD k 0)) (b := .int (r.getD (k + 2) 0)) (c := .int (r.getD (k + 1) 0)) rfl rfl (by simp only [ams]) rfl (by simp only [ams]))) (toB_b (ch_b (a := .int (r.getD (k + 1) 0)) (b := .int (r.getD (k + 2) 0)) (c := .int (r.getD k 0)) rfl rfl (by simp only [ams]) rfl (by simp only [ams])))
    have chB : ∀ T : Sto, (bOr (toB (eCh aLt aLe (eVar 4) (eVar 3) (eVar 5))) (toB (eCh aLt aLe (eVar 5) (eVar 3) (eVar 4)))) [.ref L, .ref S.length, .int k, .int (r.getD k 0), .int (r.getD (k + 1) 0), .int (r.getD (k + 2) 0)] T = .ok (lB r k) T := fun T =>
      bOr_b (toB_b (ch_b (a := .int (r.getD (k + 1) 0)) (b := .int (r.getD k 0)) (c := .int (r.getD (k + 2) 0)) rfl rfl (by simp only [ams]) rfl (by simp only [ams]))) (toB_b (ch_b (a := .int (r.getD (k + 2) 0)) (b := .int (r.getD k 0)) (c := .int (r.getD (k + 1) 0)) rfl rfl (by simp only [ams]) rfl (by simp only [ams])))
    have drp : ∀ {i : Nat}, i < r.length -> r.drop i = r.getD i 0 :: r.drop (i + 1) := fun {i} hi => by
      rw [List.drop_eq_getElem_cons hi, List.getD_eq_getElem?_getD, List.getElem?_eq_getElem hi]; rfl
    have w1 : r.take k ++ [r.getD (k + 1) 0, r.getD k 0, r.getD (k + 2) 0] ++ r.drop (k + 3) = chg r k := by
      rw [chg_eq (by omega), drp kl]; simp
    have w2 : r.take k ++ [r.getD k 0, r.getD (k + 2) 0, r.getD (k + 1) 0] ++ r.drop (k + 3) = chg r (k + 1) := by
      rw [chg_eq (show k + 1 + 1 < r.length by omega)]
      have : r.take (k + 1) = r.take k ++ [r.getD k 0] := by
        rw [List.take_succ_eq_append_getElem (show k < r.length by omega), List.getD_eq_getElem?_getD, List.getElem?_eq_getElem (show k < r.length by omega)]; rfl
      rw [this]; simp
    have st1 : ∃ S2 ds2, (sIf (bOr (toB (eCh aLe aLt (eVar 3) (eVar 5) (eVar 4))) (toB (eCh aLe aLt (eVar 4) (eVar 5) (eVar 3))))
 (sExpr (eMe mAppend (eVar 1) (lCons (eBin aAdd (eBin aAdd (eSl (eVar 0) pNone (pSome (eVar 2))) (eLst (lCons (eVar 4) (lCons (eVar 3) (lCons (eVar 5) (lNil)))))) (eSl (eVar 0) (pSome (eBin aAdd (eVar 2) (eC (.int 3)))) pNone)) (lNil))))
 (sNil)) [.ref L, .ref S.length, .int k, .int (r.getD k 0), .int (r.getD (k + 1) 0), .int (r.getD (k + 2) 0)] S1 = .nx [.ref L, .ref S.length, .int k, .int (r.getD k 0), .int (r.getD (k + 1) 0), .int (r.getD (k + 2) 0)] S2 /\ Tab S2 S.length ds2 ((List.range k).flatMap (lrow r) ++ (if lA r k = true then [chg r k] else [])) /\ (∀ q ∈ ds2, S.length <= q) /\ Kp0 S S2 /\ lstAt S2 L = some (r.map .int) := by
      cases c : lA r k
      · refine ⟨S1, ds, ?_, by simpa using t, hge, kp, hL⟩
        simp only [sIf_ap, chA, c, R.bind_ok, RS.of_ok, kIf_f, sNil_ap]
      · obtain ⟨S2, e2, t2, k2, h2⟩ := app_row (i1 := 4) (i2 := 3) (i3 := 5) (x := r.getD (k + 1) 0) (y := r.getD k 0) (z := r.getD (k + 2) 0) rfl hL hl t (by omega) kp (Nat.le_refl _) lL (fun U => rfl) (fun U => rfl) (fun U => rfl)
        rw [w1] at t2
        refine ⟨S2, _, ?_, t2, fun q hq => ?_, k2, h2⟩
        · simp only [sIf_ap, chA, c, R.bind_ok, RS.of_ok, kIf_t]
          exact e2
        · rcases List.mem_append.mp hq with z | z
          · exact hge q z
          · have := kp.len
            have : q = S1.length + 4 := by simpa using z
            omega
    obtain ⟨S2, ds2, e2, t2, hge2, k2, h2⟩ := st1
    have st2 : ∃ S3 ds3, (sIf (bOr (toB (eCh aLt aLe (eVar 4) (eVar 3) (eVar 5))) (toB (eCh aLt aLe (eVar 5) (eVar 3) (eVar 4))))
 (sExpr (eMe mAppend (eVar 1) (lCons (eBin aAdd (eBin aAdd (eSl (eVar 0) pNone (pSome (eVar 2))) (eLst (lCons (eVar 3) (lCons (eVar 5) (lCons (eVar 4) (lNil)))))) (eSl (eVar 0) (pSome (eBin aAdd (eVar 2) (eC (.int 3)))) pNone)) (lNil))))
 (sNil)) [.ref L, .ref S.length, .int k, .int (r.getD k 0), .int (r.getD (k + 1) 0), .int (r.getD (k + 2) 0)] S2 = .nx [.ref L, .ref S.length, .int k, .int (r.getD k 0), .int (r.getD (k + 1) 0), .int (r.getD (k + 2) 0)] S3 /\ Tab S3 S.length ds3 ((List.range k).flatMap (lrow r) ++ (if lA r k = true then [chg r k] else []) ++ (if lB r k = true then [chg r (k + 1)] else [])) /\ (∀ q ∈ ds3, S.length <= q) /\ Kp0 S S3 /\ lstAt S3 L = some (r.map .int) := by
      cases c : lB r k
      · refine ⟨S2, ds2, ?_, by simpa using t2, hge2, k2, h2⟩
        simp only [sIf_ap, chB, c, R.bind_ok, RS.of_ok, kIf_f, sNil_ap]
      · have tl2 : ((List.range k).flatMap (lrow r) ++ (if lA r k = true then [chg r k] else [])).length <= 1000 := by
          rw [List.length_append]
          have : (if lA r k = true then [chg r k] else []).length <= 1 := by split <;> simp
          omega
        obtain ⟨S3, e3, t3, k3, h3⟩ := app_row (i1 := 3) (i2 := 5) (i3 := 4) (x := r.getD k 0) (y := r.getD (k + 2) 0) (z := r.getD (k + 1) 0) rfl h2 hl t2 tl2 k2 (Nat.le_refl _) lL (fun U => rfl) (fun U => rfl) (fun U => rfl)
        rw [w2] at t3
        refine ⟨S3, _, ?_, t3, fun q hq => ?_, k3, h3⟩
        · simp only [sIf_ap, chB, c, R.bind_ok, RS.of_ok, kIf_t]
          exact e3
        · rcases List.mem_append.mp hq with z | z
          · exact hge2 q z
          · have := k2.len
            have : q = S2.length + 4 := by simpa using z
            omega
    obtain ⟨S3, ds3, e3, t3, hge3, k3, h3⟩ := st2
    refine ⟨[.ref L, .ref S.length, .int k, .int (r.getD k 0), .int (r.getD (k + 1) 0), .int (r.getD (k + 2) 0)], S3, ?_, ⟨_, _, _, _, rfl⟩, ds3, ?_, hge3, k3, h3⟩
    · unfold b_law_moved_1
      show RS.seq (sPar3 3 4 5 _ [.ref L, .ref S.length, .int k, a3, a4, a5] S1) _ = _
      rw [ep]
      show RS.seq (sIf _ _ _ _ S1) _ = _
      rw [e2]
      exact e3
    · rw [List.range_succ, List.flatMap_append, List.flatMap_cons, List.flatMap_nil, List.append_nil]
      unfold lrow
      rw [<- List.append_assoc]
      exact t3
  · rintro τ S1 ⟨⟨a2, a3, a4, a5, rfl⟩, ds, t, hge, kp, hL⟩
    simp only [ams, bools]
    refine ⟨_, ds, _, rfl, ?_, kp, fun q hq => ?_⟩
    · unfold lms
      rw [show r.length - 2 = ((r.length : Int) - 2 - 0).toNat by omega]
      exact t
    · rcases List.mem_cons.mp hq with rfl | z
      · exact Nat.le_refl _
      · exact hge q z
end K61
set_option Elab.async false
set_option linter.all false
set_option maxRecDepth 100000
set_option maxHeartbeats 4000000
namespace K61
open PySem L2 Am
open Mo
theorem lrow_len (r : List Int) (k : Nat) : (lrow r k).length <= 2 := by
  unfold lrow
  rw [List.length_append]
  split <;> split <;> simp
theorem lms_len (r : List Int) : (lms r).length <= 2 * r.length := by
  have : ∀ n, ((List.range n).flatMap (lrow r)).length <= 2 * n := fun n => by
    induction n with
    | zero => exact Nat.le_refl _
    | succ n ih =>
      rw [List.range_succ, List.flatMap_append, List.length_append, List.flatMap_cons, List.flatMap_nil, List.append_nil]
      have := lrow_len r n
      omega
  have := this (r.length - 2)
  unfold lms
  omega
theorem dd_take {T : List (List Int)} {i : Nat} (h : i < T.length) : dd [] (T.take (i + 1)) = if T.getD i [] ∈ dd [] (T.take i) then dd [] (T.take i) else dd [] (T.take i) ++ [T.getD i []] := by
  have e : T.getD i [] = T[i] := by rw [List.getD_eq_getElem?_getD, List.getElem?_eq_getElem h]; rfl
  rw [List.take_succ_eq_append_getElem h, dd_snoc, e]
theorem due_ok {S : Sto} {L : Nat} {r : List Int} (h : lstAt S L = some (r.map .int)) (hl : r.length <= 100) : ∃ (D : Nat) (ds : List Nat) (S' : Sto), F_law_due [.ref L] S = .ok (.ref D) S' /\ Tab S' D ds (sortT (mvs r)) /\ Kp0 S S' /\ ∀ q ∈ D :: ds, S.length <= q := by
  have k0 : Kp0 S (S ++ [.lst []]) := Kp.refl.lay
  obtain ⟨M, ms, S1, e1, t1, k1, g1⟩ := lm_ok (S := S ++ [.lst []]) (lst_app h) hl
  obtain ⟨fs, e2, t2, sub⟩ := sort_tab t1
  have k2 : Kp0 S1 (S1 ++ [.lst (fs.map .ref)]) := Kp.refl.lay
  have n0 : (S ++ [O.lst []]).length = S.length + 1 := by rw [List.length_append]; rfl
  have hD : lstAt (S1 ++ [.lst (fs.map .ref)]) S.length = some [] := lst_app (k1.lst _ _ (fun z => z) lst_lay)
  have kk := (k0.trans k1).trans k2
  have fl := t2.len
  have sl : (sortT (lms r)).length = (lms r).length := (sortT_perm _).length_eq
  have ll := lms_len r
  have fge : ∀ q ∈ fs, S.length < q := fun q hq => by have := g1 q (List.mem_cons_of_mem _ (sub q hq)); omega
  unfold F_law_due m_law_due N_law_due
  simp only [ams, bools, nlen, Nat.reduceAdd, Nat.reduceSub]
  obtain ⟨S2, hS2⟩ : ∃ S2, S2 = S1 ++ [O.lst (fs.map .ref)] := ⟨_, rfl⟩
  rw [<- hS2] at e2 t2 k2 hD kk
  refine for_lst (n := S1.length) (xs := fs.map .ref) (S1 := S2) (show i_law_due_1 _ _ = _ from iVal_r (by simp only [ams, bools, e1, e2]) t2.top)
    (fun i τ T => (∃ a2, τ = [.ref L, .ref S.length, a2]) /\ Tab T S1.length fs (sortT (lms r)) /\ (∃ es, Tab T S.length es (dd [] ((sortT (lms r)).take i)) /\ (∀ q ∈ es, q ∈ fs.take i) /\ es.length <= i) /\ Kp0 S T)
    (fun q => ∃ (D : Nat) (ds : List Nat) (S' : Sto), RS.end (RS.seq q _) = .ok (.ref D) S' /\ Tab S' D ds (sortT (mvs r)) /\ Kp0 S S' /\ ∀ q ∈ D :: ds, S.length <= q)
    ⟨⟨_, rfl⟩, t2, ⟨[], by rw [List.take_zero]; exact Tab.nil hD, (fun _ h => nomatch h), Nat.le_refl _⟩, kk⟩ (fun i τ T hh => hh.2.1.top) ?_ ?_
  · rintro i z τ T hz ⟨⟨a2, rfl⟩, tF, ⟨es, tE, sE, lE⟩, kT⟩
    rw [List.getElem?_map] at hz
    obtain ⟨q, hq, rfl⟩ := Option.map_eq_some_iff.mp hz
    obtain ⟨iT, hrow⟩ := tF.rows.get hq
    refine ⟨[.ref L, .ref S.length, .ref q], T, rfl, .inl ?_⟩
    have hin : aIn true (.ref q) (.ref S.length) T = .ok (.bl (!decide ((sortT (lms r)).getD i [] ∈ dd [] ((sortT (lms r)).take i)))) T := by
      show opt (lstAt T S.length) _ = _
      rw [tE.top, opt_some, in_rows hrow tE.rows, opt_some]; rfl
    have iF := (List.getElem?_eq_some_iff.mp hq).1
    have ft : fs.take (i + 1) = fs.take i ++ [q] := by
      rw [List.take_succ_eq_append_getElem iF, (List.getElem?_eq_some_iff.mp hq).2]
    have qge := fge q (List.mem_of_getElem? hq)
    unfold b_law_due_1
    by_cases c : (sortT (lms r)).getD i [] ∈ dd [] ((sortT (lms r)).take i)
    · simp only [ams, bools, hin, decide_eq_true c, Bool.not_true]
      refine ⟨_, _, rfl, ⟨_, rfl⟩, tF, ⟨es, ?_, fun p hp => by rw [ft]; exact List.mem_append_left _ (sE p hp), by omega⟩, kT⟩
      rw [dd_take iT, if_pos c]; exact tE
    · simp only [ams, bools, hin, decide_eq_false c, Bool.not_false, tE.top, List.length_map, gd_lt (show es.length < 16777216 by omega)]
      have ndf := (List.nodup_cons.mp tF.nd).2
      have qn : q ∉ es := fun z => by
        have z := sE q z
        obtain ⟨j, hj⟩ := List.getElem?_of_mem z
        have jl := (List.getElem?_eq_some_iff.mp hj).1
        rw [List.length_take] at jl
        rw [List.getElem?_take_of_lt (by omega)] at hj
        obtain ⟨j1, j2⟩ := List.getElem?_eq_some_iff.mp hj
        obtain ⟨i1, i2⟩ := List.getElem?_eq_some_iff.mp hq
        have := (List.getElem_inj ndf).mp (j2.trans i2.symm)
        omega
      have eDn : S.length ∉ fs := fun z => by have := fge _ z; omega
      have lt := tE.lt S.length (List.mem_cons_self ..)
      have mv : ∀ p, p ∈ fs -> ∀ xs, lstAt T p = some xs -> lstAt (T.set S.length (.lst (es.map .ref ++ [.ref q]))) p = some xs := fun p hp xs e => by
        rw [lst_set_ne (fun z => eDn (by rw [z]; exact hp))]; exact e
      refine ⟨_, _, rfl, ⟨_, rfl⟩, ⟨?_, tF.rows.mono mv, tF.nd⟩, ⟨es ++ [q], ⟨?_, ?_, ?_⟩, fun p hp => ?_, ?_⟩, kT.set (.inr (Nat.le_refl _))⟩
      · rw [lst_set_ne (fun z => ?_)]
        · exact tF.top
        · have := kT.len
          have h1 := k1.len
          omega
      · rw [lst_set lt, List.map_append]; rfl
      · rw [dd_take iT, if_neg c]
        exact (tE.rows.mono fun p hp xs e => mv p (List.mem_of_mem_take (sE p hp)) xs e).app ⟨mv q (List.mem_of_getElem? hq) _ hrow, trivial⟩
      · rw [<- List.cons_append, List.nodup_append]
        refine ⟨tE.nd, by simp, fun a ha b hb z => ?_⟩
        have hb' : b = q := by simpa using hb
        rw [hb'] at z
        rcases List.mem_cons.mp ha with y | y
        · omega
        · exact qn (by rw [<- z]; exact y)
      · rw [ft]
        rcases List.mem_append.mp hp with y | y
        · exact List.mem_append_left _ (sE p y)
        · exact List.mem_append_right _ y
      · rw [List.length_append]; show es.length + 1 <= _; omega
  · rintro τ T ⟨⟨a2, rfl⟩, tF, ⟨es, tE, sE, lE⟩, kT⟩
    simp only [ams, bools]
    rw [List.length_map, fl, List.take_length, due] at tE
    refine ⟨_, es, _, rfl, tE, kT, fun q hq => ?_⟩
    rcases List.mem_cons.mp hq with rfl | z
    · exact Nat.le_refl _
    · have := fge q (List.mem_of_mem_take (sE q z)); omega
end K61
set_option Elab.async false
set_option linter.all false
set_option maxRecDepth 100000
set_option maxHeartbeats 4000000
namespace K61
open PySem L2 Am
open Mo
theorem app_loop {S : Sto} {f : Nat} {fs : List Nat} {U : List (List Int)} {t0 t1 t2 t3 t4 t5 t6 t8 : A} (h : Tab S f fs U) (hr : ∀ i, (U.getD i []).length <= 1000) (hl : U.length <= 1000) :
    ∃ a8 S', sFor i_law_3 (gNm 8) b_law_3 [t0, t1, t2, t3, t4, t5, t6, .ref f, t8] S = .nx [t0, t1, t2, t3, t4, t5, t6, .ref f, a8] S' /\ Kp (· ∈ fs) S S' := by
  refine for_lst (n := f) (xs := fs.map .ref) (S1 := S) (show i_law_3 _ _ = _ from iVal_r (by simp only [ams, bools]) h.top)
    (fun i τ S1 => ∃ (V : List (List Int)) (a8 : A), τ = [t0, t1, t2, t3, t4, t5, t6, .ref f, a8] /\ Tab S1 f fs V /\ (∀ j, (V.getD j []).length <= 1000 + i) /\ i <= 1000 /\ Kp (· ∈ fs) S S1)
    (fun r => ∃ a8 S', r = .nx [t0, t1, t2, t3, t4, t5, t6, .ref f, a8] S' /\ Kp (· ∈ fs) S S') ⟨U, _, rfl, h, hr, by decide, Kp.refl⟩ (fun i τ S1 ⟨V, _, _, hV, _⟩ => hV.top) ?_ ?_
  · rintro i z τ S1 hz ⟨V, a8, rfl, hV, hVr, hi, k⟩
    rw [List.getElem?_map] at hz
    obtain ⟨r, hr', rfl⟩ := Option.map_eq_some_iff.mp hz
    obtain ⟨hiV, hrow⟩ := hV.rows.get hr'
    have hRl := hVr i
    have lf := h.len
    have hif : i < fs.length := (List.getElem?_eq_some_iff.mp hr').1
    refine ⟨[t0, t1, t2, t3, t4, t5, t6, .ref f, .ref r], S1, rfl, .inl ?_⟩
    unfold b_law_3
    simp only [ams, bools, hrow, List.length_map, gd_lt (show (V.getD i []).length < 16777216 by omega)]
    have h4 := hV.set (i := i) (r := r) (ys := V.getD i [] ++ [1]) hr'
    rw [List.map_append] at h4
    refine ⟨_, _, rfl, V.set i (V.getD i [] ++ [1]), _, rfl, h4, fun j => ?_, by omega, k.set (.inl (List.mem_of_getElem? hr'))⟩
    rw [List.getD_eq_getElem?_getD, List.getElem?_set]
    by_cases hj : i = j
    · rw [if_pos hj, if_pos hiV]; simp only [Option.getD_some, List.length_append, List.length_cons, List.length_nil]; omega
    · rw [if_neg hj, <- List.getD_eq_getElem?_getD]; have := hVr j; omega
  · rintro τ S1 ⟨V, a8, rfl, hV, hVr, hi, k⟩
    exact ⟨_, _, rfl, k⟩
theorem mvs_len (r : List Int) : (mvs r).length <= r.length := by
  unfold mvs
  rw [List.length_map]
  have := List.length_filter_le (may r) (List.range (r.length - 1))
  rw [List.length_range] at this
  omega
theorem srt_len (r : List Int) : (sortT (mvs r)).length <= r.length := by rw [(sortT_perm _).length_eq]; exact mvs_len r
theorem row_len (r : List Int) (i : Nat) : ((sortT (mvs r)).getD i []).length <= r.length := by
  rw [List.getD_eq_getElem?_getD]
  by_cases c : i < (sortT (mvs r)).length
  · rw [List.getElem?_eq_getElem c]
    have := (sortT_perm _).mem_iff.mp (List.getElem_mem c)
    exact Nat.le_of_eq (back this).1
  · rw [List.getElem?_eq_none (by omega)]; exact Nat.zero_le _
theorem turn_ok {S : Sto} {L D H : Nat} {ds : List Nat} {r : List Int} {t0 t1 t2 t6 t7 t8 : A} (hL : lstAt S L = some (r.map .int)) (hH : lstAt S H = some (r.map .int)) (tD : Tab S D ds (sortT (mvs r))) (hl : r.length <= 100) :
    ∃ a7 a8 S', b_law_2 [t0, t1, t2, .ref L, .ref D, .ref H, t6, t7, t8] S = .nx [t0, t1, t2, .ref L, .ref D, .ref H, t6, a7, a8] S' /\ Kp0 S S' := by
  obtain ⟨F, fs, S1, e1, t1', k1, g1⟩ := moved_ok hH hl
  have sl := srt_len r
  obtain ⟨S2, e2, k2⟩ := isr_ok t1' (tD.kp0 k1) (by omega) (fun i => by have := row_len r i; omega)
  have k12 := k1.trans k2
  have en := aNe_of (eq_il (k12.lst _ _ (fun z => z) hH) (k12.lst _ _ (fun z => z) hL))
  rw [decide_eq_true rfl] at en
  have t2' := t1'.kp0 k2
  obtain ⟨a8, S3, e3, k3⟩ := app_loop (t0 := t0) (t1 := t1) (t2 := t2) (t3 := .ref L) (t4 := .ref D) (t5 := .ref H) (t6 := t6) (t8 := t8) t2' (fun i => by have := row_len r i; omega) (by omega)
  have hf : F ∉ fs := (List.nodup_cons.mp t2'.nd).1
  have h3 := k3.lst _ _ hf t2'.top
  have n3 : newL [] S3 = .ok (.ref S3.length) (S3 ++ [O.lst []]) := newL_ok (Nat.zero_le _)
  have h4 : lstAt (S3 ++ [O.lst []]) F = some (fs.map .ref) := lst_app h3
  have fl := t1'.len
  refine ⟨.ref F, a8, (S3 ++ [O.lst []]).set F (.lst (fs.map .ref ++ [.ref S3.length])), ?_, ?_⟩
  · unfold b_law_2
    simp only [ams, bools, nlen, Nat.reduceAdd, Nat.reduceSub, e1, e2, en, Bool.not_true, e3, h3, n3, h4, List.length_map, gd_lt (show fs.length < 16777216 by omega)]
  · have k3' : Kp0 S S3 := ⟨Nat.le_trans k12.len k3.len, fun n xs _ e => k3.lst n xs (fun z => by have := g1 n (List.mem_cons_of_mem _ z); have := lst_lt e; omega) (k12.lst n xs (fun z => z) e)⟩
    exact k3'.lay.set (.inr (g1 F (List.mem_cons_self ..)))
theorem one_ok {S : Sto} {L o : Nat} {r x : List Int} {t0 t1 t2 t4 t5 t6 t7 : A} (hL : lstAt S L = some (r.map .int)) (ho : lstAt S o = some (x.map .int)) (hx : x ∈ mvs r) (hl : r.length <= 100) :
    ∃ S', b_law_4 [t0, t1, t2, .ref L, t4, t5, t6, t7, .ref o] S = .nx [t0, t1, t2, .ref L, t4, t5, t6, t7, .ref o] S' /\ Kp0 S S' := by
  obtain ⟨xl, xb⟩ := back hx
  have kA : Kp0 S (S ++ [.lst (x.map .int)]) := Kp.refl.lay
  obtain ⟨S1, hS1⟩ : ∃ S1, S1 = S ++ [O.lst (x.map A.int)] := ⟨_, rfl⟩
  have l1 : lstAt S1 S.length = some (x.map .int) := by rw [hS1]; exact lst_lay
  rw [<- hS1] at kA
  obtain ⟨F, fs, S2, e2, t2', k2, _⟩ := moved_ok l1 (by omega)
  have hL2 := (kA.trans k2).lst _ _ (fun z => z) hL
  have ho2 := (kA.trans k2).lst _ _ (fun z => z) ho
  have hin : aIn true (.ref L) (.ref F) S2 = .ok (.bl false) S2 := by
    show opt (lstAt S2 F) _ = _
    rw [t2'.top, opt_some, in_rows hL2 t2'.rows, opt_some, decide_eq_true ((sortT_perm _).mem_iff.mpr xb)]; rfl
  obtain ⟨S3, hS3⟩ : ∃ S3, S3 = S2 ++ [O.lst (x.map A.int)] := ⟨_, rfl⟩
  have k3 : Kp0 S2 S3 := by rw [hS3]; exact Kp.refl.lay
  have l3 : lstAt S3 S2.length = some (x.map .int) := by rw [hS3]; exact lst_lay
  obtain ⟨rs, qs, n, m, S4, e4, tn, tm, k4, _, _, _⟩ := ptabs_ok l3 (by omega)
  have hL4 := (k3.trans k4).lst _ _ (fun z => z) hL2
  obtain ⟨S5, hS5⟩ : ∃ S5, S5 = S4 ++ [O.lst (r.map A.int)] := ⟨_, rfl⟩
  have k5 : Kp0 S4 S5 := by rw [hS5]; exact Kp.refl.lay
  have l5 : lstAt S5 S4.length = some (r.map .int) := by rw [hS5]; exact lst_lay
  obtain ⟨rs', qs', n', m', S6, e6, tn', tm', k6, _, _, _⟩ := ptabs_ok l5 hl
  have en := aNe_of ((tn.kp0 (k5.trans k6)).eq tn')
  rw [tabs_same hx, decide_eq_true rfl] at en
  refine ⟨S6, ?_, ((((kA.trans k2).trans k3).trans k4).trans k5).trans k6⟩
  unfold b_law_4
  simp only [ams, bools, nlen, Nat.reduceAdd, Nat.reduceSub, ho, <- hS1, e2, hin, ho2, <- hS3, e4, show atI ([.ref n, .ref m] : List A) 0 = some (.ref n) from rfl, hL4, <- hS5, e6, show atI ([.ref n', .ref m'] : List A) 0 = some (.ref n') from rfl, en, Bool.not_true]
end K61
set_option Elab.async false
set_option linter.all false
set_option maxRecDepth 100000
set_option maxHeartbeats 4000000
namespace K61
open PySem L2 Am
open Mo
theorem moved_nil {S : Sto} {r : List Int} (hr : mvs r = []) (hl : r.length <= 100) {L : Nat} (h : lstAt S L = some (r.map .int)) : ∃ F S', F_moved [.ref L] S = .ok (.ref F) S' /\ lstAt S' F = some [] := by
  obtain ⟨F, fs, S', e, t, _, _⟩ := moved_ok h hl
  rw [hr] at t
  have := t.len
  have : fs = [] := List.length_eq_zero_iff.mp this
  refine ⟨F, S', e, ?_⟩
  have tt := t.top
  rw [this] at tt
  exact tt
theorem most_ok {S S1 : Sto} {ns : List Int} {i : Nat} {a3 a4 a5 a6 a7 a8 : A} (b1' : Bag (S1 ++ [.lst [.int 12, .int 40]]) S.length) (hb : S.length < S1.length) : ∃ (c : Int) (S2 : Sto), (eBin aIx (eLst (lCons (eC (.int 12)) (lCons (eC (.int 40)) (lNil)))) (eCall (f1 aInt1) (lCons (eAnd (eBin (aEq false) (eVar 1) (eC (.int 0))) (eBin (aEq false) (eFn F_law_digit (lCons (eVar 2) (lCons (eC (.int 4)) (lNil)))) (eC (.int 2)))) (lNil)))) [.frz (ns.map .int), .int (0 + (i : Int)), .ref S.length, a3, a4, a5, a6, a7, a8] S1 = .ok (.int c) S2 /\ 0 <= c /\ c <= 40 /\ Bag S2 S.length := by
  have g0 : lstAt (S1 ++ [O.lst [.int 12, .int 40]]) S1.length = some [.int 12, .int 40] := lst_lay
  by_cases c0 : (0 + (i : Int) == 0) = true
  · obtain ⟨q, S2, e2, q0, q1, b2, kp2⟩ := digit (m := 4) b1' (by decide) (by decide)
    have g2 := kp2.lst _ _ (show ¬ S1.length = S.length by omega) g0
    by_cases c1 : (q == 2) = true
    · refine ⟨40, S2, ?_, by decide, by decide, b2⟩
      simp only [ams, bools, c0, e2, c1, g2]
      rfl
    · have c1' : (q == 2) = false := by simpa using c1
      refine ⟨12, S2, ?_, by decide, by decide, b2⟩
      simp only [ams, bools, c0, e2, c1', g2]
      rfl
  · have c0' : (0 + (i : Int) == 0) = false := by simpa using c0
    refine ⟨12, S1 ++ [.lst [.int 12, .int 40]], ?_, by decide, by decide, b1'⟩
    simp only [ams, bools, c0', g0]
    rfl
theorem cut_ok {T : Sto} {ns r : List Int} {i bg L D h4 : Nat} {b6 b7 b8 : A} (hLT : lstAt T L = some (r.map .int)) : ∃ (j : Nat), (eBin aIx (eLst (lCons (eC (.int 6)) (lCons (eC (.int 2)) (lNil)))) (eCall (f1 aInt1) (lCons (eBin aGt (eCall (f1 aLen) (lCons (eVar 3) (lNil))) (eC (.int 12))) (lNil)))) [.frz (ns.map .int), .int (0 + (i : Int)), .ref bg, .ref L, .ref D, .ref h4, b6, b7, b8] T = .ok (.int j) (T ++ [.lst [.int 6, .int 2]]) := by
  have hl2 : lstAt (T ++ [O.lst [.int 6, .int 2]]) L = some (r.map .int) := lst_app hLT
  have g0 : lstAt (T ++ [O.lst [.int 6, .int 2]]) T.length = some [.int 6, .int 2] := lst_lay
  by_cases c0 : (r.length : Int) > 12
  · exact ⟨2, by simp only [ams, bools, hl2, List.length_map, decide_eq_true c0, g0]; rfl⟩
  · exact ⟨6, by simp only [ams, bools, hl2, List.length_map, decide_eq_false c0, g0]; rfl⟩
theorem esl_ok {T U : Sto} {ns : List Int} {i j bg L D h4 : Nat} {ds : List Nat} {b6 b7 b8 : A} (ej : (eBin aIx (eLst (lCons (eC (.int 6)) (lCons (eC (.int 2)) (lNil)))) (eCall (f1 aInt1) (lCons (eBin aGt (eCall (f1 aLen) (lCons (eVar 3) (lNil))) (eC (.int 12))) (lNil)))) [.frz (ns.map .int), .int (0 + (i : Int)), .ref bg, .ref L, .ref D, .ref h4, b6, b7, b8] T = .ok (.int j) U) (hU : lstAt U D = some (ds.map .ref)) : i_law_4 [.frz (ns.map .int), .int (0 + (i : Int)), .ref bg, .ref L, .ref D, .ref h4, b6, b7, b8] T = .ok (lstSrc U.length ((ds.take j).map A.ref).length) (U ++ [.lst ((ds.take j).map .ref)]) := by
  refine iVal_r ?_ lst_lay
  show ((R.ok (A.ref D) T).bind fun a S1 => (pNone _ S1).bind fun l S2 => ((pSome (eBin aIx (eLst (lCons (eC (.int 6)) (lCons (eC (.int 2)) (lNil)))) (eCall (f1 aInt1) (lCons (eBin aGt (eCall (f1 aLen) (lCons (eVar 3) (lNil))) (eC (.int 12))) (lNil))))) [.frz (ns.map .int), .int (0 + (i : Int)), .ref bg, .ref L, .ref D, .ref h4, b6, b7, b8] S2).bind fun u S3 => aSl a l u S3) = _
  rw [R.bind_ok]
  show ((pSome (eBin aIx (eLst (lCons (eC (.int 6)) (lCons (eC (.int 2)) (lNil)))) (eCall (f1 aInt1) (lCons (eBin aGt (eCall (f1 aLen) (lCons (eVar 3) (lNil))) (eC (.int 12))) (lNil))))) [.frz (ns.map .int), .int (0 + (i : Int)), .ref bg, .ref L, .ref D, .ref h4, b6, b7, b8] T).bind (fun u S3 => aSl (.ref D) none u S3) = _
  unfold pSome
  rw [ej]
  show opt (lstAt U D) _ = _
  rw [hU, opt_some, cut_tk, List.map_take]
end K61
set_option Elab.async false
set_option linter.all false
set_option maxRecDepth 100000
set_option maxHeartbeats 4000000
namespace K61
open PySem L2 Am
open Mo
theorem law_ok (ns : List Int) (hl : ns.length <= 63) : ∃ S', F_law [.frz (ns.map .int)] [] = .ok (.bl true) S' := by
  unfold F_law m_law N_law
  simp only [ams, bools, nlen, Nat.reduceAdd, Nat.reduceSub]
  refine for_rng (lo := 0) (hi := if (if 6 < (ns.length : Int) then 6 else (ns.length : Int)) > 2 then (if 6 < (ns.length : Int) then 6 else (ns.length : Int)) else 2) (S1 := []) (show i_law_1 _ _ = _ from iRng1_ap (by simp only [ams, bools, List.length_map]) (bnd_of (by split <;> split <;> omega) (by split <;> split <;> omega)))
    (fun _ τ _ => ∃ a1 a2 a3 a4 a5 a6 a7 a8 : A, τ = [.frz (ns.map .int), a1, a2, a3, a4, a5, a6, a7, a8]) (fun r => ∃ S', RS.end (RS.seq r _) = .ok (.bl true) S') ⟨_, _, _, _, _, _, _, _, rfl⟩ ?_ ?_
  · rintro i τ S hi ⟨a1, a2, a3, a4, a5, a6, a7, a8, rfl⟩
    left
    have hi6 : (i : Int) < 6 := by split at hi <;> split at hi <;> omega
    obtain ⟨S1, e1, b1, kp1⟩ := bag_new (S := S) (ns := ns) (k := 0 + (i : Int)) (by omega) (by omega)
    have b1' : Bag (S1 ++ [.lst [.int 12, .int 40]]) S.length := b1.kp (c := fun _ => False) Kp.refl.lay fun z => z
    have hb : S.length < S1.length := by obtain ⟨_, _, e, _⟩ := b1; exact lst_lt e
    have most := most_ok (ns := ns) (i := i) (a3 := a3) (a4 := a4) (a5 := a5) (a6 := a6) (a7 := a7) (a8 := a8) b1' hb
    obtain ⟨c, S2, e2, c1, c2, b2⟩ := most
    obtain ⟨r, L, S3, e3, hL, rl, _, b3, kp3, _⟩ := letters_ok b2 c1 (by omega)
    have rl' : r.length <= 100 := by omega
    obtain ⟨D, ds, S4, e4, tD, k4, _⟩ := due_ok hL rl'
    have hL4 := k4.lst _ _ (fun z => z) hL
    obtain ⟨S5, hS5⟩ : ∃ S5, S5 = S4 ++ [O.lst (r.map A.int)] := ⟨_, rfl⟩
    have k5 : Kp0 S4 S5 := by rw [hS5]; exact Kp.refl.lay
    have hH : lstAt S5 S4.length = some (r.map .int) := by rw [hS5]; exact lst_lay
    have loop : ∃ T b6 b7 b8, sFor i_law_2 (gNm 6) b_law_2 [.frz (ns.map .int), .int (0 + (i : Int)), .ref S.length, .ref L, .ref D, .ref S4.length, a6, a7, a8] S5 = .nx [.frz (ns.map .int), .int (0 + (i : Int)), .ref S.length, .ref L, .ref D, .ref S4.length, b6, b7, b8] T /\ Kp0 S5 T := by
      refine for_rng (lo := 0) (hi := 2) (S1 := S5) (show i_law_2 _ _ = _ from iRng1_ap (by simp only [ams, bools]) (bnd_of (by decide) (by decide)))
        (fun _ τ T => (∃ b6 b7 b8, τ = [.frz (ns.map .int), .int (0 + (i : Int)), .ref S.length, .ref L, .ref D, .ref S4.length, b6, b7, b8]) /\ Kp0 S5 T)
        (fun q => ∃ T b6 b7 b8, q = .nx [.frz (ns.map .int), .int (0 + (i : Int)), .ref S.length, .ref L, .ref D, .ref S4.length, b6, b7, b8] T /\ Kp0 S5 T) ⟨⟨_, _, _, rfl⟩, Kp.refl⟩ ?_ ?_
      · rintro t τ T _ ⟨⟨b6, b7, b8, rfl⟩, kT⟩
        left
        have kT' := k5.trans kT
        obtain ⟨c7, c8, T', e, k⟩ := turn_ok (S := T) (t0 := .frz (ns.map .int)) (t1 := .int (0 + (i : Int))) (t2 := .ref S.length) (t6 := .int (0 + (t : Int))) (t7 := b7) (t8 := b8) (kT'.lst _ _ (fun z => z) hL4) (kT.lst _ _ (fun z => z) hH) (tD.kp0 kT') rl'
        exact ⟨_, T', e, ⟨_, _, _, rfl⟩, kT.trans k⟩
      · rintro τ T ⟨⟨b6, b7, b8, rfl⟩, kT⟩
        exact ⟨_, _, _, _, rfl, kT⟩
    obtain ⟨T, b6, b7, b8, eL, kT⟩ := loop
    have kT' := k5.trans kT
    have hLT := kT'.lst _ _ (fun z => z) hL4
    have tDT := tD.kp0 kT'
    have cutN := cut_ok (ns := ns) (i := i) (bg := S.length) (D := D) (h4 := S4.length) (b6 := b6) (b7 := b7) (b8 := b8) hLT
    obtain ⟨j, ej⟩ := cutN
    have kU : Kp0 T (T ++ [.lst [.int 6, .int 2]]) := Kp.refl.lay
    obtain ⟨U, hU⟩ : ∃ U, U = T ++ [O.lst [.int 6, .int 2]] := ⟨_, rfl⟩
    rw [<- hU] at ej kU
    have tDU := tDT.kp0 kU
    have esl := esl_ok ej tDU.top
    have loop4 : ∃ T' c8, sFor i_law_4 (gNm 8) b_law_4 [.frz (ns.map .int), .int (0 + (i : Int)), .ref S.length, .ref L, .ref D, .ref S4.length, b6, b7, b8] T = .nx [.frz (ns.map .int), .int (0 + (i : Int)), .ref S.length, .ref L, .ref D, .ref S4.length, b6, b7, c8] T' := by
      have kV : Kp0 U (U ++ [.lst ((ds.take j).map .ref)]) := Kp.refl.lay
      refine for_lst (n := U.length) (xs := (ds.take j).map .ref) (S1 := U ++ [.lst ((ds.take j).map .ref)]) esl
        (fun _ τ V => (∃ c8, τ = [.frz (ns.map .int), .int (0 + (i : Int)), .ref S.length, .ref L, .ref D, .ref S4.length, b6, b7, c8]) /\ Kp0 (U ++ [.lst ((ds.take j).map .ref)]) V)
        (fun q => ∃ T' c8, q = .nx [.frz (ns.map .int), .int (0 + (i : Int)), .ref S.length, .ref L, .ref D, .ref S4.length, b6, b7, c8] T') ⟨⟨_, rfl⟩, Kp.refl⟩ (fun _ _ V hh => hh.2.lst _ _ (fun z => z) lst_lay) ?_ ?_
      · rintro t z τ V hz ⟨⟨c8, rfl⟩, kW⟩
        rw [List.getElem?_map] at hz
        obtain ⟨o, ho, rfl⟩ := Option.map_eq_some_iff.mp hz
        have tl := (List.getElem?_eq_some_iff.mp ho).1
        rw [List.length_take] at tl
        rw [List.getElem?_take_of_lt (by omega)] at ho
        obtain ⟨iT, hrow⟩ := tDU.rows.get ho
        have kUV := kV.trans kW
        have hx : (sortT (mvs r)).getD t [] ∈ mvs r := by
          rw [List.getD_eq_getElem?_getD, List.getElem?_eq_getElem iT]
          exact (sortT_perm _).mem_iff.mp (List.getElem_mem iT)
        obtain ⟨V', e, k⟩ := one_ok (S := V) (t0 := .frz (ns.map .int)) (t1 := .int (0 + (i : Int))) (t2 := .ref S.length) (t4 := .ref D) (t5 := .ref S4.length) (t6 := b6) (t7 := b7) ((kU.trans kUV).lst _ _ (fun z => z) hLT) (kUV.lst _ _ (fun z => z) hrow) hx rl'
        exact ⟨[.frz (ns.map .int), .int (0 + (i : Int)), .ref S.length, .ref L, .ref D, .ref S4.length, b6, b7, .ref o], V, rfl, .inl ⟨_, V', e, ⟨_, rfl⟩, kW.trans k⟩⟩
      · rintro τ V ⟨⟨c8, rfl⟩, kW⟩
        exact ⟨_, _, rfl⟩
    obtain ⟨T', c8, e8⟩ := loop4
    refine ⟨[.frz (ns.map .int), .int (0 + (i : Int)), .ref S.length, .ref L, .ref D, .ref S4.length, b6, b7, c8], T', ?_, ⟨_, _, _, _, _, _, _, _, rfl⟩⟩
    unfold b_law_1
    simp only [ams, bools] at e2
    simp only [ams, bools, nlen, Nat.reduceAdd, Nat.reduceSub, e1, e2, e3, e4, hL4, <- hS5, eL, e8]
  · rintro τ S ⟨a1, a2, a3, a4, a5, a6, a7, a8, rfl⟩
    obtain ⟨F1, S1, e1, g1⟩ := moved_nil (S := S ++ [.lst []]) (r := []) rfl (by decide) (L := S.length) lst_lay
    obtain ⟨F2, S2, e2, g2⟩ := moved_nil (S := S1 ++ [.lst []] ++ [.lst [.int 2, .int 1]]) (r := [2, 1]) (by decide) (by decide) (L := (S1 ++ [O.lst []]).length) lst_lay
    have q1 : aEq false (.ref F1) (.ref S1.length) (S1 ++ [.lst []]) = .ok (.bl true) (S1 ++ [.lst []]) := aEq_of (eq_nil (lst_app g1) lst_lay)
    have q2 : aEq false (.ref F2) (.ref S2.length) (S2 ++ [.lst []]) = .ok (.bl true) (S2 ++ [.lst []]) := aEq_of (eq_nil (lst_app g2) lst_lay)
    simp only [ams, bools, e1, q1, e2, q2]
    exact ⟨_, rfl⟩
end K61
namespace K61
open PySem L2 Am
theorem all_mk {l : PySem.W.OpenLaw} {w : World} {K : PySem.W.Frag} {h : Heap} {mg : Str -> Option Value} {fa f1 f2 f3 f4 f5 f6 f7 f8 f9 f10 f11 f12 f13 : Addr} (X : K.In h) (G : h.Ns mainGlobals mg) (hfa : mg "law" = some (.ref fa))
    {od1 an1 od2 an2 od3 an3 od4 an4 od5 an5 od6 an6 od7 an7 od8 an8 od9 an9 od10 an10 od11 an11 od12 an12 od13 an13 : Option Addr} {sl1 sl2 sl3 sl4 sl5 sl6 sl7 sl8 sl9 sl10 sl11 sl12 sl13 : Array (Option Value)} {oc1 kV1 dc1 pm1 cd1 ct1 oc2 kV2 dc2 pm2 cd2 ct2 oc3 kV3 dc3 pm3 cd3 ct3 oc4 kV4 dc4 pm4 cd4 ct4 oc5 kV5 dc5 pm5 cd5 ct5 oc6 kV6 dc6 pm6 cd6 ct6 oc7 kV7 dc7 pm7 cd7 ct7 oc8 kV8 dc8 pm8 cd8 ct8 oc9 kV9 dc9 pm9 cd9 ct9 oc10 kV10 dc10 pm10 cd10 ct10 oc11 kV11 dc11 pm11 cd11 ct11 oc12 kV12 dc12 pm12 cd12 ct12 oc13 kV13 dc13 pm13 cd13 ct13 : Value}
    (a1 : PySem.W.nsIn K mainGlobals "first_greater" = some (some (.ref f1))) (l1 : K.lookup f1 = some ⟨oc1, od1, .func (PySem.W.fnOf "first_greater" "first_greater" (defArgs s_first_greater) (defBody s_first_greater) (defScope s_first_greater) .none kV1 dc1 pm1 an1 cd1 ct1), sl1⟩) (c1 : PySem.W.codeIn K cd1 "first_greater" = true) (k1 : PySem.W.keepIn K (.ref f1) = true)
    (a2 : PySem.W.nsIn K mainGlobals "put_into_rows" = some (some (.ref f2))) (l2 : K.lookup f2 = some ⟨oc2, od2, .func (PySem.W.fnOf "put_into_rows" "put_into_rows" (defArgs s_put_into_rows) (defBody s_put_into_rows) (defScope s_put_into_rows) .none kV2 dc2 pm2 an2 cd2 ct2), sl2⟩) (c2 : PySem.W.codeIn K cd2 "put_into_rows" = true) (k2 : PySem.W.keepIn K (.ref f2) = true)
    (a3 : PySem.W.nsIn K mainGlobals "tables" = some (some (.ref f3))) (l3 : K.lookup f3 = some ⟨oc3, od3, .func (PySem.W.fnOf "tables" "tables" (defArgs s_tables) (defBody s_tables) (defScope s_tables) .none kV3 dc3 pm3 an3 cd3 ct3), sl3⟩) (c3 : PySem.W.codeIn K cd3 "tables" = true) (k3 : PySem.W.keepIn K (.ref f3) = true)
    (a4 : PySem.W.nsIn K mainGlobals "may_change" = some (some (.ref f4))) (l4 : K.lookup f4 = some ⟨oc4, od4, .func (PySem.W.fnOf "may_change" "may_change" (defArgs s_may_change) (defBody s_may_change) (defScope s_may_change) .none kV4 dc4 pm4 an4 cd4 ct4), sl4⟩) (c4 : PySem.W.codeIn K cd4 "may_change" = true) (k4 : PySem.W.keepIn K (.ref f4) = true)
    (a5 : PySem.W.nsIn K mainGlobals "changed" = some (some (.ref f5))) (l5 : K.lookup f5 = some ⟨oc5, od5, .func (PySem.W.fnOf "changed" "changed" (defArgs s_changed) (defBody s_changed) (defScope s_changed) .none kV5 dc5 pm5 an5 cd5 ct5), sl5⟩) (c5 : PySem.W.codeIn K cd5 "changed" = true) (k5 : PySem.W.keepIn K (.ref f5) = true)
    (a6 : PySem.W.nsIn K mainGlobals "moved" = some (some (.ref f6))) (l6 : K.lookup f6 = some ⟨oc6, od6, .func (PySem.W.fnOf "moved" "moved" (defArgs s_moved) (defBody s_moved) (defScope s_moved) .none kV6 dc6 pm6 an6 cd6 ct6), sl6⟩) (c6 : PySem.W.codeIn K cd6 "moved" = true) (k6 : PySem.W.keepIn K (.ref f6) = true)
    (a7 : PySem.W.nsIn K mainGlobals "_law_bag" = some (some (.ref f7))) (l7 : K.lookup f7 = some ⟨oc7, od7, .func (PySem.W.fnOf "_law_bag" "_law_bag" (defArgs s_law_bag) (defBody s_law_bag) (defScope s_law_bag) .none kV7 dc7 pm7 an7 cd7 ct7), sl7⟩) (c7 : PySem.W.codeIn K cd7 "_law_bag" = true) (k7 : PySem.W.keepIn K (.ref f7) = true)
    (a8 : PySem.W.nsIn K mainGlobals "_law_digit" = some (some (.ref f8))) (l8 : K.lookup f8 = some ⟨oc8, od8, .func (PySem.W.fnOf "_law_digit" "_law_digit" (defArgs s_law_digit) (defBody s_law_digit) (defScope s_law_digit) .none kV8 dc8 pm8 an8 cd8 ct8), sl8⟩) (c8 : PySem.W.codeIn K cd8 "_law_digit" = true) (k8 : PySem.W.keepIn K (.ref f8) = true)
    (a9 : PySem.W.nsIn K mainGlobals "_law_letters" = some (some (.ref f9))) (l9 : K.lookup f9 = some ⟨oc9, od9, .func (PySem.W.fnOf "_law_letters" "_law_letters" (defArgs s_law_letters) (defBody s_law_letters) (defScope s_law_letters) .none kV9 dc9 pm9 an9 cd9 ct9), sl9⟩) (c9 : PySem.W.codeIn K cd9 "_law_letters" = true) (k9 : PySem.W.keepIn K (.ref f9) = true)
    (a10 : PySem.W.nsIn K mainGlobals "_law_is_rows" = some (some (.ref f10))) (l10 : K.lookup f10 = some ⟨oc10, od10, .func (PySem.W.fnOf "_law_is_rows" "_law_is_rows" (defArgs s_law_is_rows) (defBody s_law_is_rows) (defScope s_law_is_rows) .none kV10 dc10 pm10 an10 cd10 ct10), sl10⟩) (c10 : PySem.W.codeIn K cd10 "_law_is_rows" = true) (k10 : PySem.W.keepIn K (.ref f10) = true)
    (a11 : PySem.W.nsIn K mainGlobals "_law_moved" = some (some (.ref f11))) (l11 : K.lookup f11 = some ⟨oc11, od11, .func (PySem.W.fnOf "_law_moved" "_law_moved" (defArgs s_law_moved) (defBody s_law_moved) (defScope s_law_moved) .none kV11 dc11 pm11 an11 cd11 ct11), sl11⟩) (c11 : PySem.W.codeIn K cd11 "_law_moved" = true) (k11 : PySem.W.keepIn K (.ref f11) = true)
    (a12 : PySem.W.nsIn K mainGlobals "_law_due" = some (some (.ref f12))) (l12 : K.lookup f12 = some ⟨oc12, od12, .func (PySem.W.fnOf "_law_due" "_law_due" (defArgs s_law_due) (defBody s_law_due) (defScope s_law_due) .none kV12 dc12 pm12 an12 cd12 ct12), sl12⟩) (c12 : PySem.W.codeIn K cd12 "_law_due" = true) (k12 : PySem.W.keepIn K (.ref f12) = true)
    (a13 : PySem.W.nsIn K mainGlobals "law" = some (some (.ref f13))) (l13 : K.lookup f13 = some ⟨oc13, od13, .func (PySem.W.fnOf "law" "law" (defArgs s_law) (defBody s_law) (defScope s_law) .none kV13 dc13 pm13 an13 cd13 ct13), sl13⟩) (c13 : PySem.W.codeIn K cd13 "law" = true) (k13 : PySem.W.keepIn K (.ref f13) = true)
    (z_len : PySem.W.nsIn K mainGlobals "len" = some none)
    (z_enumerate : PySem.W.nsIn K mainGlobals "enumerate" = some none)
    (z_min : PySem.W.nsIn K mainGlobals "min" = some none)
    (z_max : PySem.W.nsIn K mainGlobals "max" = some none)
    (z_sorted : PySem.W.nsIn K mainGlobals "sorted" = some none)
    (z_range : PySem.W.nsIn K mainGlobals "range" = some none)
    (z_isinstance : PySem.W.nsIn K mainGlobals "isinstance" = some none)
    (z_list : PySem.W.nsIn K mainGlobals "list" = some none)
    (z_all : PySem.W.nsIn K mainGlobals "all" = some none)
    (z_bool : PySem.W.nsIn K mainGlobals "bool" = some none)
    (z_int : PySem.W.nsIn K mainGlobals "int" = some none)
    : ∃ fd : FuncData, (∀ (s : Shared) (v : Value), BindsTo s fd ⟨[v], []⟩ [("_law_script", v)]) /\ ∀ base : Heap, K.In base -> base.Ns mainGlobals mg -> FnOk l.prog w K mg base CX0 4 fa fd ["_law_script"] (spA K 1 F_law) := by
  have e := hfa.symm.trans (PySem.W.mg_of X G a13)
  cases e
  have b_len := PySem.W.mg_none_of X G z_len
  have b_enumerate := PySem.W.mg_none_of X G z_enumerate
  have b_min := PySem.W.mg_none_of X G z_min
  have b_max := PySem.W.mg_none_of X G z_max
  have b_sorted := PySem.W.mg_none_of X G z_sorted
  have b_range := PySem.W.mg_none_of X G z_range
  have b_isinstance := PySem.W.mg_none_of X G z_isinstance
  have b_list := PySem.W.mg_none_of X G z_list
  have b_all := PySem.W.mg_none_of X G z_all
  have b_bool := PySem.W.mg_none_of X G z_bool
  have b_int := PySem.W.mg_none_of X G z_int
  have F1 := fun_mk (st := s_first_greater) l1 c1 k1
  have i1 := F1.binds (ps := ["row", "letter"]) fun _ _ _ _ _ _ us hl => match us, hl with | [_, _], _ => rfl
  have F2 := fun_mk (st := s_put_into_rows) l2 c2 k2
  have i2 := F2.binds (ps := ["rows", "letter"]) fun _ _ _ _ _ _ us hl => match us, hl with | [_, _], _ => rfl
  have F3 := fun_mk (st := s_tables) l3 c3 k3
  have i3 := F3.binds (ps := ["row"]) fun _ _ _ _ _ _ us hl => match us, hl with | [_], _ => rfl
  have F4 := fun_mk (st := s_may_change) l4 c4 k4
  have i4 := F4.binds (ps := ["row", "at"]) fun _ _ _ _ _ _ us hl => match us, hl with | [_, _], _ => rfl
  have F5 := fun_mk (st := s_changed) l5 c5 k5
  have i5 := F5.binds (ps := ["row", "at"]) fun _ _ _ _ _ _ us hl => match us, hl with | [_, _], _ => rfl
  have F6 := fun_mk (st := s_moved) l6 c6 k6
  have i6 := F6.binds (ps := ["row"]) fun _ _ _ _ _ _ us hl => match us, hl with | [_], _ => rfl
  have F7 := fun_mk (st := s_law_bag) l7 c7 k7
  have i7 := F7.binds (ps := ["_law_script", "_law_at"]) fun _ _ _ _ _ _ us hl => match us, hl with | [_, _], _ => rfl
  have F8 := fun_mk (st := s_law_digit) l8 c8 k8
  have i8 := F8.binds (ps := ["_law_bag_here", "_law_many"]) fun _ _ _ _ _ _ us hl => match us, hl with | [_, _], _ => rfl
  have F9 := fun_mk (st := s_law_letters) l9 c9 k9
  have i9 := F9.binds (ps := ["_law_bag_here", "_law_most"]) fun _ _ _ _ _ _ us hl => match us, hl with | [_, _], _ => rfl
  have F10 := fun_mk (st := s_law_is_rows) l10 c10 k10
  have i10 := F10.binds (ps := ["_law_found", "_law_due_here"]) fun _ _ _ _ _ _ us hl => match us, hl with | [_, _], _ => rfl
  have F11 := fun_mk (st := s_law_moved) l11 c11 k11
  have i11 := F11.binds (ps := ["_law_letters_here"]) fun _ _ _ _ _ _ us hl => match us, hl with | [_], _ => rfl
  have F12 := fun_mk (st := s_law_due) l12 c12 k12
  have i12 := F12.binds (ps := ["_law_letters_here"]) fun _ _ _ _ _ _ us hl => match us, hl with | [_], _ => rfl
  have F13 := fun_mk (st := s_law) l13 c13 k13
  have i13 := F13.binds (ps := ["_law_script"]) fun _ _ _ _ _ _ us hl => match us, hl with | [_], _ => rfl
  refine ⟨PySem.W.fnOf "law" "law" (defArgs s_law) (defBody s_law) (defScope s_law) .none kV13 dc13 pm13 an13 cd13 ct13, fun s v => .of_eq rfl, fun base _ _ => ?_⟩
  have G_first_greater : KnA l.prog w K mg base 1 "first_greater" ["row", "letter"] F_first_greater := ⟨f1, _, ok_first_greater F1 b_len, PySem.W.mg_of X G a1, k1, i1⟩
  have G_put_into_rows : KnA l.prog w K mg base 2 "put_into_rows" ["rows", "letter"] F_put_into_rows := ⟨f2, _, ok_put_into_rows F2 b_len G_first_greater, PySem.W.mg_of X G a2, k2, i2⟩
  have G_tables : KnA l.prog w K mg base 3 "tables" ["row"] F_tables := ⟨f3, _, ok_tables F3 b_enumerate b_len G_put_into_rows, PySem.W.mg_of X G a3, k3, i3⟩
  have G_may_change : KnA l.prog w K mg base 1 "may_change" ["row", "at"] F_may_change := ⟨f4, _, ok_may_change F4 b_min b_max b_len, PySem.W.mg_of X G a4, k4, i4⟩
  have G_changed : KnA l.prog w K mg base 1 "changed" ["row", "at"] F_changed := ⟨f5, _, ok_changed F5, PySem.W.mg_of X G a5, k5, i5⟩
  have G_moved : KnA l.prog w K mg base 2 "moved" ["row"] F_moved := ⟨f6, _, ok_moved F6 b_sorted b_range b_len G_may_change G_changed, PySem.W.mg_of X G a6, k6, i6⟩
  have G_law_bag : KnA l.prog w K mg base 1 "_law_bag" ["_law_script", "_law_at"] F_law_bag := ⟨f7, _, ok_law_bag F7 b_len, PySem.W.mg_of X G a7, k7, i7⟩
  have G_law_digit : KnA l.prog w K mg base 1 "_law_digit" ["_law_bag_here", "_law_many"] F_law_digit := ⟨f8, _, ok_law_digit F8, PySem.W.mg_of X G a8, k8, i8⟩
  have G_law_letters : KnA l.prog w K mg base 2 "_law_letters" ["_law_bag_here", "_law_most"] F_law_letters := ⟨f9, _, ok_law_letters F9 b_range G_law_digit, PySem.W.mg_of X G a9, k9, i9⟩
  have G_law_is_rows : KnA l.prog w K mg base 1 "_law_is_rows" ["_law_found", "_law_due_here"] F_law_is_rows := ⟨f10, _, ok_law_is_rows F10 b_isinstance b_list b_all b_bool b_int, PySem.W.mg_of X G a10, k10, i10⟩
  have G_law_moved : KnA l.prog w K mg base 1 "_law_moved" ["_law_letters_here"] F_law_moved := ⟨f11, _, ok_law_moved F11 b_range b_len, PySem.W.mg_of X G a11, k11, i11⟩
  have G_law_due : KnA l.prog w K mg base 2 "_law_due" ["_law_letters_here"] F_law_due := ⟨f12, _, ok_law_due F12 b_sorted G_law_moved, PySem.W.mg_of X G a12, k12, i12⟩
  exact ok_law F13 b_range b_max b_min b_len b_int b_list G_law_bag G_law_letters G_law_digit G_law_due G_moved G_law_is_rows G_tables
theorem walk {l : PySem.W.OpenLaw} {q : Program} {loose : List Str} {XP : (Str -> Option Value) -> Heap -> Prop} {YP : World -> Heap -> Prop} {d : DefRec} {K : Params -> PySem.W.Frag} (hn : l.most = some 63) (hdf : d.params.defaults = [])
    (hY : ∀ (w : World) (h : Heap), YP w h -> (K w.params).In h)
    (F : ∀ (w : World) (mg : Str -> Option Value) (fa : Addr) (h : Heap), (K w.params).In h -> h.Ns mainGlobals mg -> mg d.name = some (.ref fa) ->
      ∃ fd : FuncData, (∀ (s : Shared) (u : Value), BindsTo s fd ⟨[u], []⟩ [("_law_script", u)]) /\ ∀ base : Heap, (K w.params).In base -> base.Ns mainGlobals mg -> FnOk l.prog w (K w.params) mg base CX0 4 fa fd ["_law_script"] (spA (K w.params) 1 F_law)) :
    PySem.W.WalkO q loose XP YP l.row.toRowW d [] (fun f vs => PySem.call f vs) :=
  L2.walk_of (n := 63) (k := 4) (x := "_law_script") (CX := fun _ => CX0) (sp := fun w => spA (K w.params) 1 F_law) hn (by decide) hdf ⟨rfl, by decide, by decide⟩ hY F (fun _ H a ns hl hO hS => law_start hO hS (law_ok ns hl)) fun _ _ _ _ _ z => z
end K61
open PySem PySem.W PyProof.Rows
set_option maxRecDepth 100000 in
set_option maxHeartbeats 0 in
theorem PySem.Challenge.cw_undercells_k61_rows_moved_holds : PySem.Challenge.rw_undercells_k61_rows_moved.Holds := by
  w_on; o_law; k_head; (case hw => w_witness2)
  k_fill
  refine K61.walk (l := PySem.Challenge.rw_undercells_k61_rows_moved) rfl rfl (fun w h Y => PySem.W.kIn_of Y) ?F
  case F =>
    intro w mg fa h KX G hmg
    refine' K61.all_mk KX G hmg ?a1 ?l1 ?c1 ?k1 ?a2 ?l2 ?c2 ?k2 ?a3 ?l3 ?c3 ?k3 ?a4 ?l4 ?c4 ?k4 ?a5 ?l5 ?c5 ?k5 ?a6 ?l6 ?c6 ?k6 ?a7 ?l7 ?c7 ?k7 ?a8 ?l8 ?c8 ?k8 ?a9 ?l9 ?c9 ?k9 ?a10 ?l10 ?c10 ?k10 ?a11 ?l11 ?c11 ?k11 ?a12 ?l12 ?c12 ?k12 ?a13 ?l13 ?c13 ?k13 ?z_len ?z_enumerate ?z_min ?z_max ?z_sorted ?z_range ?z_isinstance ?z_list ?z_all ?z_bool ?z_int
    (case a1 => k_is)
    (case l1 => k_is)
    (case c1 => k_is)
    (case k1 => k_is)
    (case a2 => k_is)
    (case l2 => k_is)
    (case c2 => k_is)
    (case k2 => k_is)
    (case a3 => k_is)
    (case l3 => k_is)
    (case c3 => k_is)
    (case k3 => k_is)
    (case a4 => k_is)
    (case l4 => k_is)
    (case c4 => k_is)
    (case k4 => k_is)
    (case a5 => k_is)
    (case l5 => k_is)
    (case c5 => k_is)
    (case k5 => k_is)
    (case a6 => k_is)
    (case l6 => k_is)
    (case c6 => k_is)
    (case k6 => k_is)
    (case a7 => k_is)
    (case l7 => k_is)
    (case c7 => k_is)
    (case k7 => k_is)
    (case a8 => k_is)
    (case l8 => k_is)
    (case c8 => k_is)
    (case k8 => k_is)
    (case a9 => k_is)
    (case l9 => k_is)
    (case c9 => k_is)
    (case k9 => k_is)
    (case a10 => k_is)
    (case l10 => k_is)
    (case c10 => k_is)
    (case k10 => k_is)
    (case a11 => k_is)
    (case l11 => k_is)
    (case c11 => k_is)
    (case k11 => k_is)
    (case a12 => k_is)
    (case l12 => k_is)
    (case c12 => k_is)
    (case k12 => k_is)
    (case a13 => k_is)
    (case l13 => k_is)
    (case c13 => k_is)
    (case k13 => k_is)
    (case z_len => k_is)
    (case z_enumerate => k_is)
    (case z_min => k_is)
    (case z_max => k_is)
    (case z_sorted => k_is)
    (case z_range => k_is)
    (case z_isinstance => k_is)
    (case z_list => k_is)
    (case z_all => k_is)
    (case z_bool => k_is)
    (case z_int => k_is)
