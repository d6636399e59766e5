import PyProof.Rows.All
import Wide.All
import OpenK.AllK
import Wide.FinOn
import Lean
import PyProof.EqAt
import PyProof.EqKinds
import PyProof.TupleCall
import PySem.Challenge.RW_undercells_k62_roads_of_moves
set_option Elab.async false
set_option linter.all false
set_option maxRecDepth 100000
namespace L2
open PySem PySem.Spec PyProof.Rows
noncomputable abbrev Key := Sum Int Str
noncomputable def keyIs : Key -> Value -> Bool
  | .inl k, v => Value.isInt k v
  | .inr x, v => Value.isStrOf x v
noncomputable def keyH (w : World) : Key -> Int
  | .inl k => hashInt k
  | .inr x => hashStr w x
theorem keyIs_shape : ∀ {k : Key} {v : Value}, keyIs k v = true -> (∃ i t, k = Sum.inl i /\ v = Value.int i t) \/ (∃ x t, k = Sum.inr x /\ v = Value.str x t)
  | .inl i, v, h => by
    obtain ⟨t, e⟩ := Value.isInt_shape (k := i) (v := v) h
    exact .inl ⟨i, t, rfl, e⟩
  | .inr x, v, h => by
    obtain ⟨t, e⟩ := Value.isStrOf_shape (x := x) (v := v) h
    exact .inr ⟨x, t, rfl, e⟩
theorem key_ll (a b : Int) : decide ((Sum.inl a : Key) = Sum.inl b) = (a == b) := by
  by_cases e : a = b
  · subst e; simp
  · have h : ¬ (Sum.inl a : Key) = Sum.inl b := fun q => e (Sum.inl.inj q)
    rw [decide_eq_false h]
    exact (beq_eq_false_iff_ne.mpr e).symm
theorem key_rr (a b : Str) : decide ((Sum.inr a : Key) = Sum.inr b) = decide (a = b) := by
  by_cases e : a = b
  · subst e; simp
  · have h : ¬ (Sum.inr a : Key) = Sum.inr b := fun q => e (Sum.inr.inj q)
    rw [decide_eq_false h, decide_eq_false e]
theorem key_lr (a : Int) (b : Str) : decide ((Sum.inl a : Key) = Sum.inr b) = false := decide_eq_false (fun q => nomatch q)
theorem key_rl (a : Str) (b : Int) : decide ((Sum.inr a : Key) = Sum.inl b) = false := decide_eq_false (fun q => nomatch q)
noncomputable def mixKind (prog : Program) (w : World) : PySem.KeyKind prog w Key where
  is := keyIs
  hash := keyH w
  inj := fun v a b ha hb => by
    rcases keyIs_shape ha with ⟨i, t, rfl, rfl⟩ | ⟨x, t, rfl, rfl⟩
    · rcases keyIs_shape hb with ⟨j, u, rfl, e⟩ | ⟨y, u, rfl, e⟩
      · injection e with e1 _; rw [e1]
      · exact nomatch e
    · rcases keyIs_shape hb with ⟨j, u, rfl, e⟩ | ⟨y, u, rfl, e⟩
      · exact nomatch e
      · injection e with e1 _; rw [e1]
  byValue := fun k v h => by
    rcases keyIs_shape h with ⟨i, t, rfl, rfl⟩ | ⟨x, t, rfl, rfl⟩ <;> rfl
  pyHash := fun hv h => by
    rcases keyIs_shape hv with ⟨i, t, rfl, rfl⟩ | ⟨x, t, rfl, rfl⟩
    · exact wpAny_pyHash_int h
    · exact wpAny_pyHash_str h
  eqBool := fun hu hv h => by
    rcases keyIs_shape hu with ⟨i, t, rfl, rfl⟩ | ⟨x, t, rfl, rfl⟩
    · rcases keyIs_shape hv with ⟨j, u, rfl, rfl⟩ | ⟨y, u, rfl, rfl⟩
      · rw [key_ll] at h; exact wpAny_eqBool_int h
      · rw [key_lr] at h; exact SeqAt.EqAt.int_str i t y u _ _ _ _ h
    · rcases keyIs_shape hv with ⟨j, u, rfl, rfl⟩ | ⟨y, u, rfl, rfl⟩
      · rw [key_rl] at h; exact SeqAt.EqAt.str_int x t j u _ _ _ _ h
      · rw [key_rr] at h; exact wpAny_eqBool_str h
  «strs» := fun k x t v h => by
    rcases keyIs_shape h with ⟨i, u, rfl, e⟩ | ⟨y, u, rfl, e⟩
    · exact nomatch e
    · injection e with e1 _
      subst e1
      cases v <;> rfl
end L2
namespace L2
open PySem PySem.Spec PyProof.Rows
inductive V where
  | non | bl (b : Bool) | int (i : Int) | str (x : Str) | byt (b : Array UInt8) | flt (b : UInt64) | ref (a : Addr) | ty (n : String)
  deriving DecidableEq
noncomputable def RelV : V -> Value -> Prop
  | .non, u => u = Value.none
  | .bl b, u => u = Value.bool b
  | .int i, u => ∃ t, u = Value.int i t
  | .str x, u => ∃ t, u = Value.str x t
  | .byt b, u => ∃ t, u = Value.bytes b t
  | .flt b, u => ∃ t, u = Value.float b t
  | .ref a, u => u = Value.ref a
  | .ty n, u => u = Value.type n
noncomputable abbrev Vals : List V -> List Value -> Prop := Paired RelV
theorem Vals.length {xs : List V} {us : List Value} (r : Vals xs us) : xs.length = us.length := Paired.length r
theorem Vals.get : ∀ {xs : List V} {us : List Value} {i : Nat} {x : V}, Vals xs us -> xs[i]? = some x -> ∃ u, us[i]? = some u /\ RelV x u
  | _, _, _, _, .nil, e => by simp at e
  | _, _, 0, _, .cons r _, e => by simp at e; subst e; exact ⟨_, rfl, r⟩
  | _, _, i + 1, x, .cons _ t, e => by
    obtain ⟨u, h1, h2⟩ := Vals.get (i := i) (x := x) t (by simpa using e)
    exact ⟨u, by simpa using h1, h2⟩
theorem Vals.set {x : V} {u : Value} (r : RelV x u) : ∀ {xs : List V} {us : List Value} (i : Nat), Vals xs us -> Vals (xs.set i x) (us.set i u)
  | _, _, _, .nil => .nil
  | _, _, 0, .cons _ t => .cons r t
  | _, _, i + 1, .cons q t => .cons q (Vals.set r i t)
theorem Vals.append : ∀ {xs ys : List V} {us ws : List Value}, Vals xs us -> Vals ys ws -> Vals (xs ++ ys) (us ++ ws)
  | _, _, _, _, .nil, s => s
  | _, _, _, _, .cons r t, s => .cons r (Vals.append t s)
theorem Vals.take : ∀ {xs : List V} {us : List Value} (n : Nat), Vals xs us -> Vals (xs.take n) (us.take n)
  | _, _, 0, _ => .nil
  | _, _, _ + 1, .nil => .nil
  | _, _, n + 1, .cons r t => .cons r (Vals.take n t)
theorem Vals.drop : ∀ {xs : List V} {us : List Value} (n : Nat), Vals xs us -> Vals (xs.drop n) (us.drop n)
  | _, _, 0, r => r
  | _, _, _ + 1, .nil => .nil
  | _, _, n + 1, .cons _ t => Vals.drop n t
noncomputable def RelO : Option V -> Option Value -> Prop
  | some v, some u => RelV v u
  | none, none => True
  | _, _ => False
noncomputable def KV {κ : Type} : List (κ × V) -> List (κ × Value) -> Prop := Paired fun (p : κ × V) (q : κ × Value) => p.1 = q.1 /\ RelV p.2 q.2
noncomputable def kV : Key -> V
  | .inl i => .int i
  | .inr x => .str x
inductive HO where
  | lst (xs : List V)
  | tup (xs : List V)
  | dK (kvs : List (Key × V)) | dT (kvs : List (List Key × V))
  | set (S : Int -> Bool) (n : Nat)
  | ins (C dx : Addr) (fs : List (Str × V))
  | own (x : Addr)
  | xd (fs : List (Str × V))
  | met (f x : Addr)
  | rng (lo hi : Int)
  | frz (o : Obj) (u : HO)
  | tbl (ps : Array Value)
  | ext (φ : Heap -> Prop)
noncomputable abbrev Hp := Addr -> Option HO
noncomputable def upd (H : Hp) (a : Addr) (o : HO) : Hp := fun b => if b = a then some o else H b
theorem upd_same {H : Hp} {a : Addr} {o : HO} : upd H a o a = some o := by unfold upd; rw [if_pos rfl]
theorem upd_ne {H : Hp} {a b : Addr} {o : HO} (h : b ≠ a) : upd H a o b = H b := by unfold upd; rw [if_neg h]
theorem ne_of_none {H : Hp} {a b : Addr} {o : HO} (h : H a = some o) (h' : H b = none) : a ≠ b := by
  intro e; subst e; rw [h] at h'; cases h'
noncomputable def IsTupD (h : Heap) (a : Addr) (items : Array Value) : Prop := ∃ o, h.get? a = some o /\ o.cls = .type "tuple" /\ o.dict = none /\ ∃ n, o.data = .seq items n
theorem IsTupD.tup {h : Heap} {a : Addr} {items : Array Value} : IsTupD h a items -> IsTup h a items := fun ⟨o, e, c, _, n, d⟩ => ⟨o, e, c, n, d⟩
theorem IsTupD.new (h : Heap) (items : Array Value) : IsTupD (h.push { cls := .type "tuple", data := .seq items }) h.objs.size items := ⟨_, Heap.get?_push_size _ rfl, rfl, rfl, _, rfl⟩
theorem IsTupD.lt {h : Heap} {a : Addr} {items : Array Value} (x : IsTupD h a items) : a < h.objs.size := let ⟨_, ho, _⟩ := x; Heap.lt_size ho
section
variable (P : Program) (w : World)
noncomputable def ObjOk (H : Hp) (h : Heap) (a : Addr) : HO -> Prop
  | .lst xs => xs.length <= sizeLine /\ ∃ (its : List Value) (n : Nat), Vals xs its /\ h.get? a = some { cls := .type "list", data := .seq its.toArray n }
  | .tup xs => xs.length <= sizeLine /\ ∃ its : List Value, Vals xs its /\ IsTupD h a its.toArray
  | .dK kvs => kvs.length <= sizeLine /\ (a == sysModules) = false /\ ∃ vs, KV kvs vs /\ h.DictOf (mixKind P w) a vs
  | .dT kvs => kvs.length <= sizeLine /\ (a == sysModules) = false /\ ∃ xs : List (List Key × Addr × Value),
      Paired (fun (p : List Key × V) (q : List Key × Addr × Value) => p.1 = q.1 /\ H q.2.1 = some (.tup (p.1.map kV)) /\ RelV p.2 q.2.2) kvs xs /\
      ∃ o es ep, h.get? a = some o /\ o.ExactDict /\ o.data = .dict es ep /\ es.toList = xs.map (entryOfKey (tupleKind (mixKind P w))) /\ (xs.map (·.1)).Nodup
  | .set S n => h.SetOf (intKind P w) a S n
  | .ins C dx fs => H dx = some (.own a) /\ fs.length <= 1000 /\ dx ≠ a /\ h.get? a = some (PySem.W.instObj C dx) /\
      ∃ mA, h.Ns1 dx mA /\ (∀ f, RelO (fs.lookup f) (mA f)) /\ PySem.Within mA (fs.map (·.1))
  | .own _ => ∃ o, h.get? a = some o
  | .xd fs => ∃ mA, h.Ns1 a mA /\ ∀ f, RelO (fs.lookup f) (mA f)
  | .rng lo hi => ∃ t u v, h.get? a = some { cls := .type "range", data := .fields #[.int lo t, .int hi u, .int 1 v] }
  | .frz o u => h.get? a = some o /\ ObjOk H h a u
  | .tbl ps => h.get? a = some { cls := .none, data := .fields ps }
  | .met f x => h.get? a = some (PySem.W.methodObj (.ref f) (.ref x))
  | .ext φ => φ h /\ (∃ o, h.get? a = some o) /\ ∀ h1 h2 : Heap, φ h1 -> (∀ o, h1.get? a = some o -> h2.get? a = some o) -> φ h2
noncomputable def HOk (H : Hp) (h : Heap) : Prop := ∀ a o, H a = some o -> ObjOk P w H h a o
end
section
variable {P : Program} {w : World} {H H' : Hp} {h h' : Heap} {a : Addr} {o : HO}
theorem ObjOk.lt (x : ObjOk P w H h a o) : a < h.objs.size := by
  cases o with
  | lst xs => obtain ⟨_, _, _, _, e⟩ := x; exact Heap.lt_size e
  | tup xs => obtain ⟨_, _, _, p⟩ := x; exact IsTupD.lt p
  | dK kvs => obtain ⟨_, _, _, _, o, _, _, e, _⟩ := x; exact Heap.lt_size e
  | dT kvs => obtain ⟨_, _, _, _, o, _, _, e, _⟩ := x; exact Heap.lt_size e
  | set S n => obtain ⟨o, _, _, _, e, _⟩ := x; exact Heap.lt_size e
  | ins C dx fs => obtain ⟨_, _, _, e, _⟩ := x; exact Heap.lt_size e
  | own y => obtain ⟨_, e⟩ := x; exact Heap.lt_size e
  | xd fs => obtain ⟨_, ⟨_, _, _, e, _⟩, _⟩ := x; exact Heap.lt_size e
  | rng lo hi => obtain ⟨_, _, _, e⟩ := x; exact Heap.lt_size e
  | frz ob u => obtain ⟨e, _⟩ := x; exact Heap.lt_size e
  | tbl ps => exact Heap.lt_size (show h.get? a = some _ from x)
  | met f y => exact Heap.lt_size (show h.get? a = some _ from x)
  | ext φ => obtain ⟨_, ⟨_, e⟩, _⟩ := x; exact Heap.lt_size e
theorem Paired.mapP {α β : Type} {F G : α -> β -> Prop} : ∀ {l₁ : List α} {l₂ : List β}, Paired F l₁ l₂ -> (∀ a b, F a b -> G a b) -> Paired G l₁ l₂
  | _, _, .nil, _ => .nil
  | _, _, .cons r t, f => .cons (f _ _ r) (Paired.mapP t f)
theorem ObjOk.stay (x : ObjOk P w H h a o) (k : ∀ b u, (b = a \/ H b = some (.own a)) -> h.get? b = some u -> h'.get? b = some u)
    (ho : ∀ b, H b = some (.own a) -> H' b = some (.own a)) (ht : ∀ b xs, H b = some (.tup xs) -> H' b = some (.tup xs)) : ObjOk P w H' h' a o := by
  induction o with
  | lst xs => obtain ⟨z, its, n, r, e⟩ := x; exact ⟨z, its, n, r, k _ _ (.inl rfl) e⟩
  | tup xs => obtain ⟨z, its, r, ob, e, c⟩ := x; exact ⟨z, its, r, ob, k _ _ (.inl rfl) e, c⟩
  | dK kvs => obtain ⟨z, y, vs, r, ob, es, ep, e, c⟩ := x; exact ⟨z, y, vs, r, ob, es, ep, k _ _ (.inl rfl) e, c⟩
  | dT kvs =>
    obtain ⟨z, y, xs, r, ob, es, ep, e, c⟩ := x
    exact ⟨z, y, xs, Paired.mapP r fun p q z => ⟨z.1, ht _ _ z.2.1, z.2.2⟩, ob, es, ep, k _ _ (.inl rfl) e, c⟩
  | set S n => obtain ⟨ob, es, ep, t, e, c⟩ := x; exact ⟨ob, es, ep, t, k _ _ (.inl rfl) e, c⟩
  | ins C dx fs =>
    obtain ⟨d, z, ne, e, mA, ⟨od, es, ep, e2, c⟩, r⟩ := x
    exact ⟨ho _ d, z, ne, k _ _ (.inl rfl) e, mA, ⟨od, es, ep, k _ _ (.inr d) e2, c⟩, r⟩
  | own y => obtain ⟨ob, e⟩ := x; exact ⟨ob, k _ _ (.inl rfl) e⟩
  | xd fs => obtain ⟨mA, ⟨od, es, ep, e, c⟩, r⟩ := x; exact ⟨mA, ⟨od, es, ep, k _ _ (.inl rfl) e, c⟩, r⟩
  | rng lo hi => obtain ⟨t, u, v, e⟩ := x; exact ⟨t, u, v, k _ _ (.inl rfl) e⟩
  | frz ob u ih => obtain ⟨e, q⟩ := x; exact ⟨k _ _ (.inl rfl) e, ih q⟩
  | tbl ps =>
    have e : h.get? a = some { cls := .none, data := .fields ps } := x
    show h'.get? a = some { cls := .none, data := .fields ps }
    exact k a _ (.inl rfl) e
  | met f y =>
    have e : h.get? a = some (PySem.W.methodObj (.ref f) (.ref y)) := x
    show h'.get? a = some (PySem.W.methodObj (.ref f) (.ref y))
    exact k a _ (.inl rfl) e
  | ext φ => obtain ⟨p, ⟨o, e⟩, st⟩ := x; exact ⟨st _ _ p fun o q => k _ _ (.inl rfl) q, ⟨o, k _ _ (.inl rfl) e⟩, st⟩
theorem HOk.lt (x : HOk P w H h) (e : H a = some o) : a < h.objs.size := (x a o e).lt
theorem HOk.fresh (x : HOk P w H h) (e : h.objs.size <= a) : H a = none := by
  cases q : H a with
  | none => rfl
  | some u => exact absurd (Nat.lt_of_lt_of_le (x.lt q) e) (Nat.lt_irrefl _)
theorem HOk.kept (x : HOk P w H h) (k : ∀ b u, h.get? b = some u -> h'.get? b = some u) : HOk P w H h' := fun a o e =>
  (x a o e).stay (fun b u _ q => k b u q) (fun _ q => q) fun _ _ q => q
theorem HOk.laid (x : HOk P w H h) (k : ∀ b u, h.get? b = some u -> h'.get? b = some u) (hp : h.objs.size <= a) (new : ObjOk P w (upd H a o) h' a o) : HOk P w (upd H a o) h' := fun b u e => by
  have hn := x.fresh hp
  by_cases hb : b = a
  · subst hb; rw [upd_same] at e; cases e; exact new
  · rw [upd_ne hb] at e
    exact (x b u e).stay (fun c v _ q => k c v q) (fun c q => by rw [upd_ne (ne_of_none q hn)]; exact q) fun c xs q => by rw [upd_ne (ne_of_none q hn)]; exact q
end
noncomputable def Rd (H : Hp) (a : Addr) (u : HO) : Prop := H a = some u \/ ∃ o, H a = some (.frz o u)
theorem Rd.ok {P : Program} {w : World} {H : Hp} {h : Heap} {a : Addr} {u : HO} (r : Rd H a u) (x : HOk P w H h) : ObjOk P w H h a u := by
  rcases r with r | ⟨o, r⟩
  · exact x a u r
  · obtain ⟨_, q⟩ := x a _ r
    exact q
noncomputable def Mut : Option HO -> Prop
  | some (.lst _) => True
  | some (.dK _) => True
  | some (.dT _) => True
  | some (.set _ _) => True
  | some (.ins _ _ _) => True
  | some (.ext _) => True
  | _ => False
section
variable {P : Program} {w : World} {H : Hp} {h h' : Heap} {x e : Addr} {o' : HO}
theorem HOk.write (ok : HOk P w H h) (mu : Mut (H x)) (he : e = x \/ H e = some (.own x)) (k : ∀ b u, b ≠ e -> h.get? b = some u -> h'.get? b = some u) (heo : ∃ u, h'.get? e = some u)
    (new : ObjOk P w (upd H x o') h' x o') : HOk P w (upd H x o') h' := fun b u q => by
  have nown : ∀ c y, H c = some (.own y) -> c ≠ x := fun c y r z => by subst z; rw [r] at mu; exact mu
  have ntup : ∀ c xs, H c = some (.tup xs) -> c ≠ x := fun c xs r z => by subst z; rw [r] at mu; exact mu
  by_cases hb : b = x
  · subst hb; rw [upd_same] at q; cases q; exact new
  · rw [upd_ne hb] at q
    by_cases hbe : b = e
    · have q' : H b = some (.own x) := by
        rcases he with z | z
        · exact absurd (hbe.trans z) hb
        · rw [hbe]; exact z
      rw [q] at q'; cases q'
      obtain ⟨v, hv⟩ := heo
      exact ⟨v, by rw [hbe]; exact hv⟩
    · refine (ok b u q).stay (fun c v hc r => k c v ?_ r) (fun c r => by rw [upd_ne (nown c b r)]; exact r) fun c xs r => by rw [upd_ne (ntup c xs r)]; exact r
      rcases hc with rfl | hc
      · exact hbe
      · rintro rfl
        rcases he with z | z
        · exact nown c b hc z
        · rw [hc] at z; cases z; exact hb rfl
end
structure Un (fs ex : List Addr) (H H' : Hp) (h h' : Heap) : Prop where
  keep : ∀ b o, h.get? b = some o -> H b = none -> b ∉ fs -> b ∉ ex -> h'.get? b = some o
  slot : ∀ b o, h.get? b = some o -> H b = none -> b ∈ fs -> b ∉ ex -> ∃ sl, h'.get? b = some { o with slots := sl }
  free : ∀ b o, h.get? b = some o -> H b = none -> b ∉ ex -> H' b = none
  there : ∀ b o, h.get? b = some o -> b ∉ ex -> ∃ o', h'.get? b = some o'
  tups : ∀ b xs, H b = some (.tup xs) -> H' b = some (.tup xs)
  frzs : ∀ b o u, H b = some (.frz o u) -> H' b = some (.frz o u)
  tbls : ∀ b ps, H b = some (.tbl ps) -> ∃ more, H' b = some (.tbl (ps ++ more))
section
variable {fs fs' ex ex' : List Addr} {H H1 H2 : Hp} {h h1 h2 h' : Heap} {a x e : Addr} {o : HO}
theorem Un.any (u : Un fs ex H H1 h h1) {b : Addr} {ob : Obj} (q : h.get? b = some ob) (n : H b = none) (hx : b ∉ ex) : ∃ sl, h1.get? b = some { ob with slots := sl } := by
  by_cases hb : b ∈ fs
  · exact u.slot b ob q n hb hx
  · exact ⟨ob.slots, u.keep b ob q n hb hx⟩
theorem Un.kept (k : ∀ b u, h.get? b = some u -> h'.get? b = some u) : Un fs ex H H h h' :=
  ⟨fun b ob q _ _ _ => k b ob q, fun b ob q _ _ _ => ⟨ob.slots, k b ob q⟩, fun _ _ _ n _ => n, fun b ob q _ => ⟨ob, k b ob q⟩, fun _ _ q => q, fun _ _ _ q => q, fun _ ps q => ⟨#[], by rw [q]; simp⟩⟩
theorem Un.refl : Un fs ex H H h h := Un.kept fun _ _ q => q
theorem Un.laid (k : ∀ b u, h.get? b = some u -> h'.get? b = some u) (hp : h.objs.size <= a) (hn : H a = none) : Un fs ex H (upd H a o) h h' where
  keep := fun b u q _ _ _ => k b u q
  slot := fun b u q _ _ _ => ⟨u.slots, k b u q⟩
  free := fun b u q n _ => by rw [upd_ne (Nat.ne_of_lt (Nat.lt_of_lt_of_le (Heap.lt_size q) hp))]; exact n
  there := fun b u q _ => ⟨u, k b u q⟩
  tups := fun b xs q => by rw [upd_ne (ne_of_none q hn)]; exact q
  frzs := fun b u xs q => by rw [upd_ne (ne_of_none q hn)]; exact q
  tbls := fun b ps q => ⟨#[], by rw [upd_ne (ne_of_none q hn), q]; simp⟩
theorem Un.write (mu : Mut (H x)) (he : e = x \/ H e = some (.own x)) (k : ∀ b u, b ≠ e -> h.get? b = some u -> h'.get? b = some u) (heo : ∃ u, h'.get? e = some u) : Un fs ex H (upd H x o) h h' := by
  have hx : ∀ b, H b = none -> b ≠ x := fun b n z => by subst z; rw [n] at mu; exact mu
  have hb : ∀ b, H b = none -> b ≠ e := fun b n z => by
    subst z
    rcases he with r | r
    · exact hx b n r
    · rw [n] at r; cases r
  have hm : ∀ b u, H b = some u -> ¬ Mut (some u) -> b ≠ x := fun b u q nm z => by subst z; rw [q] at mu; exact nm mu
  refine ⟨fun b u q n _ _ => k b u (hb b n) q, fun b u q n _ _ => ⟨u.slots, k b u (hb b n) q⟩, fun b u q n _ => by rw [upd_ne (hx b n)]; exact n, fun b u q _ => ?_,
    fun b xs q => by rw [upd_ne (hm b _ q fun z => z)]; exact q, fun b u xs q => by rw [upd_ne (hm b _ q fun z => z)]; exact q, fun b ps q => ⟨#[], by rw [upd_ne (hm b _ q fun z => z), q]; simp⟩⟩
  by_cases hbe : b = e
  · subst hbe; exact heo
  · exact ⟨u, k b u hbe q⟩
end
noncomputable def trk (h : Heap) (H : Hp) : List Addr := (List.range h.objs.size).filter fun a => (H a).isSome
noncomputable def hidT (h : Heap) (H : Hp) : Heap := PySem.W.hideAll h (trk h H)
theorem hidT_size (h : Heap) (H : Hp) : (hidT h H).objs.size = h.objs.size := PySem.W.hideAll_size _ _
theorem hidT_get {h : Heap} {H : Hp} {b : Addr} {o : Obj} (e : h.get? b = some o) (n : H b = none) : (hidT h H).get? b = some o :=
  PySem.W.hideAll_get _ e fun hm => by
    have q : (H b).isSome = true := (List.mem_filter.mp hm).2
    rw [n] at q; simp at q
theorem of_hidT {h : Heap} {H : Hp} {b : Addr} {o : Obj} (e : (hidT h H).get? b = some o) : h.get? b = some o /\ H b = none := by
  have e' : h.get? b = some o := PySem.W.of_hideAll (trk h H) e
  refine ⟨e', ?_⟩
  cases q : H b with
  | none => rfl
  | some x =>
    have hm : b ∈ trk h H := List.mem_filter.mpr ⟨List.mem_range.mpr (Heap.lt_size e'), by simp [q]⟩
    have z : (hidT h H).get? b = none := PySem.W.hideAll_none (trk h H) hm
    rw [z] at e; cases e
noncomputable def allNews (g h : Heap) (L : Addr) : List (Addr × Obj) := (List.range h.objs.size).filterMap fun a => if a = L \/ (g.get? a).isSome = true then none else (h.get? a).map fun o => (a, o)
noncomputable def rest (g h : Heap) (L d : Addr) : List (Addr × Obj) := (allNews g h L).filter fun p => decide (p.1 ≠ d)
end L2
namespace L2
open PySem PySem.Spec PyProof.Rows
structure Mod (K : PySem.W.Frag) (mg : Str -> Option Value) (base : Heap) : Prop where
  kin : K.In base
  glob : base.Ns mainGlobals mg
  blt : ∃ mb, base.Ns builtinsNs mb /\ ∀ x : Str, x ≠ "__name__" -> mb x = bootBuiltins x
  nolimit : base.NoLimit
structure Cx where
  prog : Program
  w : World
  K : PySem.W.Frag
  mg : Str -> Option Value
  base : Heap
  A : Around
  N : List Str
  s₀ : Shared
  H₀ : Hp
  env : Env
  outer : List Env
  stack : List Env
  ex : List Addr
  fn : Str -> Bool
  calm : Bool
  pn : List (Addr × Obj)
  xe : Value -> Shared -> Prop
noncomputable def frs (l : List Env) : List Addr := l.filterMap (·.frame)
noncomputable abbrev Cx.fs (X : Cx) : List Addr := frs X.outer
noncomputable def Vis (sc : Scope) (x : Str) : Prop := sc.names.lookup x = some .local \/ sc.names.lookup x = some .cell \/ sc.names.lookup x = some .free
noncomputable def Loc (sc : Scope) (x : Str) : Prop := sc.names.lookup x = some .local \/ sc.names.lookup x = some .cell
noncomputable def Look (env : Env) (h : Heap) (m : Str -> Option Value) (x : Str) (u : Value) : Prop :=
  (env.kindOf x = some .local /\ m x = some u) \/ ((env.kindOf x = some .cell \/ env.kindOf x = some .free) /\ ∃ c, env.cells.lookup x = some c /\ h.IsCell c (some u))
structure Cx.Ok (X : Cx) : Prop where
  mod : Mod X.K X.mg X.base
  kind : X.env.scope.kind = .function
  glob : X.env.globals = mainGlobals
  blt : X.env.builtins = builtinsNs
  above : X.s₀.heap.objs.size <= X.env.locals
  inj : ∀ x y c, X.env.cells.lookup x = some c -> X.env.cells.lookup y = some c -> x = y
  has : ∀ x, (X.env.kindOf x = some .cell \/ X.env.kindOf x = some .free) -> ∃ c, X.env.cells.lookup x = some c
  cab : ∀ x c, X.fn x = true -> X.env.cells.lookup x = some c -> X.s₀.heap.objs.size <= c
  hd : X.calm = true -> X.A.handled = none
  frames : X.A.frames = some X.stack
  stk : X.stack = X.outer \/ (X.stack = X.env :: X.outer /\ X.env.frame = some X.env.locals)
  exf : ∀ b ∈ X.ex, b ≠ X.env.locals /\ ∀ x c, X.env.cells.lookup x = some c -> c ≠ b
  bs : ∀ b o, X.base.get? b = some o -> X.s₀.heap.get? b = some o /\ X.H₀ b = none
  bsz : X.base.objs.size <= X.s₀.heap.objs.size
  noex : ∀ b o, X.base.get? b = some o -> b ∉ X.ex
  exfs : ∀ b ∈ X.ex, b ∉ X.fs
  funs : X.s₀.heap.FunFrames X.base X.outer
  frf : ∀ b ∈ X.fs, X.H₀ b = none
structure Inv (X : Cx) (pins : List (Addr × Obj)) (σ : List (Option V)) (H : Hp) (s : Shared) : Prop where
  ok : X.Ok
  os : s.os = X.s₀.os
  bare : AllBare s.gens
  base : Un X.fs X.ex X.H₀ H X.s₀.heap s.heap
  loc : ∃ m, s.heap.Ns X.env.locals m /\ ∀ (i : Nat) (x : Str) (v : V), X.N[i]? = some x -> σ[i]? = some (some v) -> Vis X.env.scope x -> ∃ u, RelV v u /\ Look X.env s.heap m x u
  cell : ∀ x c, X.env.cells.lookup x = some c -> ∃ v, s.heap.IsCell c v
  free : H X.env.locals = none
  freeC : ∀ x c, X.env.cells.lookup x = some c -> H c = none
  pin : ∀ p ∈ X.pn ++ pins, s.heap.get? p.1 = some p.2 /\ H p.1 = none /\ p.1 ≠ X.env.locals /\ p.1 ∉ X.fs /\ ∀ v, p.2.data ≠ .cell v
  hok : HOk X.prog X.w H s.heap
  len : σ.length = X.N.length
section
variable {X : Cx} {pins : List (Addr × Obj)} {σ : List (Option V)} {H H' : Hp} {s : Shared} {h' : Heap}
theorem Cx.Ok.nofr (ok : X.Ok) {b : Addr} {o : Obj} (e : X.base.get? b = some o) : b ∉ X.fs := fun hb => by
  have := (ok.funs.mem hb).1
  rw [e] at this; cases this
theorem Inv.bs (I : Inv X pins σ H s) : ∀ b o, X.base.get? b = some o -> s.heap.get? b = some o /\ H b = none := fun b o e =>
  ⟨I.base.keep b o (I.ok.bs b o e).1 (I.ok.bs b o e).2 (I.ok.nofr e) (I.ok.noex b o e), I.base.free b o (I.ok.bs b o e).1 (I.ok.bs b o e).2 (I.ok.noex b o e)⟩
theorem Inv.bk (I : Inv X pins σ H s) : ∀ b o, X.base.get? b = some o -> s.heap.get? b = some o := fun b o e => (I.bs b o e).1
theorem Inv.mod (I : Inv X pins σ H s) : Mod X.K X.mg X.base := I.ok.mod
theorem Inv.kIn (I : Inv X pins σ H s) : X.K.In s.heap := I.ok.mod.kin.keeps I.bk
theorem Inv.lt (I : Inv X pins σ H s) : X.env.locals < s.heap.objs.size := let ⟨_, hn, _⟩ := I.loc; hn.lt
theorem Inv.sz (I : Inv X pins σ H s) : X.s₀.heap.objs.size <= s.heap.objs.size := Nat.le_trans I.ok.above (Nat.le_of_lt I.lt)
theorem Inv.nofs (I : Inv X pins σ H s) {a : Addr} (h : s.heap.objs.size <= a) : a ∉ X.fs := fun hb => by
  obtain ⟨_, o, ho, _⟩ := I.ok.funs.mem hb
  exact absurd (Nat.lt_of_lt_of_le (Heap.lt_size ho) (Nat.le_trans I.sz h)) (Nat.lt_irrefl _)
theorem Inv.cne (I : Inv X pins σ H s) : ∀ x c, X.env.cells.lookup x = some c -> c ≠ X.env.locals := fun x c e z => by
  obtain ⟨v, o, ho, hd⟩ := I.cell x c e
  obtain ⟨m, ⟨o', es, ep, ho', hd', _⟩, _⟩ := I.loc
  rw [z, ho'] at ho; cases ho; rw [hd'] at hd; cases hd
theorem Inv.funs (I : Inv X pins σ H s) : s.heap.FunFrames X.base X.outer := by
  have all : ∀ (l : List Env), (∀ b ∈ frs l, b ∈ X.fs) -> X.s₀.heap.FunFrames X.base l -> s.heap.FunFrames X.base l := by
    intro l
    induction l with
    | nil => intro _ _; trivial
    | cons env r ih =>
      intro hs hl
      obtain ⟨hk, ⟨L, o, hf, hn, ho, hd⟩, hr⟩ := hl
      have hL : L ∈ X.fs := hs L (by unfold frs; rw [List.filterMap_cons, hf]; exact List.mem_cons_self)
      obtain ⟨sl, e⟩ := I.base.slot L o ho (I.ok.frf L hL) hL fun z => I.ok.exfs L z hL
      exact ⟨hk, ⟨L, _, hf, hn, e, hd⟩, ih (fun b hb => hs b (by unfold frs; rw [List.filterMap_cons, hf]; exact List.mem_cons_of_mem _ hb)) hr⟩
  exact all X.outer (fun _ hb => hb) I.ok.funs
theorem Inv.stack (I : Inv X pins σ H s) : s.heap.FunFrames X.base X.stack := by
  rcases I.ok.stk with e | ⟨e, hf⟩
  · rw [e]; exact I.funs
  · rw [e]
    obtain ⟨m, hn, _⟩ := I.loc
    refine .cons (by rw [I.ok.kind]; decide) hf hn ?_ I.funs
    exact Heap.get?_none_of_le (Nat.le_trans I.ok.bsz I.ok.above)
theorem Inv.stkSub (I : Inv X pins σ H s) : ∀ b ∈ frs X.stack, b ∈ X.env.locals :: X.fs := fun b hb => by
  rcases I.ok.stk with e | ⟨e, hf⟩
  · rw [e] at hb; exact List.mem_cons_of_mem _ hb
  · rw [e] at hb
    unfold frs at hb
    rw [List.filterMap_cons, hf] at hb
    exact hb
theorem Inv.stkFree (I : Inv X pins σ H s) : ∀ b ∈ frs X.stack, H b = none := fun b hb => by
  rcases List.mem_cons.mp (I.stkSub b hb) with e | hb
  · rw [e]; exact I.free
  · obtain ⟨_, o, ho, _⟩ := I.ok.funs.mem hb
    exact I.base.free b o ho (I.ok.frf b hb) fun z => I.ok.exfs b z hb
theorem Inv.step {g' : Array GenState} {t' : Nat} {d' : Drawn} {ch : List Addr} (I : Inv X pins σ H s)
    (hch : ∀ b ∈ ch, (b ∈ X.ex \/ X.s₀.heap.objs.size <= b) /\ b ≠ X.env.locals /\ (∀ x c, X.env.cells.lookup x = some c -> c ≠ b) /\ ∀ p ∈ X.pn ++ pins, p.1 ≠ b)
    (keep : ∀ b o, b ≠ X.env.locals -> b ∉ X.fs -> b ∉ ch -> s.heap.get? b = some o -> H b = none -> h'.get? b = some o)
    (slot : ∀ b o, b ≠ X.env.locals -> b ∈ X.fs -> b ∉ ch -> s.heap.get? b = some o -> H b = none -> ∃ sl, h'.get? b = some { o with slots := sl }) (free : ∀ b o, b ∉ ch -> s.heap.get? b = some o -> H b = none -> H' b = none)
    (there : ∀ b o, b ∉ ch -> s.heap.get? b = some o -> ∃ o', h'.get? b = some o')
    (tups : ∀ b xs, H b = some (.tup xs) -> H' b = some (.tup xs)) (frzs : ∀ b o u, H b = some (.frz o u) -> H' b = some (.frz o u)) (tbls : ∀ b ps, H b = some (.tbl ps) -> ∃ more, H' b = some (.tbl (ps ++ more)))
    (ns : ∀ m, s.heap.Ns X.env.locals m -> h'.Ns X.env.locals m) (hok : HOk X.prog X.w H' h') (hg : AllBare g') :
    Inv X pins σ H' { s with heap := h', gens := g', drawn := d', toks := t' } := by
  have neL : ∀ b o, X.s₀.heap.get? b = some o -> b ≠ X.env.locals := fun b o e => Nat.ne_of_lt (Nat.lt_of_lt_of_le (Heap.lt_size e) I.ok.above)
  have neC : ∀ b o, X.s₀.heap.get? b = some o -> b ∉ X.ex -> b ∉ ch := fun b o e hx hb => by
    rcases (hch b hb).1 with z | z
    · exact hx z
    · exact absurd (Nat.lt_of_lt_of_le (Heap.lt_size e) z) (Nat.lt_irrefl _)
  have cellK : ∀ x c, X.env.cells.lookup x = some c -> ∀ v, s.heap.IsCell c v -> h'.IsCell c v := fun x c e v ⟨o, ho, hd⟩ => by
    have nch : c ∉ ch := fun z => (hch c z).2.2.1 x c e rfl
    by_cases hc : c ∈ X.fs
    · obtain ⟨sl, q⟩ := slot c o (I.cne x c e) hc nch ho (I.freeC x c e)
      exact ⟨_, q, hd⟩
    · exact ⟨o, keep c o (I.cne x c e) hc nch ho (I.freeC x c e), hd⟩
  refine ⟨I.ok, I.os, hg, ⟨fun b o e n hb hx => ?_, fun b o e n hb hx => ?_, fun b o e n hx => ?_, fun b o e hx => ?_, fun b xs e => tups b xs (I.base.tups b xs e), fun b o xs e => frzs b o xs (I.base.frzs b o xs e), fun b ps e => ?_⟩, ?_, fun x c e => ?_, ?_, fun x c e => ?_, fun p hp => ?_, hok, I.len⟩
  · exact keep b o (neL b o e) hb (neC b o e hx) (I.base.keep b o e n hb hx) (I.base.free b o e n hx)
  · obtain ⟨sl, e1⟩ := I.base.slot b o e n hb hx
    obtain ⟨sl', e2⟩ := slot b _ (neL b o e) hb (neC b o e hx) e1 (I.base.free b o e n hx)
    exact ⟨sl', e2⟩
  · obtain ⟨o', e1⟩ := I.base.there b o e hx
    exact free b o' (neC b o e hx) e1 (I.base.free b o e n hx)
  · obtain ⟨o', e1⟩ := I.base.there b o e hx
    exact there b o' (neC b o e hx) e1
  · obtain ⟨m1, e1⟩ := I.base.tbls b ps e
    obtain ⟨m2, e2⟩ := tbls b _ e1
    exact ⟨m1 ++ m2, by rw [e2, Array.append_assoc]⟩
  · obtain ⟨m, hn, hl⟩ := I.loc
    refine ⟨m, ns m hn, fun i x v e1 e2 e3 => ?_⟩
    obtain ⟨u, r, l⟩ := hl i x v e1 e2 e3
    refine ⟨u, r, ?_⟩
    rcases l with l | ⟨k, c, e, z⟩
    · exact .inl l
    · exact .inr ⟨k, c, e, cellK x c e _ z⟩
  · obtain ⟨v, z⟩ := I.cell x c e
    exact ⟨v, cellK x c e v z⟩
  · obtain ⟨m, ⟨o, _, _, ho, _⟩, _⟩ := I.loc
    exact free _ o (fun z => (hch _ z).2.1 rfl) ho I.free
  · obtain ⟨v, o, ho, hd⟩ := I.cell x c e
    exact free c o (fun z => (hch c z).2.2.1 x c e rfl) ho (I.freeC x c e)
  · obtain ⟨e, n, ne, nf, d⟩ := I.pin p hp
    have nch : p.1 ∉ ch := fun z => (hch p.1 z).2.2.2 p hp rfl
    exact ⟨keep p.1 p.2 ne nf nch e n, free p.1 p.2 nch e n, ne, nf, d⟩
theorem Inv.un {t' : Nat} (I : Inv X pins σ H s) (u : Un X.fs [] H H' s.heap h') (hok : HOk X.prog X.w H' h') : Inv X pins σ H' { s with heap := h', toks := t' } := by
  obtain ⟨m, ⟨o, es, ep, ho, r⟩, _⟩ := id I.loc
  obtain ⟨sl, hL⟩ := u.any ho I.free (by simp)
  exact I.step (g' := s.gens) (d' := s.drawn) (ch := []) (fun _ z => nomatch z) (fun b o _ hb _ e n => u.keep b o e n hb (by simp)) (fun b o _ hb _ e n => u.slot b o e n hb (by simp)) (fun b o _ e n => u.free b o e n (by simp)) (fun b o _ e => u.there b o e (by simp)) u.tups u.frzs u.tbls (fun m' hm => by
    obtain ⟨o', es', ep', ho', r'⟩ := hm
    rw [ho] at ho'; cases ho'
    exact ⟨_, es', ep', hL, r'⟩) hok I.bare
theorem Inv.call {g' : Array GenState} {t' : Nat} {d' : Drawn} {ch : List Addr} (I : Inv X pins σ H s) (u : Un (frs X.stack) ch H H' s.heap h') (hok : HOk X.prog X.w H' h') (hg : AllBare g')
    (hch : ∀ b ∈ ch, (b ∈ X.ex \/ X.s₀.heap.objs.size <= b) /\ b ≠ X.env.locals /\ (∀ x c, X.env.cells.lookup x = some c -> c ≠ b) /\ ∀ p ∈ X.pn ++ pins, p.1 ≠ b) :
    Inv X pins σ H' { s with heap := h', gens := g', drawn := d', toks := t' } := by
  obtain ⟨m, ⟨o, es, ep, ho, r⟩, _⟩ := id I.loc
  obtain ⟨sl, hL⟩ := u.any ho I.free fun z => (hch _ z).2.1 rfl
  exact I.step (ch := ch) hch (fun b o hL hb hc e n => u.keep b o e n (fun z => (List.mem_cons.mp (I.stkSub b z)).elim hL hb) hc) (fun b o _ _ hc e n => u.any e n hc) (fun b o hc e n => u.free b o e n hc) (fun b o hc e => u.there b o e hc) u.tups u.frzs u.tbls (fun m' hm => by
    obtain ⟨o', es', ep', ho', r'⟩ := hm
    rw [ho] at ho'; cases ho'
    exact ⟨_, es', ep', hL, r'⟩) hok hg
theorem Inv.turned {t' : Nat} {it : Addr} (I : Inv X pins σ H s) (k : ∀ b o, b ≠ it -> s.heap.get? b = some o -> h'.get? b = some o) (hn : H it = none) (hL : it ≠ X.env.locals)
    (h1 : it ∈ X.ex \/ X.s₀.heap.objs.size <= it) (h2 : ∀ x c, X.env.cells.lookup x = some c -> c ≠ it) (h3 : ∀ p ∈ X.pn ++ pins, p.1 ≠ it) : Inv X pins σ H { s with heap := h', toks := t' } := by
  have nit : ∀ b u, H b = some u -> b ≠ it := fun b u e z => by rw [z, hn] at e; cases e
  refine I.step (g' := s.gens) (d' := s.drawn) (ch := [it]) (fun b hb => ?_) (fun b o _ _ hc e _ => k b o (fun z => hc (by simp [z])) e) (fun b o _ _ hc e _ => ⟨o.slots, k b o (fun z => hc (by simp [z])) e⟩) (fun _ _ _ _ n => n)
    (fun b o hc e => ⟨o, k b o (fun z => hc (by simp [z])) e⟩) (fun _ _ e => e) (fun _ _ _ e => e) (fun b ps e => ⟨#[], by rw [e]; simp⟩) (fun m hm => ?_) (fun b u e => ?_) I.bare
  · have e : b = it := by simpa using hb
    subst e
    exact ⟨h1, hL, h2, h3⟩
  · obtain ⟨o, es, ep, ho, r⟩ := hm
    exact ⟨o, es, ep, k _ o (Ne.symm hL) ho, r⟩
  · refine (I.hok b u e).stay (fun c v hc q => k c v ?_ q) (fun _ q => q) fun _ _ q => q
    rcases hc with z | z
    · rw [z]; exact nit b u e
    · exact nit c _ z
theorem Inv.tok (I : Inv X pins σ H s) (t : Nat) : Inv X pins σ H { s with toks := t } := I.un (h' := s.heap) (t' := t) Un.refl I.hok
theorem Inv.kept {t' : Nat} (I : Inv X pins σ H s) (k : ∀ b u, s.heap.get? b = some u -> h'.get? b = some u) : Inv X pins σ H { s with heap := h', toks := t' } := I.un (Un.kept k) (I.hok.kept k)
theorem Inv.laid {a : Addr} {o : HO} {t' : Nat} (I : Inv X pins σ H s) (k : ∀ b u, s.heap.get? b = some u -> h'.get? b = some u) (hp : s.heap.objs.size <= a) (new : ObjOk X.prog X.w (upd H a o) h' a o) :
    Inv X pins σ (upd H a o) { s with heap := h', toks := t' } := I.un (Un.laid k hp (I.hok.fresh hp)) (I.hok.laid k hp new)
theorem Inv.write {x e : Addr} {o : HO} {t' : Nat} (I : Inv X pins σ H s) (mu : Mut (H x)) (he : e = x \/ H e = some (.own x)) (k : ∀ b u, b ≠ e -> s.heap.get? b = some u -> h'.get? b = some u) (heo : ∃ u, h'.get? e = some u)
    (new : ObjOk X.prog X.w (upd H x o) h' x o) : Inv X pins σ (upd H x o) { s with heap := h', toks := t' } := I.un (Un.write mu he k heo) (I.hok.write mu he k heo new)
theorem Inv.pins_of {pins' : List (Addr × Obj)} (I : Inv X pins σ H s) (h : ∀ p ∈ pins', s.heap.get? p.1 = some p.2 /\ H p.1 = none /\ p.1 ≠ X.env.locals /\ p.1 ∉ X.fs /\ ∀ v, p.2.data ≠ .cell v) : Inv X pins' σ H s :=
  ⟨I.ok, I.os, I.bare, I.base, I.loc, I.cell, I.free, I.freeC, fun p hp => (List.mem_append.mp hp).elim (fun z => I.pin p (List.mem_append_left _ z)) (h p), I.hok, I.len⟩
theorem nodup_ix {N : List Str} (hN : N.Nodup) {i j : Nat} {x : Str} (a : N[i]? = some x) (b : N[j]? = some x) : i = j := by
  obtain ⟨h1, e1⟩ := List.getElem?_eq_some_iff.mp a
  obtain ⟨h2, e2⟩ := List.getElem?_eq_some_iff.mp b
  exact (List.getElem_inj hN).mp (e1.trans e2.symm)
theorem store_ok2 {M : Model} {A : Around} {E : Value -> Shared -> Prop} {i : Nat} {x : Str} {v : V} {u : Value} {Q : Unit -> Shared -> Prop} (I : Inv X pins σ H s) (hN : X.N.Nodup) (hi : X.N[i]? = some x) (hx : Loc X.env.scope x) (r : RelV v u)
    (h : ∀ s', Inv X pins (σ.set i (some v)) H s' -> (∃ a, Heap.SameBut a s.heap s'.heap /\ (a = X.env.locals \/ X.env.cells.lookup x = some a)) -> Q () s') (hf : X.fn x = true \/ X.env.scope.names.lookup x = some .local := by first | exact .inl rfl | exact .inr rfl | assumption) : wpAny M A (storeName X.env x u) Q E s := by
  obtain ⟨m, hn, hl⟩ := id I.loc
  have hcls : (X.env.scope.kind == .class || (X.env.scope.kind == .module && X.env.locals != X.env.globals)) = false := by rw [I.ok.kind]; rfl
  have hiσ : i < σ.length := by rw [I.len]; exact (List.getElem?_eq_some_iff.mp hi).1
  have cne := I.cne
  have tracked : ∀ {a : Addr} {h' : Heap}, (∃ o, s.heap.get? a = some o /\ H a = none) -> Heap.SameBut a s.heap h' -> HOk X.prog X.w H h' := fun {a h'} ha hs b ob e => by
    obtain ⟨_, _, hfree⟩ := ha
    refine (I.hok b ob e).stay (fun c w' hc q => (hs.2 c ?_).trans q) (fun _ q => q) fun _ _ q => q
    rintro rfl
    rcases hc with rfl | hc
    · rw [hfree] at e; cases e
    · rw [hfree] at hc; cases hc
  rcases hx with hk | hk
  · refine wpAny_storeName_local hk hn (fun h' hn' hs => ?_) hcls
    obtain ⟨oL, _, _, hoL, _⟩ := id hn
    refine h _ ⟨I.ok, I.os, I.bare, ⟨fun b o e n hb hx => ?_, fun b o e n hb hx => ?_, I.base.free, fun b o e hx => ?_, I.base.tups, I.base.frzs, I.base.tbls⟩, ⟨_, hn', fun j y v' e1 e2 e3 => ?_⟩, fun y c e => ?_, I.free, I.freeC, fun p hp => ?_, tracked ⟨oL, hoL, I.free⟩ hs, by simpa using I.len⟩ ⟨_, hs, .inl rfl⟩
    · exact (hs.2 b (Nat.ne_of_lt (Nat.lt_of_lt_of_le (Heap.lt_size e) I.ok.above))).trans (I.base.keep b o e n hb hx)
    · obtain ⟨sl, e1⟩ := I.base.slot b o e n hb hx
      exact ⟨sl, (hs.2 b (Nat.ne_of_lt (Nat.lt_of_lt_of_le (Heap.lt_size e) I.ok.above))).trans e1⟩
    · obtain ⟨o', e1⟩ := I.base.there b o e hx
      exact ⟨o', (hs.2 b (Nat.ne_of_lt (Nat.lt_of_lt_of_le (Heap.lt_size e) I.ok.above))).trans e1⟩
    · by_cases hj : j = i
      · subst hj
        rw [hi] at e1; cases e1
        rw [List.getElem?_set_self hiσ] at e2
        cases e2
        exact ⟨u, r, .inl ⟨hk, by simp⟩⟩
      · rw [List.getElem?_set_ne (Ne.symm hj)] at e2
        obtain ⟨u', r', q⟩ := hl j y v' e1 e2 e3
        refine ⟨u', r', ?_⟩
        rcases q with ⟨k, e⟩ | ⟨k, c, e, z⟩
        · refine .inl ⟨k, ?_⟩
          have : y ≠ x := fun e => hj (nodup_ix hN e1 (e ▸ hi))
          simp [this, e]
        · exact .inr ⟨k, c, e, z.sameBut hs (cne y c e)⟩
    · obtain ⟨w', z⟩ := I.cell y c e
      exact ⟨w', z.sameBut hs (cne y c e)⟩
    · obtain ⟨e, n, ne, nf, d⟩ := I.pin p hp
      exact ⟨(hs.2 p.1 ne).trans e, n, ne, nf, d⟩
  · have hfn : X.fn x = true := by
      rcases hf with z | z
      · exact z
      · rw [z] at hk; cases hk
    obtain ⟨c, hc⟩ := I.ok.has x (.inl hk)
    obtain ⟨w', z⟩ := I.cell x c hc
    refine wpAny_storeName_cell I.ok.kind hk hc z (fun h' hc' hs => ?_)
    obtain ⟨oc, hoc, hocd⟩ := id z
    refine h { s with heap := h' } ⟨I.ok, I.os, I.bare, ⟨fun b o e n hb hx => ?_, fun b o e n hb hx => ?_, I.base.free, fun b o e hx => ?_, I.base.tups, I.base.frzs, I.base.tbls⟩, ⟨m, hn.sameBut hs (Ne.symm (cne x c hc)), fun j y v' e1 e2 e3 => ?_⟩, fun y c' e => ?_, I.free, I.freeC, fun p hp => ?_, tracked ⟨oc, hoc, I.freeC x c hc⟩ hs, by simpa using I.len⟩ ⟨c, hs, .inr hc⟩
    · exact (hs.2 b (Nat.ne_of_lt (Nat.lt_of_lt_of_le (Heap.lt_size e) (I.ok.cab x c hfn hc)))).trans (I.base.keep b o e n hb hx)
    · obtain ⟨sl, e1⟩ := I.base.slot b o e n hb hx
      exact ⟨sl, (hs.2 b (Nat.ne_of_lt (Nat.lt_of_lt_of_le (Heap.lt_size e) (I.ok.cab x c hfn hc)))).trans e1⟩
    · obtain ⟨o', e1⟩ := I.base.there b o e hx
      exact ⟨o', (hs.2 b (Nat.ne_of_lt (Nat.lt_of_lt_of_le (Heap.lt_size e) (I.ok.cab x c hfn hc)))).trans e1⟩
    · by_cases hj : j = i
      · subst hj
        rw [hi] at e1; cases e1
        rw [List.getElem?_set_self hiσ] at e2
        cases e2
        exact ⟨u, r, .inr ⟨.inl hk, c, hc, hc'⟩⟩
      · rw [List.getElem?_set_ne (Ne.symm hj)] at e2
        obtain ⟨u', r', q⟩ := hl j y v' e1 e2 e3
        refine ⟨u', r', ?_⟩
        rcases q with q | ⟨k, c', e, z'⟩
        · exact .inl q
        · refine .inr ⟨k, c', e, z'.sameBut hs ?_⟩
          rintro rfl
          exact hj (nodup_ix hN e1 (I.ok.inj _ _ _ e hc ▸ hi))
    · by_cases hcc : c' = c
      · subst hcc; exact ⟨_, hc'⟩
      · obtain ⟨w2, z2⟩ := I.cell y c' e
        exact ⟨w2, z2.sameBut hs hcc⟩
    · obtain ⟨e, n, ne, nf, d⟩ := I.pin p hp
      refine ⟨(hs.2 p.1 ?_).trans e, n, ne, nf, d⟩
      intro q
      rw [q, hoc] at e
      have q' : oc = p.2 := Option.some.inj e
      exact d w' (by rw [<- q']; exact hocd)
theorem store_ok {M : Model} {A : Around} {E : Value -> Shared -> Prop} {i : Nat} {x : Str} {v : V} {u : Value} {Q : Unit -> Shared -> Prop} (I : Inv X pins σ H s) (hN : X.N.Nodup) (hi : X.N[i]? = some x) (hx : Loc X.env.scope x) (r : RelV v u)
    (h : ∀ s', Inv X pins (σ.set i (some v)) H s' -> Q () s') (hf : X.fn x = true \/ X.env.scope.names.lookup x = some .local := by first | exact .inl rfl | exact .inr rfl | assumption) : wpAny M A (storeName X.env x u) Q E s :=
  store_ok2 I hN hi hx r (fun s' I' _ => h s' I') hf
theorem Inv.call' {s' : Shared} {ch : List Addr} (I : Inv X pins σ H s) (ho : s'.os = s.os) (u : Un (frs X.stack) ch H H' s.heap s'.heap) (hok : HOk X.prog X.w H' s'.heap) (hg : AllBare s'.gens)
    (hch : ∀ b ∈ ch, (b ∈ X.ex \/ X.s₀.heap.objs.size <= b) /\ b ≠ X.env.locals /\ (∀ x c, X.env.cells.lookup x = some c -> c ≠ b) /\ ∀ p ∈ X.pn ++ pins, p.1 ≠ b) : Inv X pins σ H' s' := by
  obtain ⟨h', g', d', t', o'⟩ := s'
  have e : o' = s.os := ho
  subst e
  exact I.call (g' := g') (t' := t') (d' := d') u hok hg hch
end
noncomputable abbrev XK := Value -> Option Addr -> Hp -> Prop
noncomputable abbrev St := List (Option V)
noncomputable abbrev VK := V -> Hp -> Prop
noncomputable abbrev TE := St -> Hp -> VK -> Prop
noncomputable abbrev TT := St -> Hp -> (Bool -> Hp -> Prop) -> Prop
noncomputable abbrev TA := St -> Hp -> (List V -> Hp -> Prop) -> Prop
structure Ends where
  nx : St -> Hp -> Prop
  rt : VK
  bk : St -> Hp -> Prop := fun _ _ => False
  ct : St -> Hp -> Prop := fun _ _ => False
noncomputable abbrev TS := Ends -> St -> Hp -> Prop
noncomputable def EP (X : Cx) (pins : List (Addr × Obj)) (σ : St) (Q : VK) (u : Value) (s' : Shared) : Prop := ∃ v H', Inv X pins σ H' s' /\ RelV v u /\ Q v H'
noncomputable def TP (X : Cx) (pins : List (Addr × Obj)) (σ : St) (Q : Bool -> Hp -> Prop) (b : Bool) (s' : Shared) : Prop := ∃ H', Inv X pins σ H' s' /\ Q b H'
noncomputable def AP (X : Cx) (pins : List (Addr × Obj)) (σ : St) (Q : List V -> Hp -> Prop) (us : List Value) (s' : Shared) : Prop := ∃ vs H', Inv X pins σ H' s' /\ Vals vs us /\ Q vs H'
noncomputable def SP (X : Cx) (pins : List (Addr × Obj)) (D : Ends) (f : Flow) (s' : Shared) : Prop :=
  match f with
  | .next => ∃ σ' H', Inv X pins σ' H' s' /\ D.nx σ' H'
  | .brk => ∃ σ' H', Inv X pins σ' H' s' /\ D.bk σ' H'
  | .cont => ∃ σ' H', Inv X pins σ' H' s' /\ D.ct σ' H'
  | .ret u => ∃ v σ' H', Inv X pins σ' H' s' /\ RelV v u /\ D.rt v H'
noncomputable def PE (X : Cx) (e : Expr) (t : TE) : Prop :=
  ∀ (pins : List (Addr × Obj)) (s : Shared) (σ : St) (H : Hp) (Q : VK), Inv X pins σ H s -> t σ H Q -> wpAny (model X.prog X.w) X.A (eval e X.env) (EP X pins σ Q) X.xe s
noncomputable def PT (X : Cx) (e : Expr) (t : TT) : Prop :=
  ∀ (pins : List (Addr × Obj)) (s : Shared) (σ : St) (H : Hp) (Q : Bool -> Hp -> Prop), Inv X pins σ H s -> t σ H Q -> wpAny (model X.prog X.w) X.A (isTrue e X.env (eval e X.env)) (TP X pins σ Q) X.xe s
noncomputable def PW (X : Cx) (e : Expr) (t : TT) : Prop :=
  ∀ (whole : Sem Value) (pins : List (Addr × Obj)) (s : Shared) (σ : St) (H : Hp) (Q : Bool -> Hp -> Prop), Inv X pins σ H s -> t σ H Q -> wpAny (model X.prog X.w) X.A (isTrue e X.env whole) (TP X pins σ Q) X.xe s
noncomputable def PA (X : Cx) (es : List Expr) (t : TA) : Prop :=
  ∀ (pos : Pos) (pins : List (Addr × Obj)) (s : Shared) (σ : St) (H : Hp) (Q : List V -> Hp -> Prop), Inv X pins σ H s -> t σ H Q -> wpAny (model X.prog X.w) X.A (spliced (backTo pos (starEach es X.env))) (AP X pins σ Q) X.xe s
noncomputable def PS (X : Cx) (st : Stmt) (t : TS) : Prop :=
  ∀ (pins : List (Addr × Obj)) (s : Shared) (σ : St) (H : Hp) (D : Ends), Inv X pins σ H s -> t D σ H -> wpAny (model X.prog X.w) X.A (exec st X.env) (SP X pins D) X.xe s
noncomputable def PSs (X : Cx) (st : List Stmt) (t : TS) : Prop :=
  ∀ (pins : List (Addr × Obj)) (s : Shared) (σ : St) (H : Hp) (D : Ends), Inv X pins σ H s -> t D σ H -> wpAny (model X.prog X.w) X.A (execs st X.env) (SP X pins D) X.xe s
theorem thn {α : Type} {t : Sem α} {Q Q' : α -> Shared -> Prop} {M : Model} {A : Around} {E : Value -> Shared -> Prop} {s : Shared} (h : wpAny M A t Q E s) (hQ : ∀ a s, Q a s -> Q' a s) : wpAny M A t Q' E s := wpAny_mono h hQ fun _ _ x => x
end L2
namespace L2
open PySem PySem.Spec PyProof.Rows
section
variable {X : Cx}
noncomputable def tVar (i : Nat) : TE := fun σ H Q => ∃ v, σ[i]? = some (some v) /\ Q v H
noncomputable def tC (v : V) : TE := fun _ H Q => Q v H
theorem pe_var {i : Nat} {x : Str} {pos : Pos} (hN : X.N[i]? = some x) (hv : Vis X.env.scope x) (hd : (x == ("__debug__" : Str)) = false := by decide) (hcd : (x == ("__classdict__" : Str)) = false := by decide) : PE X (.Name x pos) (tVar i) := by
  intro pins s σ H Q I h
  obtain ⟨v, e, h⟩ := h
  obtain ⟨m, hn, hl⟩ := I.loc
  obtain ⟨u, r, l⟩ := hl i x v hN e hv
  have fin : EP X pins σ Q u s := ⟨v, H, I, r, h⟩
  rcases l with ⟨hk, hm⟩ | ⟨hk, c, hc, hcell⟩
  · exact wpAny_Name (wpAny_loadName_local I.ok.kind hk hn hm fin) hd
  · rcases hk with hk | hk
    · exact wpAny_Name (wpAny_loadName_cell I.ok.kind hk hc hcell fin) hd
    · exact wpAny_Name (wpAny_loadName_free I.ok.kind hk hc hcell fin hcd) hd
theorem pe_int {i j pos} : PE X (.Constant (.int i) j pos) (tC (.int i)) := fun _ _ _ H _ I h => wpAny_Constant_int ⟨.int i, H, I.tok _, ⟨_, rfl⟩, h⟩
theorem pe_bl {b j pos} : PE X (.Constant (.bool b) j pos) (tC (.bl b)) := fun _ _ _ H _ I h => Constant_bool ⟨.bl b, H, I, rfl, h⟩
theorem pe_str {x j pos} : PE X (.Constant (.str x) j pos) (tC (.str x)) := fun _ _ _ H _ I h => Calls.Constant_str ⟨.str x, H, I.tok _, ⟨_, rfl⟩, h⟩
noncomputable def Gl (X : Cx) (x : Str) : Prop := X.env.kindOf x = some .globalImplicit
theorem ld_glob {E : Value -> Shared -> Prop} {pins : List (Addr × Obj)} {s : Shared} {σ : St} {H : Hp} {x : Str} {u : Value} {pos : Pos} {Q : Value -> Shared -> Prop} (I : Inv X pins σ H s) (hg : Gl X x) (hm : X.mg x = some u) (h : Q u s)
    (hd : (x == ("__debug__" : Str)) = false := by decide) : wpAny (model X.prog X.w) X.A (eval (.Name x pos) X.env) Q E s :=
  Calls.Name_function_global I.ok.kind hg (Calls.loadGlobal_global (by rw [I.ok.glob]; exact I.mod.glob.keeps I.bk) hm h) hd
theorem ld_blt {E : Value -> Shared -> Prop} {pins : List (Addr × Obj)} {s : Shared} {σ : St} {H : Hp} {x : Str} {u : Value} {pos : Pos} {Q : Value -> Shared -> Prop} (I : Inv X pins σ H s) (hg : Gl X x) (hm : X.mg x = none) (hv : bootBuiltins x = some u) (h : Q u s)
    (hn : x ≠ "__name__" := by decide) (hd : (x == ("__debug__" : Str)) = false := by decide) : wpAny (model X.prog X.w) X.A (eval (.Name x pos) X.env) Q E s := by
  obtain ⟨mb, h1, h2⟩ := I.mod.blt
  exact Calls.Name_function_global I.ok.kind hg (Calls.loadGlobal_builtin (by rw [I.ok.glob]; exact I.mod.glob.keeps I.bk) hm (by rw [I.ok.blt]; exact h1.keeps I.bk) ((h2 x hn).trans hv) h) hd
theorem pe_glob {x : Str} {v : V} {u : Value} {pos : Pos} (hg : Gl X x) (hm : X.mg x = some u) (r : RelV v u) (hd : (x == ("__debug__" : Str)) = false := by decide) : PE X (.Name x pos) (tC v) :=
  fun _ _ _ H _ I h => ld_glob I hg hm ⟨v, H, I, r, h⟩ hd
theorem pe_bltn {x : Str} {v : V} {u : Value} {pos : Pos} (hg : Gl X x) (hm : X.mg x = none) (hv : bootBuiltins x = some u) (r : RelV v u) (hn : x ≠ "__name__" := by decide) (hd : (x == ("__debug__" : Str)) = false := by decide) : PE X (.Name x pos) (tC v) :=
  fun _ _ _ H _ I h => ld_blt I hg hm hv ⟨v, H, I, r, h⟩ hn hd
variable {a b : Expr} {ta tb : TE} {pos : Pos}
variable {tA tB' : TT} {rest : List Expr}
noncomputable def tAnd (t u : TT) : TT := fun σ H Q => t σ H fun c H1 => if c = true then u σ H1 Q else Q false H1
noncomputable def tOr (t u : TT) : TT := fun σ H Q => t σ H fun c H1 => if c = true then Q true H1 else u σ H1 Q
noncomputable def tNot (t : TT) : TT := fun σ H Q => t σ H fun c H1 => Q (!c) H1
theorem pw_and1 (ha : PT X a tA) : PW X (.BoolOp .And [a] pos) tA := by
  intro wh pins s σ H Q I h
  refine isTrue_and (thn (ha pins s σ H Q I h) fun c s1 e => ?_)
  cases c with
  | true => exact isTrue_and_nil e
  | false => exact e
theorem pw_or1 (ha : PT X a tA) : PW X (.BoolOp .Or [a] pos) tA := by
  intro wh pins s σ H Q I h
  refine isTrue_or (thn (ha pins s σ H Q I h) fun c s1 e => ?_)
  cases c with
  | false => exact isTrue_or_nil e
  | true => exact e
theorem pw_and (ha : PT X a tA) (hb : PW X (.BoolOp .And (b :: rest) pos) tB') : PW X (.BoolOp .And (a :: b :: rest) pos) (tAnd tA tB') := by
  intro wh pins s σ H Q I h
  refine isTrue_and (thn (ha pins s σ H _ I h) fun c s1 ⟨H1, I1, q1⟩ => ?_)
  cases c with
  | true => exact hb wh pins s1 σ H1 Q I1 q1
  | false => exact ⟨H1, I1, q1⟩
theorem pw_or (ha : PT X a tA) (hb : PW X (.BoolOp .Or (b :: rest) pos) tB') : PW X (.BoolOp .Or (a :: b :: rest) pos) (tOr tA tB') := by
  intro wh pins s σ H Q I h
  refine isTrue_or (thn (ha pins s σ H _ I h) fun c s1 ⟨H1, I1, q1⟩ => ?_)
  cases c with
  | true => exact ⟨H1, I1, q1⟩
  | false => exact hb wh pins s1 σ H1 Q I1 q1
theorem pt_not (ha : PT X a tA) : PT X (.UnaryOp .Not a pos) (tNot tA) := by
  intro pins s σ H Q I h
  exact isTrue_not (ha pins s σ H (fun c H1 => Q (!c) H1) I h)
noncomputable def tAndV (ta tb : TE) : TE := fun σ H Q => ta σ H fun x H1 => ∃ c, x = .bl c /\ if c = true then tb σ H1 Q else Q (.bl false) H1
noncomputable def tNotV (ta : TE) : TE := fun σ H Q => ta σ H fun x H1 => ∃ c, x = .bl c /\ Q (.bl (!c)) H1
theorem pe_one {op} {t : TE} (h : PE X a t) : PE X (.BoolOp op [a] pos) t := fun pins s σ H Q I hw => BoolOp_one (h pins s σ H Q I hw)
theorem pe_and (ha : PE X a ta) (hb : PE X (.BoolOp .And (b :: rest) pos) tb) : PE X (.BoolOp .And (a :: b :: rest) pos) (tAndV ta tb) := by
  intro pins s σ H Q I h
  refine BoolOp_and (thn (ha pins s σ H _ I h) fun v s1 ⟨x, H1, I1, r1, q1⟩ => ?_)
  obtain ⟨c, rfl, q1⟩ := q1
  cases r1
  refine wpAny_truthy_bool ?_
  cases c with
  | true => exact hb pins s1 σ H1 Q I1 q1
  | false => exact ⟨.bl false, H1, I1, rfl, q1⟩
theorem pe_not (ha : PE X a ta) : PE X (.UnaryOp .Not a pos) (tNotV ta) := by
  intro pins s σ H Q I h
  refine UnaryOp_ (thn (ha pins s σ H _ I h) fun v s1 ⟨x, H1, I1, r1, q1⟩ => ?_)
  obtain ⟨c, rfl, q1⟩ := q1
  cases r1
  exact not_of (wpAny_truthy_bool ⟨.bl (!c), H1, I1, rfl, q1⟩)
end
end L2
namespace L2
open PySem PySem.Spec PyProof.Rows
noncomputable def SqL (K : PySem.W.Frag) (H : Hp) (a : Addr) (xs : List V) : Prop :=
  Rd H a (.lst xs) \/
    ∃ (o : Obj) (its : Array Value) (n : Nat), K.lookup a = some o /\ o.cls = .type "list" /\ o.dict = none /\ o.data = .seq its n /\ its.size <= sizeLine /\ Vals xs its.toList
noncomputable def SqT (K : PySem.W.Frag) (H : Hp) (a : Addr) (xs : List V) : Prop :=
  Rd H a (.tup xs) \/
    ∃ (o : Obj) (its : Array Value) (n : Nat), K.lookup a = some o /\ o.cls = .type "tuple" /\ o.dict = none /\ o.data = .seq its n /\ its.size <= sizeLine /\ Vals xs its.toList
noncomputable def absV : Value -> Option V
  | .none => some .non
  | .bool b => some (.bl b)
  | .int i _ => some (.int i)
  | .str x _ => some (.str x)
  | .bytes b _ => some (.byt b)
  | .float b _ => some (.flt b)
  | .ref a => some (.ref a)
  | .type n => some (.ty n)
  | _ => none
theorem RelV.abs {x : V} {u : Value} (r : RelV x u) : absV u = some x := by
  cases x with
  | non => cases r; rfl
  | bl _ => cases r; rfl
  | int _ => obtain ⟨t, rfl⟩ := r; rfl
  | str _ => obtain ⟨t, rfl⟩ := r; rfl
  | byt _ => obtain ⟨t, rfl⟩ := r; rfl
  | flt _ => obtain ⟨t, rfl⟩ := r; rfl
  | ref _ => cases r; rfl
  | ty _ => cases r; rfl
theorem RelV.inj {x y : V} {u : Value} (r : RelV x u) (q : RelV y u) : x = y := Option.some.inj (r.abs.symm.trans q.abs)
theorem Vals.inj : ∀ {xs ys : List V} {us : List Value}, Vals xs us -> Vals ys us -> xs = ys
  | _, _, _, .nil, .nil => rfl
  | _, _, _, .cons r t, .cons r' t' => by rw [r.inj r', Vals.inj t t']
section
variable {X : Cx} {pins : List (Addr × Obj)} {σ : St} {H : Hp} {s : Shared} {a : Addr} {xs ys : List V}
theorem SqL.of {K : PySem.W.Frag} (h : H a = some (.lst xs)) : SqL K H a xs := .inl (.inl h)
theorem SqT.of {K : PySem.W.Frag} (h : H a = some (.tup xs)) : SqT K H a xs := .inl (.inl h)
theorem Inv.list (I : Inv X pins σ H s) (h : SqL X.K H a xs) : ∃ its : List Value, Vals xs its /\ PlainL s.heap a its.toArray /\ xs.length <= sizeLine := by
  rcases h with h | ⟨o, its, n, hk, hc, hd, hs, hz, r⟩
  · obtain ⟨z, its, n, r, e⟩ := h.ok I.hok
    exact ⟨its, r, ⟨_, n, e, rfl, rfl, rfl⟩, z⟩
  · refine ⟨its.toList, r, ⟨o, n, I.kIn a o hk, hc, hd, by simpa using hs⟩, ?_⟩
    have e := r.length
    simp only [Array.length_toList] at e
    omega
theorem Inv.tuple (I : Inv X pins σ H s) (h : SqT X.K H a xs) : ∃ its : List Value, Vals xs its /\ IsTup s.heap a its.toArray /\ xs.length <= sizeLine := by
  rcases h with h | ⟨o, its, n, hk, hc, _, hs, hz, r⟩
  · obtain ⟨z, its, r, p⟩ := h.ok I.hok
    exact ⟨its, r, p.tup, z⟩
  · refine ⟨its.toList, r, ⟨o, I.kIn a o hk, hc, n, by simpa using hs⟩, ?_⟩
    have e := r.length
    simp only [Array.length_toList] at e
    omega
theorem Inv.list_inj (I : Inv X pins σ H s) (h : SqL X.K H a xs) (h' : SqL X.K H a ys) : xs = ys := by
  obtain ⟨its, r, ⟨o, n, e, _, _, d⟩, _⟩ := I.list h
  obtain ⟨its', r', ⟨o', n', e', _, _, d'⟩, _⟩ := I.list h'
  rw [e] at e'; cases e'
  rw [d] at d'
  injection d' with d1 _
  have : its = its' := by simpa using congrArg Array.toList d1
  subst this
  exact r.inj r'
theorem Inv.tuple_inj (I : Inv X pins σ H s) (h : SqT X.K H a xs) (h' : SqT X.K H a ys) : xs = ys := by
  obtain ⟨its, r, ⟨o, e, _, n, d⟩, _⟩ := I.tuple h
  obtain ⟨its', r', ⟨o', e', _, n', d'⟩, _⟩ := I.tuple h'
  rw [e] at e'; cases e'
  rw [d] at d'
  injection d' with d1 _
  have : its = its' := by simpa using congrArg Array.toList d1
  subst this
  exact r.inj r'
end
noncomputable abbrev Cx.wish (X : Cx) (E : Value -> Shared -> Prop) : Cx := { X with xe := E }
noncomputable abbrev Cx.nox (X : Cx) : Cx := X.wish fun _ _ => False
theorem Cx.Ok.wish {X : Cx} (ok : X.Ok) (E : Value -> Shared -> Prop) : (X.wish E).Ok :=
  ⟨ok.mod, ok.kind, ok.glob, ok.blt, ok.above, ok.inj, ok.has, ok.cab, ok.hd, ok.frames, ok.stk, ok.exf, ok.bs, ok.bsz, ok.noex, ok.exfs, ok.funs, ok.frf⟩
theorem Cx.Ok.unwish {X : Cx} {E : Value -> Shared -> Prop} (ok : (X.wish E).Ok) : X.Ok :=
  ⟨ok.mod, ok.kind, ok.glob, ok.blt, ok.above, ok.inj, ok.has, ok.cab, ok.hd, ok.frames, ok.stk, ok.exf, ok.bs, ok.bsz, ok.noex, ok.exfs, ok.funs, ok.frf⟩
section
variable {X : Cx} {pins : List (Addr × Obj)} {σ : St} {H : Hp} {s : Shared} {E : Value -> Shared -> Prop}
theorem Inv.wish (I : Inv X pins σ H s) (E : Value -> Shared -> Prop) : Inv (X.wish E) pins σ H s := ⟨I.ok.wish E, I.os, I.bare, I.base, I.loc, I.cell, I.free, I.freeC, I.pin, I.hok, I.len⟩
theorem Inv.unwish (I : Inv (X.wish E) pins σ H s) : Inv X pins σ H s := ⟨I.ok.unwish, I.os, I.bare, I.base, I.loc, I.cell, I.free, I.freeC, I.pin, I.hok, I.len⟩
theorem SP.unwish {D : Ends} {f : Flow} {s' : Shared} (h : SP (X.wish E) pins D f s') : SP X pins D f s' := by
  cases f with
  | next => obtain ⟨σ', H', I, q⟩ := h; exact ⟨σ', H', I.unwish, q⟩
  | brk => obtain ⟨σ', H', I, q⟩ := h; exact ⟨σ', H', I.unwish, q⟩
  | cont => obtain ⟨σ', H', I, q⟩ := h; exact ⟨σ', H', I.unwish, q⟩
  | ret u => obtain ⟨v, σ', H', I, r, q⟩ := h; exact ⟨v, σ', H', I.unwish, r, q⟩
theorem PSs.nox {st : List Stmt} {t : TS} (h : PSs X.nox st t) : PSs X st t := fun pins s σ H D I hw =>
  wpAny_mono (h pins s σ H D (I.wish _) hw) (fun _ _ q => q.unwish) fun _ _ z => False.elim z
end
section
variable {X : Cx} {st : Stmt} {rest : List Stmt} {t u : TS} {e : Expr} {te : TE} {pos : Pos}
noncomputable def tNext : TS := fun D σ H => D.nx σ H
noncomputable def tSeq (t u : TS) : TS := fun D σ H => t { D with nx := u D } σ H
theorem pss_nil : PSs X [] tNext := fun _ _ σ H _ I h => wpAny_execs_nil ⟨σ, H, I, h⟩
theorem pss_cons (h1 : PS X st t) (h2 : PSs X rest u) : PSs X (st :: rest) (tSeq t u) := by
  intro pins s σ H D I h
  refine wpAny_execs_cons (thn (h1 pins s σ H { D with nx := u D } I h) fun f s1 q => ?_)
  cases f with
  | next =>
    obtain ⟨σ', H', I', q⟩ := q
    exact h2 pins s1 σ' H' D I' q
  | ret v => exact q
  | brk => exact q
  | cont => exact q
theorem pss_one (h1 : PS X st t) : PSs X [st] t := by
  intro pins s σ H D I h
  refine wpAny_execs_cons (thn (h1 pins s σ H D I h) fun f s1 q => ?_)
  cases f with
  | next => exact wpAny_execs_nil q
  | ret v => exact q
  | brk => exact q
  | cont => exact q
theorem Inv.quiet {pins : List (Addr × Obj)} {σ : St} {H : Hp} {s : Shared} (I : Inv X pins σ H s) : interactive X.env = false := by simp [interactive, I.ok.kind]
noncomputable def tDrop (te : TE) : TS := fun D σ H => te σ H fun _ H1 => D.nx σ H1
theorem ps_expr (he : PE X e te) (hs : swapsWith e none pos.line X.env = pure false := by rfl) : PS X (.Expr e pos) (tDrop te) := by
  intro pins s σ H D I h
  exact wpAny_Expr_any (thn (he pins s σ H _ I h) fun v s1 ⟨x, H1, I1, r1, q1⟩ => ⟨σ, H1, I1, q1⟩) I.quiet hs
noncomputable def tRet (te : TE) : TS := fun D σ H => te σ H D.rt
theorem ps_ret (he : PE X e te) : PS X (.Return (some e) pos) (tRet te) := by
  intro pins s σ H D I h
  exact wpAny_Return_some (thn (he pins s σ H _ I h) fun v s1 ⟨x, H1, I1, r1, q1⟩ => ⟨x, σ, H1, I1, r1, q1⟩)
noncomputable def tRetN : TS := fun D _ H => D.rt .non H
theorem ps_retN : PS X (.Return none pos) tRetN := fun _ _ σ H _ I h => wpAny_Return_none ⟨.non, σ, H, I, rfl, h⟩
noncomputable def tIfS (c : TT) (t u : TS) : TS := fun D σ H => c σ H fun b H1 => if b = true then t D σ H1 else u D σ H1
theorem ps_if {c : Expr} {a b : List Stmt} {tc : TT} (hc : PT X c tc) (ha : PSs X a t) (hb : PSs X b u) : PS X (.If c a b pos) (tIfS tc t u) := by
  intro pins s σ H D I h
  refine wpAny_If (thn (hc pins s σ H _ I h) fun d s1 ⟨H1, I1, q1⟩ => ?_)
  cases d with
  | true => exact ha pins s1 σ H1 D I1 q1
  | false => exact hb pins s1 σ H1 D I1 q1
end
noncomputable abbrev TG := V -> St -> Hp -> (St -> Hp -> Prop) -> Prop
noncomputable abbrev TGs := List V -> St -> Hp -> (St -> Hp -> Prop) -> Prop
noncomputable def PG (X : Cx) (target : Expr) (t : TG) : Prop :=
  ∀ (pins : List (Addr × Obj)) (s : Shared) (σ : St) (H : Hp) (v : V) (u : Value) (Q : St -> Hp -> Prop), Inv X pins σ H s -> RelV v u -> t v σ H Q ->
    wpAny (model X.prog X.w) X.A (assign target X.env u) (fun _ s' => ∃ σ' H', Inv X pins σ' H' s' /\ Q σ' H') X.xe s
noncomputable def PGs (X : Cx) (ts : List Expr) (t : TGs) : Prop :=
  ∀ (pins : List (Addr × Obj)) (s : Shared) (σ : St) (H : Hp) (vs : List V) (us : List Value) (Q : St -> Hp -> Prop), Inv X pins σ H s -> Vals vs us -> t vs σ H Q ->
    wpAny (model X.prog X.w) X.A (assignInOrder ((assignEach ts X.env).map (·.2)) us) (fun _ s' => ∃ σ' H', Inv X pins σ' H' s' /\ Q σ' H') X.xe s
noncomputable abbrev TSet := V -> V -> V -> Hp -> (Hp -> Prop) -> Prop
noncomputable def PSet (X : Cx) (t : TSet) : Prop :=
  ∀ (pins : List (Addr × Obj)) (s : Shared) (σ : St) (H : Hp) (o i v : V) (ov iv u : Value) (Q : Hp -> Prop), Inv X pins σ H s -> RelV o ov -> RelV i iv -> RelV v u -> t o i v H Q ->
    wpAny (model X.prog X.w) X.A (setItem ov iv u) (fun _ s' => ∃ H', Inv X pins σ H' s' /\ Q H') X.xe s
noncomputable abbrev TIp := V -> V -> Hp -> VK -> Prop
noncomputable def PIp (X : Cx) (op : Operator) (t : TIp) : Prop :=
  ∀ (pins : List (Addr × Obj)) (s : Shared) (σ : St) (H : Hp) (x y : V) (v u : Value) (Q : VK), Inv X pins σ H s -> RelV x v -> RelV y u -> t x y H Q ->
    wpAny (model X.prog X.w) X.A (inplaceOp op v u) (EP X pins σ Q) X.xe s
section
variable {X : Cx} {pos : Pos}
noncomputable def gName (i : Nat) : TG := fun v σ H Q => Q (σ.set i (some v)) H
theorem pg_name {i : Nat} {x : Str} (hN : X.N.Nodup) (hi : X.N[i]? = some x) (hx : Loc X.env.scope x) (hf : X.fn x = true \/ X.env.scope.names.lookup x = some .local := by first | exact .inl rfl | exact .inr rfl | assumption) : PG X (.Name x pos) (gName i) := by
  intro pins s σ H v u Q I r h
  exact wpAny_assign_Name (store_ok I hN hi hx r (fun s' I' => ⟨_, H, I', h⟩) hf)
noncomputable def gNil : TGs := fun vs σ H Q => vs = [] /\ Q σ H
noncomputable def gCons (t : TG) (u : TGs) : TGs := fun vs σ H Q => ∃ v r, vs = v :: r /\ t v σ H fun σ' H' => u r σ' H' Q
theorem pgs_nil : PGs X [] gNil := by
  intro pins s σ H vs us Q I r h
  obtain ⟨e, h⟩ := h
  subst e
  cases r
  exact assignInOrder_nil ⟨σ, H, I, h⟩
theorem pgs_cons {e : Expr} {es : List Expr} {t : TG} {u : TGs} (h1 : PG X e t) (h2 : PGs X es u)
    (hs : (assignEach (e :: es) X.env).map (·.2) = assign e X.env :: (assignEach es X.env).map (·.2) := by rfl) : PGs X (e :: es) (gCons t u) := by
  intro pins s σ H vs us Q I r h
  obtain ⟨v, vr, e1, h⟩ := h
  subst e1
  cases r with
  | cons r rr =>
    rw [hs]
    refine assignInOrder_cons (thn (h1 pins s σ H _ _ _ I r h) fun _ s1 ⟨σ1, H1, I1, q1⟩ => ?_)
    exact h2 pins s1 σ1 H1 _ _ Q I1 rr q1
noncomputable def gTup (K : PySem.W.Frag) (n : Nat) (t : TGs) : TG := fun v σ H Q => ∃ a xs, v = .ref a /\ SqT K H a xs /\ xs.length = n /\ t xs σ H Q
theorem pg_tup {es : List Expr} {k : Nat} {t : TGs} {n : Nat} (hc : X.calm = true) (h : PGs X es t)
    (hn : (assignEach es X.env).length = n := by rfl) (hst : (assignEach es X.env).findIdx? (·.1) = none := by rfl) : PG X (.Tuple es k pos) (gTup X.K n t) := by
  intro pins s σ H v u Q I r hw
  obtain ⟨a, xs, e1, hq, hl, hw⟩ := hw
  subst e1
  cases r
  obtain ⟨its, rv, ht, hz⟩ := I.tuple hq
  refine assign_Tuple_tuple (I.ok.hd hc) ht (by simp [hn, <- hl, rv.length]) hst fun h' hx => ?_
  have I1 : Inv X pins σ H { s with heap := h' } := I.kept (t' := s.toks) fun b o e => hx b o (Nat.ne_of_lt (Heap.lt_size e)) e
  exact h pins _ σ H xs _ Q I1 (by simpa using rv) hw
noncomputable def gSub (to ti : TE) (t : TSet) : TG := fun v σ H Q => to σ H fun o H1 => ti σ H1 fun i H2 => t o i v H2 fun H3 => Q σ H3
theorem pg_sub {o i : Expr} {to ti : TE} {t : TSet} (ho : PE X o to) (hi : PE X i ti) (hs : PSet X t)
    (ha : ∀ v, assign (.Subscript o i pos) X.env v = (do
      let ov <- holding [v] (eval o X.env)
      let iv <- holding [v, ov] (eval i X.env)
      standAt pos
      holding [v, ov, iv] (setItem ov iv v)
      release [v, ov, iv] []) := by intro _; rfl) : PG X (.Subscript o i pos) (gSub to ti t) := by
  intro pins s σ H v u Q I r h
  rw [ha]
  refine wpAny_bind (wpAny_holding (thn (ho pins s σ H _ I h) fun ov s1 ⟨x, H1, I1, r1, q1⟩ => ?_))
  refine wpAny_bind (wpAny_holding (thn (hi pins s1 σ H1 _ I1 q1) fun iv s2 ⟨y, H2, I2, r2, q2⟩ => ?_))
  refine wpAny_bind (wpAny_standAt (wpAny_bind (wpAny_holding (thn (hs pins s2 σ H2 x y v ov iv u _ I2 r1 r2 r q2) fun _ s3 ⟨H3, I3, q3⟩ => ?_))))
  exact wpAny_release ⟨σ, H3, I3, q3⟩
noncomputable def tAsg (te : TE) (g : TG) : TS := fun D σ H => te σ H fun x H1 => g x σ H1 D.nx
theorem ps_asg {tg e : Expr} {te : TE} {g : TG} (he : PE X e te) (hg : PG X tg g) (hs : swapsWithSole [tg] e pos.line X.env = pure false := by rfl) (hw : swappedStores [tg] e X.env = pure none := by rfl)
    (h1 : (assignEach [tg] X.env).map (·.2) = [assign tg X.env] := by rfl) : PS X (.Assign [tg] e pos) (tAsg te g) := by
  intro pins s σ H D I h
  refine wpAny_Assign_stores (thn (he pins s σ H _ I h) fun v s1 ⟨x, H1, I1, r1, q1⟩ => ?_) hs hw
  rw [h1]
  exact thn (hg pins s1 σ H1 x v _ I1 r1 q1) fun _ s2 q => q
theorem ps_set {i : Nat} {x : Str} {e : Expr} {te : TE} {pos' : Pos} (hN : X.N.Nodup) (hi : X.N[i]? = some x) (hx : Loc X.env.scope x) (he : PE X e te) (hs : swapsWith e (some (.Name x pos')) pos.line X.env = pure false := by rfl) (hf : X.fn x = true \/ X.env.scope.names.lookup x = some .local := by first | exact .inl rfl | exact .inr rfl | assumption) :
    PS X (.Assign [.Name x pos'] e pos) (tAsg te (gName i)) := by
  intro pins s σ H D I h
  refine wpAny_Assign_Name (thn (he pins s σ H _ I h) fun v s1 ⟨y, H1, I1, r1, q1⟩ => ?_) hs
  exact store_ok I1 hN hi hx r1 (fun s2 I2 => ⟨_, H1, I2, q1⟩) hf
noncomputable def tAug (i : Nat) (te : TE) (ti : TIp) : TS := fun D σ H => ∃ x, σ[i]? = some (some x) /\ te σ H fun y H1 => ti x y H1 fun z H2 => D.nx (σ.set i (some z)) H2
theorem ps_aug {i : Nat} {x : Str} {e : Expr} {te : TE} {op : Operator} {ti : TIp} {pos' : Pos} (hN : X.N.Nodup) (hi : X.N[i]? = some x) (hx : Loc X.env.scope x) (he : PE X e te) (ho : PIp X op ti) (hf : X.fn x = true \/ X.env.scope.names.lookup x = some .local := by first | exact .inl rfl | exact .inr rfl | assumption) :
    PS X (.AugAssign (.Name x pos') op e pos) (tAug i te ti) := by
  intro pins s σ H D I h
  obtain ⟨v, e1, h⟩ := h
  obtain ⟨m, hn, hl⟩ := I.loc
  have vis : Vis X.env.scope x := by rcases hx with k | k; exact .inl k; exact .inr (.inl k)
  obtain ⟨u, r, l⟩ := hl i x v hi e1 vis
  refine wpAny_AugAssign_Name ?_
  have go : wpAny (model X.prog X.w) X.A (eval e X.env) (fun w s₂ => wpAny (model X.prog X.w) X.A (inplaceOp op u w) (fun r s₃ => wpAny (model X.prog X.w) X.A (storeName X.env x r) (fun _ => SP X pins D .next) X.xe s₃) X.xe s₂) X.xe s := by
    refine thn (he pins s σ H _ I h) fun w s1 ⟨y, H1, I1, r1, q1⟩ => ?_
    refine thn (ho pins s1 σ H1 v y u w _ I1 r r1 q1) fun z s2 ⟨zv, H2, I2, r2, q2⟩ => ?_
    exact store_ok I2 hN hi hx r2 (fun s3 I3 => ⟨_, H2, I3, q2⟩) hf
  rcases l with ⟨hk, hm⟩ | ⟨hk, c, hc, hcell⟩
  · exact wpAny_loadName_local I.ok.kind hk hn hm go
  · rcases hk with hk | hk
    · exact wpAny_loadName_cell I.ok.kind hk hc hcell go
    · rcases hx with k | k
      · have : X.env.scope.names.lookup x = some .free := hk
        rw [k] at this; cases this
      · have : X.env.scope.names.lookup x = some .free := hk
        rw [k] at this; cases this
noncomputable def ipI (f : Int -> Int -> Int) : TIp := fun x y H Q => ∃ i j, x = .int i /\ y = .int j /\ Q (.int (f i j)) H
theorem ip_add : PIp X .Add (ipI fun i j => i + j) := by
  intro pins s σ H x y v u Q I r1 r2 h
  obtain ⟨i, j, e1, e2, q⟩ := h
  subst e1; subst e2
  obtain ⟨t, rfl⟩ := r1
  obtain ⟨t', rfl⟩ := r2
  exact iadd_int ⟨.int _, H, I.tok _, ⟨_, rfl⟩, q⟩
end
section
variable {X : Cx} {pos : Pos}
noncomputable def tWhile (c : TT) (tb : TS) : TS := fun D σ H => ∃ W : Nat -> St -> Hp -> Prop, (∃ m, W m σ H) /\ ∀ m σ H, W m σ H ->
  c σ H fun b H1 => if b = true then ∃ N : St -> Hp -> Prop, (∀ σ' H', N σ' H' -> ∃ m', m' < m /\ W m' σ' H') /\ tb { D with nx := N, ct := N, bk := D.nx } σ H1 else D.nx σ H1
theorem ps_while {c : Expr} {body : List Stmt} {tc : TT} {tb : TS} (hp : PassesOwn (model X.prog X.w) X.A X.env X.xe) (hc : PT X c tc) (hb : PSs X body tb) : PS X (.While c body [] pos) (tWhile tc tb) := by
  intro pins s σ H D I h
  obtain ⟨W, ⟨m0, w0⟩, turn⟩ := h
  refine wpAny_While (codeAny_whileLoop (fun n s' => ∃ σ' H', Inv X pins σ' H' s' /\ W n σ' H') ?_ m0 ⟨σ, H, I, w0⟩)
  rintro n s1 ⟨σ1, H1, I1, w1⟩
  refine wpAny_passesOwn hp (thn (hc pins s1 σ1 H1 _ I1 (turn n σ1 H1 w1)) fun b s2 ⟨H2, I2, q2⟩ => ?_)
  cases b with
  | true =>
    obtain ⟨N, hN, q2⟩ := q2
    rw [if_pos rfl]
    refine wpAny_passesOwn hp (thn (hb pins s2 σ1 H2 _ I2 q2) fun f s3 q3 => ?_)
    cases f with
    | next =>
      obtain ⟨σ3, H3, I3, n3⟩ := q3
      obtain ⟨m', hm, w3⟩ := hN σ3 H3 n3
      exact ⟨m', hm, σ3, H3, I3, w3⟩
    | cont =>
      obtain ⟨σ3, H3, I3, n3⟩ := q3
      obtain ⟨m', hm, w3⟩ := hN σ3 H3 n3
      exact ⟨m', hm, σ3, H3, I3, w3⟩
    | brk => exact q3
    | ret v => exact q3
  | false =>
    rw [if_neg Bool.false_ne_true]
    exact wpAny_execs_nil ⟨σ1, H2, I2, q2⟩
end
structure It where
  go : Nat -> Hp -> Prop
  yld : Nat -> Hp -> V -> Hp -> Prop
  stop : Nat -> Hp -> Prop
noncomputable def FpOk (X : Cx) (pins : List (Addr × Obj)) (H : Hp) (b : Addr) : Prop :=
  H b = none /\ b ≠ X.env.locals /\ b ∉ X.fs /\ (b ∈ X.ex \/ X.s₀.heap.objs.size <= b) /\ (∀ x c, X.env.cells.lookup x = some c -> c ≠ b) /\ ∀ p ∈ X.pn ++ pins, p.1 ≠ b
theorem Inv.fpOk {X : Cx} {pins : List (Addr × Obj)} {σ : St} {H H' : Hp} {s : Shared} {b : Addr} (I : Inv X pins σ H s) (hb : s.heap.objs.size <= b) (hn : H' b = none) : FpOk X pins H' b := by
  refine ⟨hn, Nat.ne_of_gt (Nat.lt_of_lt_of_le I.lt hb), I.nofs hb, .inr (Nat.le_trans I.sz hb), fun x c e z => ?_, fun p hp z => ?_⟩
  · obtain ⟨v, q⟩ := I.cell x c e
    exact absurd (Nat.lt_of_lt_of_le q.lt (by rw [z]; exact hb)) (Nat.lt_irrefl _)
  · exact absurd (Nat.lt_of_lt_of_le (Heap.lt_size (I.pin p hp).1) (by rw [z]; exact hb)) (Nat.lt_irrefl _)
structure Turn (P : Program) (w : World) (K : PySem.W.Frag) (tg : Expr) (J : It) (fp : List Addr) (it : Addr) (tn : Nat -> Heap -> Prop) : Prop where
  mem : it ∈ fp
  obj : ∀ i h, tn i h -> ∀ b ∈ fp, ∃ o, h.get? b = some o /\ ∀ v, o.data ≠ .cell v
  keep : ∀ i h h', tn i h -> (∀ b ∈ fp, ∀ o, h.get? b = some o -> h'.get? b = some o) -> tn i h'
  item : ∀ (X : Cx), X.prog = P -> X.w = w -> X.K = K -> X.calm = true -> ∀ (i : Nat) (pins : List (Addr × Obj)) (s : Shared) (σ : St) (H : Hp) (E : Value -> Shared -> Prop), Inv X pins σ H s -> (∀ b ∈ fp, FpOk X pins H b) -> tn i s.heap -> J.go i H ->
    wpAny (model P w) X.A (pyNext (.ref it)) (fun r s1 => ∃ u, r = some u /\
      wpAny (model P w) X.A (letOwnedTupleGo tg (.ref it) u) (fun _ s2 => ∃ x H', Inv X pins σ H' s2 /\ RelV x u /\ J.yld i H x H' /\ tn (i + 1) s2.heap /\ ∀ b ∈ fp, H' b = none) E s1) E s
  done : ∀ (X : Cx), X.prog = P -> X.w = w -> X.K = K -> X.calm = true -> ∀ (i : Nat) (pins : List (Addr × Obj)) (s : Shared) (σ : St) (H : Hp) (E : Value -> Shared -> Prop), Inv X pins σ H s -> (∀ b ∈ fp, FpOk X pins H b) -> tn i s.heap -> J.stop i H ->
    wpAny (model P w) X.A (pyNext (.ref it)) (fun r s1 => r = none /\ Inv X pins σ H s1) E s
  self : ∀ (A : Around) (i : Nat) (s : Shared) (Q : Value -> Shared -> Prop) (E : Value -> Shared -> Prop), tn i s.heap -> Q (.ref it) s -> wpAny (model P w) A (pyIter (.ref it)) Q E s
noncomputable abbrev TI := St -> Hp -> (It -> Hp -> Prop) -> Prop
noncomputable def PIE (X : Cx) (pins : List (Addr × Obj)) (σ : St) (tg : Expr) (R : It -> Hp -> Prop) (itv : Value) (s2 : Shared) : Prop :=
  ∃ (it : Addr) (fp : List Addr) (tn : Nat -> Heap -> Prop) (J : It) (H' : Hp), itv = .ref it /\ Inv X pins σ H' s2 /\ Turn X.prog X.w X.K tg J fp it tn /\ tn 0 s2.heap /\ (∀ b ∈ fp, FpOk X pins H' b) /\ R J H'
noncomputable def PI (X : Cx) (tg iter : Expr) (wi : TI) : Prop :=
  ∀ (pins : List (Addr × Obj)) (s : Shared) (σ : St) (H : Hp) (R : It -> Hp -> Prop), Inv X pins σ H s -> wi σ H R ->
    wpAny (model X.prog X.w) X.A (eval iter X.env) (fun v s1 => wpAny (model X.prog X.w) X.A (pyIter v) (PIE X pins σ tg R) X.xe s1) X.xe s
theorem go_of {M : Model} {A : Around} {E : Value -> Shared -> Prop} {s : Shared} {tg : Expr} {it : Addr} {u : Value} {o : Obj} {n : String} {vs : Array Value} {Q : Unit -> Shared -> Prop} (ho : s.heap.get? it = some o) (hc : o.cls = .type n) (hd : o.data = .fields vs)
    (hn : ["enumerate", "zip", "dict_itemiterator", "dict_reverseitemiterator", "odict_iterator", "itertools.zip_longest", "itertools.pairwise"].contains n = false) (hQ : Q () s) : wpAny M A (letOwnedTupleGo tg (.ref it) u) Q E s := by
  unfold letOwnedTupleGo
  cases tg <;> first
    | exact wpAny_pure hQ
    | (cases u <;> first
        | exact wpAny_pure hQ
        | (refine wpAny_bind (wpAny_load ho ?_)
           rw [hc, hd]
           show wpAny M A (if (["enumerate", "zip", "dict_itemiterator", "dict_reverseitemiterator", "odict_iterator", "itertools.zip_longest", "itertools.pairwise"].contains n && vs[0]? == some (rawInt _)) = true then _ else _) Q E s
           rw [if_neg (by intro h; rw [hn, Bool.false_and] at h; cases h)]
           exact wpAny_pure hQ))
noncomputable def Itl (K : PySem.W.Frag) (a : Addr) : It :=
  ⟨fun i H => ∃ xs x, SqL K H a xs /\ xs[i]? = some x, fun i H x H' => H' = H /\ ∀ xs, SqL K H a xs -> xs[i]? = some x, fun i H => ∃ xs, SqL K H a xs /\ xs.length <= i⟩
noncomputable def Itt (K : PySem.W.Frag) (a : Addr) : It :=
  ⟨fun i H => ∃ xs x, SqT K H a xs /\ xs[i]? = some x, fun i H x H' => H' = H /\ ∀ xs, SqT K H a xs -> xs[i]? = some x, fun i H => ∃ xs, SqT K H a xs /\ xs.length <= i⟩
noncomputable def Itr (lo : Int) (n : Nat) : It := ⟨fun i _ => i < n, fun i H x H' => H' = H /\ x = .int (lo + i), fun i _ => n <= i⟩
theorem turn_list {P : Program} {w : World} {K : PySem.W.Frag} {tg : Expr} (a it : Addr) : Turn P w K tg (Itl K a) [it] it (fun i h => h.IsListIter it a i) where
  mem := by simp
  obj := fun i h st b hb => by
    have e : b = it := by simpa using hb
    subst e
    obtain ⟨o, e, c, d⟩ := st
    exact ⟨o, e, fun v z => by rw [d] at z; cases z⟩
  keep := fun i h h' st k => st.at fun o e => k it (by simp) o e
  item := by
    intro X hP hw hK hc i pins s σ H E I hf st hg
    subst hP hw hK
    obtain ⟨xs, x, hq, hx⟩ := hg
    obtain ⟨its, rv, p, hz⟩ := I.list hq
    obtain ⟨u, hu, ru⟩ := rv.get hx
    obtain ⟨f0, f1, f2, f3, f4, f5⟩ := hf it (by simp)
    refine wpAny_pyNext_list_item st p.isList (x := u) (by simpa using hu) fun h' st' sb => ?_
    have I1 : Inv X pins σ H { s with heap := h' } := I.turned (t' := s.toks) (fun b o hb e => (sb.2 b hb).trans e) f0 f1 f3 f4 f5
    obtain ⟨o, e, c, d⟩ := id st'
    exact ⟨u, rfl, go_of (s := { s with heap := h' }) e c d (by decide) ⟨x, H, I1, ru, ⟨rfl, fun ys hy => by rw [I.list_inj hy hq]; exact hx⟩, st', fun b hb => (hf b hb).1⟩⟩
  done := by
    intro X hP hw hK hc i pins s σ H E I hf st hg
    subst hP hw hK
    obtain ⟨xs, hq, hx⟩ := hg
    obtain ⟨its, rv, p, hz⟩ := I.list hq
    obtain ⟨f0, f1, f2, f3, f4, f5⟩ := hf it (by simp)
    have hl := rv.length
    exact wpAny_pyNext_list_end (I.ok.hd hc) st p.isList (by simp; omega) fun h' eb => ⟨rfl, I.turned (t' := s.toks) (fun b o hb e => eb b o hb e) f0 f1 f3 f4 f5⟩
  self := fun _ _ _ _ _ st h => wpAny_pyIter_listiter st h
theorem turn_tuple {P : Program} {w : World} {K : PySem.W.Frag} {tg : Expr} (a it : Addr) : Turn P w K tg (Itt K a) [it] it (fun i h => h.IsTupleIter it a i) where
  mem := by simp
  obj := fun i h st b hb => by
    have e : b = it := by simpa using hb
    subst e
    obtain ⟨o, e, c, d⟩ := st
    exact ⟨o, e, fun v z => by rw [d] at z; cases z⟩
  keep := fun i h h' st k => st.at fun o e => k it (by simp) o e
  item := by
    intro X hP hw hK hc i pins s σ H E I hf st hg
    subst hP hw hK
    obtain ⟨xs, x, hq, hx⟩ := hg
    obtain ⟨its, rv, p, hz⟩ := I.tuple hq
    obtain ⟨u, hu, ru⟩ := rv.get hx
    obtain ⟨f0, f1, f2, f3, f4, f5⟩ := hf it (by simp)
    refine wpAny_pyNext_tuple_item st (show s.heap.IsTuple a its.toArray from p) (x := u) (by simpa using hu) fun h' st' sb => ?_
    have I1 : Inv X pins σ H { s with heap := h' } := I.turned (t' := s.toks) (fun b o hb e => (sb.2 b hb).trans e) f0 f1 f3 f4 f5
    obtain ⟨o, e, c, d⟩ := id st'
    exact ⟨u, rfl, go_of (s := { s with heap := h' }) e c d (by decide) ⟨x, H, I1, ru, ⟨rfl, fun ys hy => by rw [I.tuple_inj hy hq]; exact hx⟩, st', fun b hb => (hf b hb).1⟩⟩
  done := by
    intro X hP hw hK hc i pins s σ H E I hf st hg
    subst hP hw hK
    obtain ⟨xs, hq, hx⟩ := hg
    obtain ⟨its, rv, p, hz⟩ := I.tuple hq
    obtain ⟨f0, f1, f2, f3, f4, f5⟩ := hf it (by simp)
    have hl := rv.length
    exact wpAny_pyNext_tuple_end (I.ok.hd hc) st (show s.heap.IsTuple a its.toArray from p) (by simp; omega) fun h' eb => ⟨rfl, I.turned (t' := s.toks) (fun b o hb e => eb b o hb e) f0 f1 f3 f4 f5⟩
  self := fun _ _ _ _ _ st h => wpAny_pyIter_tupleiter st h
theorem turn_range {P : Program} {w : World} {K : PySem.W.Frag} {tg : Expr} (it : Addr) (lo : Int) (n : Nat) : Turn P w K tg (Itr lo n) [it] it (fun i h => IsRangeIter h it (lo + (i : Nat) * 1) ((n : Int) - (i : Nat)) 1) where
  mem := by simp
  obj := fun i h st b hb => by
    have e : b = it := by simpa using hb
    subst e
    exact ⟨_, st, fun v z => by
      have z' : Data.fields _ = Data.cell v := z
      cases z'⟩
  keep := fun i h h' st k => k it (by simp) _ st
  item := by
    intro X hP hw hK hc i pins s σ H E I hf st hg
    subst hP hw hK
    obtain ⟨f0, f1, f2, f3, f4, f5⟩ := hf it (by simp)
    have W := Walks.range (prog := X.prog) (w := X.w) (I.ok.hd hc) it lo 1 n
    refine W.item i s _ _ hg st fun v h' tk hv st' kk => ?_
    obtain ⟨t, rfl⟩ := hv
    have I1 : Inv X pins σ H { s with heap := h', toks := tk } := I.turned (fun b o hb e => kk b o (by simpa using hb) e) f0 f1 f3 f4 f5
    refine ⟨_, rfl, go_of (s := { s with heap := h', toks := tk }) (n := "range_iterator") st' rfl rfl (by decide) ⟨.int (lo + i), H, I1, ⟨t, ?_⟩, ⟨rfl, rfl⟩, st', fun b hb => (hf b hb).1⟩⟩
    rw [Int.mul_one]
  done := by
    intro X hP hw hK hc i pins s σ H E I hf st hg
    subst hP hw hK
    obtain ⟨f0, f1, f2, f3, f4, f5⟩ := hf it (by simp)
    exact wpAny_pyNext_range_end (I.ok.hd hc) st (by have : n <= i := hg; omega) fun h' eb => ⟨rfl, I.turned (t' := s.toks) (fun b o hb e => eb b o hb e) f0 f1 f3 f4 f5⟩
  self := fun _ _ _ _ _ st h => wpAny_pyIter_rangeiter st h
end L2
namespace L2
open PySem PySem.Spec PyProof.Rows
section
variable {X : Cx} {tg : Expr}
noncomputable def iList (K : PySem.W.Frag) (tl : TE) : TI := fun σ H R => tl σ H fun x H1 => ∃ a, x = .ref a /\ (∃ xs, SqL K H1 a xs) /\ R (Itl K a) H1
noncomputable def iTup (K : PySem.W.Frag) (tl : TE) : TI := fun σ H R => tl σ H fun x H1 => ∃ a, x = .ref a /\ (∃ xs, SqT K H1 a xs) /\ R (Itt K a) H1
theorem pi_list {l : Expr} {tl : TE} (hl : PE X l tl) : PI X tg l (iList X.K tl) := by
  intro pins s σ H R I h
  refine thn (hl pins s σ H _ I h) fun v s1 ⟨x, H1, I1, r1, q1⟩ => ?_
  obtain ⟨a, e, ⟨xs, hq⟩, q⟩ := q1
  subst e
  cases r1
  obtain ⟨its, rv, p, hz⟩ := I1.list hq
  refine wpAny_pyIter_list p.isList ?_
  refine ⟨s1.heap.objs.size, [s1.heap.objs.size], _, _, H1, rfl, I1.kept (t' := s1.toks) fun b o e => Heap.get?_push_of_some _ e, turn_list a _, ⟨_, Heap.get?_push_size _ rfl, rfl, rfl⟩, fun b hb => ?_, q⟩
  have e : b = s1.heap.objs.size := by simpa using hb
  subst e
  exact I1.fpOk (Nat.le_refl _) (I1.hok.fresh (Nat.le_refl _))
theorem pi_tup {l : Expr} {tl : TE} (hl : PE X l tl) : PI X tg l (iTup X.K tl) := by
  intro pins s σ H R I h
  refine thn (hl pins s σ H _ I h) fun v s1 ⟨x, H1, I1, r1, q1⟩ => ?_
  obtain ⟨a, e, ⟨xs, hq⟩, q⟩ := q1
  subst e
  cases r1
  obtain ⟨its, rv, p, hz⟩ := I1.tuple hq
  refine wpAny_pyIter_tuple (show s1.heap.IsTuple a its.toArray from p) ?_
  refine ⟨s1.heap.objs.size, [s1.heap.objs.size], _, _, H1, rfl, I1.kept (t' := s1.toks) fun b o e => Heap.get?_push_of_some _ e, turn_tuple a _, ⟨_, Heap.get?_push_size _ rfl, rfl, rfl⟩, fun b hb => ?_, q⟩
  have e : b = s1.heap.objs.size := by simpa using hb
  subst e
  exact I1.fpOk (Nat.le_refl _) (I1.hok.fresh (Nat.le_refl _))
theorem range_it {pins : List (Addr × Obj)} {σ : St} {H : Hp} {s : Shared} {R : It -> Hp -> Prop} {E : Value -> Shared -> Prop} {lo hi : Int} {t u v : Tok} {tk : Nat} (I : Inv X pins σ H s) (h1 : -(2 ^ 62) <= lo) (h2 : lo < 2 ^ 62) (h3 : -(2 ^ 62) <= hi) (h4 : hi < 2 ^ 62)
    (q : R (Itr lo (hi - lo).toNat) H) : wpAny (model X.prog X.w) X.A (pyIter (.ref s.heap.objs.size)) (PIE X pins σ tg R) E { s with heap := s.heap.push { cls := .type "range", data := .fields #[.int lo t, .int hi u, .int 1 v] }, toks := tk } := by
  refine wpAny_pyIter_range (IsRange.new ..) (small_one h1 h2 h3 h4) ?_
  have I1 : Inv X pins σ H { s with heap := s.heap.push { cls := .type "range", data := .fields #[.int lo t, .int hi u, .int 1 v] }, toks := tk } := I.kept fun b o e => Heap.get?_push_of_some _ e
  refine ⟨(s.heap.push { cls := .type "range", data := .fields #[.int lo t, .int hi u, .int 1 v] }).objs.size, [(s.heap.push { cls := .type "range", data := .fields #[.int lo t, .int hi u, .int 1 v] }).objs.size], _, _, H, rfl,
    I1.kept (t' := tk) fun b o e => Heap.get?_push_of_some _ e, turn_range _ lo (hi - lo).toNat, ?_, fun b hb => ?_, q⟩
  · have e1 : lo + ((0 : Nat) : Int) * 1 = lo := by simp
    have e2 : (((hi - lo).toNat : Nat) : Int) - ((0 : Nat) : Int) = Builtin.Range.rangeSize lo hi 1 := by rw [rangeSize_one]; split <;> omega
    show IsRangeIter _ _ (lo + ((0 : Nat) : Int) * 1) ((((hi - lo).toNat : Nat) : Int) - ((0 : Nat) : Int)) 1
    rw [e1, e2]
    exact Heap.get?_push_size _ rfl
  · have e : b = (s.heap.push { cls := .type "range", data := .fields #[.int lo t, .int hi u, .int 1 v] }).objs.size := by simpa using hb
    subst e
    exact I1.fpOk (Nat.le_refl _) (I1.hok.fresh (Nat.le_refl _))
noncomputable def iRng1 (ta : TA) : TI := fun σ H R => ta σ H fun vs H1 => ∃ j : Int, vs = [.int j] /\ -(2 ^ 62) <= j /\ j < 2 ^ 62 /\ R (Itr 0 j.toNat) H1
theorem pi_range1 {a : Expr} {ta : TA} {p pos : Pos} (hg : Gl X "range") (hm : X.mg "range" = none) (ha : PA X [a] ta) (hs : starEach [a] X.env = [(false, eval a X.env)] := by rfl) : PI X tg (.Call (.Name "range" p) [a] [] pos) (iRng1 ta) := by
  intro pins s σ H R I h
  refine Call_ (ld_blt I hg hm boot_range (PyProof.Rows.callWith_type1 (thn (ha pos pins s σ H _ I h) fun us s1 ⟨vs, H1, I1, r1, q1⟩ => ?_) hs rfl))
  obtain ⟨j, e, q1, q2, q⟩ := q1
  subst e
  cases r1 with
  | cons r rr =>
    cases rr
    obtain ⟨t, rfl⟩ := r
    exact call_range_1 (range_it I1 (by omega) (by omega) q1 q2 (by simpa using q))
noncomputable def tFor (wi : TI) (g : TG) (tb : TS) : TS := fun D σ H => wi σ H fun J H1 => ∃ W : Nat -> Nat -> St -> Hp -> Prop, (∃ m, W 0 m σ H1) /\ ∀ i m σ H, W i m σ H ->
  (J.stop i H /\ D.nx σ H) \/ (J.go i H /\ ∃ N : St -> Hp -> Prop, (∀ σ' H', N σ' H' -> ∃ m', m' < m /\ W (i + 1) m' σ' H') /\ ∀ x H', J.yld i H x H' -> g x σ H' fun σ2 H2 => tb { D with nx := N, ct := N, bk := D.nx } σ2 H2)
noncomputable def pinsAt (fp : List Addr) (h : Heap) : List (Addr × Obj) := fp.filterMap fun b => (h.get? b).map fun o => (b, o)
theorem mem_pinsAt {fp : List Addr} {h : Heap} {b : Addr} {o : Obj} (hb : b ∈ fp) (e : h.get? b = some o) : (b, o) ∈ pinsAt fp h := List.mem_filterMap.mpr ⟨b, hb, by rw [e]; rfl⟩
theorem of_pinsAt {fp : List Addr} {h : Heap} {p : Addr × Obj} (hp : p ∈ pinsAt fp h) : p.1 ∈ fp /\ h.get? p.1 = some p.2 := by
  obtain ⟨b, hb, e⟩ := List.mem_filterMap.mp hp
  cases q : h.get? b with
  | none => rw [q] at e; cases e
  | some o =>
    rw [q] at e
    have e' : (b, o) = p := Option.some.inj e
    subst e'
    exact ⟨hb, q⟩
theorem Inv.pinned {pins : List (Addr × Obj)} {σ : St} {H : Hp} {s : Shared} {fp : List Addr} (I : Inv X pins σ H s) (hf : ∀ b ∈ fp, FpOk X pins H b) (ho : ∀ b ∈ fp, ∃ o, s.heap.get? b = some o /\ ∀ v, o.data ≠ .cell v) : Inv X (pins ++ pinsAt fp s.heap) σ H s :=
  I.pins_of fun p hp => (List.mem_append.mp hp).elim (fun z => I.pin p (List.mem_append_right _ z)) fun z => by
    obtain ⟨hb, e⟩ := of_pinsAt z
    obtain ⟨f0, f1, f2, _⟩ := hf p.1 hb
    obtain ⟨o, e', d⟩ := ho p.1 hb
    rw [e] at e'; cases e'
    exact ⟨e, f0, f1, f2, d⟩
theorem Inv.unpinned {pins pl : List (Addr × Obj)} {σ : St} {H : Hp} {s : Shared} (I : Inv X (pins ++ pl) σ H s) : Inv X pins σ H s := I.pins_of fun p hp => I.pin p (List.mem_append_right _ (List.mem_append_left _ hp))
theorem ps_for {iter : Expr} {body : List Stmt} {wi : TI} {g : TG} {tb : TS} {pos : Pos} (hp : PassesOwn (model X.prog X.w) X.A X.env X.xe) (hc : X.calm = true) (hi : PI X tg iter wi) (hg : PG X tg g) (hb : PSs X body tb)
    (hs : ∀ x, foldedSetIterable iter X.env x = pure x := by intro _; rfl) : PS X (.For tg iter body [] pos) (tFor wi g tb) := by
  intro pins s σ H D I h
  refine wpAny_For (thn (hi pins s σ H _ I h) fun v s1 h1 => thn h1 fun itv s2 h2 => ?_) hs
  obtain ⟨it, fp, tn, J, H2, e, I2, T, st2, f2, W, ⟨m0, w0⟩, turn⟩ := h2
  subst e
  have stat : ∀ {H' : Hp}, (∀ b ∈ fp, H' b = none) -> ∀ b ∈ fp, FpOk X pins H' b := fun hn b hb => ⟨hn b hb, (f2 b hb).2⟩
  refine codeAny_forLoop_any (fun n s' => ∃ i σ' H', Inv X pins σ' H' s' /\ tn i s'.heap /\ (∀ b ∈ fp, H' b = none) /\ W i n σ' H') ?_ m0 ⟨0, σ, H2, I2, st2, fun b hb => (f2 b hb).1, w0⟩
  rintro n s3 ⟨i, σ3, H3, I3, st3, fr3, w3⟩
  rcases turn i n σ3 H3 w3 with ⟨stop, qn⟩ | ⟨go, N, hN, step⟩
  · refine wpAny_passesOwn hp (thn (T.done X rfl rfl rfl hc i pins s3 σ3 H3 X.xe I3 (stat fr3) st3 stop) fun r s4 ⟨hr, I4⟩ => ?_)
    subst hr
    exact wpAny_execs_nil ⟨σ3, H3, I4, qn⟩
  · refine wpAny_passesOwn hp (thn (T.item X rfl rfl rfl hc i pins s3 σ3 H3 X.xe I3 (stat fr3) st3 go) fun r s4 ⟨u, hr, h4⟩ => ?_)
    subst hr
    refine wpAny_passesOwn hp (thn h4 fun _ s5 ⟨x, H5, I5, r5, y5, st5, fr5⟩ => ?_)
    have I5' := I5.pinned (stat fr5) (T.obj _ _ st5)
    refine wpAny_passesOwn hp (thn (hg _ s5 σ3 H5 x u _ I5' r5 (step x H5 y5)) fun _ s6 ⟨σ6, H6, I6, q6⟩ => ?_)
    refine wpAny_passesOwn hp (thn (hb _ s6 σ6 H6 _ I6 q6) fun f s7 q7 => ?_)
    have again : ∀ {σ7 : St} {H7 : Hp}, Inv X (pins ++ pinsAt fp s5.heap) σ7 H7 s7 -> N σ7 H7 -> ∃ m, m < n /\ ∃ i σ' H', Inv X pins σ' H' s7 /\ tn i s7.heap /\ (∀ b ∈ fp, H' b = none) /\ W i m σ' H' := fun {σ7 H7} I7 n7 => by
      obtain ⟨m', hm, w7⟩ := hN σ7 H7 n7
      refine ⟨m', hm, i + 1, σ7, H7, I7.unpinned, T.keep _ _ _ st5 fun b hb o e => (I7.pin (b, o) (List.mem_append_right _ (List.mem_append_right _ (mem_pinsAt hb e)))).1, fun b hb => ?_, w7⟩
      obtain ⟨o, e, d⟩ := T.obj _ _ st5 b hb
      exact (I7.pin (b, o) (List.mem_append_right _ (List.mem_append_right _ (mem_pinsAt hb e)))).2.1
    cases f with
    | next => obtain ⟨σ7, H7, I7, n7⟩ := q7; exact again I7 n7
    | cont => obtain ⟨σ7, H7, I7, n7⟩ := q7; exact again I7 n7
    | brk => obtain ⟨σ7, H7, I7, q7⟩ := q7; exact ⟨σ7, H7, I7.unpinned, q7⟩
    | ret v => obtain ⟨x7, σ7, H7, I7, r7, q7⟩ := q7; exact ⟨x7, σ7, H7, I7.unpinned, r7, q7⟩
end
theorem while_by {c : TT} {tb : TS} {D : Ends} {σ : St} {H : Hp} (Pv : St -> Hp -> Prop) (μ : St -> Hp -> Nat) (h0 : Pv σ H)
    (hs : ∀ σ H, Pv σ H -> c σ H fun b H1 => if b = true then tb { D with nx := fun σ' H' => Pv σ' H' /\ μ σ' H' < μ σ H, ct := fun σ' H' => Pv σ' H' /\ μ σ' H' < μ σ H, bk := D.nx } σ H1 else D.nx σ H1)
    (mono : ∀ σ H Q Q', (∀ b H1, Q b H1 -> Q' b H1) -> c σ H Q -> c σ H Q') : tWhile c tb D σ H := by
  refine ⟨fun m σ H => m = μ σ H /\ Pv σ H, ⟨_, rfl, h0⟩, ?_⟩
  rintro m σ H ⟨rfl, p⟩
  refine mono σ H _ _ (fun b H1 q => ?_) (hs σ H p)
  cases b with
  | true => exact ⟨_, fun σ' H' ⟨p', l⟩ => ⟨_, l, rfl, p'⟩, q⟩
  | false => exact q
end L2
namespace L2
open PySem PySem.Spec PyProof.Rows
noncomputable abbrev R2 := V -> V -> Hp -> VK -> Prop
noncomputable def OpR (X : Cx) (f : Value -> Value -> Sem Value) (r : R2) : Prop :=
  ∀ (pins : List (Addr × Obj)) (s : Shared) (σ : St) (H : Hp) (x y : V) (v u : Value) (Q : VK), Inv X pins σ H s -> RelV x v -> RelV y u -> r x y H Q ->
    wpAny (model X.prog X.w) X.A (f v u) (EP X pins σ Q) X.xe s
noncomputable def UnR (X : Cx) (f : Value -> Sem Value) (r : V -> Hp -> VK -> Prop) : Prop :=
  ∀ (pins : List (Addr × Obj)) (s : Shared) (σ : St) (H : Hp) (x : V) (v : Value) (Q : VK), Inv X pins σ H s -> RelV x v -> r x H Q ->
    wpAny (model X.prog X.w) X.A (f v) (EP X pins σ Q) X.xe s
noncomputable def CallR (X : Cx) (f : Value) (r : List V -> Hp -> VK -> Prop) : Prop :=
  ∀ (pins : List (Addr × Obj)) (s : Shared) (σ : St) (H : Hp) (xs : List V) (us : List Value) (Q : VK), Inv X pins σ H s -> Vals xs us -> r xs H Q ->
    wpAny (model X.prog X.w) X.A (call f us) (EP X pins σ Q) X.xe s
noncomputable def TruR (X : Cx) (r : V -> Hp -> (Bool -> Hp -> Prop) -> Prop) : Prop :=
  ∀ (pins : List (Addr × Obj)) (s : Shared) (σ : St) (H : Hp) (x : V) (v : Value) (Q : Bool -> Hp -> Prop), Inv X pins σ H s -> RelV x v -> r x H Q ->
    wpAny (model X.prog X.w) X.A (truthy v) (TP X pins σ Q) X.xe s
noncomputable def tOp (r : R2) (ta tb : TE) : TE := fun σ H Q => ta σ H fun x H1 => tb σ H1 fun y H2 => r x y H2 Q
noncomputable def tUn (r : V -> Hp -> VK -> Prop) (ta : TE) : TE := fun σ H Q => ta σ H fun x H1 => r x H1 Q
noncomputable def rI (C : Int -> Int -> Prop) (g : Int -> Int -> V) : R2 := fun x y H Q => ∃ i j, x = .int i /\ y = .int j /\ C i j /\ Q (g i j) H
noncomputable def rI0 (g : Int -> Int -> V) : R2 := fun x y H Q => ∃ i j, x = .int i /\ y = .int j /\ Q (g i j) H
noncomputable def rU (g : Int -> V) : V -> Hp -> VK -> Prop := fun x H Q => ∃ i, x = .int i /\ Q (g i) H
section
variable {X : Cx} {a b c : Expr} {ta tb tc : TE} {pos : Pos}
theorem binT (ha : PE X a ta) (hb : PE X b tb) {pins : List (Addr × Obj)} {s : Shared} {σ : St} {H : Hp} {R : V -> V -> Hp -> Prop} (I : Inv X pins σ H s)
    (h : ta σ H fun x H1 => tb σ H1 fun y H2 => R x y H2) {Q : Value -> Shared -> Prop} {f : Value -> Value -> Sem Value}
    (hf : ∀ v u s2 x y H2, Inv X pins σ H2 s2 -> RelV x v -> RelV y u -> R x y H2 -> wpAny (model X.prog X.w) X.A (f v u) Q X.xe s2) :
    wpAny (model X.prog X.w) X.A (eval a X.env) (fun v s₁ => wpAny (model X.prog X.w) X.A (eval b X.env) (fun u s₂ => wpAny (model X.prog X.w) X.A (f v u) Q X.xe s₂) X.xe s₁) X.xe s := by
  refine thn (ha pins s σ H _ I h) fun v s1 ⟨x, H1, I1, r1, q1⟩ => ?_
  refine thn (hb pins s1 σ H1 _ I1 q1) fun u s2 ⟨y, H2, I2, r2, q2⟩ => ?_
  exact hf v u s2 x y H2 I2 r1 r2 q2
theorem pe_op {op : Operator} {r : R2} (ho : OpR X (binaryOp op) r) (ha : PE X a ta) (hb : PE X b tb) : PE X (.BinOp a op b pos) (tOp r ta tb) := by
  intro pins s σ H Q I h
  exact wpAny_BinOp (binT ha hb I h fun v u s2 x y H2 I2 rx ry q => ho pins s2 σ H2 x y v u Q I2 rx ry q)
theorem pe_un {op : UnaryOp} {r : V -> Hp -> VK -> Prop} (ho : UnR X (unaryOp op) r) (ha : PE X a ta) : PE X (.UnaryOp op a pos) (tUn r ta) := by
  intro pins s σ H Q I h
  exact UnaryOp_ (thn (ha pins s σ H _ I h) fun v s1 ⟨x, H1, I1, r1, q1⟩ => ho pins s1 σ H1 x v Q I1 r1 q1)
theorem opI {f : Value -> Value -> Sem Value} {C : Int -> Int -> Prop} {g : Int -> Int -> Int}
    (rule : ∀ (i j : Int) (t u : Tok) (s : Shared) (Q : Value -> Shared -> Prop) (E : Value -> Shared -> Prop), C i j -> Q (.int (g i j) s.toks) { s with toks := s.toks + 1 } -> wpAny (model X.prog X.w) X.A (f (.int i t) (.int j u)) Q E s) :
    OpR X f (rI C fun i j => .int (g i j)) := by
  intro pins s σ H x y v u Q I rx ry h
  obtain ⟨i, j, rfl, rfl, hc, q⟩ := h
  obtain ⟨t, rfl⟩ := rx
  obtain ⟨t', rfl⟩ := ry
  exact rule i j t t' s _ _ hc ⟨.int (g i j), H, I.tok _, ⟨_, rfl⟩, q⟩
theorem opI0 {f : Value -> Value -> Sem Value} {g : Int -> Int -> Int}
    (rule : ∀ (i j : Int) (t u : Tok) (s : Shared) (Q : Value -> Shared -> Prop) (E : Value -> Shared -> Prop), Q (.int (g i j) s.toks) { s with toks := s.toks + 1 } -> wpAny (model X.prog X.w) X.A (f (.int i t) (.int j u)) Q E s) :
    OpR X f (rI0 fun i j => .int (g i j)) := by
  intro pins s σ H x y v u Q I rx ry h
  obtain ⟨i, j, rfl, rfl, q⟩ := h
  obtain ⟨t, rfl⟩ := rx
  obtain ⟨t', rfl⟩ := ry
  exact rule i j t t' s _ _ ⟨.int (g i j), H, I.tok _, ⟨_, rfl⟩, q⟩
theorem opB0 {f : Value -> Value -> Sem Value} {g : Int -> Int -> Bool}
    (rule : ∀ (i j : Int) (t u : Tok) (s : Shared) (Q : Value -> Shared -> Prop) (E : Value -> Shared -> Prop), Q (.bool (g i j)) s -> wpAny (model X.prog X.w) X.A (f (.int i t) (.int j u)) Q E s) :
    OpR X f (rI0 fun i j => .bl (g i j)) := by
  intro pins s σ H x y v u Q I rx ry h
  obtain ⟨i, j, rfl, rfl, q⟩ := h
  obtain ⟨t, rfl⟩ := rx
  obtain ⟨t', rfl⟩ := ry
  exact rule i j t t' s _ _ ⟨.bl (g i j), H, I, rfl, q⟩
noncomputable def CPow (i j : Int) : Prop := 0 <= j /\ j <= 1000000 /\ i.natAbs < 2 ^ 64
noncomputable def CMul (i j : Int) : Prop := (-(2 ^ 64) < i /\ i < 2 ^ 64) \/ (-(2 ^ 64) < j /\ j < 2 ^ 64)
theorem CMul.ok {i j : Int} (h : CMul i j) : IntMulOk i j := by
  rcases h with ⟨h1, h2⟩ | ⟨h1, h2⟩
  · exact .of_left (intBits_le_64 h1 h2)
  · exact .of_right (intBits_le_64 h1 h2)
theorem op_add : OpR X (binaryOp .Add) (rI0 fun i j => .int (i + j)) := opI0 fun _ _ _ _ _ _ _ q => add_int q
theorem op_sub : OpR X (binaryOp .Sub) (rI0 fun i j => .int (i - j)) := opI0 fun _ _ _ _ _ _ _ q => sub_int q
theorem op_mul : OpR X (binaryOp .Mult) (rI CMul fun i j => .int (i * j)) := opI fun _ _ _ _ _ _ _ hc q => mul_int q hc.ok
theorem op_mod : OpR X (binaryOp .Mod) (rI (fun _ j => 0 < j) fun i j => .int (i % j)) := opI fun i j _ _ _ _ _ hc q => by
  have h1 : (0 : Int) < j := hc
  exact mod_int' (by omega) (by rw [Int.fmod_eq_emod_of_nonneg i (by omega)]; exact q)
theorem op_pow : OpR X (binaryOp .Pow) (rI CPow fun i j => .int (i ^ j.toNat)) := opI fun _ _ _ _ _ _ _ hc q => pow_int_small hc.1 hc.2.1 hc.2.2 q
theorem unI {f : Value -> Sem Value} {g : Int -> Int}
    (rule : ∀ (i : Int) (t : Tok) (s : Shared) (Q : Value -> Shared -> Prop) (E : Value -> Shared -> Prop), Q (.int (g i) s.toks) { s with toks := s.toks + 1 } -> wpAny (model X.prog X.w) X.A (f (.int i t)) Q E s) :
    UnR X f (rU fun i => .int (g i)) := by
  intro pins s σ H x v Q I rx h
  obtain ⟨i, rfl, q⟩ := h
  obtain ⟨t, rfl⟩ := rx
  exact rule i t s _ _ ⟨.int (g i), H, I.tok _, ⟨_, rfl⟩, q⟩
theorem un_neg : UnR X (unaryOp .USub) (rU fun i => .int (-i)) := unI fun _ _ _ _ _ q => neg_int q
end
section
variable {X : Cx} {a b c : Expr} {ta tb tc : TE} {pos : Pos}
theorem op_lt : OpR X (compareOp .Lt) (rI0 fun i j => .bl (decide (i < j))) := opB0 fun _ _ _ _ _ _ _ q => lt_int q
theorem op_le : OpR X (compareOp .LtE) (rI0 fun i j => .bl (decide (i <= j))) := opB0 fun _ _ _ _ _ _ _ q => le_int q
theorem op_gt : OpR X (compareOp .Gt) (rI0 fun i j => .bl (decide (j < i))) := opB0 fun _ _ _ _ _ _ _ q => gt_int q
theorem op_ge : OpR X (compareOp .GtE) (rI0 fun i j => .bl (decide (j <= i))) := opB0 fun _ _ _ _ _ _ _ q => ge_int q
theorem nomark (b : Expr) {op : CmpOp} (h : op ≠ .In := by decide) (h2 : op ≠ .NotIn := by decide) : behindInMarks op b = false := by
  have e1 : (op == CmpOp.In) = false := by cases op <;> first | rfl | exact absurd rfl h
  have e2 : (op == CmpOp.NotIn) = false := by cases op <;> first | rfl | exact absurd rfl h2
  cases b <;> simp [behindInMarks, e1, e2]
theorem pe_cmpR {op : CmpOp} {r : R2} (ho : OpR X (compareOp op) r) (ha : PE X a ta) (hb : PE X b tb) (hm : behindInMarks op b = false) : PE X (.Compare a [op] [b] pos) (tOp r ta tb) := by
  intro pins s σ H Q I h
  exact wpAny_Compare1 (binT ha hb I h fun v u s2 x y H2 I2 rx ry q => ho pins s2 σ H2 x y v u Q I2 rx ry q) hm
noncomputable def tTest (t : TE) : TT := fun σ H Q => t σ H fun x H' => ∃ k, x = .bl k /\ Q k H'
theorem pt_cmpR {op : CmpOp} {r : R2} (ho : OpR X (compareOp op) r) (ha : PE X a ta) (hb : PE X b tb) (hm : behindInMarks op b = false) : PT X (.Compare a [op] [b] pos) (tTest (tOp r ta tb)) := by
  intro pins s σ H Q I h
  refine wpAny_isTrue_Compare1 (thn (ha pins s σ H _ I h) fun v s1 ⟨x, H1, I1, r1, q1⟩ => thn (hb pins s1 σ H1 _ I1 q1) fun u s2 ⟨y, H2, I2, r2, q2⟩ =>
    thn (ho pins s2 σ H2 x y v u _ I2 r1 r2 q2) fun c s3 ⟨z, H3, I3, r3, k, e, q3⟩ => ?_) hm
  subst e
  cases r3
  exact wpAny_truthy_bool ⟨H3, I3, q3⟩
noncomputable def tChain (r r' : R2) (ta tb tc : TE) : TE := fun σ H Q => ta σ H fun x H1 => tb σ H1 fun y H2 => r x y H2 fun z H3 => ∃ k, z = .bl k /\
  (if k = true then tc σ H3 fun w' H4 => r' y w' H4 Q else Q (.bl false) H3)
theorem pt_chain {op op' : CmpOp} {r r' : R2} (ho : OpR X (compareOp op) r) (ho' : OpR X (compareOp op') r') (ha : PE X a ta) (hb : PE X b tb) (hc : PE X c tc)
    (hm : lastMarks [op, op'] [b, c] = false := by with_unfolding_all rfl) : PT X (.Compare a [op, op'] [b, c] pos) (tTest (tChain r r' ta tb tc)) := by
  intro pins s σ H Q I h
  refine isTrue_chain (thn (ha pins s σ H _ I h) fun v s1 ⟨x, H1, I1, r1, q1⟩ => test_link (thn (hb pins s1 σ H1 _ I1 q1) fun u s2 ⟨y, H2, I2, r2, q2⟩ =>
    thn (ho pins s2 σ H2 x y v u _ I2 r1 r2 q2) fun d s3 ⟨z, H3, I3, r3, k, e, q3⟩ => ?_)) hm
  subst e
  cases r3
  refine wpAny_truthy_bool ?_
  cases k with
  | false =>
    obtain ⟨k', e', q'⟩ := q3
    cases e'
    exact ite_ff ⟨H3, I3, q'⟩
  | true =>
    refine ite_tt (test_last (thn (hc pins s3 σ H3 _ I3 q3) fun w' s4 ⟨z', H4, I4, r4, q4⟩ => thn (ho' pins s4 σ H4 y z' u w' _ I4 r2 r4 q4) fun d' s5 ⟨z2, H5, I5, r5, k2, e2, q5⟩ => ?_))
    subst e2
    cases r5
    exact wpAny_truthy_bool ⟨H5, I5, q5⟩
noncomputable def TruV (K : PySem.W.Frag) (x : V) (H : Hp) (k : Bool) : Prop :=
  match x with
  | .non => k = false
  | .bl b => k = b
  | .int i => k = (i != 0)
  | .str y => y.length <= sizeLine /\ k = ((y.length : Int) != 0)
  | .byt y => y.size <= sizeLine /\ k = ((y.size : Int) != 0)
  | .ref p => (∃ xs, SqL K H p xs /\ k = !xs.isEmpty) \/ (∃ xs, SqT K H p xs /\ k = !xs.isEmpty) \/ ∃ kvs, H p = some (.dK kvs) /\ k = !kvs.isEmpty
  | _ => False
theorem isEmpty_kv {κ : Type} {kvs : List (κ × V)} {vs : List (κ × Value)} (r : KV kvs vs) : (!vs.isEmpty) = !kvs.isEmpty := by
  cases r <;> rfl
theorem isEmpty_of {xs : List V} {its : List Value} (r : Vals xs its) : (!its.toArray.isEmpty) = !xs.isEmpty := by
  cases r <;> simp
theorem line63 : (sizeLine : Nat) < 2 ^ 63 := by rw [sizeLine_eq]; decide
theorem tru_ok : TruR X (fun x H Q => ∃ k, TruV X.K x H k /\ Q k H) := by
  intro pins s σ H x v Q I rx h
  obtain ⟨k, e, q⟩ := h
  have hl := line63
  have hs : sizeLine = 16777216 := sizeLine_eq
  cases x with
  | non =>
    cases rx
    have e' : k = false := e
    subst e'
    exact truthy_none ⟨H, I, q⟩
  | bl b =>
    cases rx
    have e' : k = b := e
    subst e'
    exact wpAny_truthy_bool ⟨H, I, q⟩
  | int i =>
    obtain ⟨t, rfl⟩ := rx
    have e' : k = (i != 0) := e
    subst e'
    exact PySem.P.truthy_int ⟨H, I, q⟩
  | str y =>
    obtain ⟨t, rfl⟩ := rx
    obtain ⟨hy, e'⟩ : y.length <= sizeLine /\ k = ((y.length : Int) != 0) := e
    subst e'
    exact PySem.P.truthy_str (by omega) ⟨H, I.tok _, q⟩
  | byt y =>
    obtain ⟨t, rfl⟩ := rx
    obtain ⟨hy, e'⟩ : y.size <= sizeLine /\ k = ((y.size : Int) != 0) := e
    subst e'
    exact PySem.W.truthy_bytes (by omega) ⟨H, I.tok _, q⟩
  | ref p =>
    cases rx
    have e' : (∃ xs, SqL X.K H p xs /\ k = !xs.isEmpty) \/ (∃ xs, SqT X.K H p xs /\ k = !xs.isEmpty) \/ ∃ kvs, H p = some (.dK kvs) /\ k = !kvs.isEmpty := e
    rcases e' with ⟨xs, hx, e'⟩ | ⟨xs, hx, e'⟩ | ⟨kvs, hx, e'⟩
    · subst e'
      obtain ⟨its, r, pl, hz⟩ := I.list hx
      have hlen := r.length
      exact wpAny_truthy_list pl.isList (by simp only [List.size_toArray]; omega) ⟨H, I.tok _, by rw [isEmpty_of r]; exact q⟩
    · subst e'
      obtain ⟨its, r, pl, hz⟩ := I.tuple hx
      have hlen := r.length
      exact truthy_tuple pl (by simp only [List.size_toArray]; omega) ⟨H, I.tok _, by rw [isEmpty_of r]; exact q⟩
    · subst e'
      obtain ⟨hz, hS, vs, r, m⟩ : kvs.length <= sizeLine /\ (p == sysModules) = false /\ ∃ vs, KV kvs vs /\ s.heap.DictOf (mixKind X.prog X.w) p vs := I.hok p _ hx
      have hlen : kvs.length = vs.length := Paired.length r
      exact wpAny_truthy_dict hS m (by omega) ⟨H, I.tok _, by rw [isEmpty_kv r]; exact q⟩
  | _ => exact (show False from e).elim
theorem pt_truth (ha : PE X a ta) (he : ∀ whole, isTrue a X.env whole = (do let v <- whole; standAt a.pos; holding [v] (truthy v))) :
    PT X a (fun σ H Q => ta σ H fun x H' => ∃ k, TruV X.K x H' k /\ Q k H') := by
  intro pins s σ H Q I h
  exact isTrue_plain (thn (ha pins s σ H _ I h) fun v s1 ⟨x, H1, I1, r1, q1⟩ => tru_ok pins s1 σ H1 x v Q I1 r1 q1) (he _)
theorem op_add_str : OpR X (binaryOp .Add) (fun x y H Q => ∃ i j, x = .str i /\ y = .str j /\ i.length + j.length <= sizeLine /\ Q (.str (i ++ j)) H) := by
  intro pins s σ H x y v u Q I rx ry h
  obtain ⟨i, j, rfl, rfl, hz, q⟩ := h
  obtain ⟨t, rfl⟩ := rx
  obtain ⟨t', rfl⟩ := ry
  exact add_str (fun t' tk => ⟨.str (i ++ j), H, I.tok _, ⟨_, rfl⟩, q⟩) hz
theorem vals1 {x : V} {us : List Value} (r : Vals [x] us) : ∃ u, us = [u] /\ RelV x u := by
  cases r with
  | cons r1 r2 => cases r2; exact ⟨_, rfl, r1⟩
theorem vals2 {x y : V} {us : List Value} (r : Vals [x, y] us) : ∃ u w', us = [u, w'] /\ RelV x u /\ RelV y w' := by
  cases r with
  | cons r1 r2 =>
    cases r2 with
    | cons r3 r4 => cases r4; exact ⟨_, _, rfl, r1, r3⟩
theorem call_max2 (hc : X.calm = true) : CallR X (.builtin "max") (fun xs H Q => ∃ i j, xs = [.int i, .int j] /\ Q (.int (if j > i then j else i)) H) := by
  intro pins s σ H xs us Q I r h
  obtain ⟨i, j, rfl, q⟩ := h
  obtain ⟨u, w', rfl, ⟨t, rfl⟩, ⟨t', rfl⟩⟩ := vals2 r
  refine max_two_ints (I.ok.hd hc) fun h' tk k => ⟨_, H, I.kept k, ?_, q⟩
  by_cases hj : j > i
  · rw [if_pos hj, if_pos hj]; exact ⟨_, rfl⟩
  · rw [if_neg hj, if_neg hj]; exact ⟨_, rfl⟩
theorem call_min2 (hc : X.calm = true) : CallR X (.builtin "min") (fun xs H Q => ∃ i j, xs = [.int i, .int j] /\ Q (.int (if j < i then j else i)) H) := by
  intro pins s σ H xs us Q I r h
  obtain ⟨i, j, rfl, q⟩ := h
  obtain ⟨u, w', rfl, ⟨t, rfl⟩, ⟨t', rfl⟩⟩ := vals2 r
  refine min_two_ints (I.ok.hd hc) fun h' tk k => ⟨_, H, I.kept k, ?_, q⟩
  by_cases hj : j < i
  · rw [if_pos hj, if_pos hj]; exact ⟨_, rfl⟩
  · rw [if_neg hj, if_neg hj]; exact ⟨_, rfl⟩
noncomputable def LenV (K : PySem.W.Frag) (x : V) (H : Hp) (n : Nat) : Prop :=
  match x with
  | .str y => y.length <= sizeLine /\ n = y.length
  | .byt y => y.size <= sizeLine /\ n = y.size
  | .ref p => (∃ xs, SqL K H p xs /\ n = xs.length) \/ ∃ xs, SqT K H p xs /\ n = xs.length
  | _ => False
theorem call_len : CallR X (.builtin "len") (fun xs H Q => ∃ x n, xs = [x] /\ LenV X.K x H n /\ Q (.int n) H) := by
  intro pins s σ H xs us Q I r h
  obtain ⟨x, n, rfl, e, q⟩ := h
  obtain ⟨u, rfl, rx⟩ := vals1 r
  have hl := line63
  have hs : sizeLine = 16777216 := sizeLine_eq
  cases x with
  | str y =>
    obtain ⟨t, rfl⟩ := rx
    obtain ⟨hy, e'⟩ : y.length <= sizeLine /\ n = y.length := e
    subst e'
    exact len_str (by omega) ⟨.int _, H, I.tok _, ⟨_, rfl⟩, q⟩
  | byt y =>
    obtain ⟨t, rfl⟩ := rx
    obtain ⟨hy, e'⟩ : y.size <= sizeLine /\ n = y.size := e
    subst e'
    exact PySem.W.len_bytes (by omega) ⟨.int _, H, I.tok _, ⟨_, rfl⟩, q⟩
  | ref p =>
    cases rx
    have e' : (∃ xs, SqL X.K H p xs /\ n = xs.length) \/ ∃ xs, SqT X.K H p xs /\ n = xs.length := e
    rcases e' with ⟨xs, hx, e'⟩ | ⟨xs, hx, e'⟩
    · subst e'
      obtain ⟨its, r', pl, hz⟩ := I.list hx
      have hlen := r'.length
      exact Calls.call_len_list pl.isList (by simp only [List.size_toArray]; omega) ⟨.int xs.length, H, I.tok _, ⟨_, by simp only [List.size_toArray]; rw [hlen]⟩, q⟩
    · subst e'
      obtain ⟨its, r', pl, hz⟩ := I.tuple hx
      have hlen := r'.length
      exact len_tuple pl (by simp only [List.size_toArray]; omega) ⟨.int xs.length, H, I.tok _, ⟨_, by simp only [List.size_toArray]; rw [hlen]⟩, q⟩
  | _ => exact (show False from e).elim
end
end L2
namespace L2
open PySem PySem.Spec PyProof.Rows
structure ObjM (h : Heap) (x dx C : Addr) (mA : Str -> Option Value) : Prop where
  obj : h.get? x = some (PySem.W.instObj C dx)
  ns : h.Ns1 dx mA
  ne : dx ≠ x
theorem lookIn_ns {h : Heap} {dx : Addr} {mA : Str -> Option Value} (n : h.Ns1 dx mA) : ∃ od, h.get? dx = some od /\ ∀ name, PySem.W.lookIn name od = some (mA name) := by
  obtain ⟨o, es, ep, ho, hd, hk, _, hm⟩ := n
  refine ⟨o, ho, fun name => ?_⟩
  have e := hm name
  unfold nsFind findBy at e
  rw [<- Array.find?_toList] at e
  unfold PySem.W.lookIn
  rw [hd]
  dsimp only
  split
  · rename_i y q
    rw [q] at e
    exact congrArg some e
  · rename_i q
    rw [q] at e
    have a : es.toList.any (·.refKey) = false := by
      rw [List.any_eq_false]
      intro y hy
      obtain ⟨z, t, hkey⟩ := hk y (Array.mem_toList_iff.mp hy)
      simp [DictEntry.refKey, hkey]
    have a' : ¬ es.toList.any (·.refKey) = true := by rw [a]; exact Bool.false_ne_true
    rw [if_neg a']
    exact congrArg some e
theorem ObjM.look {h : Heap} {x dx C : Addr} {mA : Str -> Option Value} (I : ObjM h x dx C mA) : ∃ od, PySem.W.InstAt h x (PySem.W.instObj C dx) C (some od) /\ ∀ name, PySem.W.lookIn name od = some (mA name) :=
  let ⟨od, ho, hl⟩ := lookIn_ns I.ns
  ⟨od, ⟨I.obj, rfl, rfl, ho⟩, hl⟩
section
variable {prog : Program} {w : World} {A : Around} {E : Value -> Shared -> Prop} {s : Shared} {K : PySem.W.Frag} {x dx C f : Addr} {mA : Str -> Option Value} {name : Str} {v : Value}
end
section
variable {P : Program} {w : World} {H H' : Hp} {h h' : Heap} {a C dx : Addr} {fs fs' : List (Str × V)}
theorem ins_get (hok : HOk P w H h) (e : H a = some (.ins C dx fs)) : ∃ mA, ObjM h a dx C mA /\ (∀ f, RelO (fs.lookup f) (mA f)) /\ PySem.Within mA (fs.map (·.1)) /\ fs.length <= 1000 /\ H dx = some (.own a) := by
  obtain ⟨d, z, ne, ob, mA, n, r, q⟩ := (show ObjOk P w H h a (.ins C dx fs) from hok a _ e)
  exact ⟨mA, ⟨ob, n, ne⟩, r, q, z, d⟩
end
structure Cls (K : PySem.W.Frag) (C : Addr) : Prop where
  pg : PySem.W.plainGet K C Str.empty = true
  hd : PySem.W.hasDictIn K C = true
  po : PySem.W.plainOver K C = true
  sa : PySem.W.findIn K (.ref C) "__setattr__" = some (some (.builtin "object.__setattr__"))
theorem Cls.get {K : PySem.W.Frag} {C : Addr} (c : Cls K C) (f : Str) : PySem.W.plainGet K C f = true := c.pg
structure Con (K : PySem.W.Frag) (C : Addr) (f : Str) (v : V) (u : Value) : Prop where
  at_ : PySem.W.findIn K (.ref C) f = some (some u)
  rel : RelV v u
  get : PySem.W.specialIn K u "__get__" = some none
  cp : PySem.W.copiedNames.contains f = false
structure Meth (K : PySem.W.Frag) (C : Addr) (m : Str) (f : Addr) : Prop where
  at_ : PySem.W.findIn K (.ref C) m = some (some (.ref f))
  fn : PySem.W.isFn K (.ref f) = true
  kp : PySem.W.keepIn K (.ref f) = true
section
variable {X : Cx} {pins : List (Addr × Obj)} {σ : St} {H : Hp} {s : Shared} {a C dx : Addr} {fs : List (Str × V)} {f : Str} {v : V} {A : Around} {E : Value -> Shared -> Prop}
end
section
variable {X : Cx} {o e value : Expr} {f : Str} {pos pos' tpos : Pos} {ta tv : TE}
end
section
variable {X : Cx} {pins : List (Addr × Obj)} {σ : St} {H : Hp} {s : Shared} {A : Around} {E : Value -> Shared -> Prop} {Q : Value -> Shared -> Prop} {c : Value} {b : Bool}
inductive TyOf (K : PySem.W.Frag) (H : Hp) : V -> Value -> Prop where
  | non : TyOf K H .non (.type "NoneType")
  | bl (x : Bool) : TyOf K H (.bl x) (.type "bool")
  | int (i : Int) : TyOf K H (.int i) (.type "int")
  | str (x : Str) : TyOf K H (.str x) (.type "str")
  | flt (x : UInt64) : TyOf K H (.flt x) (.type "float")
  | lst {a : Addr} {xs : List V} (e : H a = some (.lst xs)) : TyOf K H (.ref a) (.type "list")
  | frz {a : Addr} {o : Obj} {xs : List V} (e : H a = some (.frz o (.lst xs))) : TyOf K H (.ref a) (.type "list")
  | tup {a : Addr} {xs : List V} (e : H a = some (.tup xs)) : TyOf K H (.ref a) (.type "tuple")
  | dK {a : Addr} {kvs : List (Key × V)} (e : H a = some (.dK kvs)) : TyOf K H (.ref a) (.type "dict")
  | dT {a : Addr} {kvs : List (List Key × V)} (e : H a = some (.dT kvs)) : TyOf K H (.ref a) (.type "dict")
  | ins {a C dx : Addr} {fs : List (Str × V)} (e : H a = some (.ins C dx fs)) (cl : Cls K C) (ha : PySem.W.findIn K (.ref C) "__class__" = some (some (.builtin "object.__class__")))
      (hn : PySem.W.specialIn K (.builtin "object.__class__") "__get__" = some (some (.builtin "getset_descriptor.__get__"))) (htk : PySem.W.takesIn K (.builtin "object.__class__") = some true)
      (hm : PySem.W.mroIn K C (.type "object") = some true) : TyOf K H (.ref a) (.ref C)
theorem isinst_ok {x : V} {u t : Value} (I : Inv X pins σ H s) (rx : RelV x u) (ty : TyOf X.K H x t) (e : PySem.W.kitOne X.K t c = some b) (h : ∀ tk, Q (.bool b) { s with toks := tk }) :
    wpAny (model X.prog X.w) A (call (.builtin "isinstance") [u, c]) Q E s := by
  cases ty with
  | non => cases (show u = Value.none from rx); exact PySem.W.kia_one PySem.W.kitx_none I.kIn True.intro e (fun z => nomatch z) h
  | bl y => cases (show u = Value.bool y from rx); exact PySem.W.kia_one PySem.W.kitx_bool I.kIn True.intro e (fun z => nomatch z) h
  | int i => obtain ⟨t, q⟩ := (show ∃ t, u = Value.int i t from rx); cases q; exact PySem.W.kia_one PySem.W.kitx_int I.kIn True.intro e (fun z => nomatch z) h
  | str y => obtain ⟨t, q⟩ := (show ∃ t, u = Value.str y t from rx); cases q; exact PySem.W.kia_one PySem.W.kitx_str I.kIn True.intro e (fun z => nomatch z) h
  | flt y => obtain ⟨t, q⟩ := (show ∃ t, u = Value.float y t from rx); cases q; exact PySem.W.kia_one PySem.W.kitx_float I.kIn True.intro e (fun z => nomatch z) h
  | @lst a xs ea =>
    cases (show u = Value.ref a from rx)
    obtain ⟨_, _, n, _, h1⟩ := (show ObjOk X.prog X.w H s.heap a (.lst xs) from I.hok a _ ea)
    exact PySem.W.kia_one PySem.W.kitx_list I.kIn ⟨_, h1, rfl⟩ e (fun z => nomatch z) h
  | @frz a ob xs ea =>
    cases (show u = Value.ref a from rx)
    obtain ⟨_, _, _, n, _, h1⟩ := (show ObjOk X.prog X.w H s.heap a (.frz ob (.lst xs)) from I.hok a _ ea)
    exact PySem.W.kia_one PySem.W.kitx_list I.kIn ⟨_, h1, rfl⟩ e (fun z => nomatch z) h
  | @tup a xs ea =>
    cases (show u = Value.ref a from rx)
    obtain ⟨_, _, _, p⟩ := (show ObjOk X.prog X.w H s.heap a (.tup xs) from I.hok a _ ea)
    obtain ⟨o, h1, h2, _⟩ := p
    exact PySem.W.kia_one PySem.W.kitx_tuple I.kIn ⟨o, h1, h2⟩ e (fun z => nomatch z) h
  | @dK a kvs ea =>
    cases (show u = Value.ref a from rx)
    obtain ⟨_, _, vs, _, p⟩ := (show ObjOk X.prog X.w H s.heap a (.dK kvs) from I.hok a _ ea)
    obtain ⟨o, es, ep, h1, h2, _⟩ := p
    exact PySem.W.kia_one PySem.W.kitx_dict I.kIn ⟨o, h1, h2.1⟩ e (fun z => nomatch z) h
  | @dT a kvs ea =>
    cases (show u = Value.ref a from rx)
    obtain ⟨_, _, xs, _, o, es, ep, h1, h2, _⟩ := (show ObjOk X.prog X.w H s.heap a (.dT kvs) from I.hok a _ ea)
    exact PySem.W.kia_one PySem.W.kitx_dict I.kIn ⟨o, h1, h2.1⟩ e (fun z => nomatch z) h
  | @ins a C dx fs ea cl ha hn htk hm =>
    cases (show u = Value.ref a from rx)
    obtain ⟨mA, O, _⟩ := ins_get I.hok ea
    obtain ⟨od, J, _⟩ := O.look
    exact PySem.W.kia_one (PySem.W.kitx_own (cl.get _) cl.hd ha hn htk hm) I.kIn J e (fun z => nomatch z) h
end
end L2
namespace L2
open PySem PySem.Spec PyProof.Rows
structure Room (k : Nat) (A : Around) : Prop where
  hd : A.handled = none
  dp : A.depth + 3 * k + 5 < recursionLimit
  un : A.units + 16 * k + 200 < cLine
theorem Room.mono {j k : Nat} {A : Around} (r : Room k A) (h : j <= k) : Room j A := ⟨r.hd, by have := r.dp; omega, by have := r.un; omega⟩
theorem Room.deeper {k : Nat} {A : Around} (r : Room (k + 1) A) (env : Env) : Room k (A.deeper env) :=
  ⟨r.hd, by have := r.dp; show A.depth + 1 + 3 * k + 5 < _; omega, by have := r.un; show A.units + 3 + 16 * k + 200 < _; omega⟩
theorem Room.depth {k : Nat} {A : Around} (r : Room k A) : A.depth < recursionLimit := by have := r.dp; omega
theorem Room.units {k : Nat} {A : Around} (r : Room k A) : A.units + 64 < cLine := by have := r.un; omega
noncomputable def tNil : TA := fun _ H Q => Q [] H
noncomputable def tCons (ta : TE) (tr : TA) : TA := fun σ H Q => ta σ H fun x H1 => tr σ H1 fun xs H2 => Q (x :: xs) H2
section
variable {X : Cx} {e : Expr} {es : List Expr} {te : TE} {t : TA} {pos : Pos}
theorem pa_nil : PA X [] tNil := fun _ _ _ _ H Q I h => Calls.spliced_nil ⟨[], H, I, .nil, h⟩
theorem pa_cons (ha : PE X e te) (hr : PA X es t) (hs : starEach (e :: es) X.env = (false, eval e X.env) :: starEach es X.env := by rfl) : PA X (e :: es) (tCons te t) := by
  intro pos pins s σ H Q I h
  rw [hs]
  show wpAny _ _ (spliced ((false, eval e X.env) :: backTo pos (starEach es X.env))) _ _ s
  refine Calls.spliced_cons (thn (ha pins s σ H _ I h) fun u s1 ⟨x, H1, I1, r1, q1⟩ => ?_)
  exact thn (hr pos pins s1 σ H1 _ I1 q1) fun us s2 ⟨xs, H2, I2, r2, q2⟩ => ⟨x :: xs, H2, I2, .cons r1 r2, q2⟩
noncomputable def tTup (t : TA) : TE := fun σ H Q => t σ H fun xs H1 => xs.length <= sizeLine /\ ∀ p, H1 p = none -> Q (.ref p) (upd H1 p (.tup xs))
noncomputable def tLst (t : TA) : TE := fun σ H Q => t σ H fun xs H1 => xs.length <= sizeLine /\ ∀ p, H1 p = none -> Q (.ref p) (upd H1 p (.lst xs))
theorem pe_tup {x1} (h : PA X es t) : PE X (.Tuple es x1 pos) (tTup t) := by
  intro pins s σ H Q I hq
  refine wpAny_Tuple_spliced (thn (h pos pins s σ H _ I hq) fun us s1 ⟨xs, H1, I1, r, z, q⟩ => ⟨by rw [<- r.length]; exact z, ?_⟩)
  have hf : H1 s1.heap.objs.size = none := I1.hok.fresh (Nat.le_refl _)
  refine ⟨.ref s1.heap.objs.size, upd H1 s1.heap.objs.size (.tup xs), I1.laid (t' := s1.toks) (fun b u e => Heap.get?_push_of_some _ e) (Nat.le_refl _) ?_, rfl, q _ hf⟩
  exact ⟨z, us, r, ⟨_, Heap.get?_push_size _ rfl, rfl, rfl, _, rfl⟩⟩
theorem pe_lst (h : PA X es t) : PE X (.List es pos) (tLst t) := by
  intro pins s σ H Q I hq
  refine wpAny_List_spliced (thn (h pos pins s σ H _ I hq) fun us s1 ⟨xs, H1, I1, r, z, q⟩ => ⟨by rw [<- r.length]; exact z, ?_⟩)
  have hf : H1 s1.heap.objs.size = none := I1.hok.fresh (Nat.le_refl _)
  refine ⟨.ref s1.heap.objs.size, upd H1 s1.heap.objs.size (.lst xs), I1.laid (t' := s1.toks) (fun b u e => Heap.get?_push_of_some _ e) (Nat.le_refl _) ?_, rfl, q _ hf⟩
  exact ⟨z, us, 0, r, Heap.get?_push_size _ rfl⟩
end
noncomputable abbrev Sp := List V -> Hp -> VK -> XK -> Prop
noncomputable abbrev CXT := List Env -> Hp -> Shared -> XK -> Value -> Shared -> Prop
structure Env0 (P : Program) (w : World) (K : PySem.W.Frag) (mg : Str -> Option Value) (base : Heap) (A : Around) (outer : List Env) (s : Shared) (H : Hp) : Prop where
  frames : A.frames = some outer
  mod : Mod K mg base
  bs : ∀ b o, base.get? b = some o -> s.heap.get? b = some o /\ H b = none
  bsz : base.objs.size <= s.heap.objs.size
  funs : s.heap.FunFrames base outer
  frf : ∀ b ∈ frs outer, H b = none
  hok : HOk P w H s.heap
  bare : AllBare s.gens
noncomputable def CE (outer : List Env) (P : Program) (w : World) (H : Hp) (s : Shared) (Q : VK) (u : Value) (s' : Shared) : Prop :=
  ∃ v H', s'.os = s.os /\ AllBare s'.gens /\ Un (frs outer) [] H H' s.heap s'.heap /\ HOk P w H' s'.heap /\ RelV v u /\ Q v H'
noncomputable def CR (CX : CXT) (outer : List Env) (P : Program) (w : World) (H : Hp) (s : Shared) (Q : VK) (E : XK) (r : Result) (s' : Shared) : Prop :=
  match r with
  | .ok (.ret u) => CE outer P w H s Q u s'
  | .ok _ => False
  | .error e => CX outer H s E e s'
structure FnOk (P : Program) (w : World) (K : PySem.W.Frag) (mg : Str -> Option Value) (base : Heap) (CX : CXT) (k : Nat) (f : Addr) (fd : FuncData) (ps : List Str) (sp : Sp) : Prop where
  len : ∀ vs H Q E, sp vs H Q E -> vs.length = ps.length
  run : ∀ (A : Around) (outer : List Env) (s : Shared) (H : Hp) (args : Args) (us : List Value) (vs : List V) (Q : VK) (E : XK), Room k A -> Env0 P w K mg base A outer s H -> BindsTo s fd args (ps.zip us) -> Vals vs us -> sp vs H Q E ->
    codeAny (model P w) A (.call (.ref f) args) (CR CX outer P w H s Q E) s
section
variable {X : Cx} {pins : List (Addr × Obj)} {σ : St} {H : Hp} {s s' : Shared}
theorem Inv.env0 (I : Inv X pins σ H s) : Env0 X.prog X.w X.K X.mg X.base X.A X.stack s H :=
  ⟨I.ok.frames, I.ok.mod, I.bs, Nat.le_trans I.ok.bsz I.sz, I.stack, I.stkFree, I.hok, I.bare⟩
theorem Inv.after {Q : VK} {u : Value} (I : Inv X pins σ H s) (h : CE X.stack X.prog X.w H s Q u s') : EP X pins σ Q u s' := by
  obtain ⟨v, H', os, bare, un, hok, r, q⟩ := h
  obtain ⟨hh, g, d, t, os'⟩ := s'
  obtain rfl : os' = s.os := os
  exact ⟨v, H', I.call (h' := hh) (g' := g) (d' := d) (t' := t) (ch := []) un hok bare (fun b z => absurd z (by simp)), r, q⟩
end
noncomputable def tCall (sp : Sp) (dvs : List V) (E : XK) (t : TA) : TE := fun σ H Q => t σ H fun vs H1 => sp (vs ++ dvs) H1 Q E
noncomputable def Binds (K : PySem.W.Frag) (fd : FuncData) (ps : List Str) (ds : List Value) : Prop :=
  ∀ (s : Shared) (us : List Value), K.In s.heap -> (us ++ ds).length = ps.length -> BindsTo s fd ⟨us, []⟩ (ps.zip (us ++ ds))
theorem Binds.all {K : PySem.W.Frag} {fd : FuncData} {ps : List Str} (h : ∀ us : List Value, us.length = ps.length -> bindArgs fd ⟨us, []⟩ = pure (ps.zip us)) : Binds K fd ps [] := fun s us _ hl => by
  rw [List.append_nil] at hl ⊢
  exact .of_eq (h us hl)
noncomputable def Passes (CX : CXT) (X : Cx) (E : XK) : Prop := ∀ (pins : List (Addr × Obj)) (σ : St) (H : Hp) (s : Shared) (e : Value) (s' : Shared), Inv X pins σ H s -> CX X.stack H s E e s' -> X.xe e s'
section
variable {X : Cx} {CX : CXT} {k : Nat} {f C : Addr} {fd : FuncData} {ps : List Str} {sp : Sp} {dvs : List V} {ds : List Value} {E : XK} {x m : Str} {p pos apos : Pos} {e o : Expr} {es : List Expr} {ta : TE} {t : TA}
theorem run_fn {pins : List (Addr × Obj)} {σ : St} {H : Hp} {s : Shared} {Q : VK} {us : List Value} {vs : List V} (F : FnOk X.prog X.w X.K X.mg X.base CX k f fd ps sp) (hr : Room k X.A) (hb : Binds X.K fd ps ds) (hd : Vals dvs ds) (hx : Passes CX X E)
    (I : Inv X pins σ H s) (r : Vals vs us) (h : sp (vs ++ dvs) H Q E) : wpAny (model X.prog X.w) X.A (call (.ref f) us) (EP X pins σ Q) X.xe s := by
  have r2 : Vals (vs ++ dvs) (us ++ ds) := r.append hd
  have hl : (us ++ ds).length = ps.length := by rw [<- r2.length]; exact F.len _ _ _ _ h
  refine wpAny_call (codeAny_mono (F.run X.A X.stack s H ⟨us, []⟩ (us ++ ds) (vs ++ dvs) Q E hr I.env0 (hb s us I.kIn hl) r2 h) fun r s' hq => ?_)
  cases r with
  | error e => exact hx pins σ H s e s' I hq
  | ok fl =>
    cases fl with
    | ret u => exact I.after hq
    | next => exact False.elim hq
    | brk => exact False.elim hq
    | cont => exact False.elim hq
theorem pe_call (F : FnOk X.prog X.w X.K X.mg X.base CX k f fd ps sp) (hr : Room k X.A) (hg : Gl X x) (hm : X.mg x = some (.ref f)) (hk : PySem.W.keepIn X.K (.ref f) = true) (hb : Binds X.K fd ps ds) (hd : Vals dvs ds) (hx : Passes CX X E)
    (ha : PA X (e :: es) t) (hdb : (x == ("__debug__" : Str)) = false := by decide) (he : starEach (e :: es) X.env = (false, eval e X.env) :: starEach es X.env := by rfl) (hpl : (backTo pos (starEach es X.env)).any (·.1) = false := by rfl) :
    PE X (.Call (.Name x p) (e :: es) [] pos) (tCall sp dvs E t) := by
  intro pins s σ H Q I h
  refine wpAny_Call_Name_kw (ld_glob I hg hm ?_ hdb)
  refine PySem.W.callWith_K (h₀ := X.base) I.ok.mod.kin hk (thn (ha pos pins s σ H _ I h) fun us s1 ⟨vs, H1, I1, r, q⟩ => ⟨I1.kIn, ?_⟩) he hpl
  exact run_fn F hr hb hd hx I1 r q
structure Mk (K : PySem.W.Frag) (C f : Addr) : Prop where
  makes : PySem.W.makesIn K C = true
  init : PySem.W.findIn K (.ref C) "__init__" = some (some (.ref f))
  fn : PySem.W.isFn K (.ref f) = true
  kp : PySem.W.keepIn K (.ref C) = true
end
section
variable {X : Cx} {CX : CXT} {k : Nat} {f C : Addr} {fd : FuncData} {ps ks : List Str} {sp : Sp} {E : XK} {x m : Str} {p pos apos kpos : Pos} {e o : Expr} {es : List Expr} {kws : List Keyword} {te ta : TE} {t tk : TA} {nm : Option Str}
structure KBinds (K : PySem.W.Frag) (fd : FuncData) (ps ks : List Str) (g : List Value -> List Value -> List Value) (gV : List V -> List V -> List V) : Prop where
  to : ∀ (s : Shared) (us ws : List Value), K.In s.heap -> (g us ws).length = ps.length -> BindsTo s fd ⟨us, ks.zip ws⟩ (ps.zip (g us ws))
  rel : ∀ {vs : List V} {us : List Value} {zs : List V} {ws : List Value}, Vals vs us -> Vals zs ws -> Vals (gV vs zs) (g us ws)
variable {g : List Value -> List Value -> List Value} {gV : List V -> List V -> List V}
end
structure FnScope (N P : List Str) (sc : Scope) : Prop where
  kind : sc.kind = .function
  co : sc.isCoroutine = false
  gen : sc.isGenerator = false
  nd : N.Nodup
  pre : N.take P.length = P
  par : ∀ x ∈ P, sc.names.lookup x = some .local \/ sc.names.lookup x = some .cell
  nofree : ∀ y ∈ sc.names, y.2 ≠ .free
theorem bindL_out {kindOf : Str -> Option NameKind} {x : Str} : ∀ {binds : List (Str × Value)} {m : Str -> Option Value}, (∀ v, (x, v) ∉ binds) -> bindL kindOf binds m x = m x
  | [], _, _ => rfl
  | (n, v) :: r, m, h => by
    unfold bindL
    rw [bindL_out fun w hw => h w (List.mem_cons_of_mem _ hw)]
    split
    · have : x ≠ n := by rintro rfl; exact h v List.mem_cons_self
      simp [this]
    · rfl
theorem bindC_out {kindOf : Str -> Option NameKind} {x : Str} : ∀ {binds : List (Str × Value)} {m : Str -> Option Value}, (∀ v, (x, v) ∉ binds) -> bindC kindOf binds m x = m x
  | [], _, _ => rfl
  | (n, v) :: r, m, h => by
    unfold bindC
    rw [bindC_out fun w hw => h w (List.mem_cons_of_mem _ hw)]
    split
    · rfl
    · have : x ≠ n := by rintro rfl; exact h v List.mem_cons_self
      simp [this]
theorem bindL_get {kindOf : Str -> Option NameKind} {x : Str} {v : Value} : ∀ {P : List Str} {vs : List Value} {i : Nat} {m : Str -> Option Value}, P.Nodup -> P[i]? = some x -> vs[i]? = some v -> kindOf x = some .local ->
    bindL kindOf (P.zip vs) m x = some v
  | [], _, _, _, _, h, _, _ => by simp at h
  | _ :: _, [], _, _, _, _, h, _ => by simp at h
  | p :: P, w :: vs, 0, m, nd, h1, h2, hk => by
    simp at h1 h2; subst h1; subst h2
    show bindL kindOf ((p, w) :: P.zip vs) m p = _
    unfold bindL
    rw [bindL_out fun v hv => (List.nodup_cons.mp nd).1 (List.of_mem_zip hv).1, if_pos hk]
    simp
  | p :: P, w :: vs, i + 1, m, nd, h1, h2, hk => by
    show bindL kindOf ((p, w) :: P.zip vs) m x = _
    unfold bindL
    exact bindL_get (i := i) (List.nodup_cons.mp nd).2 (by simpa using h1) (by simpa using h2) hk
theorem bindC_get {kindOf : Str -> Option NameKind} {x : Str} {v : Value} : ∀ {P : List Str} {vs : List Value} {i : Nat} {m : Str -> Option Value}, P.Nodup -> P[i]? = some x -> vs[i]? = some v -> kindOf x ≠ some .local ->
    bindC kindOf (P.zip vs) m x = some v
  | [], _, _, _, _, h, _, _ => by simp at h
  | _ :: _, [], _, _, _, _, h, _ => by simp at h
  | p :: P, w :: vs, 0, m, nd, h1, h2, hk => by
    simp at h1 h2; subst h1; subst h2
    show bindC kindOf ((p, w) :: P.zip vs) m p = _
    unfold bindC
    rw [bindC_out fun v hv => (List.nodup_cons.mp nd).1 (List.of_mem_zip hv).1, if_neg hk]
    simp
  | p :: P, w :: vs, i + 1, m, nd, h1, h2, hk => by
    show bindC kindOf ((p, w) :: P.zip vs) m x = _
    unfold bindC
    exact bindC_get (i := i) (List.nodup_cons.mp nd).2 (by simpa using h1) (by simpa using h2) hk
noncomputable def start (N : List Str) (vs : List V) : St := vs.map some ++ List.replicate (N.length - vs.length) none
noncomputable def cxOf (CX : CXT) (P : Program) (w : World) (K : PySem.W.Frag) (mg : Str -> Option Value) (base : Heap) (N : List Str) (qual : Str) (scope : Scope) (f : Addr) (cd : Value) (A : Around) (outer : List Env) (s : Shared) (H : Hp) (E : XK) : Cx where
  prog := P
  w := w
  K := K
  mg := mg
  base := base
  A := A.deeper (envOfC qual scope s.heap.objs.size f cd)
  N := N
  s₀ := s
  H₀ := H
  env := envOfC qual scope s.heap.objs.size f cd
  outer := outer
  stack := envOfC qual scope s.heap.objs.size f cd :: outer
  ex := []
  calm := true
  fn := fun _ => true
  pn := []
  xe := fun e s' => wpAny (model P w) (A.deeper (envOfC qual scope s.heap.objs.size f cd)) (leaving (envOfC qual scope s.heap.objs.size f cd) e) (fun _ s'' => CX outer H s E e s'') (fun e' s'' => CX outer H s E e' s'') s'
theorem cell_has {sc : Scope} {n : Nat} {x : Str} (h : sc.names.lookup x = some .cell) : ∃ c, (cellsFrom n sc.names []).lookup x = some c := by
  have q := PySem.W.cellsFrom_some sc.names n [] (.inl h)
  exact Option.isSome_iff_exists.mp q
theorem inv_start {CX : CXT} {P : Program} {w : World} {K : PySem.W.Frag} {mg : Str -> Option Value} {base : Heap} {N ps : List Str} {qual : Str} {scope : Scope} {f : Addr} {cd : Value} {A : Around} {outer : List Env} {s s1 : Shared} {H : Hp} {E : XK} {us : List Value} {vs : List V}
    (S : FnScope N ps scope) (hd : A.handled = none) (e0 : Env0 P w K mg base A outer s H) (hl : vs.length = ps.length) (r : Vals vs us)
    (x : InCallC s s.heap.objs.size (bindL (envOfC qual scope s.heap.objs.size f cd).kindOf (ps.zip us) fun _ => none) (cellsFrom (s.heap.objs.size + 1) scope.names []) (bindC (envOfC qual scope s.heap.objs.size f cd).kindOf (ps.zip us) fun _ => none) s1) :
    Inv (cxOf CX P w K mg base N qual scope f cd A outer s H E) [] (start N vs) H s1 := by
  have hpl : ps.length <= N.length := by have := congrArg List.length S.pre; rw [List.length_take] at this; omega
  obtain ⟨h1, tk, rfl, hk⟩ := x.done
  have noA : ∀ b : Addr, b ∉ (cxOf CX P w K mg base N qual scope f cd A outer s H E).ex := fun b z => absurd (show b ∈ ([] : List Addr) from z) (by simp)
  refine ⟨⟨e0.mod, S.kind, rfl, rfl, Nat.le_refl _, fun y z c h1 h2 => ?_, fun y hy => ?_, fun y c _ h => ?_, fun _ => hd, Around.frames_deeper e0.frames, .inr ⟨rfl, rfl⟩, fun b z => absurd z (noA b), e0.bs, e0.bsz, fun b _ _ => noA b, fun b z => absurd z (noA b), e0.funs, e0.frf⟩,
    rfl, e0.bare, Un.kept hk, ⟨_, x.toInCall.ns, fun i y v h1 h2 h3 => ?_⟩, fun y c h => ⟨_, x.cell y c h⟩, e0.hok.fresh (Nat.le_refl _), fun y c h => ?_, fun p hp => absurd (show p ∈ ([] : List (Addr × Obj)) from hp) (by simp), e0.hok.kept hk, ?_⟩
  · exact name_of_addr x.apart (PySem.mem_of_lookup h1) (PySem.mem_of_lookup h2)
  · have hy : scope.names.lookup y = some .cell \/ scope.names.lookup y = some .free := hy
    rcases hy with hy | hy
    · exact cell_has hy
    · exact absurd rfl (S.nofree _ (PySem.mem_of_lookup hy))
  · exact Nat.le_of_lt (x.above y c (PySem.mem_of_lookup h))
  · have hi : i < vs.length := by
      unfold start at h2
      by_cases hi : i < vs.length
      · exact hi
      · rw [List.getElem?_append_right (by simpa using hi)] at h2
        rw [List.getElem?_replicate] at h2
        split at h2 <;> cases h2
    have ha : vs[i]? = some v := by
      unfold start at h2
      rw [List.getElem?_append_left (by simpa using hi), List.getElem?_map] at h2
      cases e : vs[i]? with
      | none => rw [e] at h2; cases h2
      | some a => rw [e] at h2; cases h2; rfl
    obtain ⟨u, hu, rv⟩ := r.get ha
    have hp : ps[i]? = some y := by
      rw [<- S.pre, List.getElem?_take_of_lt (by omega)]; exact h1
    have ndP : ps.Nodup := by rw [<- S.pre]; exact S.nd.sublist (List.take_sublist _ _)
    refine ⟨u, rv, ?_⟩
    rcases S.par y (List.mem_of_getElem? hp) with k | k
    · exact .inl ⟨k, bindL_get ndP hp hu k⟩
    · obtain ⟨c, e⟩ := cell_has (n := s.heap.objs.size + 1) k
      refine .inr ⟨.inl k, c, e, ?_⟩
      have q := x.cell y c e
      rw [bindC_get ndP hp hu (by show scope.names.lookup y ≠ _; rw [k]; decide)] at q
      exact q
  · exact e0.hok.fresh (Nat.le_of_lt (x.above y c (PySem.mem_of_lookup h)))
  · unfold start
    show _ = N.length
    rw [List.length_append, List.length_map, List.length_replicate]
    omega
theorem fn_of {CX : CXT} {P : Program} {w : World} {K : PySem.W.Frag} {mg : Str -> Option Value} {base : Heap} {k : Nat} {f : Addr} {name qual : Str} {params : Arguments} {body : List Stmt} {scope : Scope} {dV kV doc pm cdv ct oc : Value} {an od : Option Addr}
    {osl : Array (Option Value)} {N ps : List Str} {sp : Sp} (lk : K.lookup f = some ⟨oc, od, .func (PySem.W.fnOf name qual params body scope dV kV doc pm an cdv ct), osl⟩) (hcd : PySem.W.codeIn K cdv qual = true) (S : FnScope N ps scope)
    (len : ∀ vs H Q E, sp vs H Q E -> vs.length = ps.length)
    (hbody : ∀ (A : Around) (outer : List Env) (s : Shared) (H : Hp) (vs : List V) (Q : VK) (E : XK), Room k (A.deeper (envOfC qual scope s.heap.objs.size f cdv)) -> sp vs H Q E ->
      ∃ t, PSs (cxOf CX P w K mg base N qual scope f cdv A outer s H E) body t /\ t { nx := fun _ H' => Q .non H', rt := Q } (start N vs) H) :
    FnOk P w K mg base CX (k + 1) f (PySem.W.fnOf name qual params body scope dV kV doc pm an cdv ct) ps sp := by
  refine ⟨len, fun A outer s H args us vs Q E hr e0 hb r hsp => ?_⟩
  have hl := len _ _ _ _ hsp
  have KX : K.In s.heap := e0.mod.kin.keeps fun b o e => (e0.bs b o e).1
  have lim : s.heap.NoLimit := e0.mod.nolimit.keeps fun b o e => (e0.bs b o e).1
  have hkind : ∀ y ∈ ps.zip us, scope.names.lookup y.1 = some .local \/ (scope.names.lookup y.1 = some .cell /\ ((cellsFrom (s.heap.objs.size + 1) scope.names []).lookup y.1).isSome = true) := fun ⟨n, v⟩ hy => by
    rcases S.par n (List.of_mem_zip hy).1 with q | q
    · exact .inl q
    · exact .inr ⟨q, PySem.W.cellsFrom_some _ _ _ (.inl q)⟩
  refine codeAny_call_function hr.depth (KX _ _ lk) rfl S.co S.gen rfl (PySem.W.codeRec_of KX hcd) (hb _ _ _ _ ?_)
  refine wpAny_newFunctionEnv_cells S.kind hkind fun env he s1 x => ?_
  subst he
  refine ⟨lim.keeps x.toInCall.keep, codeAny_func ?_⟩
  obtain ⟨t, ht, hq⟩ := hbody A outer s H vs Q E (hr.deeper _) hsp
  have I : Inv (cxOf CX P w K mg base N qual scope f cdv A outer s H E) [] (start N vs) H s1 := inv_start S hr.hd e0 hl r x
  refine wpAny_mono (ht [] s1 (start N vs) H _ I hq) (fun fl s' hs => ?_) fun e s' hs => hs
  have fin : ∀ {σ' : St} {H' : Hp} {v : V} {u : Value}, Inv (cxOf CX P w K mg base N qual scope f cdv A outer s H E) [] σ' H' s' -> RelV v u -> Q v H' -> CE outer P w H s Q u s' :=
    fun {σ' H' v u} J rv q => ⟨v, H', J.os, J.bare, J.base, J.hok, rv, q⟩
  cases fl with
  | ret u =>
    obtain ⟨v, σ', H', J, rv, q⟩ := hs
    exact fin J rv q
  | next =>
    obtain ⟨σ', H', J, q⟩ := hs
    exact fin (v := V.non) (u := Value.none) J rfl q
  | brk =>
    obtain ⟨_, _, _, q⟩ := hs
    exact False.elim q
  | cont =>
    obtain ⟨_, _, _, q⟩ := hs
    exact False.elim q
end L2
namespace L2
open PySem PySem.Spec PyProof.Rows
section
variable {X : Cx} {x : Str} {p pos : Pos} {e : Expr} {es : List Expr} {t : TA} {id T : String} {r : List V -> Hp -> VK -> Prop}
noncomputable def tCB (r : List V -> Hp -> VK -> Prop) (t : TA) : TE := fun σ H Q => t σ H fun vs H1 => r vs H1 Q
theorem pe_callB (hc : CallR X (.builtin id) r) (hg : Gl X x) (hm : X.mg x = none) (hv : bootBuiltins x = some (.builtin id)) (ha : PA X (e :: es) t) (hn : x ≠ "__name__" := by decide) (hdb : (x == ("__debug__" : Str)) = false := by decide)
    (he : starEach (e :: es) X.env = (false, eval e X.env) :: starEach es X.env := by rfl) (hpl : (backTo pos (starEach es X.env)).any (·.1) = false := by rfl) : PE X (.Call (.Name x p) (e :: es) [] pos) (tCB r t) := by
  intro pins s σ H Q I h
  refine wpAny_Call_Name_kw (ld_blt I hg hm hv ?_ hn hdb)
  exact PyProof.Rows.callWith_builtin1 (thn (ha pos pins s σ H _ I h) fun us s1 ⟨vs, H1, I1, r1, q1⟩ => hc pins s1 σ H1 vs us Q I1 r1 q1) he hpl
theorem pe_callTy (hc : CallR X (.type T) r) (hg : Gl X x) (hm : X.mg x = none) (hv : bootBuiltins x = some (.type T)) (ha : PA X (e :: es) t) (hn : x ≠ "__name__" := by decide) (hdb : (x == ("__debug__" : Str)) = false := by decide)
    (he : starEach (e :: es) X.env = (false, eval e X.env) :: starEach es X.env := by rfl) (hpl : (backTo pos (starEach es X.env)).any (·.1) = false := by rfl) : PE X (.Call (.Name x p) (e :: es) [] pos) (tCB r t) := by
  intro pins s σ H Q I h
  refine wpAny_Call_Name_kw (ld_blt I hg hm hv ?_ hn hdb)
  exact PyProof.Rows.callWith_type1 (thn (ha pos pins s σ H _ I h) fun us s1 ⟨vs, H1, I1, r1, q1⟩ => hc pins s1 σ H1 vs us Q I1 r1 q1) he hpl
end
end L2
namespace HT
open PySem PyProof.Rows
noncomputable def lexLt : List Int -> List Int -> Bool
  | [], [] => false
  | [], _ :: _ => true
  | _ :: _, [] => false
  | x :: xs, y :: ys => if x = y then lexLt xs ys else decide (x < y)
theorem lexLt_cons (x y : Int) (xs ys : List Int) : lexLt (x :: xs) (y :: ys) = if x = y then lexLt xs ys else decide (x < y) := rfl
theorem lexLt_nil_nil : lexLt [] [] = false := rfl
section
open PySem.SeqAt
open PySem.AutoSeq1 (wpAny_loadPart')
open PySem.MeetsSeq PySem.MeetsSeq2 PySem.MeetsSeq3
end
section
variable {prog : Program} {w : World} {A : Around} {E : Value -> Shared -> Prop} {s : Shared}
theorem cat_tup {t b : Addr} {vs ws : List Value} {Q : Value -> Shared -> Prop} (ht : IsTup s.heap t vs.toArray) (hb : IsTup s.heap b ws.toArray) (hv : vs ≠ [])
    (h1 : ws = [] -> Q (.ref t) s) (h2 : ws ≠ [] -> Q (.ref s.heap.objs.size) { s with heap := s.heap.push { cls := .type "tuple", data := .seq (vs ++ ws).toArray } })
    (hsz : vs.length + ws.length <= sizeLine) : wpAny (model prog w) A (binaryOp .Add (.ref t) (.ref b)) Q E s := by
  obtain ⟨⟨cls, dd, data, sl⟩, ho, hc, n, hd⟩ := id ht
  obtain ⟨⟨cls2, dd2, data2, sl2⟩, ho2, hc2, n2, hd2⟩ := id hb
  simp only at hc hd hc2 hd2
  subst hc hd hc2 hd2
  have e : vs.toArray ++ ws.toArray = (vs ++ ws).toArray := by simp
  by_cases hw : ws = []
  · exact concat_meets ⟨_, ho, rfl⟩ ⟨_, ho2, rfl⟩ noFill_tuple_add seq_tuple_add PySem.F.slot_tuple_add PySem.F.entry_tuple_add (PySem.F.args_tuple_add_2 _ _)
      (tuple_addW1 t b vs.toArray ws.toArray n n2 dd dd2 sl sl2 (by simpa using hv) (by simp [hw])) ⟨ho, ho2, h1 hw⟩
  · refine concat_meets ⟨_, ho, rfl⟩ ⟨_, ho2, rfl⟩ noFill_tuple_add seq_tuple_add PySem.F.slot_tuple_add PySem.F.entry_tuple_add (PySem.F.args_tuple_add_2 _ _)
      (tuple_addW2 t b vs.toArray ws.toArray n n2 dd dd2 sl sl2 (by simpa using hv) (by simpa using hw) (by rw [List.size_toArray, List.size_toArray]; exact hsz)) ⟨ho, ho2, ?_⟩
    rw [e]
    exact h2 hw
noncomputable def sIx (n d : Nat) : Option Int -> Nat
  | none => d
  | some v => if v < 0 then (v + (n : Int)).toNat else min v.toNat n
theorem sIx_none (n d : Nat) : sIx n d none = d := rfl
theorem sIx_nat (n d k : Nat) : sIx n d (some (k : Int)) = min k n := by
  show (if (k : Int) < 0 then ((k : Int) + (n : Int)).toNat else min (k : Int).toNat n) = min k n
  rw [if_neg (by omega), Int.toNat_natCast]
theorem sIx_le (n d : Nat) (hd : d <= n) (o : Option Int) : sIx n d o <= n := by
  cases o with
  | none => exact hd
  | some v =>
    show (if v < 0 then (v + (n : Int)).toNat else min v.toNat n) <= n
    by_cases hv : v < 0
    · rw [if_pos hv]; omega
    · rw [if_neg hv]; exact Nat.min_le_right _ _
theorem clip_eq (v : Int) (n d : Nat) : (if v < 0 then max (v + (n : Int)) 0 else min v (n : Int)) = ((sIx n d (some v) : Nat) : Int) := by
  show (if v < 0 then max (v + (n : Int)) 0 else min v (n : Int)) = (((if v < 0 then (v + (n : Int)).toNat else min v.toNat n) : Nat) : Int)
  by_cases hv : v < 0
  · simp only [if_pos hv]; omega
  · simp only [if_neg hv]; omega
theorem adjust_gen (lo hi : Option Int) (n : Nat) : Builtin.Slice.sliceAdjust lo hi 1 (n : Int) = (((sIx n 0 lo : Nat) : Int), ((sIx n n hi : Nat) : Int)) := by
  have h1 : ¬ ((1 : Int) < 0) := by omega
  unfold Builtin.Slice.sliceAdjust
  simp only [h1, if_false]
  refine Prod.ext ?_ ?_
  · cases lo with
    | none => rfl
    | some v => exact clip_eq v n 0
  · cases hi with
    | none => rfl
    | some v => exact clip_eq v n n
theorem places_gen (i j : Nat) : Builtin.Slice.slicePlaces (i : Int) (j : Int) 1 = j - i := by
  unfold Builtin.Slice.slicePlaces
  have h1 : (1 : Int) > 0 := by omega
  simp only [h1, if_true, Int.ediv_one]
  split <;> omega
theorem slicePart_ {v : Value} {o : Option Int} {Q : Option Int -> Shared -> Prop} (p : IsPart v o) (h : Q o s) : wpAny (model prog w) A (Builtin.Slice.slicePartIndex v) Q E s := by
  cases p with
  | none => exact slicePart_none h
  | int i t => exact slicePart_int h
theorem sliceApplied_gen {sl : Addr} {vl vu : Value} {lo hi : Option Int} {n : Nat} {Q : Int × Int × Nat -> Shared -> Prop} (hs : s.heap.IsSliceOf sl vl vu .none) (pl : IsPart vl lo) (pu : IsPart vu hi)
    (h : Q (((sIx n 0 lo : Nat) : Int), 1, sIx n n hi - sIx n 0 lo) s) : wpAny (model prog w) A (Builtin.Slice.sliceApplied (.ref sl) (pure (n : Int))) Q E s := by
  obtain ⟨os, hos, hcs, hds⟩ := id hs
  unfold Builtin.Slice.sliceApplied Builtin.Slice.sliceFields
  refine wpAny_bind (wpAny_bind (wpAny_field hos hds (x := vl) rfl (wpAny_bind (wpAny_field hos hds (x := vu) rfl (wpAny_bind (wpAny_field hos hds (x := .none) rfl (wpAny_pure ?_)))))))
  refine wpAny_bind (slicePart_none ?_)
  show wpAny _ _ (if ((1 : Int) == 0) = true then _ else _) _ _ s
  rw [if_neg (by decide)]
  refine wpAny_bind (slicePart_ pl (wpAny_bind (slicePart_ pu (wpAny_bind (wpAny_pure ?_)))))
  show wpAny _ _ (match Builtin.Slice.sliceAdjust lo hi 1 (n : Int) with | (lo, hi) => pure (lo, (1 : Int), Builtin.Slice.slicePlaces lo hi 1)) _ _ s
  rw [adjust_gen lo hi n]
  show wpAny _ _ (pure (((sIx n 0 lo : Nat) : Int), (1 : Int), Builtin.Slice.slicePlaces ((sIx n 0 lo : Nat) : Int) ((sIx n n hi : Nat) : Int) 1)) _ _ s
  rw [places_gen]
  exact wpAny_pure h
theorem pick_gen (xs : Array Value) (i k : Nat) : ((List.range k).filterMap fun (m : Nat) => xs[((i : Int) + (m : Int) * 1).toNat]?).toArray = ((xs.toList.drop i).take k).toArray := by
  have e : (fun (m : Nat) => xs[((i : Int) + (m : Int) * 1).toNat]?) = fun m => xs[i + m]? := by
    funext m
    have : ((i : Int) + (m : Int) * 1).toNat = i + m := by omega
    rw [this]
  rw [e]
  have := pick_run xs i k
  rw [List.filterMap_map] at this
  have e2 : ((fun x => xs[x]?) ∘ fun x => i + x) = fun m => xs[i + m]? := rfl
  rw [e2] at this
  rw [this]
theorem getItem_tuple_cut {t sl : Addr} {items : Array Value} {vl vu : Value} {lo hi : Option Int} {Q : Value -> Shared -> Prop} (ht : IsTup s.heap t items) (hs : s.heap.IsSliceOf sl vl vu .none) (pl : IsPart vl lo) (pu : IsPart vu hi)
    (hw : ¬ (sIx items.size 0 lo = 0 /\ sIx items.size items.size hi = items.size))
    (h : Q (.ref s.heap.objs.size) { s with heap := s.heap.push { cls := .type "tuple", data := .seq ((items.toList.drop (sIx items.size 0 lo)).take (sIx items.size items.size hi - sIx items.size 0 lo)).toArray } })
    (hsz : items.size <= sizeLine) : wpAny (model prog w) A (getItem (.ref t) (.ref sl)) Q E s := by
  have htake : sizeOk (.seq ((items.toList.drop (sIx items.size 0 lo)).take (sIx items.size items.size hi - sIx items.size 0 lo)).toArray) := by
    show ((items.toList.drop (sIx items.size 0 lo)).take (sIx items.size items.size hi - sIx items.size 0 lo)).toArray.size <= sizeLine
    rw [List.size_toArray, List.length_take, List.length_drop, Array.length_toList]
    omega
  have hj : sIx items.size items.size hi <= items.size := sIx_le _ _ (Nat.le_refl _) hi
  obtain ⟨os, hos, hcs, hds⟩ := id hs
  have hTs : s.TypeIs (.ref sl) "slice" := ⟨os, hos, hcs⟩
  unfold getItem
  try with_reducible refine wpAny_holding ?_
  first | refine wpAny_bind (wpAny_pure ?_) | skip
  refine wpAny_bind (wpAny_sequenceKey ht.typeIs (by decide) ?_)
  refine wpAny_bind (wpAny_callSpecial?_slot (name := Str.ofString "__getitem__") ht.typeIs PyProof.Rows.slot_tuple_getitem
    (wpAny_call_entry PyProof.Rows.slot_tuple_getitem ht.typeIs entry_tuple_getitem ?_ (args_tuple_getitem _ _)))
  show wpAny _ _ (Builtin.Tuple.tupleItemsOf (.ref t) >>= _) _ _ s
  refine wpAny_bind (tupleItemsOf_ ht ?_)
  refine wpAny_bind (wpAny_typeOf hTs ?_)
  rw [if_pos (by decide)]
  refine wpAny_bind (sliceApplied_gen hs pl pu ?_)
  have hno : ¬ ((((sIx items.size 0 lo : Nat) : Int) == 0 && (1 : Int) == 1 && (sIx items.size items.size hi - sIx items.size 0 lo) == items.size) = true) := by
    intro q
    rw [Bool.and_eq_true, Bool.and_eq_true] at q
    have q1 : ((sIx items.size 0 lo : Nat) : Int) = 0 := eq_of_beq q.1.1
    have q2 : sIx items.size items.size hi - sIx items.size 0 lo = items.size := eq_of_beq q.2
    exact hw ⟨by omega, by omega⟩
  show wpAny _ _ (if (((sIx items.size 0 lo : Nat) : Int) == 0 && (1 : Int) == 1 && (sIx items.size items.size hi - sIx items.size 0 lo) == items.size) = true then _ else _) _ _ s
  rw [if_neg hno, pick_gen]
  first
    | exact wpAny_bind (m := Builtin.Tuple.tupleExact _) (wpAny_newObj_type (wpAny_pure ⟨_, rfl, wpAny_pure h⟩) htake)
    | exact wpAny_bind (m := Builtin.Tuple.tupleExact _) (wpAny_newObj_type (wpAny_bind (wpAny_pure (wpAny_pure ⟨_, rfl, wpAny_pure h⟩))) htake)
    | exact wpAny_bind (wpAny_bind (m := Builtin.Tuple.tupleExact _) (wpAny_newObj_type (wpAny_pure (wpAny_pure ⟨_, rfl, wpAny_pure h⟩)) htake))
    | exact wpAny_bind (wpAny_bind (m := Builtin.Tuple.tupleExact _) (wpAny_newObj_type (wpAny_pure ⟨_, rfl, wpAny_pure h⟩) htake))
end
end HT
namespace L2
open PySem PySem.Spec PyProof.Rows
noncomputable abbrev TO := St -> Hp -> (Option Int -> Hp -> Prop) -> Prop
noncomputable def PO (X : Cx) (e : Option Expr) (t : TO) : Prop :=
  ∀ (pins : List (Addr × Obj)) (s : Shared) (σ : St) (H : Hp) (Q : Option Int -> Hp -> Prop), Inv X pins σ H s -> t σ H Q ->
    wpAny (model X.prog X.w) X.A (evalPart e X.env) (fun u s' => ∃ o H', Inv X pins σ H' s' /\ IsPart u o /\ Q o H') X.xe s
noncomputable def tNoPart : TO := fun _ H Q => Q none H
noncomputable def tPart (t : TE) : TO := fun σ H Q => t σ H fun x H1 => ∃ i, x = .int i /\ Q (some i) H1
section
variable {X : Cx} {e : Expr} {te : TE} {lo hi : Option Expr} {tl th : TO} {pos p2 : Pos}
theorem po_none : PO X none tNoPart := by
  intro pins s σ H Q I h
  rw [evalPart_none]
  exact wpAny_pure ⟨none, H, I, .none, h⟩
theorem po_some (h : PE X e te) : PO X (some e) (tPart te) := by
  intro pins s σ H Q I hw
  rw [evalPart_some]
  refine thn (h pins s σ H _ I hw) fun u s1 ⟨x, H1, I1, r1, q1⟩ => ?_
  obtain ⟨i, rfl, q⟩ := q1
  obtain ⟨t, rfl⟩ := r1
  exact ⟨some i, H1, I1, .int i t, q⟩
noncomputable def SlR (X : Cx) (r : V -> Option Int -> Option Int -> Hp -> VK -> Prop) : Prop :=
  ∀ (pins : List (Addr × Obj)) (s : Shared) (σ : St) (H : Hp) (x : V) (v vl vu : Value) (lo hi : Option Int) (sl : Addr) (Q : VK), Inv X pins σ H s -> RelV x v -> s.heap.IsSliceOf sl vl vu .none -> IsPart vl lo -> IsPart vu hi -> r x lo hi H Q ->
    ∃ T id, typeLookup (.type T) "__getitem__" = pure (some (.builtin id)) /\ s.TypeIs v T /\ wpAny (model X.prog X.w) X.A (getItem v (.ref sl)) (EP X pins σ Q) X.xe s
noncomputable def tSl (r : V -> Option Int -> Option Int -> Hp -> VK -> Prop) (te : TE) (tl th : TO) : TE := fun σ H Q => te σ H fun x H1 => tl σ H1 fun l H2 => th σ H2 fun u H3 => r x l u H3 Q
theorem pe_slice {r : V -> Option Int -> Option Int -> Hp -> VK -> Prop} (hr : SlR X r) (he : PE X e te) (hl : PO X lo tl) (hu : PO X hi th) : PE X (.Subscript e (.Slice lo hi none p2) pos) (tSl r te tl th) := by
  intro pins s σ H Q I h
  refine Subscript_ (thn (he pins s σ H _ I h) fun v s1 ⟨x, H1, I1, r1, q1⟩ => ?_)
  refine wpAny_Slice (thn (hl pins s1 σ H1 _ I1 q1) fun vl s2 ⟨l, H2, I2, pl, q2⟩ => thn (hu pins s2 σ H2 _ I2 q2) fun vu s3 ⟨u, H3, I3, pu, q3⟩ => ?_)
  rw [evalPart_none]
  refine wpAny_pure ?_
  have I4 : Inv X pins σ H3 { s3 with heap := s3.heap.push { cls := .type "slice", data := .fields #[vl, vu, .none] } } := I3.kept (t' := s3.toks) fun b ob q => Heap.get?_push_of_some _ q
  obtain ⟨T, id, hT, ht, hg⟩ := hr pins { s3 with heap := s3.heap.push { cls := .type "slice", data := .fields #[vl, vu, .none] } } σ H3 x v vl vu l u s3.heap.objs.size Q I4 r1 (Heap.IsSliceOf.new ..) pl pu q3
  show wpAny (model X.prog X.w) X.A (subscriptTail e (.Slice lo hi none p2) v (.ref s3.heap.objs.size)) (EP X pins σ Q) X.xe { s3 with heap := s3.heap.push { cls := .type "slice", data := .fields #[vl, vu, .none] } }
  exact tail_any (ops := [.ref s3.heap.objs.size, v]) ht hT hg (by with_unfolding_all rfl)
noncomputable def cutV (xs : List V) (lo hi : Option Int) : List V := (xs.drop (HT.sIx xs.length 0 lo)).take (HT.sIx xs.length xs.length hi - HT.sIx xs.length 0 lo)
theorem cutV_length (xs : List V) (lo hi : Option Int) : (cutV xs lo hi).length <= xs.length := by
  unfold cutV
  rw [List.length_take, List.length_drop]
  omega
noncomputable def rSlT (K : PySem.W.Frag) : V -> Option Int -> Option Int -> Hp -> VK -> Prop := fun x lo hi H Q => ∃ a xs, x = .ref a /\ SqT K H a xs /\
  ¬ (HT.sIx xs.length 0 lo = 0 /\ HT.sIx xs.length xs.length hi = xs.length) /\ ∀ p, H p = none -> Q (.ref p) (upd H p (.tup (cutV xs lo hi)))
theorem sl_tup : SlR X (rSlT X.K) := by
  intro pins s σ H x v vl vu lo hi sl Q I rx hs pl pu h
  obtain ⟨a, xs, rfl, hx, hw, q⟩ := h
  cases rx
  obtain ⟨its, r, ht, hz⟩ := I.tuple hx
  have hlen : its.toArray.size = xs.length := by rw [List.size_toArray]; exact r.length.symm
  refine ⟨"tuple", _, PyProof.Rows.slot_tuple_getitem.lookup, ht.typeIs, ?_⟩
  refine HT.getItem_tuple_cut ht hs pl pu (by rw [hlen]; exact hw) ?_ (by rw [hlen]; exact hz)
  rw [hlen]
  refine ⟨.ref s.heap.objs.size, _, I.laid (t' := s.toks) (o := .tup (cutV xs lo hi)) (fun b ob q => Heap.get?_push_of_some _ q) (Nat.le_refl _) ?_, rfl, q _ (I.hok.fresh (Nat.le_refl _))⟩
  exact ⟨Nat.le_trans (cutV_length xs lo hi) hz, _, (r.drop (HT.sIx xs.length 0 lo)).take (HT.sIx xs.length xs.length hi - HT.sIx xs.length 0 lo), IsTupD.new _ _⟩
noncomputable def rCatT (K : PySem.W.Frag) : R2 := fun x y H Q => ∃ a b xs ys, x = .ref a /\ y = .ref b /\ SqT K H a xs /\ SqT K H b ys /\ xs ≠ [] /\ xs.length + ys.length <= sizeLine /\
  (ys = [] -> Q (.ref a) H) /\ (ys ≠ [] -> ∀ p, H p = none -> Q (.ref p) (upd H p (.tup (xs ++ ys))))
theorem Vals.nil_iff {xs : List V} {us : List Value} (r : Vals xs us) : us = [] ↔ xs = [] := by
  cases r with
  | nil => simp
  | cons _ _ => simp
theorem op_catT : OpR X (binaryOp .Add) (rCatT X.K) := by
  intro pins s σ H x y v u Q I rx ry h
  obtain ⟨a, b, xs, ys, rfl, rfl, ha, hb, hx, hz, q1, q2⟩ := h
  cases rx
  cases ry
  obtain ⟨its, r1, p1, _⟩ := I.tuple ha
  obtain ⟨its2, r2, p2, _⟩ := I.tuple hb
  refine HT.cat_tup p1 p2 (fun z => hx (r1.nil_iff.mp z)) (fun z => ⟨.ref a, H, I, rfl, q1 (r2.nil_iff.mp z)⟩) (fun z => ?_) (by rw [<- r1.length, <- r2.length]; exact hz)
  refine ⟨.ref s.heap.objs.size, _, I.laid (t' := s.toks) (o := .tup (xs ++ ys)) (fun b ob q => Heap.get?_push_of_some _ q) (Nat.le_refl _) ?_, rfl, q2 (fun w => z (r2.nil_iff.mpr w)) _ (I.hok.fresh (Nat.le_refl _))⟩
  exact ⟨by rw [List.length_append]; exact hz, _, r1.append r2, IsTupD.new _ _⟩
end
end L2
namespace L2
open PySem PySem.Spec PyProof.Rows
noncomputable def ixN (n : Nat) (i : Int) : Option Nat := if 0 <= i then (if i < n then some i.toNat else none) else if -(n : Int) <= i then some (i + n).toNat else none
noncomputable def atI {α : Type} (xs : List α) (i : Int) : Option α := (ixN xs.length i).bind fun j => xs[j]?
theorem ixN_seq {n : Nat} {i : Int} {j : Nat} (h : ixN n i = some j) : seqIndex? i n = some j /\ j < n /\ -(n : Int) <= i /\ i < n := by
  unfold ixN at h
  by_cases h0 : 0 <= i
  · rw [if_pos h0] at h
    by_cases h1 : i < n
    · rw [if_pos h1] at h
      have e : i.toNat = j := Option.some.inj h
      exact ⟨by rw [seqIndex_of h0 h1, e], by omega, by omega, h1⟩
    · rw [if_neg h1] at h; cases h
  · rw [if_neg h0] at h
    by_cases h1 : -(n : Int) <= i
    · rw [if_pos h1] at h
      have e : (i + n).toNat = j := Option.some.inj h
      exact ⟨by rw [seqIndex_neg (by omega) h1, e], by omega, h1, by omega⟩
    · rw [if_neg h1] at h; cases h
theorem atI_get {α : Type} {xs : List α} {i : Int} {v : α} (h : atI xs i = some v) : ∃ j, seqIndex? i xs.length = some j /\ xs[j]? = some v /\ j < xs.length /\ -(xs.length : Int) <= i /\ i < xs.length := by
  unfold atI at h
  cases e : ixN xs.length i with
  | none => rw [e] at h; cases h
  | some j =>
    rw [e] at h
    obtain ⟨h1, h2, h3, h4⟩ := ixN_seq e
    exact ⟨j, h1, h, h2, h3, h4⟩
theorem atI_nat {α : Type} {xs : List α} {j : Nat} {v : α} (h : xs[j]? = some v) : atI xs (j : Int) = some v := by
  have hj : j < xs.length := (List.getElem?_eq_some_iff.mp h).1
  have e : ixN xs.length (j : Int) = some j := by
    unfold ixN
    rw [if_pos (by omega), if_pos (by omega)]; simp
  unfold atI; rw [e]; exact h
noncomputable def PlainIx (b : Expr) : Prop := ∀ o i, subscripted b false o i = operate [o, i] (getItem o i)
noncomputable def IxR (X : Cx) (r : R2) : Prop :=
  ∀ (value slice : Expr) (pins : List (Addr × Obj)) (s : Shared) (σ : St) (H : Hp) (x y : V) (v u : Value) (Q : VK), Inv X pins σ H s -> RelV x v -> RelV y u -> r x y H Q ->
    subscripted slice false v u = operate [v, u] (getItem v u) -> wpAny (model X.prog X.w) X.A (subscriptTail value slice v u) (EP X pins σ Q) X.xe s
noncomputable def MtR (X : Cx) (id : String) (r : V -> List V -> Hp -> VK -> Prop) : Prop :=
  ∀ (pins : List (Addr × Obj)) (s : Shared) (σ : St) (H : Hp) (x : V) (xs : List V) (v : Value) (us : List Value) (Q : VK), Inv X pins σ H s -> RelV x v -> Vals xs us -> r x xs H Q ->
    wpAny (model X.prog X.w) X.A (call (.builtin id) (v :: us)) (EP X pins σ Q) X.xe s
section
variable {X : Cx} {a b : Expr} {ta tb : TE} {pos : Pos}
theorem pe_ix {r : R2} (hr : IxR X r) (ha : PE X a ta) (hb : PE X b tb) (hs : PlainIx b) : PE X (.Subscript a b pos) (tOp r ta tb) := by
  intro pins s σ H Q I h
  exact Subscript_ (binT ha hb I h fun v u s2 x y H2 I2 rx ry q => hr a b pins s2 σ H2 x y v u Q I2 rx ry q (hs _ _))
noncomputable def rIxL (K : PySem.W.Frag) : R2 := fun x y H Q => ∃ p xs i v, x = .ref p /\ y = .int i /\ SqL K H p xs /\ atI xs i = some v /\ Q v H
noncomputable def rIxT (K : PySem.W.Frag) : R2 := fun x y H Q => ∃ p xs i v, x = .ref p /\ y = .int i /\ SqT K H p xs /\ atI xs i = some v /\ Q v H
noncomputable def rIxS : R2 := fun x y H Q => ∃ z i c, x = .str z /\ y = .int i /\ z.length <= sizeLine /\ atI z.cps.toList i = some c /\ Q (.str ⟨#[c]⟩) H
theorem ix_list : IxR X (rIxL X.K) := by
  intro value slice pins s σ H x y v u Q I rx ry h hs
  obtain ⟨p, xs, i, z, rfl, rfl, hq, he, q⟩ := h
  cases rx
  obtain ⟨t, rfl⟩ := ry
  obtain ⟨its, r, pl, hz⟩ := I.list hq
  obtain ⟨j, h1, h2, h3, h4, h5⟩ := atI_get he
  obtain ⟨w, ew, rw'⟩ := r.get h2
  have hl := r.length
  have hn := line63
  have fin : EP X pins σ Q w s := ⟨z, H, I, rw', q⟩
  by_cases h0 : 0 <= i
  · have hj : i.toNat = j := by
      rw [seqIndex_of h0 h5] at h1
      exact Option.some.inj h1
    exact item_listR pl.isList h0 (by omega) (by rw [hj]; simpa using ew) fin hs
  · have hj : (i + (its.toArray.size : Int)).toNat = j := by
      rw [seqIndex_neg (by omega) h4] at h1
      rw [List.size_toArray, <- hl]
      exact Option.some.inj h1
    exact subscriptTail_builtinR (x := w) pl.isList.typeIs slot_list_getitem.lookup
      (wpAny_getItem_list_neg (Q := fun r s' => r = w /\ EP X pins σ Q r s') pl.isList (by omega) (by rw [List.size_toArray] <;> omega) (by omega) (by rw [hj]; simpa using ew) ⟨rfl, fin⟩) hs
theorem ix_tup : IxR X (rIxT X.K) := by
  intro value slice pins s σ H x y v u Q I rx ry h hs
  obtain ⟨p, xs, i, z, rfl, rfl, hq, he, q⟩ := h
  cases rx
  obtain ⟨t, rfl⟩ := ry
  obtain ⟨its, r, pl, hz⟩ := I.tuple hq
  obtain ⟨j, h1, h2, h3, h4, h5⟩ := atI_get he
  obtain ⟨w, ew, rw'⟩ := r.get h2
  have hl := r.length
  have hn := line63
  have fin : EP X pins σ Q w s := ⟨z, H, I, rw', q⟩
  exact subscriptTail_builtinR (x := w) pl.typeIs slot_tuple_getitem.lookup
    (getItem_tuple (j := j) (Q := fun r s' => r = w /\ EP X pins σ Q r s') pl (by omega) (by omega) (by rw [List.size_toArray, <- hl]; exact h1) (by simpa using ew) ⟨rfl, fin⟩) hs
theorem ix_str : IxR X rIxS := by
  intro value slice pins s σ H x y v u Q I rx ry h hs
  obtain ⟨z, i, c, rfl, rfl, hz, he, q⟩ := h
  obtain ⟨t, rfl⟩ := rx
  obtain ⟨t', rfl⟩ := ry
  obtain ⟨j, h1, h2, h3, h4, h5⟩ := atI_get he
  have hl : z.cps.toList.length = z.length := by simp [Str.length]
  rw [hl] at h1 h4 h5
  have hn := line63
  exact tail_any (typeIs_str s z t) slot_str_getitem.lookup (getItem_str (c := c) (by
    have e1 : decide (i < -(2 ^ 63 : Int)) = false := decide_eq_false (by omega)
    have e2 : decide (i >= 2 ^ 63) = false := decide_eq_false (by omega)
    rw [e1, e2, Bool.or_false]) (by rw [h1]; simpa using h2) ⟨.str ⟨#[c]⟩, H, I.tok _, ⟨_, rfl⟩, q⟩) hs
theorem mapSeq_set (its : List Value) (n j : Nat) (u : Value) : Obj.mapSeq (·.setIfInBounds j u) { cls := .type "list", data := .seq its.toArray n } = { cls := .type "list", data := .seq (its.set j u).toArray n } := by
  simp [Obj.mapSeq]
theorem Inv.lst {pins : List (Addr × Obj)} {σ : St} {H : Hp} {s : Shared} {p : Addr} {xs : List V} (I : Inv X pins σ H s) (h : H p = some (.lst xs)) :
    ∃ (its : List Value) (n : Nat), Vals xs its /\ s.heap.get? p = some { cls := .type "list", data := .seq its.toArray n } /\ xs.length <= sizeLine := by
  obtain ⟨z, its, n, r, e⟩ := I.hok p _ h
  exact ⟨its, n, r, e, z⟩
theorem Inv.lstUpd {pins : List (Addr × Obj)} {σ : St} {H : Hp} {s : Shared} {p : Addr} {xs ys : List V} {its its' : List Value} {n n' : Nat} {f : Obj -> Obj} (I : Inv X pins σ H s) (h : H p = some (.lst xs))
    (ho : s.heap.get? p = some { cls := .type "list", data := .seq its.toArray n }) (hf : f { cls := .type "list", data := .seq its.toArray n } = { cls := .type "list", data := .seq its'.toArray n' }) (r : Vals ys its') (hz : ys.length <= sizeLine) (t : Nat) :
    Inv X pins σ (upd H p (.lst ys)) { s with heap := s.heap.update p f, toks := t } := by
  have e : (s.heap.update p f).get? p = some { cls := .type "list", data := .seq its'.toArray n' } := by
    rw [Heap.get?_update_self f ho (by rw [hf] <;> rfl), hf]
  refine I.write (x := p) (e := p) (by rw [h]; trivial) (.inl rfl) (fun b u hb q => (Heap.get?_update_other _ _ (Ne.symm hb)).trans q) ⟨_, e⟩ ?_
  exact ⟨hz, its', n', r, e⟩
noncomputable def rSetL : V -> V -> V -> Hp -> (Hp -> Prop) -> Prop := fun o i v H Q => ∃ p xs k j, o = .ref p /\ i = .int k /\ H p = some (.lst xs) /\ ixN xs.length k = some j /\ Q (upd H p (.lst (xs.set j v)))
theorem set_list : PSet X rSetL := by
  intro pins s σ H o i v ov iv u Q I ro ri rv h
  obtain ⟨p, xs, k, j, rfl, rfl, hp, hj, q⟩ := h
  cases ro
  obtain ⟨t, rfl⟩ := ri
  obtain ⟨its, n, r, ho, hz⟩ := I.lst hp
  obtain ⟨h1, h2, h3, h4⟩ := ixN_seq hj
  have hl := r.length
  have hn := line63
  have I' : Inv X pins σ (upd H p (.lst (xs.set j v))) { s with heap := s.heap.update p (Obj.mapSeq (·.setIfInBounds j u)) } :=
    I.lstUpd hp ho (mapSeq_set its n j u) (r.set rv j) (by rw [List.length_set]; exact hz) s.toks
  by_cases h0 : 0 <= k
  · have hk : k.toNat = j := by
      rw [seqIndex_of h0 h4] at h1
      exact Option.some.inj h1
    exact PySem.W.ki_setAt ho h0 (by omega) (by rw [List.size_toArray, <- hl]; exact h4) (by rw [hk]; exact ⟨_, I', q⟩)
  · have hk : (k + (its.toArray.size : Int)).toNat = j := by
      rw [seqIndex_neg (by omega) h3] at h1
      rw [List.size_toArray, <- hl]
      exact Option.some.inj h1
    exact PySem.W.ki_setBack ho (by omega) (by rw [List.size_toArray, <- hl]; exact h3) (by omega) (by rw [hk]; exact ⟨_, I', q⟩)
theorem slice_bounds (lo hi : Option Int) (n : Nat) : (sliceBounds lo hi none n).1 = ((HT.sIx n 0 lo : Nat) : Int) /\ (sliceBounds lo hi none n).2.1 = ((HT.sIx n n hi : Nat) : Int) /\ (sliceBounds lo hi none n).2.2 = 1 := by
  refine ⟨?_, ?_, rfl⟩
  · cases lo with
    | none => simp [sliceBounds, HT.sIx]
    | some i =>
      simp only [sliceBounds, HT.sIx, Option.getD_none, show (1 : Int) > 0 by decide, if_true]
      by_cases h : i < 0
      · simp only [h, if_true] <;> omega
      · simp only [h, if_false] <;> omega
  · cases hi with
    | none => simp [sliceBounds, HT.sIx]
    | some i =>
      simp only [sliceBounds, HT.sIx, Option.getD_none, show (1 : Int) > 0 by decide, if_true]
      by_cases h : i < 0
      · simp only [h, if_true] <;> omega
      · simp only [h, if_false] <;> omega
theorem slicePick_cut (its : List Value) (lo hi : Option Int) : slicePick its.toArray lo hi none = ((its.drop (HT.sIx its.length 0 lo)).take (HT.sIx its.length its.length hi - HT.sIx its.length 0 lo)).toArray := by
  obtain ⟨h1, h2, h3⟩ := slice_bounds lo hi its.toArray.size
  unfold slicePick
  rw [h1, h2, h3]
  simp only [sliceRange_one, pick_run, List.size_toArray] <;> rfl
noncomputable def rSlL (K : PySem.W.Frag) : V -> Option Int -> Option Int -> Hp -> VK -> Prop := fun x lo hi H Q => ∃ a xs, x = .ref a /\ SqL K H a xs /\ ∀ p, H p = none -> Q (.ref p) (upd H p (.lst (cutV xs lo hi)))
theorem sl_list : SlR X (rSlL X.K) := by
  intro pins s σ H x v vl vu lo hi sl Q I rx hs pl pu h
  obtain ⟨a, xs, rfl, hx, q⟩ := h
  cases rx
  obtain ⟨its, r, ht, hz⟩ := I.list hx
  have hlen := r.length
  refine ⟨"list", _, slot_list_getitem.lookup, ht.isList.typeIs, ?_⟩
  refine wpAny_getItem_list_slice ht.isList hs pl pu .none (by simp) ?_ (by rw [List.size_toArray] <;> omega)
  rw [slicePick_cut, <- hlen]
  refine ⟨.ref s.heap.objs.size, _, I.laid (t' := s.toks) (o := .lst (cutV xs lo hi)) (fun b ob q => Heap.get?_push_of_some _ q) (Nat.le_refl _) ?_, rfl, q _ (I.hok.fresh (Nat.le_refl _))⟩
  exact ⟨Nat.le_trans (cutV_length xs lo hi) hz, _, 0, (r.drop (HT.sIx xs.length 0 lo)).take (HT.sIx xs.length xs.length hi - HT.sIx xs.length 0 lo), Heap.get?_push_size _ rfl⟩
noncomputable def eqV : V -> V -> Bool
  | .non, .non => true
  | .bl a, .bl b => a == b
  | .bl a, .int b => (if a then 1 else 0) == b
  | .int a, .bl b => a == (if b then 1 else 0)
  | .int a, .int b => a == b
  | .str a, .str b => a == b
  | _, _ => false
theorem call_list_of : CallR X (.type "list") (fun xs H Q => ∃ p ys, xs = [.ref p] /\ (SqL X.K H p ys \/ SqT X.K H p ys) /\ ∀ l, H l = none -> Q (.ref l) (upd H l (.lst ys))) := by
  intro pins s σ H xs us Q I r h
  obtain ⟨p, ys, rfl, hq, q⟩ := h
  obtain ⟨u, rfl, rx⟩ := vals1 r
  cases rx
  have fin : ∀ (its : List Value), Vals ys its -> ys.length <= sizeLine -> ∀ (h' : Heap) (c' : Nat), (∀ b o', s.heap.get? b = some o' -> h'.get? b = some o') ->
      h'.get? s.heap.objs.size = some { cls := .type "list", dict := none, data := .seq its.toArray c', slots := #[] } -> EP X pins σ Q (.ref s.heap.objs.size) { s with heap := h' } := fun its r' hz h' c' kp e =>
    ⟨.ref s.heap.objs.size, _, I.laid (t' := s.toks) kp (Nat.le_refl _) (show ObjOk X.prog X.w _ h' _ (.lst ys) from ⟨hz, its, c', r', e⟩), rfl, q _ (I.hok.fresh (Nat.le_refl _))⟩
  rcases hq with hq | hq
  · obtain ⟨its, r', pl, hz⟩ := I.list hq
    have hlen := r'.length
    obtain ⟨o, ho, hc, n, hd⟩ := pl.isList
    exact call_list_seq p (.inl rfl) ho hc hd (fun h' c' kp e => fin its r' hz h' c' kp e) (by simp only [List.size_toArray] <;> omega)
  · obtain ⟨its, r', pl, hz⟩ := I.tuple hq
    have hlen := r'.length
    obtain ⟨o, ho, hc, n, hd⟩ := pl
    exact call_list_seq p (.inr rfl) ho hc hd (fun h' c' kp e => fin its r' hz h' c' kp e) (by simp only [List.size_toArray] <;> omega)
noncomputable def tyV (K : PySem.W.Frag) (T : String) (x : V) (H : Hp) : Prop := match x with
  | .str _ => T = "str"
  | .int _ => T = "int"
  | .ref p => (T = "list" /\ ∃ xs, SqL K H p xs) \/ (T = "tuple" /\ ∃ o, K.lookup p = some o /\ o.cls = .type "tuple" /\ o.dict = none) \/
      (T = "dict" /\ ((∃ kvs, H p = some (.dK kvs)) \/ ∃ kvs, H p = some (.dT kvs))) \/ (T = "set" /\ ∃ S n, H p = some (.set S n))
  | _ => False
theorem tyV_is {pins : List (Addr × Obj)} {σ : St} {H : Hp} {s : Shared} {T : String} {x : V} {v : Value} (I : Inv X pins σ H s) (r : RelV x v) (ty : tyV X.K T x H) :
    s.TypeIs v T /\ ∀ a, v = .ref a -> ∃ ob, s.heap.get? a = some ob /\ ob.dict = none := by
  cases x with
  | str z =>
    obtain ⟨t, rfl⟩ := r
    cases (show T = "str" from ty)
    exact ⟨typeIs_str s z t, fun _ e => nomatch e⟩
  | int i =>
    obtain ⟨t, rfl⟩ := r
    cases (show T = "int" from ty)
    exact ⟨typeIs_int s i t, fun _ e => nomatch e⟩
  | ref p =>
    cases r
    rcases ty with ⟨rfl, xs, hq⟩ | ⟨rfl, o, hk, hc, hd⟩ | ⟨rfl, hk⟩ | ⟨rfl, S, n, hk⟩
    · obtain ⟨its, _, pl, _⟩ := I.list hq
      refine ⟨pl.isList.typeIs, fun a e => ?_⟩
      cases e
      obtain ⟨o, n, e, c, hd, _⟩ := pl
      exact ⟨o, e, hd⟩
    · refine ⟨⟨o, I.kIn p o hk, hc⟩, fun a e => ?_⟩
      cases e
      exact ⟨o, I.kIn _ o hk, hd⟩
    · have z : ∃ o, s.heap.get? p = some o /\ o.ExactDict := by
        rcases hk with ⟨kvs, hk⟩ | ⟨kvs, hk⟩
        · obtain ⟨_, _, _, _, o, _, _, e, ex, _⟩ := I.hok p _ hk
          exact ⟨o, e, ex⟩
        · obtain ⟨_, _, _, _, o, _, _, e, ex, _⟩ := I.hok p _ hk
          exact ⟨o, e, ex⟩
      obtain ⟨o, e, ex⟩ := z
      refine ⟨⟨o, e, ex.1⟩, fun a e2 => ?_⟩
      cases e2
      exact ⟨o, e, ex.2.1⟩
    · obtain ⟨o, _, _, _, e, ex, _⟩ := I.hok p _ hk
      refine ⟨⟨o, e, ex.1⟩, fun a e2 => ?_⟩
      cases e2
      exact ⟨o, e, ex.2.1⟩
  | _ => exact False.elim ty
noncomputable def tBM (K : PySem.W.Frag) (T : String) (r : V -> List V -> Hp -> VK -> Prop) (to : TE) (t : TA) : TE := fun σ H Q => to σ H fun x H1 => tyV K T x H1 /\ t σ H1 fun xs H2 => r x xs H2 Q
variable {o e : Expr} {es : List Expr} {to : TE} {t : TA} {name : Str} {apos cpos : Pos} {T id : String} {r : V -> List V -> Hp -> VK -> Prop}
theorem pe_bm (pa : PlainAttrs T) (slot : Slot T name id) (hty : typeOf (.builtin id) = pure (.type "method_descriptor")) (hm : MtR X id r) (ho : PE X o to) (ha : PA X (e :: es) t)
    (hbase : attributeBase o name X.env (eval o X.env) = eval o X.env := by rfl)
    (hfew : ((backTo cpos (starEach (e :: es) X.env)).all (fun x => !x.1) && (backToKw cpos (keywordEach [] X.env)).all (fun x => x.1.isSome)
      && decide ((e :: es).length + ([] : List Keyword).length + (if ([] : List Keyword).isEmpty then 0 else 1) < 30)) = true := by rfl)
    (hline : (apos.endLine == cpos.line) = true := by rfl) (hs : starEach (e :: es) X.env = (false, eval e X.env) :: starEach es X.env := by rfl) (hplain : (backTo cpos (starEach es X.env)).any (·.1) = false := by rfl) :
    PE X (.Call (.Attribute o name apos) (e :: es) [] cpos) (tBM X.K T r to t) := by
  intro pins s σ H Q I h
  refine wpAny_Call_method_late hbase hfew hline rfl (thn (ho pins s σ H _ I h) fun v s1 ⟨x, H1, I1, r1, ty, q1⟩ => ?_)
  obtain ⟨h1, h2⟩ := tyV_is I1 r1 ty
  refine ⟨T, id, pa, slot, hty, h1, h2, ?_⟩
  have hA := ha cpos pins s1 σ H1 _ I1 q1
  rw [hs] at hA ⊢
  refine Calls.callWith_builtin (by show (false || (backTo cpos (starEach es X.env)).any (·.1)) = false; rw [hplain] <;> rfl) (Calls.evalArgs_plain ?_)
  exact thn hA fun us s2 ⟨vs, H2, I2, r2, q2⟩ => hm pins s2 σ H2 x vs v us Q I2 r1 r2 q2
end
end L2
namespace L2
open PySem PySem.Spec PyProof.Rows
noncomputable def MtM (X : Cx) (id : String) (r : V -> List V -> Hp -> VK -> Prop) : Prop :=
  ∀ (pins : List (Addr × Obj)) (s : Shared) (σ : St) (H : Hp) (x : V) (xs : List V) (v : Value) (us : List Value) (Q : VK), Inv X pins σ H s -> RelV x v -> Vals xs us -> r x xs H Q ->
    wpAny (model X.prog X.w) X.A (call (.builtin id) (v :: us)) (EP X pins σ Q) X.xe s
theorem Vals.one : ∀ {x : V} {us : List Value}, Vals [x] us -> ∃ u, us = [u] /\ RelV x u
  | _, _, .cons r .nil => ⟨_, rfl, r⟩
theorem Vals.rep {xs : List V} {us : List Value} (h : Vals xs us) : ∀ k : Nat, Vals (List.replicate k xs).flatten (List.replicate k us).flatten
  | 0 => .nil
  | k + 1 => by
    rw [List.replicate_succ, List.replicate_succ, List.flatten_cons, List.flatten_cons]
    exact Vals.append h (Vals.rep h k)
theorem foldl_rep (its : List Value) : ∀ (k : Nat) (acc : List Value),
    List.foldl (fun x1 x2 => x1 ++ x2) acc.toArray (List.replicate k its.toArray) = (acc ++ (List.replicate k its).flatten).toArray
  | 0, acc => by simp
  | k + 1, acc => by
    have e : acc.toArray ++ its.toArray = (acc ++ its).toArray := by simp
    have e2 : (acc ++ its) ++ (List.replicate k its).flatten = acc ++ (List.replicate (k + 1) its).flatten := by
      rw [List.replicate_succ, List.flatten_cons, List.append_assoc]
    rw [<- e2, <- foldl_rep its k (acc ++ its), <- e, List.replicate_succ, List.foldl_cons]
section
variable {X : Cx} {pins : List (Addr × Obj)} {σ : St} {H : Hp} {s : Shared} {l b : Addr} {xs ys zs : List V}
theorem Inv.lset {its its' : List Value} {n : Nat} {f : Array Value -> Array Value} {t' : Nat} (I : Inv X pins σ H s) (hH : H l = some (.lst xs))
    (e : s.heap.get? l = some { cls := .type "list", data := .seq its.toArray n }) (hf : f its.toArray = its'.toArray) (hv : Vals ys its') (hz : ys.length <= sizeLine) :
    Inv X pins σ (upd H l (.lst ys)) { s with heap := s.heap.update l (Obj.mapSeq f), toks := t' } := by
  have q := PySem.IsL.update e f
  rw [hf] at q
  refine I.write (x := l) (e := l) (by rw [hH]; exact trivial) (.inl rfl) (fun b' u hb hu => (Heap.get?_update_other s.heap (Obj.mapSeq f) (Ne.symm hb)).trans hu) ⟨_, q⟩ ?_
  exact ⟨hz, its', _, hv, q⟩
theorem Inv.lnew {its : List Value} {t' : Nat} (I : Inv X pins σ H s) (hv : Vals ys its) (hz : ys.length <= sizeLine) :
    Inv X pins σ (upd H s.heap.objs.size (.lst ys)) { s with heap := s.heap.push { cls := .type "list", data := .seq its.toArray }, toks := t' } :=
  I.laid (fun _ _ q => Heap.get?_push_of_some _ q) (Nat.le_refl _) ⟨hz, its, 0, hv, Heap.get?_push_size _ rfl⟩
theorem Inv.fresh (I : Inv X pins σ H s) : H s.heap.objs.size = none := I.hok.fresh (Nat.le_refl _)
theorem Inv.lstM (I : Inv X pins σ H s) (hH : H l = some (.lst xs)) : xs.length <= sizeLine /\ ∃ (its : List Value) (n : Nat), Vals xs its /\ xs.length = its.length /\ s.heap.get? l = some { cls := .type "list", data := .seq its.toArray n } := by
  obtain ⟨z, its, n, r, e⟩ := I.hok l _ hH
  exact ⟨z, its, n, r, r.length, e⟩
theorem notLongL {n : Nat} (h : n <= sizeLine) : Builtin.List.listTooLong n = false := by
  unfold Builtin.List.listTooLong
  exact decide_eq_false (by omega)
end
section
variable {X : Cx}
noncomputable def rAppend : V -> List V -> Hp -> VK -> Prop := fun x vs H Q => ∃ l xs y, x = .ref l /\ vs = [y] /\ H l = some (.lst xs) /\ xs.length < sizeLine /\ Q .non (upd H l (.lst (xs ++ [y])))
theorem mt_append : MtM X "list.append" rAppend := by
  intro pins s σ H x vs v us Q I rx rv h
  obtain ⟨l, xs, y, rfl, rfl, hH, hz, q⟩ := h
  cases rx
  obtain ⟨u, rfl, ru⟩ := rv.one
  obtain ⟨z, its, n, r, hl, e⟩ := I.lstM hH
  refine call_meets F.slot_list_append ⟨_, e, rfl⟩ F.entry_list_append (F.args_list_append_2 _ _) (PySem.list_append l its.toArray n u (by rw [List.size_toArray]; omega)) ⟨e, ?_⟩
  refine ⟨.non, _, I.lset (its' := its ++ [u]) hH e (by simp) (r.append (.cons ru .nil)) ?_, rfl, q⟩
  rw [List.length_append, List.length_singleton]
  omega
noncomputable def rCat : R2 := fun x y H Q => ∃ l b xs zs, x = .ref l /\ y = .ref b /\ H l = some (.lst xs) /\ H b = some (.lst zs) /\ xs.length + zs.length <= sizeLine /\ ∀ p, H p = none -> Q (.ref p) (upd H p (.lst (xs ++ zs)))
theorem op_cat : OpR X (binaryOp .Add) rCat := by
  intro pins s σ H x y v u Q I rx ry h
  obtain ⟨l, b, xs, zs, rfl, rfl, hH, hB, hz, q⟩ := h
  cases rx
  cases ry
  obtain ⟨z, its, n, r, hl, e⟩ := I.lstM hH
  obtain ⟨z2, its2, n2, r2, hl2, e2⟩ := I.lstM hB
  refine PySem.P.add_list e e2 ?_ (by rw [List.size_toArray, List.size_toArray]; omega)
  have ea : its.toArray ++ its2.toArray = (its ++ its2).toArray := by simp
  rw [ea]
  exact ⟨.ref _, _, I.lnew (t' := s.toks) (r.append r2) (by rw [List.length_append]; omega), rfl, q _ I.fresh⟩
noncomputable def rRep : R2 := fun x y H Q => ∃ l k xs, x = .ref l /\ y = .int k /\ H l = some (.lst xs) /\ -(2 ^ 63) <= k /\ k < 2 ^ 63 /\ xs.length * k.toNat <= sizeLine /\
  ∀ p, H p = none -> Q (.ref p) (upd H p (.lst (List.replicate k.toNat xs).flatten))
theorem len_rep {α : Type} (xs : List α) (k : Nat) : (List.replicate k xs).flatten.length = k * xs.length := by
  induction k with
  | zero => simp
  | succ k ih => rw [List.replicate_succ, List.flatten_cons, List.length_append, ih, Nat.succ_mul, Nat.add_comm]
theorem op_rep : OpR X (binaryOp .Mult) rRep := by
  intro pins s σ H x y v u Q I rx ry h
  obtain ⟨l, k, xs, rfl, rfl, hH, h1, h2, hz, q⟩ := h
  cases rx
  obtain ⟨t, rfl⟩ := ry
  obtain ⟨z, its, n, r, hl, e⟩ := I.lstM hH
  have hlen : its.toArray.size * k.toNat <= sizeLine := by rw [List.size_toArray, <- hl]; exact hz
  have hcap : ¬ its.toArray.size * k.toNat > (2 ^ 63 - 1) / 8 := by
    have : (sizeLine : Nat) <= (2 ^ 63 - 1) / 8 := by decide
    omega
  have hfit : ¬ (!Builtin.List.listFitsIndex k) = true := by
    rw [fitsIndex_both h1 h2]
    exact Bool.false_ne_true
  have hlong : ¬ Builtin.List.listTooLong (its.toArray.size * k.toNat) = true := by
    rw [notLongL hlen]
    exact Bool.false_ne_true
  have hnew : List.foldl (fun x1 x2 => x1 ++ x2) #[] (List.replicate (if its.toArray.isEmpty = true then 0 else k.toNat) its.toArray) = (List.replicate k.toNat its).flatten.toArray := by
    have f0 : ∀ m : Nat, List.foldl (fun x1 x2 => x1 ++ x2) #[] (List.replicate m its.toArray) = (List.replicate m its).flatten.toArray := fun m => by
      have := foldl_rep its m []
      rw [List.nil_append] at this
      exact this
    rw [f0]
    cases its with
    | nil => simp
    | cons a r' => rw [if_neg (by simp)]
  refine wpAny_binaryOp_repeat_ref (T := "list") (U := "int") (by decide) ⟨_, e, rfl⟩ (fun s' => typeIs_int s' k t) noFill_list_mul F.fills_int_mul F.slot_int_rmul repeat_list F.slot_int_index.lookup
    (call_meets F.slot_int_rmul (typeIs_int s k t) F.entry_int_rmul (F.args_int_rmul_2 _ _) (int___rmul___int_list k t l its.toArray n)
      ⟨e, rfl, ⟨_, e, rfl⟩, call_meets F.slot_list_mul ⟨_, e, rfl⟩ F.entry_list_mul (F.args_list_mul_2 _ _) (AutoListH.list___mul___list_int_3 l its.toArray n k t hfit hcap hlong) ⟨e, ?_⟩⟩)
  rw [hnew]
  exact ⟨.ref _, _, I.lnew (t' := s.toks) (r.rep k.toNat) (by rw [len_rep, Nat.mul_comm]; exact hz), rfl, q _ I.fresh⟩
end
section
variable {prog : Program} {w : World} {A : Around} {E : Value -> Shared -> Prop} {s : Shared}
end
section
variable {X : Cx}
end
end L2
namespace Att
open PySem PySem.W PySem.Calls PyProof.Rows
theorem ints_of_wellAll {P : Params} {h : Heap} : ∀ (ns : List Int) (vs : List Value), WellAll P h vs (ns.map WData.int) -> IntsAre vs ns := by
  intro ns
  induction ns with
  | nil =>
    intro vs w
    rw [List.map_nil] at w
    cases w
    exact .nil
  | cons n ns ih =>
    intro vs w
    rw [List.map_cons] at w
    cases w with
    | cons a b =>
      cases a
      exact .cons _ _ (ih _ b)
theorem script_of {l : OpenLaw} {n : Nat} (hn : l.most = some n) {P : Params} {h : Heap} {args : List WData} {vals : List Value}
    (hpre : l.row.toRowW.claim.pre args = true) (hwl : WellAll P h vals args) :
    ∃ a vs ns, vals = [Value.ref a] /\ args = [WData.list (ns.map WData.int)] /\ h.get? a = some { cls := .type "list", data := .seq vs.toArray } /\ IntsAre vs ns /\ ns.length <= n := by
  have hsh : WShape.hasAll [] args [.list .int] = true := (pre_splitW hpre).1
  have hc : l.pre.holds [] { args := args } = true := (pre_splitW hpre).2
  obtain ⟨d, r, rfl, h1, h2⟩ := hasAllW_cons hsh
  obtain rfl := hasAllW_nil h2
  obtain ⟨xs, rfl, h3⟩ := hasW_list h1
  obtain ⟨ns, rfl⟩ := items_int h3
  have hlen : ns.length <= n := by
    unfold OpenLaw.pre at hc
    have h4 : (WTm.not (.lt (.lit (.int (n : Int))) (.len (.arg 0)))).holds [] { args := [.list (ns.map .int)] } = true := by
      have h4 := (holds_andW hc).1
      rw [hn] at h4
      exact h4
    have h5 := condW_of h4 (w_not (w_lt w_lit (w_len_list (w_arg rfl))))
    rw [List.length_map] at h5
    refine Nat.le_of_not_lt fun q => ?_
    have q' : (n : Int) < ((ns.length : Nat) : Int) := by omega
    first
      | (rw [decide_eq_true q'] at h5; exact absurd h5 (by decide))
      | (simp at h5; omega)
  cases hwl with
  | cons w1 w2 =>
    cases w2
    cases w1 with
    | list ho hall => exact ⟨_, _, ns, rfl, rfl, ho, ints_of_wellAll ns _ hall, hlen⟩
theorem post_true (l : OpenLaw) (args : List WData) : l.row.toRowW.claim.post args (.bool true) args = true :=
  postW_of (r := l.row.toRowW) (X := (true == true))
    (show WShape.has [] (.bool true) .bool = true by first | rfl | decide | simp [WShape.has, WShape.arms, WShape.armsAll])
    (show (WTm.eq .res (.lit (.bool true))).value [] { args := args, res := some (.bool true), after := args } = some (.bool (true == true)) from w_eq_bool (w_res rfl) w_lit) rfl
theorem attach_call {l : OpenLaw} {n : Nat} {q : Program} {loose : List Str} {XP : (Str -> Option Value) -> Heap -> Prop} {YP : World -> Heap -> Prop} {d : DefRec}
    (hn : l.most = some n) (hdf : d.params.defaults = [])
    (call : ∀ (w : World) (s₀ s₁ : Shared) (mg mb : Str -> Option Value) (fa : Addr) (o : Obj) (pm cd doc : Value) (a : Addr) (vs : List Value) (ns : List Int),
      Ground q loose [] XP w s₀ mg mb s₁.heap -> YP w s₁.heap ->
      s₁.heap.get? fa = some o -> o.data = .func (docDef d.name d.params d.body d.scope pm cd doc) -> s₁.heap.CodeRec cd d.name -> mg d.name = some (.ref fa) ->
      s₁.heap.get? a = some { cls := .type "list", data := .seq vs.toArray } -> IntsAre vs ns -> ns.length <= n -> s₁.gens = #[] ->
      codeAny (model l.prog w) callerA (.call (.ref fa) ⟨[.ref a], []⟩) (fun r s' => r = .ok (.ret (.bool true)) /\ OldK s₁.heap s'.heap /\ s'.os = s₁.os /\ AllBare s'.gens) s₁) :
    WalkO q loose XP YP l.row.toRowW d [] (fun f vs => PySem.call f vs) := by
  intro w s₀ s₁ mg mb G Y fa o pm cd doc dV kV ho hd hcd hD hmg hg args vals as hpre hlay hrd hwl hlo
  obtain rfl : dV = .none := Dflts.none hD hdf
  obtain rfl : kV = .none := Dflts.noKw hD
  obtain ⟨a, vs, ns, rfl, rfl, hobj, hints, hlen⟩ := script_of hn hpre hwl
  refine enter_call (codeAny_mono (call w s₀ s₁ mg mb fa o pm cd doc a vs ns G Y ho (fd_plain hd) hcd hmg hobj hints hlen hg) fun r s' hq => ?_)
  obtain ⟨rfl, h2, h3, h4⟩ := hq
  exact ⟨.inl ⟨.bool true, .bool true, [], rfl, fun _ => rfl, .bool true, post_true l _, fun _ => ⟨List.Pairwise.nil, fun _ hm => (nomatch hm)⟩⟩, h2, h3, h4⟩
section
variable {prog : Program} {w : World} {A : Around} {E : Value -> Shared -> Prop} {s : Shared} {K : Frag}
end
end Att
namespace L2
open PySem PySem.Spec PyProof.Rows
theorem vals_ints : ∀ {vs : List Value} {ns : List Int}, IntsAre vs ns -> Vals (ns.map V.int) vs
  | _, _, .nil => .nil
  | _, _, .cons n t h => .cons ⟨t, rfl⟩ (vals_ints h)
noncomputable def Only (H : Hp) : Prop := ∀ b, H b = none \/ ∃ o xs, H b = some (.frz o (.lst xs))
theorem law_call {P : Program} {w : World} {K : PySem.W.Frag} {mg mb : Str -> Option Value} {CX : CXT} {k : Nat} {fa a : Addr} {fd : FuncData} {x : Str} {sp : Sp} {s₁ : Shared} {vs : List Value} {ns : List Int}
    (KX : K.In s₁.heap) (hns : s₁.heap.Ns mainGlobals mg) (hb : s₁.heap.Ns builtinsNs mb) (hbb : ∀ x : Str, x ≠ "__name__" -> mb x = bootBuiltins x) (hlim : s₁.heap.NoLimit) (hg : s₁.gens = #[])
    (ha : s₁.heap.get? a = some { cls := .type "list", data := .seq vs.toArray }) (hi : IntsAre vs ns) (hl : ns.length <= sizeLine) (hr : Room k callerA)
    (F : ∀ base : Heap, K.In base -> base.Ns mainGlobals mg -> FnOk P w K mg base CX k fa fd [x] sp) (hbind : ∀ (s : Shared) (u : Value), BindsTo s fd ⟨[u], []⟩ [(x, u)])
    (hsp : ∀ H : Hp, Only H -> SqL K H a (ns.map V.int) -> sp [.ref a] H (fun v _ => v = .bl true) fun _ _ _ => False)
    (hCX : ∀ H e s', CX [] H s₁ (fun _ _ _ => False) e s' -> False) :
    codeAny (model P w) callerA (.call (.ref fa) ⟨[.ref a], []⟩) (fun r s' => r = .ok (.ret (.bool true)) /\ OldK s₁.heap s'.heap /\ s'.os = s₁.os /\ AllBare s'.gens) s₁ := by
  have rv := vals_ints hi
  have lenV := hi.length
  have core : ∀ H : Hp, Only H -> SqL K H a (ns.map V.int) -> HOk P w H s₁.heap -> (∀ b, H b ≠ none -> b = a) -> (H a ≠ none -> K.lookup a = none) ->
      codeAny (model P w) callerA (.call (.ref fa) ⟨[.ref a], []⟩) (fun r s' => r = .ok (.ret (.bool true)) /\ OldK s₁.heap s'.heap /\ s'.os = s₁.os /\ AllBare s'.gens) s₁ := by
    intro H hO hS hok hA hK
    have base_of : ∀ {b : Addr} {o : Obj}, s₁.heap.get? b = some o -> H b = none -> (hidT s₁.heap H).get? b = some o := fun e n => hidT_get e n
    have noA : ∀ {b : Addr} {o : Obj} {es : Array DictEntry} {ep : Nat}, s₁.heap.get? b = some o -> o.data = .dict es ep -> H b = none := fun {b o es ep} e d => by
      cases q : H b with
      | none => rfl
      | some u =>
        have e' : b = a := hA b (by rw [q]; simp)
        subst e'
        rw [ha] at e; cases e
        have d' : Data.seq vs.toArray _ = Data.dict es ep := d
        cases d'
    have nsK : ∀ {b : Addr} {m : Str -> Option Value}, s₁.heap.Ns b m -> (hidT s₁.heap H).Ns b m := fun {b m} ⟨o, es, ep, e, d, r⟩ => ⟨o, es, ep, base_of e (noA e d), d, r⟩
    have hKb : K.In (hidT s₁.heap H) := fun b o e => base_of (KX b o e) (by
      cases q : H b with
      | none => rfl
      | some u =>
        have e' : b = a := hA b (by rw [q]; simp)
        subst e'
        rw [hK (by rw [q]; simp)] at e; cases e)
    have hM : Mod K mg (hidT s₁.heap H) := ⟨hKb, nsK hns, ⟨mb, nsK hb, hbb⟩, let ⟨mc, h1, h2⟩ := hlim; ⟨mc, nsK h1, h2⟩⟩
    have e0 : Env0 P w K mg (hidT s₁.heap H) callerA [] s₁ H := ⟨rfl, hM, fun b o e => of_hidT e, Nat.le_of_eq (hidT_size _ _), trivial, fun b hb => absurd (show b ∈ ([] : List Addr) from hb) (by simp), hok, .of_eq hg⟩
    refine codeAny_mono ((F _ hKb (nsK hns)).run callerA [] s₁ H ⟨[.ref a], []⟩ [.ref a] [.ref a] _ _ hr e0 (hbind s₁ (.ref a)) (.cons rfl .nil) (hsp H hO hS)) fun r s' h => ?_
    cases r with
    | error e => exact (hCX H e s' h).elim
    | ok fl =>
      cases fl with
      | next => exact False.elim h
      | brk => exact False.elim h
      | cont => exact False.elim h
      | ret u =>
        obtain ⟨v, H', os, bare, un, hok', r', q⟩ := h
        have q' : v = .bl true := q
        subst q'
        obtain rfl : u = Value.bool true := r'
        refine ⟨rfl, OldK.of_keep fun b o e => ?_, os, bare⟩
        cases q : H b with
        | none => exact un.keep b o e q (by intro z; exact absurd (show b ∈ ([] : List Addr) from z) (by simp)) (by simp)
        | some u =>
          rcases hO b with z | ⟨ob, xs, z⟩
          · rw [q] at z; cases z
          · have z2 := un.frzs b ob _ z
            obtain ⟨e1, _⟩ := hok b _ z
            obtain ⟨e2, _⟩ := hok' b _ z2
            rw [e] at e1; cases e1
            exact e2
  cases hk : K.lookup a with
  | some o =>
    have e := KX a o hk
    rw [ha] at e
    cases e
    refine core (fun _ => none) (fun _ => .inl rfl) (.inr ⟨_, vs.toArray, _, hk, rfl, rfl, rfl, by rw [List.size_toArray, lenV]; exact hl, by simpa using rv⟩) (fun b u z => by have z' : (none : Option HO) = some u := z; cases z') (fun b z => absurd rfl z) fun z => absurd rfl z
  | none =>
    refine core (fun b => if b = a then some (.frz { cls := .type "list", data := .seq vs.toArray } (.lst (ns.map V.int))) else none) (fun b => ?_) (.inl (.inr ⟨{ cls := .type "list", data := .seq vs.toArray }, if_pos rfl⟩)) (fun b u z => ?_) (fun b z => ?_) fun _ => hk
    · by_cases hb : b = a
      · exact .inr ⟨_, _, if_pos hb⟩
      · exact .inl (if_neg hb)
    · by_cases hb : b = a
      · have z' := (if_pos hb).symm.trans z
        cases z'
        subst hb
        exact ⟨ha, by rw [List.length_map]; exact hl, vs, _, rv, ha⟩
      · have z' := (if_neg hb).symm.trans z
        cases z'
    · by_cases hb : b = a
      · exact hb
      · exact absurd (if_neg hb) z
end L2
namespace L2
open PySem PySem.Spec PyProof.Rows
theorem walk_of {l : PySem.W.OpenLaw} {n k : Nat} {q : Program} {loose : List Str} {XP : (Str -> Option Value) -> Heap -> Prop} {YP : World -> Heap -> Prop} {d : DefRec} {K : Params -> PySem.W.Frag} {CX : World -> CXT} {sp : World -> Sp} {x : Str}
    (hn : l.most = some n) (hn2 : n <= sizeLine) (hdf : d.params.defaults = []) (hr : Room k callerA)
    (hY : ∀ (w : World) (h : Heap), YP w h -> (K w.params).In h)
    (F : ∀ (w : World) (mg : Str -> Option Value) (fa : Addr) (h : Heap), (K w.params).In h -> h.Ns mainGlobals mg -> mg d.name = some (.ref fa) ->
      ∃ fd : FuncData, (∀ (s : Shared) (u : Value), BindsTo s fd ⟨[u], []⟩ [(x, u)]) /\
        ∀ base : Heap, (K w.params).In base -> base.Ns mainGlobals mg -> FnOk l.prog w (K w.params) mg base (CX w) k fa fd [x] (sp w))
    (hsp : ∀ (w : World) (H : Hp) (a : Addr) (ns : List Int), ns.length <= n -> Only H -> SqL (K w.params) H a (ns.map V.int) -> sp w [.ref a] H (fun v _ => v = .bl true) fun _ _ _ => False)
    (hCX : ∀ (w : World) (H : Hp) (s : Shared) (e : Value) (s' : Shared), CX w [] H s (fun _ _ _ => False) e s' -> False) :
    PySem.W.WalkO q loose XP YP l.row.toRowW d [] (fun f vs => PySem.call f vs) := by
  refine Att.attach_call hn hdf fun w s₀ s₁ mg mb fa o pm cd doc a vs ns G Y ho hd hcd hmg hobj hints hlen hg => ?_
  have KX := hY w _ Y
  obtain ⟨fd, hb, hF⟩ := F w mg fa _ KX G.T.g hmg
  exact law_call KX G.T.g G.T.b G.T.builtins G.T.nolimit hg hobj hints (Nat.le_trans hlen hn2) hr hF hb (fun H hO hS => hsp w H a ns hlen hO hS) fun H e s' => hCX w H s₁ e s'
end L2
namespace L2
open PySem PySem.Spec PyProof.Rows
noncomputable def defArgs (s : Stmt) : Arguments := match s with
  | .FunctionDef _ a _ _ _ _ _ _ _ _ => a
  | _ => { posonlyargs := [], args := [], vararg := none, kwonlyargs := [], kw_defaults := [], kwarg := none, defaults := [] }
noncomputable def defBody (s : Stmt) : List Stmt := match s with
  | .FunctionDef _ _ b _ _ _ _ _ _ _ => b
  | _ => []
noncomputable def defScope (s : Stmt) : Scope := match s with
  | .FunctionDef _ _ _ _ _ _ sc _ _ _ => sc
  | _ => { kind := .function, names := [], isGenerator := false, isCoroutine := false }
noncomputable abbrev CX0 : CXT := fun _ _ _ _ _ _ => False
noncomputable abbrev E0 : XK := fun _ _ _ => False
theorem pass0 {X : Cx} : Passes CX0 X E0 := fun _ _ _ _ _ _ _ h => h.elim
structure Fun (K : PySem.W.Frag) (x qual : Str) (st : Stmt) (f : Addr) (fd : FuncData) : Prop where
  ex : ∃ (oc : Value) (od : Option Addr) (kV doc pm : Value) (an : Option Addr) (cdv ct : Value) (osl : Array (Option Value)),
    fd = PySem.W.fnOf x qual (defArgs st) (defBody st) (defScope st) .none kV doc pm an cdv ct /\ K.lookup f = some ⟨oc, od, .func fd, osl⟩ /\ PySem.W.codeIn K cdv qual = true
  kp : PySem.W.keepIn K (.ref f) = true
section
variable {P : Program} {w : World} {K : PySem.W.Frag} {mg : Str -> Option Value} {base : Heap}
theorem Fun.ok {x qual : Str} {st : Stmt} {f : Addr} {fd : FuncData} {N ps : List Str} {k : Nat} {sp : Sp} (F : Fun K x qual st f fd) (S : FnScope N ps (defScope st)) (len : ∀ vs H Q E, sp vs H Q E -> vs.length = ps.length)
    (hbody : ∀ (cdv : Value) (A : Around) (outer : List Env) (s : Shared) (H : Hp) (vs : List V) (Q : VK) (E : XK), Room k (A.deeper (envOfC qual (defScope st) s.heap.objs.size f cdv)) -> sp vs H Q E ->
      ∃ t, PSs (cxOf CX0 P w K mg base N qual (defScope st) f cdv A outer s H E).nox (defBody st) t /\ t { nx := fun _ H' => Q .non H', rt := Q } (start N vs) H) : FnOk P w K mg base CX0 (k + 1) f fd ps sp := by
  obtain ⟨oc, od, kV, doc, pm, an, cdv, ct, osl, rfl, lk, hcd⟩ := F.ex
  refine fn_of lk hcd S len fun A outer s H vs Q E hr hsp => ?_
  obtain ⟨t, h, q⟩ := hbody cdv A outer s H vs Q E hr hsp
  exact ⟨t, h.nox, q⟩
theorem Fun.binds {x qual : Str} {st : Stmt} {f : Addr} {fd : FuncData} {ps : List Str} (F : Fun K x qual st f fd)
    (h : ∀ (kV doc pm : Value) (an : Option Addr) (cdv ct : Value) (us : List Value), us.length = ps.length -> bindArgs (PySem.W.fnOf x qual (defArgs st) (defBody st) (defScope st) .none kV doc pm an cdv ct) ⟨us, []⟩ = pure (ps.zip us)) : Binds K fd ps [] := by
  obtain ⟨oc, od, kV, doc, pm, an, cdv, ct, osl, rfl, lk, hcd⟩ := F.ex
  exact .all (h kV doc pm an cdv ct)
theorem fun_mk {x qual : Str} {st : Stmt} {f : Addr} {oc : Value} {od an : Option Addr} {osl : Array (Option Value)} {kV doc pm cdv ct : Value} (l : K.lookup f = some ⟨oc, od, .func (PySem.W.fnOf x qual (defArgs st) (defBody st) (defScope st) .none kV doc pm an cdv ct), osl⟩)
    (c : PySem.W.codeIn K cdv qual = true) (k : PySem.W.keepIn K (.ref f) = true) : Fun K x qual st f (PySem.W.fnOf x qual (defArgs st) (defBody st) (defScope st) .none kV doc pm an cdv ct) := ⟨⟨oc, od, kV, doc, pm, an, cdv, ct, osl, rfl, l, c⟩, k⟩
end
section
variable {X : Cx}
end
end L2
set_option Elab.async false
set_option linter.all false
set_option maxRecDepth 100000
set_option maxHeartbeats 4000000
namespace L2
open PySem PySem.Spec PyProof.Rows
noncomputable def capV (σ : St) : Option Nat -> Option V
  | some j => (σ[j]?).getD none
  | none => none
noncomputable def clOf (env : Env) : List (Str × NameKind) -> List (Str × Addr) -> List (Str × Addr)
  | [], cs => cs
  | (n, k) :: r, cs => clOf env r (if k == .free then (n, (env.cells.lookup n).getD 0) :: cs else cs)
theorem closure_ok {scope : Scope} {env : Env} (h : ∀ y ∈ scope.names, y.2 = .free -> ∃ c, env.cells.lookup y.1 = some c) : closureFor scope env = pure (clOf env scope.names []) := by
  have key : ∀ (l : List (Str × NameKind)) (cs : List (Str × Addr)), (∀ y ∈ l, y.2 = .free -> ∃ c, env.cells.lookup y.1 = some c) ->
      (forIn l cs (fun (x : Str × NameKind) (r : List (Str × Addr)) => (match x with
        | (name, kind) => if (kind == NameKind.free) = true then (do let c <- cellOf env name; pure (ForInStep.yield ((name, c) :: r))) else pure (ForInStep.yield r) : Sem (ForInStep (List (Str × Addr)))))) = (pure (clOf env l cs) : Sem (List (Str × Addr))) := by
    intro l
    induction l with
    | nil => intro cs _; rfl
    | cons y r ih =>
      intro cs hl
      obtain ⟨n, k⟩ := y
      rw [List.forIn_cons]
      by_cases hk : k = .free
      · subst hk
        obtain ⟨c, hc⟩ := hl (n, .free) List.mem_cons_self rfl
        have e1 : cellOf env n = pure c := by
          unfold cellOf
          rw [hc]
        simp only [beq_self_eq_true, if_true, e1, pure_bind]
        rw [ih _ (fun z hz => hl z (List.mem_cons_of_mem _ hz))]
        simp only [clOf, beq_self_eq_true, if_true, hc, Option.getD_some]
      · have hb : (k == NameKind.free) = false := by simpa using hk
        simp only [hb, Bool.false_eq_true, if_false, pure_bind]
        rw [ih _ (fun z hz => hl z (List.mem_cons_of_mem _ hz))]
        simp only [clOf, hb, Bool.false_eq_true, if_false]
  have := key scope.names [] h
  exact (congrArg (fun z => z >>= fun cs => (pure cs : Sem (List (Str × Addr)))) this).trans (pure_bind _ _)
theorem mem_look : ∀ {l : List (Str × NameKind)} {x : Str} {k : NameKind}, l.lookup x = some k -> (x, k) ∈ l
  | [], _, _, h => nomatch h
  | (n, k') :: r, x, k, h => by
    rw [List.lookup_cons] at h
    cases hx : x == n with
    | true =>
      rw [hx] at h
      have e : x = n := by simpa using hx
      subst e
      cases h
      exact List.mem_cons_self
    | false => rw [hx] at h; exact List.mem_cons_of_mem _ (mem_look h)
theorem clOf_look {env : Env} {x : Str} {c : Addr} : ∀ {l : List (Str × NameKind)} {cs : List (Str × Addr)}, (∀ y ∈ l, y.2 = .free -> ∃ c, env.cells.lookup y.1 = some c) -> (clOf env l cs).lookup x = some c -> env.cells.lookup x = some c \/ cs.lookup x = some c
  | [], cs, _, h => .inr h
  | (n, k) :: r, cs, hl, h => by
    have h' := clOf_look (l := r) (fun z hz => hl z (List.mem_cons_of_mem _ hz)) h
    rcases h' with h' | h'
    · exact .inl h'
    · by_cases hk : k = .free
      · subst hk
        simp only [beq_self_eq_true, if_true] at h'
        obtain ⟨c', hc⟩ := hl (n, .free) List.mem_cons_self rfl
        rw [hc, Option.getD_some, List.lookup_cons] at h'
        cases hx : x == n with
        | true =>
          rw [hx] at h'
          have e : x = n := by simpa using hx
          subst e
          left
          rw [hc]; exact h'
        | false => rw [hx] at h'; exact .inr h'
      · have hb : (k == NameKind.free) = false := by simpa using hk
        simp only [hb, Bool.false_eq_true, if_false] at h'
        exact .inr h'
theorem clOf_has' {env : Env} {x : Str} : ∀ {l : List (Str × NameKind)} {cs : List (Str × Addr)}, (cs.lookup x).isSome = true -> ((clOf env l cs).lookup x).isSome = true
  | [], cs, h => h
  | (n, k) :: r, cs, h => by
    show ((clOf env r _).lookup x).isSome = true
    refine clOf_has' (l := r) ?_
    by_cases hk : (k == NameKind.free) = true
    · rw [if_pos hk, List.lookup_cons]
      cases hx : x == n with
      | true => rfl
      | false => exact h
    · rw [if_neg hk]; exact h
theorem clOf_has {env : Env} {x : Str} : ∀ {l : List (Str × NameKind)} {cs : List (Str × Addr)}, (x, NameKind.free) ∈ l -> ((clOf env l cs).lookup x).isSome = true
  | [], _, h => nomatch h
  | (n, k) :: r, cs, h => by
    rcases List.mem_cons.mp h with e | h
    · cases e
      show ((clOf env r _).lookup x).isSome = true
      refine clOf_has' (l := r) ?_
      rw [if_pos (by rfl), List.lookup_cons]
      simp
    · exact clOf_has (l := r) h
noncomputable def cpCx (X : Cx) (scope : Scope) (N : List Str) (C : Addr) (s₀ : Shared) (H₀ : Hp) (ex : List Addr) : Cx where
  prog := X.prog
  w := X.w
  K := X.K
  mg := X.mg
  base := X.base
  A := X.A
  N := N
  s₀ := s₀
  H₀ := H₀
  env := compEnvC scope (clOf X.env scope.names []) C X.env
  outer := X.stack
  stack := X.stack
  ex := ex
  fn := fun _ => false
  calm := X.calm
  pn := []
  xe := fun _ _ => False
structure CpScope (X : Cx) (scope : Scope) (N : List Str) (cap : List (Option Nat)) : Prop where
  kind : scope.kind = .function
  nocell : ∀ y ∈ scope.names, y.2 ≠ .cell
  nm : ∀ y ∈ scope.names, y.2 = .local -> scope.names.lookup y.1 = some .local
  fr : ∀ y ∈ scope.names, y.2 = .free -> X.env.kindOf y.1 = some .cell \/ X.env.kindOf y.1 = some .free
  rl : ∀ y, ((relabel scope X.env).names.lookup y = some .cell \/ (relabel scope X.env).names.lookup y = some .free) -> (y, NameKind.free) ∈ scope.names
  len : cap.length = N.length
  nolf : ∀ x, (x, NameKind.free) ∈ scope.names -> scope.names.lookup x ≠ some .local
  cp : ∀ (i j : Nat) (x : Str), N[i]? = some x -> cap[i]? = some (some j) -> X.N[j]? = some x /\ (x, NameKind.free) ∈ scope.names
theorem cp_inv {X : Cx} {scope : Scope} {N : List Str} {cap : List (Option Nat)} {pins : List (Addr × Obj)} {σ : St} {H : Hp} {s : Shared} {fp : List Addr} {h₁ : Heap} {m : Str -> Option Value} {tk : Nat} (S : CpScope X scope N cap) (I : Inv X pins σ H s)
    (hf : ∀ b ∈ fp, FpOk X pins H b) (ho : ∀ b ∈ fp, ∃ o, s.heap.get? b = some o) (hn : h₁.Ns s.heap.objs.size m) (hk : ∀ b o, s.heap.get? b = some o -> h₁.get? b = some o) :
    Inv (cpCx X scope N s.heap.objs.size s H fp) [] (cap.map (capV σ)) H { s with heap := h₁, toks := tk } := by
  have hfree : ∀ y ∈ scope.names, y.2 = .free -> ∃ c, X.env.cells.lookup y.1 = some c := fun y hy e => I.ok.has _ (S.fr y hy e)
  have lk : ∀ x c, (clOf X.env scope.names []).lookup x = some c -> X.env.cells.lookup x = some c := fun x c e => by
    rcases clOf_look hfree e with z | z
    · exact z
    · cases z
  have lt : ∀ b o, s.heap.get? b = some o -> b ≠ s.heap.objs.size := fun b o e => Nat.ne_of_lt (Heap.lt_size e)
  refine ⟨⟨I.ok.mod, ?_, I.ok.glob, I.ok.blt, Nat.le_refl _, ?_, ?_, ?_, I.ok.hd, I.ok.frames, .inl rfl, ?_, I.bs, Nat.le_trans I.ok.bsz I.sz, ?_, ?_, I.stack, I.stkFree⟩, rfl, I.bare, Un.kept hk, ?_, ?_, I.hok.fresh (Nat.le_refl _), ?_, ?_, I.hok.kept hk, ?_⟩
  · exact S.kind
  · intro x y c e1 e2
    exact I.ok.inj x y c (lk x c e1) (lk y c e2)
  · intro x e
    have hm := S.rl x e
    have := clOf_has (env := X.env) (cs := []) hm
    exact Option.isSome_iff_exists.mp this
  · intro x c e _
    exact absurd e (by simp [cpCx])
  · intro b hb
    obtain ⟨o, e⟩ := ho b hb
    refine ⟨lt b o e, fun x c e2 => (hf b hb).2.2.2.2.1 x c (lk x c e2)⟩
  · intro b o e hb
    obtain ⟨_, _, _, h3, _⟩ := hf b hb
    rcases h3 with z | z
    · exact I.ok.noex b o e z
    · exact absurd (Nat.lt_of_lt_of_le (Heap.lt_size (I.ok.bs b o e).1) z) (Nat.lt_irrefl _)
  · intro b hb hz
    obtain ⟨_, h1, h2, _⟩ := hf b hb
    rcases List.mem_cons.mp (I.stkSub b hz) with z | z
    · exact h1 z
    · exact h2 z
  · refine ⟨m, hn, fun i x v e1 e2 e3 => ?_⟩
    rw [List.getElem?_map] at e2
    cases hc : cap[i]? with
    | none => rw [hc] at e2; cases e2
    | some oj =>
      rw [hc] at e2
      cases oj with
      | none => cases e2
      | some j =>
        have e2' : (σ[j]?).getD none = some v := Option.some.inj e2
        obtain ⟨hj, hm⟩ := S.cp i j x e1 hc
        obtain ⟨m0, hn0, hl0⟩ := I.loc
        have hσ : σ[j]? = some (some v) := by
          cases h : σ[j]? with
          | none => rw [h] at e2'; cases e2'
          | some z => rw [h, Option.getD_some] at e2'; rw [e2']
        have hkd := S.fr (x, .free) hm rfl
        have hv : Vis X.env.scope x := .inr hkd
        obtain ⟨u, ru, lo⟩ := hl0 j x v hj hσ hv
        refine ⟨u, ru, ?_⟩
        rcases lo with ⟨lo, _⟩ | ⟨_, c, ec, ic⟩
        · rcases hkd with z | z <;> (rw [z] at lo; cases lo)
        · have h2 := clOf_has (env := X.env) (cs := []) hm
          obtain ⟨c', hc'⟩ := Option.isSome_iff_exists.mp h2
          have : c' = c := Option.some.inj ((lk x c' hc').symm.trans ec)
          subst this
          refine .inr ⟨?_, c', hc', ?_⟩
          · rcases e3 with z | z | z
            · exfalso
              have : (relabel scope X.env).names.lookup x = some .local := z
              have hloc : scope.names.lookup x = some .local := by
                have hmem : ∃ k, (x, k) ∈ (relabel scope X.env).names /\ k = .local := by
                  clear hc' h2
                  have := mem_look this
                  exact ⟨_, this, rfl⟩
                obtain ⟨k, hk1, rfl⟩ := hmem
                obtain ⟨⟨n', k'⟩, hm1, hm2⟩ := List.mem_map.mp hk1
                dsimp only at hm2
                split at hm2
                · cases hm2
                · cases hm2
                  exact S.nm (x, .local) hm1 rfl
              exact False.elim (S.nolf x hm hloc)
            · exact .inl z
            · exact .inr z
          · obtain ⟨o, ho', hd⟩ := ic
            exact ⟨o, hk _ _ ho', hd⟩
  · intro x c e
    obtain ⟨v, o, ho', hd⟩ := I.cell x c (lk x c e)
    exact ⟨v, o, hk _ _ ho', hd⟩
  · intro x c e
    exact I.freeC x c (lk x c e)
  · intro p hp
    cases hp
  · rw [List.length_map, S.len]
    rfl
noncomputable def PTs (X : Cx) (ifs : List Expr) (t : TT) : Prop :=
  ∀ (pins : List (Addr × Obj)) (s : Shared) (σ : St) (H : Hp) (Q : Bool -> Hp -> Prop), Inv X pins σ H s -> t σ H Q ->
    wpAny (model X.prog X.w) X.A (forIn ifs true fun c r => if r = true then do let ok <- isTrue c X.env (eval c X.env); pure (ForInStep.yield ok) else pure (ForInStep.yield r)) (TP X pins σ Q) X.xe s
noncomputable def tYes : TT := fun _ H Q => Q true H
theorem pts_nil {X : Cx} : PTs X [] tYes := fun _ _ _ H _ I h => wpAny_tests_nil ⟨H, I, h⟩
theorem pts_one {X : Cx} {c : Expr} {t : TT} (h : PT X c t) : PTs X [c] t := fun pins s σ H Q I q => wpAny_tests_one (h pins s σ H Q I q)
noncomputable def LcGoal (cap : List (Option Nat)) (g : TG) (tc : TT) (te : TE) (σ : St) (Q : VK) (J : It) (H1 : Hp) : Prop := ∀ D, H1 D = none ->
  ∃ W : Nat -> Nat -> St -> Hp -> Prop, (∃ m, W 0 m (cap.map (capV σ)) (upd H1 D (.lst []))) /\ ∀ i m σ' H', W i m σ' H' ->
    (J.stop i H' /\ Q (.ref D) H') \/ (J.go i H' /\ ∀ x H2, J.yld i H' x H2 -> g x σ' H2 fun σ3 H3 => tc σ3 H3 fun b H4 =>
      if b = true then te σ3 H4 fun y H5 => ∃ ys, H5 D = some (.lst ys) /\ ys.length < sizeLine /\ ∃ m', m' < m /\ W (i + 1) m' σ3 (upd H5 D (.lst (ys ++ [y])))
      else ∃ m', m' < m /\ W (i + 1) m' σ3 H4)
noncomputable def tLC (cap : List (Option Nat)) (wi : TI) (g : TG) (tc : TT) (te : TE) : TE := fun σ H Q => wi σ H (LcGoal cap g tc te σ Q)
theorem thnF {α : Type} {t : Sem α} {Q Q' : α -> Shared -> Prop} {M : Model} {A : Around} {E : Value -> Shared -> Prop} {s : Shared} (h : wpAny M A t Q (fun _ _ => False) s) (hQ : ∀ a s, Q a s -> Q' a s) : wpAny M A t Q' E s :=
  wpAny_mono h hQ fun _ _ f => f.elim
structure TurnG (ok : Cx -> Prop) (P : Program) (w : World) (K : PySem.W.Frag) (tg : Expr) (J : It) (fp : List Addr) (it : Addr) (tn : Nat -> Heap -> Prop) : Prop where
  obj : ∀ i h, tn i h -> ∀ b ∈ fp, ∃ o, h.get? b = some o /\ ∀ v, o.data ≠ .cell v
  keep : ∀ i h h', tn i h -> (∀ b ∈ fp, ∀ o, h.get? b = some o -> h'.get? b = some o) -> tn i h'
  item : ∀ (X : Cx), X.prog = P -> X.w = w -> X.K = K -> ok X -> ∀ (i : Nat) (pins : List (Addr × Obj)) (s : Shared) (σ : St) (H : Hp) (E : Value -> Shared -> Prop), Inv X pins σ H s -> (∀ b ∈ fp, FpOk X pins H b) -> tn i s.heap -> J.go i H ->
    wpAny (model P w) X.A (pyNext (.ref it)) (fun r s1 => ∃ u, r = some u /\
      wpAny (model P w) X.A (letOwnedTupleGo tg (.ref it) u) (fun _ s2 => ∃ x H', Inv X pins σ H' s2 /\ RelV x u /\ J.yld i H x H' /\ tn (i + 1) s2.heap /\ ∀ b ∈ fp, H' b = none) E s1) E s
  done : ∀ (X : Cx), X.prog = P -> X.w = w -> X.K = K -> ok X -> ∀ (i : Nat) (pins : List (Addr × Obj)) (s : Shared) (σ : St) (H : Hp) (E : Value -> Shared -> Prop), Inv X pins σ H s -> (∀ b ∈ fp, FpOk X pins H b) -> tn i s.heap -> J.stop i H ->
    wpAny (model P w) X.A (pyNext (.ref it)) (fun r s1 => r = none /\ Inv X pins σ H s1) E s
  self : ∀ (A : Around) (i : Nat) (s : Shared) (Q : Value -> Shared -> Prop) (E : Value -> Shared -> Prop), tn i s.heap -> Q (.ref it) s -> wpAny (model P w) A (pyIter (.ref it)) Q E s
noncomputable def PIEg (ok : Cx -> Prop) (X : Cx) (pins : List (Addr × Obj)) (σ : St) (tg : Expr) (R : It -> Hp -> Prop) (itv : Value) (s2 : Shared) : Prop :=
  ∃ (it : Addr) (fp : List Addr) (tn : Nat -> Heap -> Prop) (J : It) (H' : Hp), itv = .ref it /\ Inv X pins σ H' s2 /\ TurnG ok X.prog X.w X.K tg J fp it tn /\ tn 0 s2.heap /\ (∀ b ∈ fp, FpOk X pins H' b) /\ R J H'
noncomputable def PIg (ok : Cx -> Prop) (X : Cx) (tg iter : Expr) (wi : TI) : Prop :=
  ∀ (pins : List (Addr × Obj)) (s : Shared) (σ : St) (H : Hp) (R : It -> Hp -> Prop), Inv X pins σ H s -> wi σ H R ->
    wpAny (model X.prog X.w) X.A (eval iter X.env) (fun v s1 => wpAny (model X.prog X.w) X.A (pyIter v) (PIEg ok X pins σ tg R) X.xe s1) X.xe s
theorem PI.g {X : Cx} {tg iter : Expr} {wi : TI} (h : PI X tg iter wi) : PIg (fun Y => Y.calm = true) X tg iter wi := fun pins s σ H R I q =>
  thn (h pins s σ H R I q) fun v s1 h1 => thn h1 fun itv s2 ⟨it, fp, tn, J, H', e, I', T, a, b, c⟩ => ⟨it, fp, tn, J, H', e, I', ⟨T.obj, T.keep, T.item, T.done, T.self⟩, a, b, c⟩
theorem pe_lcG {ok : Cx -> Prop} {X : Cx} {tg iter elt : Expr} {ifs : List Expr} {scope : Scope} {pos : Pos} {N : List Str} {cap : List (Option Nat)} {wi : TI} {g : TG} {tc : TT} {te : TE} (S : CpScope X scope N cap) (hok : ∀ C s₀ H₀ ex, (∀ a o u, X.H₀ a = some (.frz o u) -> H₀ a = some (.frz o u)) -> ok (cpCx X scope N C s₀ H₀ ex)) (hi : PIg ok X tg iter wi)
    (hg : ∀ C s₀ H₀ ex, PG (cpCx X scope N C s₀ H₀ ex) tg g) (ht : ∀ C s₀ H₀ ex, PTs (cpCx X scope N C s₀ H₀ ex) ifs tc) (he : ∀ C s₀ H₀ ex, PE (cpCx X scope N C s₀ H₀ ex) elt te)
    (hs : ∀ x, foldedSetIterable iter X.env x = pure x := by intro _; rfl) : PE X (.ListComp elt [⟨tg, iter, ifs, 0⟩] scope pos) (tLC cap wi g tc te) := by
  intro pins s σ H Q I h
  have hfree : ∀ y ∈ scope.names, y.2 = .free -> ∃ c, X.env.cells.lookup y.1 = some c := fun y hy e => I.ok.has _ (S.fr y hy e)
  rw [eval_ListComp]
  refine wpAny_comprehension_free (use := none) rfl hs (closure_ok hfree) S.kind S.nm (thn (hi pins s σ H _ I h) fun xv s1 h1 => thn h1 fun itv s2 h2 => ?_)
  obtain ⟨it, fp, tn, J, H2, rfl, I2, T, st2, f2, h2⟩ := h2
  refine wpAny_newObj_type (wpAny_newFunctionEnv S.nocell (by intro y hy; simp at hy) (fun h₁ hns₁ hsb₁ => ?_) S.kind)
  obtain ⟨W, ⟨m0, w0⟩, turn⟩ := h2 s2.heap.objs.size I2.fresh
  dsimp only at hns₁ hsb₁ ⊢
  have I3 : Inv X pins σ (upd H2 s2.heap.objs.size (.lst [])) { s2 with heap := s2.heap.push { cls := .type "list", data := .seq ([] : List Value).toArray } } := I2.lnew (t' := s2.toks) (its := []) .nil (Nat.zero_le _)
  have hfp : ∀ b ∈ fp, ∃ o, s2.heap.get? b = some o := fun b hb => by
    obtain ⟨o, e, _⟩ := T.obj 0 _ st2 b hb
    exact ⟨o, e⟩
  have neD : ∀ b ∈ fp, b ≠ s2.heap.objs.size := fun b hb => by
    obtain ⟨o, e⟩ := hfp b hb
    exact Nat.ne_of_lt (Heap.lt_size e)
  have f3 : ∀ b ∈ fp, FpOk X pins (upd H2 s2.heap.objs.size (.lst [])) b := fun b hb => ⟨by rw [upd_ne (neD b hb)]; exact (f2 b hb).1, (f2 b hb).2⟩
  have hDC : s2.heap.objs.size ≠ (s2.heap.push { cls := .type "list", data := .seq ([] : List Value).toArray }).objs.size := by rw [Heap.size_push]; exact Nat.ne_of_lt (Nat.lt_succ_self _)
  have old : ∀ b o, (s2.heap.push { cls := .type "list", data := .seq ([] : List Value).toArray }).get? b = some o -> h₁.get? b = some o := fun b o e => hsb₁.extBut b o (Nat.ne_of_lt (Heap.lt_size e)) (Heap.get?_push_of_some _ e)
  have I4 := cp_inv (tk := s2.toks + ([] : List (Str × Value)).length) (fp := fp) S I3 f3 (fun b hb => by
    obtain ⟨o, e⟩ := hfp b hb
    exact ⟨o, Heap.get?_push_of_some _ e⟩) hns₁ old
  have st4 : tn 0 h₁ := T.keep _ _ _ st2 fun b hb o e => old b o (Heap.get?_push_of_some _ e)
  have hc := hok (s2.heap.push { cls := .type "list", data := .seq ([] : List Value).toArray }).objs.size { s2 with heap := s2.heap.push { cls := .type "list", data := .seq ([] : List Value).toArray } } (upd H2 s2.heap.objs.size (.lst [])) fp fun a o u e => by
    have z := I2.base.frzs a o u e
    rw [upd_ne (fun q => by rw [q, I2.fresh] at z; cases z)]
    exact z
  have stat : ∀ {H' : Hp}, (∀ b ∈ fp, H' b = none) -> ∀ b ∈ fp, FpOk (cpCx X scope N (s2.heap.push { cls := .type "list", data := .seq ([] : List Value).toArray }).objs.size { s2 with heap := s2.heap.push { cls := .type "list", data := .seq ([] : List Value).toArray } } (upd H2 s2.heap.objs.size (.lst [])) fp) [] H' b := fun hn b hb => by
    have ok := I4.ok
    refine ⟨hn b hb, (ok.exf b hb).1, ok.exfs b hb, .inl hb, fun x c e => (ok.exf b hb).2 x c e, fun p hp => nomatch hp⟩
  have loop : ∀ s4 : Shared, s4 = { s2 with heap := h₁, toks := s2.toks + ([] : List (Str × Value)).length } ->
      codeAny (model X.prog X.w) X.A (.compLoop (.ListComp elt [⟨tg, iter, ifs, 0⟩] scope pos) 0 (.ref it) (.ref s2.heap.objs.size) (compEnvC scope (clOf X.env scope.names []) (s2.heap.push { cls := .type "list", data := .seq ([] : List Value).toArray }).objs.size X.env))
        (compPost (model X.prog X.w) X.A X.xe none (EP X pins σ Q) (.ref s2.heap.objs.size) (s2.heap.push { cls := .type "list", data := .seq ([] : List Value).toArray }).objs.size) s4 := by
    rintro s4 rfl
    refine codeAny_loop rfl (fun n s' => ∃ i σ' H', Inv (cpCx X scope N (s2.heap.push { cls := .type "list", data := .seq ([] : List Value).toArray }).objs.size { s2 with heap := s2.heap.push { cls := .type "list", data := .seq ([] : List Value).toArray } } (upd H2 s2.heap.objs.size (.lst [])) fp) [] σ' H' s' /\ tn i s'.heap /\ (∀ b ∈ fp, H' b = none) /\ W i n σ' H') (fun n s5 hI => ?_) m0 ⟨0, _, _, I4, st4, fun b hb => (f3 b hb).1, w0⟩
    obtain ⟨i, σ5, H5, I5, st5, fr5, w5⟩ := hI
    show wpAny _ X.A ((compTurn (.ListComp elt [⟨tg, iter, ifs, 0⟩] scope pos) 0 (.ref it) (.ref s2.heap.objs.size) (compEnvC scope (clOf X.env scope.names []) (s2.heap.push { cls := .type "list", data := .seq ([] : List Value).toArray }).objs.size X.env)).onRaise (fun x => do noteFrame x _; theTreesLotGoes x)) _ _ s5
    refine wpAny_noted ?_
    rw [compTurn_list]
    refine wpAny_bind (wpAny_standAt (wpAny_bind ?_))
    rcases turn i n σ5 H5 w5 with ⟨stop, q⟩ | ⟨go, step⟩
    · refine thn (T.done (cpCx X scope N (s2.heap.push { cls := .type "list", data := .seq ([] : List Value).toArray }).objs.size { s2 with heap := s2.heap.push { cls := .type "list", data := .seq ([] : List Value).toArray } } (upd H2 s2.heap.objs.size (.lst [])) fp) rfl rfl rfl hc i [] s5 σ5 H5 _ I5 (stat fr5) st5 stop) fun r s6 ⟨hr, I6⟩ => ?_
      subst hr
      obtain ⟨m6, hn6, _⟩ := I6.loc
      refine wpAny_pure ⟨m6, hn6, fun h' sb => ?_⟩
      have u6 := I6.base
      have nC : ∀ b o, (s2.heap.push { cls := .type "list", data := .seq ([] : List Value).toArray }).get? b = some o -> b ≠ (s2.heap.push { cls := .type "list", data := .seq ([] : List Value).toArray }).objs.size := fun b o e => Nat.ne_of_lt (Heap.lt_size e)
      refine ⟨.ref s2.heap.objs.size, H5, ?_, rfl, q⟩
      refine I3.call' (ch := fp) I6.os ⟨fun b o e n hb hx => ?_, fun b o e n hb hx => ?_, fun b o e n hx => ?_, fun b o e hx => ?_, u6.tups, u6.frzs, u6.tbls⟩ ?_ I6.bare ?_
      · exact sb.extBut b o (nC b o e) (u6.keep b o e n hb hx)
      · obtain ⟨sl, z⟩ := u6.slot b o e n hb hx
        exact ⟨sl, sb.extBut b _ (nC b o e) z⟩
      · exact u6.free b o e n hx
      · obtain ⟨o', z⟩ := u6.there b o e hx
        exact ⟨o', sb.extBut b _ (nC b o e) z⟩
      · intro b o e
        have hb : ∀ c v, H5 c = some v -> c ≠ (s2.heap.push { cls := .type "list", data := .seq ([] : List Value).toArray }).objs.size := fun c v e z => by
          rw [z] at e
          have := I6.free
          rw [show H5 (s2.heap.push { cls := .type "list", data := .seq ([] : List Value).toArray }).objs.size = none from this] at e
          cases e
        refine (I6.hok b o e).stay (fun c v hc q => sb.extBut c v ?_ q) (fun _ q => q) fun _ _ q => q
        rcases hc with z | z
        · rw [z]; exact hb b o e
        · exact hb c _ z
      · intro b hb
        obtain ⟨_, z1, _, z3, z4, z5⟩ := f3 b hb
        exact ⟨z3, z1, z4, z5⟩
    · refine thn (T.item (cpCx X scope N (s2.heap.push { cls := .type "list", data := .seq ([] : List Value).toArray }).objs.size { s2 with heap := s2.heap.push { cls := .type "list", data := .seq ([] : List Value).toArray } } (upd H2 s2.heap.objs.size (.lst [])) fp) rfl rfl rfl hc i [] s5 σ5 H5 _ I5 (stat fr5) st5 go) fun r s6 ⟨u, hr, h6⟩ => ?_
      subst hr
      refine wpAny_bind (thn h6 fun _ s7 ⟨x, H7, I7, r7, y7, st7, fr7⟩ => ?_)
      have I7' := I7.pinned (stat fr7) (T.obj _ _ st7)
      refine wpAny_bind (thnF (hg _ _ _ fp _ s7 σ5 H7 x u _ I7' r7 (step x H7 y7)) fun _ s8 ⟨σ8, H8, I8, q8⟩ => ?_)
      refine wpAny_bind (thnF (ht _ _ _ fp _ s8 σ8 H8 _ I8 q8) fun ok s9 ⟨H9, I9, q9⟩ => ?_)
      have again : ∀ {s10 : Shared} {H10 : Hp}, Inv (cpCx X scope N (s2.heap.push { cls := .type "list", data := .seq ([] : List Value).toArray }).objs.size { s2 with heap := s2.heap.push { cls := .type "list", data := .seq ([] : List Value).toArray } } (upd H2 s2.heap.objs.size (.lst [])) fp) ([] ++ pinsAt fp s7.heap) σ8 H10 s10 -> (∃ m', m' < n /\ W (i + 1) m' σ8 H10) ->
          ∃ m, m < n /\ ∃ i σ' H', Inv (cpCx X scope N (s2.heap.push { cls := .type "list", data := .seq ([] : List Value).toArray }).objs.size { s2 with heap := s2.heap.push { cls := .type "list", data := .seq ([] : List Value).toArray } } (upd H2 s2.heap.objs.size (.lst [])) fp) [] σ' H' s10 /\ tn i s10.heap /\ (∀ b ∈ fp, H' b = none) /\ W i m σ' H' := fun {s10 H10} I10 ⟨m', hm, w10⟩ => by
        refine ⟨m', hm, i + 1, σ8, H10, I10.unpinned, T.keep _ _ _ st7 fun b hb o e => (I10.pin (b, o) (List.mem_append_right _ (List.mem_append_right _ (mem_pinsAt hb e)))).1, fun b hb => ?_, w10⟩
        obtain ⟨o, e, d⟩ := T.obj _ _ st7 b hb
        exact (I10.pin (b, o) (List.mem_append_right _ (List.mem_append_right _ (mem_pinsAt hb e)))).2.1
      cases ok with
      | false =>
        rw [if_neg Bool.false_ne_true] at q9
        exact wpAny_pure ⟨rfl, again I9 q9⟩
      | true =>
        rw [if_pos rfl] at q9
        refine wpAny_bind (wpAny_bind (thnF (he _ _ _ fp _ s9 σ8 H9 _ I9 q9) fun y s10 ⟨v10, H10, I10, r10, ys, hD, hz, w10⟩ => ?_))
        refine wpAny_bind (thnF (mt_append _ s10 σ8 H10 (.ref s2.heap.objs.size) [v10] _ [y] (fun _ H' => H' = upd H10 s2.heap.objs.size (.lst (ys ++ [v10]))) I10 rfl (.cons r10 .nil) ⟨_, ys, v10, rfl, rfl, hD, hz, rfl⟩) fun _ s11 ⟨_, H11, I11, _, e11⟩ => ?_)
        subst e11
        exact wpAny_pure (wpAny_pure ⟨rfl, again I11 w10⟩)
  exact codeAny_compStart_list (loop _ rfl) (T.self _ 0 _ _ _ st4 (loop _ rfl))
theorem pe_lc {X : Cx} {tg iter elt : Expr} {ifs : List Expr} {scope : Scope} {pos : Pos} {N : List Str} {cap : List (Option Nat)} {wi : TI} {g : TG} {tc : TT} {te : TE} (hc : X.calm = true) (S : CpScope X scope N cap) (hi : PI X tg iter wi)
    (hg : ∀ C s₀ H₀ ex, PG (cpCx X scope N C s₀ H₀ ex) tg g) (ht : ∀ C s₀ H₀ ex, PTs (cpCx X scope N C s₀ H₀ ex) ifs tc) (he : ∀ C s₀ H₀ ex, PE (cpCx X scope N C s₀ H₀ ex) elt te)
    (hs : ∀ x, foldedSetIterable iter X.env x = pure x := by intro _; rfl) : PE X (.ListComp elt [⟨tg, iter, ifs, 0⟩] scope pos) (tLC cap wi g tc te) :=
  pe_lcG S (fun _ _ _ _ _ => hc) hi.g hg ht he hs
end L2
set_option Elab.async false
set_option linter.all false
set_option maxRecDepth 100000
set_option maxHeartbeats 4000000
namespace L2
open PySem PySem.Spec PyProof.Rows
section
variable {X : Cx}
theorem bools_of {bs : List Bool} : ∀ {us : List Value}, Vals (bs.map V.bl) us -> LSm.BoolsAre us bs := by
  induction bs with
  | nil => intro us r; cases r; exact .nil
  | cons b bs ih =>
    intro us r
    cases r with
    | cons h t =>
      have e : _ = Value.bool b := h
      subst e
      exact .cons b (ih t)
theorem call_allL (hc : X.calm = true) : CallR X (.builtin "all") (fun xs H Q => ∃ (p : Addr) (bs : List Bool), xs = [.ref p] /\ SqL X.K H p (bs.map V.bl) /\ Q (.bl (bs.all id)) H) := by
  intro pins s σ H xs us Q I r h
  obtain ⟨p, bs, rfl, hq, q⟩ := h
  obtain ⟨u, rfl, rx⟩ := vals1 r
  cases rx
  obtain ⟨its, rv, pl, hz⟩ := I.list hq
  have hb := bools_of rv
  have hl := pl.isList
  have hlt : p < s.heap.objs.size := by obtain ⟨_, e, _⟩ := hl; exact Heap.lt_size e
  refine call_all_walk (wpAny_pyIter_list hl ?_)
  refine ⟨s.heap.objs.size, [s.heap.objs.size, p], [s.heap.objs.size], its.toArray.size, _, _, fun i => (bs[i]?).getD true, rfl, Walks.list (A := X.A.in1) (I.ok.hd hc) _ p (Nat.ne_of_lt hlt) its.toArray,
    ⟨⟨_, Heap.get?_push_size _ rfl, rfl, rfl⟩, hl.push _⟩, fun i v s' Q' E' hP hQ => ?_, fun h' tk hk => ?_⟩
  · obtain ⟨b, e, rfl⟩ := hb.get i v (by simpa using hP)
    simp only [e, Option.getD_some] at hQ
    exact wpAny_truthy_bool hQ
  · have e : ((List.range its.toArray.size).all fun i => (bs[i]?).getD true) = bs.all id := by
      rw [List.size_toArray, hb.length]; exact LSm.range_all bs
    rw [e]
    exact ⟨.bl _, H, I.kept (LSm.kept_iter hk), rfl, q⟩
noncomputable def eqL : List V -> List V -> Bool
  | [], [] => true
  | x :: xs, y :: ys => eqV x y && eqL xs ys
  | _, _ => false
noncomputable def eAt (xs ys : List V) (j : Nat) : Bool := match xs[j]?, ys[j]? with | some x, some y => eqV x y | _, _ => true
noncomputable def rngL (i j : Int) : List Int := (List.range (j - i).toNat).map fun k : Nat => i + (k : Int)
theorem rngL_len (i j : Int) : (rngL i j).length = (j - i).toNat := by unfold rngL; rw [List.length_map, List.length_range]
theorem vals_items {i : Int} {n : Nat} {acc : Array Value} (h : ItemsOf (fun k v => ∃ t, v = Value.int (i + (k : Int) * 1) t) acc n) : Vals (((List.range n).map fun k : Nat => i + (k : Int)).map V.int) acc.toList := by
  obtain ⟨hs, hv⟩ := h
  have gen : ∀ (l : List Value) (b : Nat), (∀ j v, l[j]? = some v -> ∃ t, v = Value.int (i + ((b + j : Nat) : Int)) t) -> Vals (((List.range' b l.length).map fun k : Nat => i + (k : Int)).map V.int) l := by
    intro l
    induction l with
    | nil => intro b _; exact .nil
    | cons v l ih =>
      intro b hb
      rw [List.length_cons, List.range'_succ, List.map_cons, List.map_cons]
      refine .cons ?_ ?_
      · obtain ⟨t, e⟩ := hb 0 v rfl
        exact ⟨t, by rw [e]; simp⟩
      · refine ih (b + 1) fun j w hw => ?_
        obtain ⟨t, e⟩ := hb (j + 1) w hw
        exact ⟨t, by rw [e, show b + (j + 1) = b + 1 + j by omega]⟩
  have := gen acc.toList 0 fun j v hj => by
    obtain ⟨t, e⟩ := hv j v (by simpa using hj)
    exact ⟨t, by rw [e, Nat.zero_add, Int.mul_one]⟩
  rw [Array.length_toList, hs, <- List.range_eq_range'] at this
  exact this
theorem rangeN {i j : Int} : Builtin.Range.rangeSize i j 1 = (((j - i).toNat : Nat) : Int) := by rw [rangeSize_one]; split <;> omega
theorem call_list_rng (hc : X.calm = true) : CallR X (.type "list") (fun xs H Q => ∃ p i j, xs = [.ref p] /\ H p = some (.rng i j) /\ (-(2 ^ 62) <= i /\ i < 2 ^ 62 /\ -(2 ^ 62) <= j /\ j < 2 ^ 62) /\ (j - i).toNat <= 1000 /\ ∀ l, H l = none -> Q (.ref l) (upd H l (.lst ((rngL i j).map V.int)))) := by
  intro pins s σ H xs us Q I r h
  obtain ⟨p, i, j, rfl, hp, ⟨b1, b2, b3, b4⟩, hn, q⟩ := h
  obtain ⟨u, rfl, rx⟩ := vals1 r
  cases rx
  obtain ⟨t, u', v, e⟩ := I.hok p _ hp
  refine call_list_range (n := (j - i).toNat) (I.ok.hd hc) e (small_one b1 b2 b3 b4) rangeN (by omega) fun h' tk acc' c' hk hS hacc => ?_
  refine ⟨.ref s.heap.objs.size, _, I.laid (o := .lst ((rngL i j).map V.int)) hk (Nat.le_refl _) ⟨?_, acc'.toList, c', vals_items hacc, by rw [hS]⟩, rfl, q _ I.fresh⟩
  rw [List.length_map, rngL_len, sizeLine_eq]; omega
end
end L2
set_option Elab.async false
set_option linter.all false
set_option maxRecDepth 100000
set_option maxHeartbeats 4000000
namespace L2
open PySem PySem.Spec PyProof.Rows
section
variable {X : Cx}
theorem call_isinst {c : String} : CallR X (.builtin "isinstance") (fun xs H Q => ∃ x t b, xs = [x, .ty c] /\ TyOf X.K H x t /\ PySem.W.kitOne X.K t (.type c) = some b /\ Q (.bl b) H) := by
  intro pins s σ H xs us Q I r h
  obtain ⟨x, t, b, rfl, ty, e, q⟩ := h
  obtain ⟨u, w', rfl, rx, rc⟩ := vals2 r
  cases rc
  exact isinst_ok I rx ty e fun tk => ⟨.bl b, H, I.tok tk, rfl, q⟩
noncomputable def rCatT0 (K : PySem.W.Frag) : R2 := fun x y H Q => ∃ a b ys, x = .ref a /\ y = .ref b /\ SqT K H a [] /\ SqT K H b ys /\ Q (.ref b) H
theorem op_catT0 : OpR X (binaryOp .Add) (rCatT0 X.K) := by
  intro pins s σ H x y v u Q I rx ry h
  obtain ⟨a, b, ys, rfl, rfl, h1, h2, q⟩ := h
  cases rx
  cases ry
  obtain ⟨us, r1, p1, _⟩ := I.tuple h1
  obtain ⟨ws, r2, p2, _⟩ := I.tuple h2
  cases r1
  obtain ⟨⟨cls, dd, data, sl⟩, ho, hc, n, hd⟩ := id p1
  obtain ⟨⟨cls2, dd2, data2, sl2⟩, ho2, hc2, n2, hd2⟩ := id p2
  simp only at hc hd hc2 hd2
  subst hc hd hc2 hd2
  exact concat_meets ⟨_, ho, rfl⟩ ⟨_, ho2, rfl⟩ noFill_tuple_add seq_tuple_add PySem.F.slot_tuple_add PySem.F.entry_tuple_add (PySem.F.args_tuple_add_2 _ _)
      (tuple_addW0 a b _ ws.toArray n n2 dd dd2 sl sl2 (by simp)) ⟨ho, ho2, ⟨.ref b, H, I, rfl, q⟩⟩
end
end L2
set_option Elab.async false
set_option linter.all false
set_option maxRecDepth 100000
set_option maxHeartbeats 4000000
namespace L2
open PySem PySem.Spec PyProof.Rows
theorem bt_len : bootBuiltins "len" = some (.builtin "len") := by decide +kernel
theorem bt_all : bootBuiltins "all" = some (.builtin "all") := by decide +kernel
theorem bt_max : bootBuiltins "max" = some (.builtin "max") := by decide +kernel
theorem bt_min : bootBuiltins "min" = some (.builtin "min") := by decide +kernel
theorem bt_isinstance : bootBuiltins "isinstance" = some (.builtin "isinstance") := by decide +kernel
theorem bt_int : bootBuiltins "int" = some (.type "int") := by decide +kernel
theorem bt_bool : bootBuiltins "bool" = some (.type "bool") := by decide +kernel
theorem bt_list : bootBuiltins "list" = some (.type "list") := by decide +kernel
structure Blt (mg : Str -> Option Value) : Prop where
  len : mg "len" = none
  abs : mg "abs" = none
  all : mg "all" = none
  any : mg "any" = none
  max : mg "max" = none
  min : mg "min" = none
  sorted : mg "sorted" = none
  isinstance : mg "isinstance" = none
  int : mg "int" = none
  bool : mg "bool" = none
  str : mg "str" = none
  list : mg "list" = none
  tuple : mg "tuple" = none
  range : mg "range" = none
section
variable {X : Cx}
end
noncomputable def Kn (P : Program) (w : World) (K : PySem.W.Frag) (mg : Str -> Option Value) (base : Heap) (k : Nat) (x : Str) (ps : List Str) (sp : Sp) : Prop :=
  ∃ (f : Addr) (fd : FuncData), FnOk P w K mg base CX0 k f fd ps sp /\ mg x = some (.ref f) /\ PySem.W.keepIn K (.ref f) = true /\ Binds K fd ps []
theorem pe_kn {X : Cx} {k : Nat} {x : Str} {ps : List Str} {sp : Sp} {e : Expr} {es : List Expr} {t : TA} {p pos : Pos} (G : Kn X.prog X.w X.K X.mg X.base k x ps sp) (hr : Room k X.A) (ha : PA X (e :: es) t) (hg : Gl X x := by rfl)
    (hdb : (x == ("__debug__" : Str)) = false := by decide) (hs : starEach (e :: es) X.env = (false, eval e X.env) :: starEach es X.env := by rfl) (hplain : (backTo pos (starEach es X.env)).any (·.1) = false := by rfl) :
    PE X (.Call (.Name x p) (e :: es) [] pos) (tCall sp [] E0 t) := by
  obtain ⟨f, fd, F, hm, hk, hb⟩ := G
  exact pe_call F hr hg hm hk hb .nil pass0 ha hdb hs hplain
noncomputable def CpOk (XN fs : List Str) : List Str -> List (Option Nat) -> Prop
  | [], [] => True
  | _ :: N, none :: c => CpOk XN fs N c
  | x :: N, some j :: c => XN[j]? = some x /\ x ∈ fs /\ CpOk XN fs N c
  | _, _ => False
theorem CpOk.len {XN fs : List Str} : ∀ {N : List Str} {c : List (Option Nat)}, CpOk XN fs N c -> c.length = N.length
  | [], [], _ => rfl
  | _ :: N, none :: c, h => congrArg (· + 1) (CpOk.len (N := N) (c := c) h)
  | _ :: N, some j :: c, h => congrArg (· + 1) (CpOk.len (N := N) (c := c) h.2.2)
  | [], _ :: _, h => h.elim
  | _ :: _, [], h => h.elim
theorem CpOk.cp {XN fs : List Str} : ∀ {N : List Str} {c : List (Option Nat)}, CpOk XN fs N c -> ∀ (i j : Nat) (x : Str), N[i]? = some x -> c[i]? = some (some j) -> XN[j]? = some x /\ x ∈ fs
  | [], [], _, i, j, x, h1, _ => by simp at h1
  | y :: N, none :: c, h, i, j, x, h1, h2 => by
    cases i with
    | zero => simp at h2
    | succ i => exact CpOk.cp (N := N) (c := c) h i j x (by simpa using h1) (by simpa using h2)
  | y :: N, some k :: c, h, i, j, x, h1, h2 => by
    cases i with
    | zero =>
      simp at h1 h2
      subst h1 h2
      exact ⟨h.1, h.2.1⟩
    | succ i => exact CpOk.cp (N := N) (c := c) h.2.2 i j x (by simpa using h1) (by simpa using h2)
  | [], _ :: _, h, _, _, _, _, _ => h.elim
  | _ :: _, [], h, _, _, _, _, _ => h.elim
theorem cp_mk {X : Cx} {scope : Scope} {N : List Str} {cap : List (Option Nat)} (fs : List Str) (kind : scope.kind = .function) (nocell : ∀ y ∈ scope.names, y.2 ≠ .cell) (nm : ∀ y ∈ scope.names, y.2 = .local -> scope.names.lookup y.1 = some .local)
    (nolf : ∀ y ∈ scope.names, y.2 = .free -> scope.names.lookup y.1 ≠ some .local) (hf : ∀ y ∈ scope.names, y.2 = .free -> y.1 ∈ fs) (hfs : ∀ x ∈ fs, (x, NameKind.free) ∈ scope.names) (hk : ∀ x ∈ fs, X.env.kindOf x = some .cell \/ X.env.kindOf x = some .free) (cp : CpOk X.N fs N cap) : CpScope X scope N cap where
  kind := kind
  nocell := nocell
  nm := nm
  fr := fun y hy e => hk _ (hf y hy e)
  rl := fun y h => by
    have go : ∀ k, (k = NameKind.cell \/ k = NameKind.free) -> (relabel scope X.env).names.lookup y = some k -> (y, NameKind.free) ∈ scope.names := fun k hk e => by
      obtain ⟨⟨n', k'⟩, hm1, hm2⟩ := List.mem_map.mp (mem_look e)
      dsimp only at hm2
      split at hm2
      · rename_i hc
        cases hm2
        have : k' = .free := by
          simp only [Bool.and_eq_true] at hc
          simpa using hc.1.1
        subst this
        exact hm1
      · cases hm2
        rcases hk with rfl | rfl
        · exact absurd rfl (nocell _ hm1)
        · exact hm1
    rcases h with h | h
    · exact go _ (.inl rfl) h
    · exact go _ (.inr rfl) h
  len := cp.len
  nolf := fun x hx => nolf (x, .free) hx rfl
  cp := fun i j x h1 h2 => by
    obtain ⟨a, b⟩ := cp.cp i j x h1 h2
    exact ⟨a, hfs x b⟩
inductive Kd where
  | non | bl | int | str | lst | tup
  deriving DecidableEq
noncomputable def Kd.ty : Kd -> Value
  | .non => .type "NoneType" | .bl => .type "bool" | .int => .type "int" | .str => .type "str" | .lst => .type "list" | .tup => .type "tuple"
noncomputable def IsKd (H : Hp) (x : V) : Kd -> Prop
  | .non => x = .non
  | .bl => ∃ b, x = .bl b
  | .int => ∃ i, x = .int i
  | .str => ∃ s, x = .str s
  | .lst => ∃ a xs, x = .ref a /\ H a = some (.lst xs)
  | .tup => ∃ a xs, x = .ref a /\ H a = some (.tup xs)
theorem IsKd.tyOf {K : PySem.W.Frag} {H : Hp} {x : V} {k : Kd} (h : IsKd H x k) : TyOf K H x k.ty := by
  cases k with
  | non => cases h; exact .non
  | bl => obtain ⟨b, rfl⟩ := h; exact .bl b
  | int => obtain ⟨b, rfl⟩ := h; exact .int b
  | str => obtain ⟨b, rfl⟩ := h; exact .str b
  | lst => obtain ⟨a, xs, rfl, e⟩ := h; exact .lst e
  | tup => obtain ⟨a, xs, rfl, e⟩ := h; exact .tup e
theorem kit_int {K : PySem.W.Frag} (k : Kd) : PySem.W.kitOne K k.ty (.type "int") = some (decide (k = .int \/ k = .bl)) := by cases k <;> rfl
theorem kit_bool {K : PySem.W.Frag} (k : Kd) : PySem.W.kitOne K k.ty (.type "bool") = some (decide (k = .bl)) := by cases k <;> rfl
theorem kit_tuple {K : PySem.W.Frag} (k : Kd) : PySem.W.kitOne K k.ty (.type "tuple") = some (decide (k = .tup)) := by cases k <;> rfl
theorem kit_list {K : PySem.W.Frag} (k : Kd) : PySem.W.kitOne K k.ty (.type "list") = some (decide (k = .lst)) := by cases k <;> rfl
end L2
set_option Elab.async false
set_option linter.all false
set_option maxRecDepth 100000
set_option maxHeartbeats 4000000
namespace L2
open PySem PySem.Spec PyProof.Rows
section
variable {prog : Program} {w : World} {A : Around} {E : Value -> Shared -> Prop} {s : Shared}
end
theorem bt_enumerate : bootBuiltins "enumerate" = some (.type "enumerate") := by decide +kernel
section
variable {X : Cx}
end
end L2
set_option Elab.async false
set_option linter.all false
set_option maxRecDepth 100000
set_option maxHeartbeats 4000000
namespace L2
open PySem PySem.Spec PyProof.Rows
section
variable {prog : Program} {w : World} {A : Around} {E : Value -> Shared -> Prop} {s : Shared}
end
section
variable {X : Cx}
end
end L2
set_option Elab.async false
set_option linter.all false
set_option maxRecDepth 100000
set_option maxHeartbeats 4000000
namespace L2
open PySem PySem.Spec PyProof.Rows
section
variable {prog : Program} {w : World} {A : Around} {R : Result -> Shared -> Prop} {s : Shared}
end
end L2
set_option Elab.async false
set_option linter.all false
set_option maxRecDepth 100000
set_option maxHeartbeats 4000000
namespace L2
open PySem PySem.Spec PyProof.Rows
open PySem.SeqAt
open PySem.AutoSeq1 (wpAny_loadPart')
open PySem.MeetsSeq PySem.MeetsSeq2 PySem.MeetsSeq3 PySem.SeqAt
section
variable {prog : Program} {w : World} {A : Around} {E : Value -> Shared -> Prop} {s : Shared}
end
section
variable {X : Cx}
theorem op_fdivW : OpR X (binaryOp .FloorDiv) (rI (fun _ j => 0 < j /\ j < 18446744073709551616) fun i j => .int (i / j)) := opI fun i j _ _ _ _ _ hc q => by
  have h1 : (0 : Int) < j := hc.1
  have h2 : j < 18446744073709551616 := hc.2
  refine floordiv_int (by omega) (by rw [Int.fdiv_eq_ediv_of_nonneg i (by omega)]; exact q) (.inl (PyProof.noPylong_of_log2 ?_))
  exact Nat.lt_of_lt_of_le ((Nat.log2_lt (by omega)).mpr (show j.natAbs < 2 ^ 64 by omega)) (by decide)
end
end L2
set_option Elab.async false
set_option linter.all false
set_option maxRecDepth 100000
set_option maxHeartbeats 4000000
namespace L2
open PySem PySem.Spec PyProof.Rows
noncomputable def Its (x : Str) : It := ⟨fun i _ => i < x.cps.size, fun i H v H' => H' = H /\ ∃ c, x.cps[i]? = some c /\ v = .str ⟨#[c]⟩, fun i _ => i = x.cps.size⟩
theorem turn_str {P : Program} {w : World} {K : PySem.W.Frag} {tg : Expr} (x : Str) (t : Tok) (it : Addr) : Turn P w K tg (Its x) [it] it (fun i h => h.IsStrIter it "str_ascii_iterator" x t i) where
  mem := by simp
  obj := fun i h st b hb => by
    have e : b = it := by simpa using hb
    subst e
    obtain ⟨o, e, c, d⟩ := st
    exact ⟨o, e, fun v z => by rw [d] at z; cases z⟩
  keep := fun i h h' st k => let ⟨o, ho, r⟩ := st; ⟨o, k it (by simp) o ho, r⟩
  item := by
    intro X hP hw hK hc i pins s σ H E I hf st hg
    subst hP hw hK
    obtain ⟨f0, f1, f2, f3, f4, f5⟩ := hf it (by simp)
    have W := Walks.strAscii (prog := X.prog) (w := X.w) (I.ok.hd hc) it x t
    refine W.item i s _ _ hg st fun v h' tk hv st' kk => ?_
    obtain ⟨c, u, hcx, rfl⟩ := hv
    have I1 : Inv X pins σ H { s with heap := h', toks := tk } := I.turned (fun b o hb e => kk b o (by simpa using hb) e) f0 f1 f3 f4 f5
    obtain ⟨o, e, cc, d⟩ := id st'
    exact ⟨_, rfl, go_of (s := { s with heap := h', toks := tk }) e cc d (by decide) ⟨.str ⟨#[c]⟩, H, I1, ⟨u, rfl⟩, ⟨rfl, c, hcx, rfl⟩, st', fun b hb => (hf b hb).1⟩⟩
  done := by
    intro X hP hw hK hc i pins s σ H E I hf st hg
    subst hP hw hK
    obtain ⟨f0, f1, f2, f3, f4, f5⟩ := hf it (by simp)
    have hg : i = x.cps.size := hg
    subst hg
    have W := Walks.strAscii (prog := X.prog) (w := X.w) (I.ok.hd hc) it x t
    exact W.done s _ _ st fun h' tk kk => ⟨rfl, I.turned (fun b o hb e => kk b o (by simpa using hb) e) f0 f1 f3 f4 f5⟩
  self := fun _ _ _ _ _ st h => wpAny_pyIter_striter_ascii st h
section
variable {X : Cx} {tg : Expr}
noncomputable def iStr (tl : TE) : TI := fun σ H R => tl σ H fun x H1 => ∃ y : Str, x = .str y /\ y.cps.all (· < 128) = true /\ R (Its y) H1
theorem pi_str {l : Expr} {tl : TE} (hl : PE X l tl) : PI X tg l (iStr tl) := by
  intro pins s σ H R I h
  refine thn (hl pins s σ H _ I h) fun v s1 ⟨x, H1, I1, r1, q1⟩ => ?_
  obtain ⟨y, e, ha, q⟩ := q1
  subst e
  obtain ⟨t, rfl⟩ := r1
  refine wpAny_pyIter_ascii ha ?_
  refine ⟨s1.heap.objs.size, [s1.heap.objs.size], _, _, H1, rfl, I1.kept (t' := s1.toks) fun b o e => Heap.get?_push_of_some _ e, turn_str y t _, ⟨_, Heap.get?_push_size _ rfl, rfl, rfl⟩, fun b hb => ?_, q⟩
  have e : b = s1.heap.objs.size := by simpa using hb
  subst e
  exact I1.fpOk (Nat.le_refl _) (I1.hok.fresh (Nat.le_refl _))
end
end L2
set_option Elab.async false
set_option linter.all false
set_option maxRecDepth 100000
set_option maxHeartbeats 4000000
namespace L2
open PySem PySem.Spec PyProof.Rows
section
variable {κ : Type} [DecidableEq κ]
end
section
variable {P : Program} {w : World} {H : Hp} {h : Heap} {a : Addr}
end
section
variable {X : Cx} {pins : List (Addr × Obj)} {σ : St} {H : Hp} {s : Shared} {a : Addr} {y v : V} {u r : Value} {o : Option V} {A : Around} {E : Value -> Shared -> Prop}
end
section
variable {X : Cx} {pins : List (Addr × Obj)} {σ : St} {H : Hp} {s : Shared} {a : Addr} {kvs : List (Key × V)} {k : Key} {u : Value} {A : Around} {E : Value -> Shared -> Prop}
end
section
variable {X : Cx} {o i e value : Expr} {pos pos' tpos : Pos} {td ty tv : TE}
end
section
variable {X : Cx} {pos : Pos}
end
structure M1 (X : Cx) (o : Expr) (m : Str) (apos : Pos) (e : Expr) (cpos : Pos) : Prop where
  base : attributeBase o m X.env (eval o X.env) = eval o X.env
  few : ((backTo cpos (starEach [e] X.env)).all (fun x => !x.1) && (backToKw cpos (keywordEach [] X.env)).all (fun x => x.1.isSome)
    && decide (([e] : List Expr).length + ([] : List Keyword).length + (if ([] : List Keyword).isEmpty then 0 else 1) < 30)) = true
  line : (apos.endLine == cpos.line) = true
  trees : backTo cpos (starEach [e] X.env) = [(false, eval e X.env)]
structure M2 (X : Cx) (o : Expr) (m : Str) (apos : Pos) (e f : Expr) (cpos : Pos) : Prop where
  base : attributeBase o m X.env (eval o X.env) = eval o X.env
  few : ((backTo cpos (starEach [e, f] X.env)).all (fun x => !x.1) && (backToKw cpos (keywordEach [] X.env)).all (fun x => x.1.isSome)
    && decide (([e, f] : List Expr).length + ([] : List Keyword).length + (if ([] : List Keyword).isEmpty then 0 else 1) < 30)) = true
  line : (apos.endLine == cpos.line) = true
  trees : backTo cpos (starEach [e, f] X.env) = [(false, eval e X.env), (false, eval f X.env)]
section
variable {X : Cx} {pins : List (Addr × Obj)} {σ : St} {H : Hp} {s : Shared} {a : Addr} {y d : V} {u r : Value} {o : Option V} {A : Around} {E : Value -> Shared -> Prop}
end
section
variable {X : Cx} {o e f : Expr} {apos cpos : Pos} {td ty tx : TE}
end
section
variable {X : Cx} {pins : List (Addr × Obj)} {σ : St} {H : Hp} {s : Shared} {a : Addr} {kvs : List (Key × V)} {A : Around} {E : Value -> Shared -> Prop}
end
section
variable {X : Cx} {pins : List (Addr × Obj)} {σ : St} {H : Hp} {s : Shared} {a : Addr} {y : V} {u : Value} {A : Around} {E : Value -> Shared -> Prop}
end
end L2
set_option Elab.async false
set_option linter.all false
set_option maxRecDepth 100000
set_option maxHeartbeats 4000000
namespace L2
open PySem PySem.Spec PyProof.Rows
section
variable {X : Cx}
end
end L2
set_option Elab.async false
set_option linter.all false
set_option maxRecDepth 100000
set_option maxHeartbeats 4000000
namespace L2
open PySem PySem.Spec PyProof.Rows
section
variable {P : Program} {w : World} {A : Around} {E : Value -> Shared -> Prop} {s : Shared} {it d : Addr} {i ep : Nat} {es : Array DictEntry} {o : Obj} {k0 v0 : Value}
end
section
variable {X : Cx}
end
end L2
set_option Elab.async false
set_option linter.all false
set_option maxRecDepth 100000
set_option maxHeartbeats 4000000
namespace L2
open PySem PySem.Spec PyProof.Rows
section
variable {X : Cx}
end
end L2
set_option Elab.async false
set_option linter.all false
set_option maxRecDepth 100000
set_option maxHeartbeats 4000000
namespace L2
open PySem PySem.Spec PyProof.Rows
noncomputable def C0 (e : Addr) (h : Heap) : Prop := ∃ o vs, h.get? e = some o /\ o.data = .fields vs /\ vs[2]? = some .none /\ o.dict = none
noncomputable def Kp2 (e : Addr) {α : Type} (m : Sem α) : Prop := ∀ (M : Model) (Γ : PySem.Ctx) (Q : α -> Pos -> Shared -> Prop) (E : Value -> Pos -> Shared -> Prop) (p : Pos) (s : Shared), Sem.wp M Γ m Q E p s -> C0 e s.heap -> Sem.wp M Γ m (fun a p s => Q a p s /\ C0 e s.heap) (fun v p s => E v p s /\ C0 e s.heap) p s
section
variable {e : Addr} {α β : Type}
theorem Kp2.bind {m : Sem α} {f : α -> Sem β} (h1 : Kp2 e m) (h2 : ∀ a, Kp2 e (f a)) : Kp2 e (m >>= f) := by
  intro M Γ Q E p s h c
  rw [Sem.wp_bind'] at h ⊢
  exact Sem.wp_mono M Γ m (fun a p' s' z => h2 a M Γ Q E p' s' z.1 z.2) (fun _ _ _ z => z) p s (h1 M Γ _ _ p s h c)
theorem Kp2.pure (a : α) : Kp2 e (pure a : Sem α) := fun M Γ Q E p s h c => by rw [Sem.wp_pure'] at h ⊢; exact ⟨h, c⟩
theorem Kp2.uns (w : String) : Kp2 e (PySem.unsupported w : Sem α) := fun M Γ Q E p s h c => by
  have h : Sem.wp M Γ (.unsupported w : Sem α) Q E p s := h
  rw [Sem.wp_unsupported] at h; exact h.elim
theorem Kp2.load (a : Addr) : Kp2 e (PySem.load a) := fun M Γ Q E p s h c => by
  have h : Sem.wp M Γ (.load a none .pure) Q E p s := h
  show Sem.wp M Γ (.load a none .pure) _ _ p s
  rw [Sem.wp_load] at h ⊢
  obtain ⟨o, ho, h⟩ := h
  rw [Sem.wp_pure] at h
  exact ⟨o, ho, by rw [Sem.wp_pure]; exact ⟨h, c⟩⟩
theorem C0.update {h : Heap} {a : Addr} {f : Obj -> Obj} (c : C0 e h) (hf : ∀ o vs, o.data = .fields vs -> vs[2]? = some .none -> ∃ ws, (f o).data = .fields ws /\ ws[2]? = some .none /\ (f o).dict = o.dict) : C0 e (h.update a f) := by
  obtain ⟨o, vs, h1, h2, h3, h4⟩ := c
  by_cases z : a = e
  · subst z
    obtain ⟨ws, w1, w2, w3⟩ := hf o vs h2 h3
    exact ⟨f o, ws, Heap.get?_update_self f h1 (Obj.isFreed_of_fields w1), w1, w2, w3.trans h4⟩
  · exact ⟨o, vs, by rw [Heap.get?_update_other _ _ z]; exact h1, h2, h3, h4⟩
theorem Kp2.update (a : Addr) (f : Obj -> Obj) (hf : ∀ o vs, o.data = .fields vs -> vs[2]? = some .none -> ∃ ws, (f o).data = .fields ws /\ ws[2]? = some .none /\ (f o).dict = o.dict) : Kp2 e (PySem.update a f) := fun M Γ Q E p s h c => by
  have h : Sem.wp M Γ (.update a none f .pure) Q E p s := h
  show Sem.wp M Γ (.update a none f .pure) _ _ p s
  rw [Sem.wp_update] at h ⊢
  obtain ⟨ho, h⟩ := h
  rw [Sem.wp_pure] at h
  exact ⟨ho, by rw [Sem.wp_pure]; exact ⟨h, c.update hf⟩⟩
theorem Kp2.alloc (o : Obj) : Kp2 e (PySem.alloc o) := fun M Γ Q E p s h c => by
  have h : Sem.wp M Γ (.alloc o .pure) Q E p s := h
  show Sem.wp M Γ (.alloc o .pure) _ _ p s
  rw [Sem.wp_alloc, Sem.wp_pure] at h ⊢
  obtain ⟨ob, vs, h1, h2, h3, h4⟩ := c
  exact ⟨h, ob, vs, Heap.get?_push_of_some _ h1, h2, h3, h4⟩
theorem Kp2.stack : Kp2 e PySem.stack := fun M Γ Q E p s h c => by
  have h : Sem.wp M Γ (.stack .pure) Q E p s := h
  show Sem.wp M Γ (.stack .pure) _ _ p s
  rw [Sem.wp_stack, Sem.wp_pure] at h ⊢
  exact ⟨h, c⟩
theorem Kp2.ite {c : Prop} [Decidable c] {a b : Sem α} (h1 : Kp2 e a) (h2 : Kp2 e b) : Kp2 e (if c then a else b) := by
  split
  · exact h1
  · exact h2
theorem Kp2.field (v : Value) (i : Nat) : Kp2 e (PySem.field v i) := by
  unfold PySem.field PySem.fieldsOf
  refine Kp2.bind ?_ fun vs => ?_
  · split
    · refine Kp2.bind (Kp2.load _) fun o => ?_
      split
      · exact Kp2.pure _
      · exact Kp2.uns _
    · exact Kp2.uns _
  · split
    · exact Kp2.pure _
    · exact Kp2.uns _
theorem Kp2.setField (v x : Value) (i : Nat) (hi : i ≠ 2) : Kp2 e (PySem.setField v i x) := by
  unfold PySem.setField PySem.updateField
  split
  · refine Kp2.bind (Kp2.load _) fun o => ?_
    split
    · refine Kp2.ite (Kp2.update _ _ fun o vs h1 h2 => ⟨_, Obj.data_mapFields h1 _, ?_, ?_⟩) (Kp2.uns _)
      · rw [Array.getElem?_setIfInBounds_ne hi]; exact h2
      · unfold Obj.mapFields; split <;> rfl
    · exact Kp2.uns _
  · exact Kp2.uns _
theorem Kp2.frameEnvs : Kp2 e PySem.frameEnvs := by
  unfold PySem.frameEnvs
  exact Kp2.bind Kp2.stack fun _ => Kp2.pure _
theorem Kp2.behind (env : Env) (outer : List Env) : Kp2 e (behindIsImport env outer) := by
  unfold behindIsImport
  refine Kp2.ite (Kp2.pure _) (Kp2.ite (Kp2.pure _) (Kp2.bind (Kp2.field _ _) fun _ => Kp2.pure _))
theorem Kp2.under : Kp2 e underTheClaimsCaller := by
  unfold underTheClaimsCaller
  exact Kp2.bind Kp2.stack fun _ => Kp2.pure _
theorem Kp2.kept (env : Env) (b : Bool) (l : List Env) : Kp2 e (keptBack env b l) := by
  unfold keptBack
  split
  · refine Kp2.ite (Kp2.pure _) (Kp2.bind Kp2.under fun _ => Kp2.pure _)
  · exact Kp2.pure _
theorem Kp2.ready : ∀ (l : List Env), Kp2 e (readyFrames l)
  | [] => Kp2.pure _
  | env :: outer => by
    unfold readyFrames
    split
    · refine Kp2.bind (Kp2.load _) fun o => ?_
      refine Kp2.ite (Kp2.pure _) ?_
      refine Kp2.bind (Kp2.behind _ _) fun _ => Kp2.bind (Kp2.kept _ _ _) fun _ => Kp2.bind (Kp2.update _ _ fun o vs h1 h2 => ⟨vs, h1, h2, rfl⟩) fun _ => Kp2.ready outer
    · exact Kp2.uns _
theorem Kp2.frameOf (env : Env) : Kp2 e (PySem.frameOf env) := by
  unfold PySem.frameOf
  refine Kp2.bind Kp2.frameEnvs fun l => Kp2.bind ?_ fun _ => ?_
  · unfold frameObject
    split
    · exact Kp2.pure _
    · exact Kp2.bind (Kp2.ready _) fun _ => Kp2.pure _
  · split
    · exact Kp2.pure _
    · exact Kp2.uns _
theorem Kp2.place (f : Addr) (b : Bool) : Kp2 e (entryPlaceOf f b) := by
  unfold entryPlaceOf
  refine Kp2.bind Kp2.stack fun _ => ?_
  split
  · exact Kp2.pure _
  · exact Kp2.pure _
theorem Kp2.entry (a b c d f : Value) (l : List Value) : Kp2 e (EntryCells.newEntry a b c d f l) := by
  unfold EntryCells.newEntry newFields newObj
  repeat (first | exact Kp2.pure _ | exact Kp2.uns _ | refine Kp2.bind (Kp2.alloc _) fun _ => ?_ | refine Kp2.bind (Kp2.uns _) fun _ => ?_ | refine Kp2.ite ?_ ?_ | (refine Kp2.bind ?_ fun _ => ?_))
theorem Kp2.flight (v : Value) (f : Option Addr) : Kp2 e (setFlight v f) := by
  unfold setFlight
  refine Kp2.bind (Kp2.field _ _) fun _ => Kp2.ite (Kp2.setField _ _ _ (by decide)) (Kp2.pure _)
theorem Kp2.note (v : Value) (env : Env) : Kp2 e (noteFrame v env) := by
  unfold noteFrame
  split
  · refine Kp2.bind (Kp2.field _ _) fun h => Kp2.ite ?_ ?_
    · refine Kp2.bind (Kp2.field _ _) fun _ => Kp2.ite (Kp2.pure _) ?_
      refine Kp2.bind (Kp2.setField _ _ _ (by decide)) fun _ => Kp2.bind (Kp2.frameOf _) fun _ => Kp2.bind (Kp2.place _ _) fun _ => Kp2.bind (Kp2.entry _ _ _ _ _ _) fun _ => Kp2.setField _ _ _ (by decide)
    · refine Kp2.bind (Kp2.frameOf _) fun _ => Kp2.bind (Kp2.place _ _) fun _ => Kp2.bind (Kp2.entry _ _ _ _ _ _) fun _ => Kp2.setField _ _ _ (by decide)
  · exact Kp2.uns _
theorem Kp2.leave (v : Value) (env : Env) : Kp2 e (leaving env v) := by
  unfold leaving
  exact Kp2.bind (Kp2.note _ _) fun _ => Kp2.flight _ _
theorem Kp2.any {m : Sem α} {M : Model} {A : Around} {Q : α -> Shared -> Prop} {E : Value -> Shared -> Prop} {s : Shared} (k : Kp2 e m) (h : wpAny M A m Q E s) (c : C0 e s.heap) : wpAny M A m (fun a s' => Q a s' /\ C0 e s'.heap) (fun v s' => E v s' /\ C0 e s'.heap) s :=
  fun Γ p hΓ => k M Γ _ _ p s (h Γ p hΓ) c
end
end L2
set_option Elab.async false
set_option linter.all false
set_option maxRecDepth 100000
set_option maxHeartbeats 4000000
namespace L2
open PySem PySem.Spec PyProof.Rows
theorem ObjOk.here {P : Program} {w : World} {H : Hp} {h : Heap} {a : Addr} {o : HO} (x : ObjOk P w H h a o) : ∃ ob, h.get? a = some ob := by
  cases o with
  | lst xs => obtain ⟨_, _, _, _, e⟩ := x; exact ⟨_, e⟩
  | tup xs => obtain ⟨_, _, _, p⟩ := x; obtain ⟨o, e, _⟩ := p; exact ⟨_, e⟩
  | dK kvs => obtain ⟨_, _, _, _, o, _, _, e, _⟩ := x; exact ⟨_, e⟩
  | dT kvs => obtain ⟨_, _, _, _, o, _, _, e, _⟩ := x; exact ⟨_, e⟩
  | set S n => obtain ⟨o, _, _, _, e, _⟩ := x; exact ⟨_, e⟩
  | ins C dx fs => obtain ⟨_, _, _, e, _⟩ := x; exact ⟨_, e⟩
  | own y => exact x
  | xd fs => obtain ⟨_, ⟨_, _, _, e, _⟩, _⟩ := x; exact ⟨_, e⟩
  | rng lo hi => obtain ⟨_, _, _, e⟩ := x; exact ⟨_, e⟩
  | frz ob u => obtain ⟨e, _⟩ := x; exact ⟨_, e⟩
  | tbl ps => exact ⟨_, (show h.get? a = some _ from x)⟩
  | met f y => exact ⟨_, (show h.get? a = some _ from x)⟩
  | ext φ => obtain ⟨_, ⟨o, e⟩, _⟩ := x; exact ⟨_, e⟩
structure Fly (l : List Env) (g : Heap) (pn : List (Addr × Obj)) (H : Hp) (e : Addr) (cls : Value) (h : Heap) : Prop where
  ex : ∃ (B : Heap) (a0 : Value), Heap.FlyingW B l e cls a0 h /\ (∀ a u, H a = some u -> ∃ o, B.get? a = some o) /\ (∀ b o, g.get? b = some o -> b ∉ frs l -> ∃ o', B.get? b = some o') /\ (∀ p ∈ pn, ∃ o', B.get? p.1 = some o') /\ C0 e h
structure Made (X : Cx) (H : Hp) (e : Addr) (cls : Value) (g : Heap) (h : Heap) : Prop where
  ex : ∃ (g' : Heap) (vs : List Value), Heap.MadeExcOf g' h e cls vs /\ g'.FunFrames X.base X.stack /\ (∀ a u, H a = some u -> ∃ o, g'.get? a = some o) /\ (∀ b o, g.get? b = some o -> ∃ o', g'.get? b = some o') /\ (∀ p ∈ X.pn, ∃ o', g'.get? p.1 = some o')
theorem made_C0 {g h : Heap} {e : Addr} {cls : Value} {vs : List Value} (M : Heap.MadeExcOf g h e cls vs) : C0 e h := by
  obtain ⟨t, he, _⟩ := M.there
  exact ⟨_, _, he, rfl, rfl, rfl⟩
noncomputable def Raised (X : Cx) (H : Hp) (e : Addr) (cls : Value) (s' : Shared) : Prop := Made X H e cls X.s₀.heap s'.heap \/ Fly X.stack X.s₀.heap X.pn H e cls s'.heap
section
variable {X : Cx} {pins : List (Addr × Obj)} {σ : L2.St} {H : Hp} {s' : Shared} {e : Addr} {cls : Value}
theorem fly_core (I : Inv X pins σ H s') (hex : X.ex = []) {B h' : Heap} (k1 : B.StaysIn s'.heap) (k2 : B.StaysIn h') (up : s'.heap.UpToSlots h') (c1 : ∀ a u, H a = some u -> ∃ o, B.get? a = some o) (c2 : ∀ b o, X.s₀.heap.get? b = some o -> b ∉ X.fs -> ∃ o', B.get? b = some o') :
    Un X.fs [] X.H₀ H X.s₀.heap h' /\ HOk X.prog X.w H h' := by
  have nx : ∀ b : Addr, b ∉ X.ex := fun b z => by rw [hex] at z; cases z
  have cov : ∀ b o o', B.get? b = some o' -> s'.heap.get? b = some o -> h'.get? b = some o := fun b o o' eb es => by
    have := k1 b o' eb
    rw [es] at this; cases this
    exact k2 b o eb
  have slot : ∀ b o, X.s₀.heap.get? b = some o -> X.H₀ b = none -> b ∈ X.fs -> ∃ sl, h'.get? b = some { o with slots := sl } := fun b o q n hb => by
    obtain ⟨sl, e1⟩ := I.base.slot b o q n hb (nx b)
    obtain ⟨_, o2, q2, d2⟩ := I.ok.funs.mem hb
    rw [q] at q2; cases q2
    obtain ⟨sl', e2⟩ := up b _ e1 d2
    exact ⟨sl', e2⟩
  refine ⟨⟨fun b o q n hb _ => ?_, fun b o q n hb _ => slot b o q n hb, fun b o q n _ => I.base.free b o q n (nx b), fun b o q _ => ?_, I.base.tups, I.base.frzs, I.base.tbls⟩, fun a u ea => ?_⟩
  · obtain ⟨o', eb⟩ := c2 b o q hb
    exact cov b o o' eb (I.base.keep b o q n hb (nx b))
  · by_cases hb : b ∈ X.fs
    · obtain ⟨sl, z⟩ := slot b o q (I.ok.frf b hb) hb
      exact ⟨_, z⟩
    · obtain ⟨o', eb⟩ := c2 b o q hb
      exact ⟨o', k2 b o' eb⟩
  · refine (I.hok a u ea).stay (fun b v hb q => ?_) (fun _ q => q) fun _ _ q => q
    rcases hb with z | z
    · subst z
      obtain ⟨o', eb⟩ := c1 _ u ea
      exact cov _ v o' eb q
    · obtain ⟨o', eb⟩ := c1 b _ z
      exact cov b v o' eb q
theorem leave_pass (I : Inv X pins σ H s') (hst : X.stack = X.env :: X.outer) (hf : X.env.frame = some X.env.locals) (hex : X.ex = []) (R : Raised X H e cls s') {Q : Shared -> Prop} {E : Value -> Shared -> Prop}
    (hQ : ∀ h', Un X.fs [] X.H₀ H X.s₀.heap h' -> HOk X.prog X.w H h' -> Fly X.outer X.s₀.heap [] H e cls h' -> Q { s' with heap := h' }) : wpAny (model X.prog X.w) X.A (leaving X.env (.ref e)) (fun _ s'' => Q s'') E s' := by
  have hfr : X.A.frames = some (X.env :: X.outer) := by rw [<- hst]; exact I.ok.frames
  have nl : ∀ b o, X.s₀.heap.get? b = some o -> b ∉ X.fs -> b ∉ frs (X.env :: X.outer) := fun b o q hb z => by
    unfold frs at z
    rw [List.filterMap_cons, hf] at z
    rcases List.mem_cons.mp z with z | z
    · rw [z] at q
      exact absurd (Nat.lt_of_lt_of_le (Heap.lt_size q) I.ok.above) (Nat.lt_irrefl _)
    · exact hb z
  rcases R with ⟨g', vs, M, ffg, m1, m2, _⟩ | ⟨B, a0, F, c1, c2, _, k0⟩
  ·
    rw [hst] at ffg
    have hin : ∀ env ∈ (X.env :: X.outer), ∀ b, env.frame = some b -> b ∈ frs (X.env :: X.outer) := fun env he b hb => List.mem_filterMap.mpr ⟨env, he, hb⟩
    refine wpAny_mono (Kp2.any (e := e) (Kp2.leave _ _) (wpAny_leaves_madeW (Q := fun _ s'' => ∃ h' t, s'' = { s' with heap := h' } /\ Heap.FlyingW (PySem.W.hideAll g' (frs (X.env :: X.outer))) X.outer e cls (.ref t) h' /\ s'.heap.UpToSlots h') (E := fun _ _ => False) (base := PySem.W.hideAll g' (frs (X.env :: X.outer))) hfr hf (fun b o q => PySem.W.of_hideAll _ q) (PySem.W.funFrames_hide ffg hin) M fun h' t x1 x2 x3 x4 => ⟨h', t, rfl, x1, x4⟩) (made_C0 M)) (fun _ s'' z => ?_) fun _ _ z => z.1.elim
    obtain ⟨⟨h', t, rfl, x1, x4⟩, k0⟩ := z
    have k1 : (PySem.W.hideAll g' (frs (X.env :: X.outer))).StaysIn s'.heap := fun b o q => M.keeps b o (PySem.W.of_hideAll _ q)
    have c1 : ∀ a u, H a = some u -> ∃ o, (PySem.W.hideAll g' (frs (X.env :: X.outer))).get? a = some o := fun a u ea => by
      obtain ⟨o, q⟩ := m1 a u ea
      refine ⟨o, PySem.W.hideAll_get _ q fun z => ?_⟩
      rw [<- hst] at z
      rw [I.stkFree a z] at ea; cases ea
    have c2 : ∀ b o, X.s₀.heap.get? b = some o -> b ∉ X.fs -> ∃ o', (PySem.W.hideAll g' (frs (X.env :: X.outer))).get? b = some o' := fun b o q hb => by
      obtain ⟨o', q'⟩ := m2 b o q
      exact ⟨o', PySem.W.hideAll_get _ q' (nl b o q hb)⟩
    obtain ⟨un, hok⟩ := fly_core I hex k1 x1.1 x4 c1 c2
    exact hQ h' un hok ⟨_, _, x1, c1, fun b o q hb => c2 b o q hb, fun p hp => absurd hp (by simp), k0⟩
  · rw [hst] at F c2
    refine wpAny_mono (Kp2.any (e := e) (Kp2.leave _ _) (wpAny_leaves_onW (Q := fun _ s'' => ∃ h', s'' = { s' with heap := h' } /\ Heap.FlyingW B X.outer e cls a0 h' /\ s'.heap.UpToSlots h') (E := fun _ _ => False) hfr hf F fun h' x1 x4 => ⟨h', rfl, x1, x4⟩) k0) (fun _ s'' z => ?_) fun _ _ z => z.1.elim
    obtain ⟨⟨h', rfl, x1, x4⟩, k0'⟩ := z
    have c2' : ∀ b o, X.s₀.heap.get? b = some o -> b ∉ X.fs -> ∃ o', B.get? b = some o' := fun b o q hb => c2 b o q (nl b o q hb)
    obtain ⟨un, hok⟩ := fly_core I hex F.1 x1.1 x4 c1 c2'
    exact hQ h' un hok ⟨_, _, x1, c1, c2', fun p hp => absurd hp (by simp), k0'⟩
end
noncomputable def CXA (P : Program) (w : World) : CXT := fun outer H s E e s'' => ∃ ea cls H', e = .ref ea /\ s''.os = s.os /\ AllBare s''.gens /\ Un (frs outer) [] H H' s.heap s''.heap /\ HOk P w H' s''.heap /\ Fly outer s.heap [] H' ea cls s''.heap /\ E cls none H'
section
variable {P : Program} {w : World} {K : PySem.W.Frag} {mg : Str -> Option Value} {base : Heap} {N : List Str} {qual : Str} {scope : Scope} {f : Addr} {cd : Value} {A : Around} {outer : List Env} {s : Shared} {H : Hp} {E : XK}
theorem cxa_leave {pins : List (Addr × Obj)} {σ' : L2.St} {H' : Hp} {s' : Shared} {ea : Addr} {cls : Value} (I : Inv (cxOf (CXA P w) P w K mg base N qual scope f cd A outer s H E) pins σ' H' s')
    (hf : (envOfC qual scope s.heap.objs.size f cd).frame = some (envOfC qual scope s.heap.objs.size f cd).locals)
    (R : Raised (cxOf (CXA P w) P w K mg base N qual scope f cd A outer s H E) H' ea cls s') (hE : E cls none H') : (cxOf (CXA P w) P w K mg base N qual scope f cd A outer s H E).xe (.ref ea) s' := by
  refine leave_pass I rfl hf rfl R (Q := fun s'' => CXA P w outer H s E (.ref ea) s'') fun h' un hok fl => ?_
  exact ⟨ea, cls, H', rfl, I.os, I.bare, un, hok, fl, hE⟩
noncomputable def EX (X : Cx) : XK := fun cls _ H' => X.ex = [] /\ ∀ pins σ' s' e, Inv X pins σ' H' s' -> Raised X H' e cls s' -> X.xe (.ref e) s'
theorem cxa_pass {X : Cx} (hP : X.prog = P) (hw : X.w = w) : Passes (CXA P w) X (EX X) := by
  intro pins σ H s e s' I ⟨ea, cls, H', he, os, bare, un, hok, ⟨B, a0, F, c1, c2, _, k0⟩, hE⟩
  subst he hP hw
  obtain ⟨hh, g, d, t, os'⟩ := s'
  obtain rfl : os' = s.os := os
  refine hE.2 pins σ _ ea (I.call (h' := hh) (g' := g) (d' := d) (t' := t) (ch := []) un hok bare (fun b z => absurd z (by simp))) (.inr ⟨B, a0, F, c1, fun b o q hb => ?_, fun p hp => ?_, k0⟩)
  · obtain ⟨o', q'⟩ := I.base.there b o q (by rw [hE.1]; simp)
    exact c2 b o' q' hb
  · obtain ⟨q, _, n1, n2, _⟩ := I.pin p (List.mem_append_left _ hp)
    exact c2 p.1 _ q fun z => (List.mem_cons.mp (I.stkSub _ z)).elim n1 n2
noncomputable def tRaise (X : Cx) (C : Addr) (t : TA) : TS := fun _ σ H => t σ H fun vs H' => vs.length <= sizeLine /\ EX X (.ref C) none H'
theorem ps_raise {X : Cx} {x : Str} {C : Addr} {bmB : List Value} {newId B initId : String} {e : Expr} {es : List Expr} {t : TA} {np cpos pos : Pos} (O : OwnCls x C bmB newId X.mg X.base) (FB : ExcBaseFacts B newId initId bmB) (hh : X.A.handled = none) (ha : PA X (e :: es) t) (hg : Gl X x := by rfl)
    (hs : starEach (e :: es) X.env = (false, eval e X.env) :: starEach es X.env := by rfl) (hplain : (backTo cpos (starEach es X.env)).any (·.1) = false := by rfl) (hd : (x == ("__debug__" : Str)) = false := by decide) :
    PS X (.Raise (some (.Call (.Name x np) (e :: es) [] cpos)) none pos) (tRaise X C t) := by
  intro pins s σ H D I h
  obtain ⟨tl, N, nm, q, bs, hdct, sn, sub, ab, col, dd, k0, k1, k2, k3, k5, mN, hC, hN, hni, T⟩ := O.obj
  refine wpAny_Raise_call_subU (C := C) (nm := nm) (q := q) (N := N) (bs := bs) (bm := tl) (hdct := hdct) (sn := sn) (sub := sub) (ab := ab) (col := col) (dd := dd) (k0 := k0) (k1 := k1) (k2 := k2) (k3 := k3) (k5 := k5)
    FB FB.hasB FB (mN := mN) (T.hasType FB.hasBase) hh (by rw [hs]; show (false || (backTo cpos (starEach es X.env)).any (·.1)) = false; rw [hplain]; rfl) hni (ld_glob I hg O.bound ⟨rfl, ?_⟩ hd)
  have hA := ha cpos pins s σ H _ I h
  rw [hs] at hA ⊢
  refine Calls.evalArgs_plain (thn hA fun us s2 ⟨vs, H2, I2, r2, hl, hex, q2⟩ => ?_)
  refine ⟨rfl, by rw [<- r2.length]; exact hl, I2.bk _ _ hC, hN.keeps I2.bk, T.keeps I2.bk, fun h' ea M => ?_⟩
  refine q2 pins σ { s2 with heap := h' } ea ?_ (.inl ⟨s2.heap, us, M, I2.stack, fun a u ea => ?_, fun b o q => ?_, fun p hp => ⟨_, (I2.pin p (List.mem_append_left _ hp)).1⟩⟩)
  · exact I2.kept (t' := s2.toks) M.keeps
  · exact (I2.hok a u ea).here
  · exact I2.base.there b o q (by rw [hex]; simp)
end
end L2
set_option Elab.async false
set_option linter.all false
set_option maxRecDepth 100000
set_option maxHeartbeats 4000000
namespace L2
open PySem PySem.Spec PyProof.Rows
noncomputable def tParts : List (Str ⊕ TE) -> St -> Hp -> (Hp -> Prop) -> Prop
  | [], _, H, k => k H
  | .inl x :: ps, σ, H, k => x.length <= 1000 /\ tParts ps σ H k
  | .inr t :: ps, σ, H, k => t σ H fun v H' => ∃ i, v = .int i /\ i.natAbs.log2 < 64 /\ tParts ps σ H' k
inductive FParts (X : Cx) : List Expr -> List (Str ⊕ TE) -> Prop
  | nil : FParts X [] []
  | txt {x : Str} {j pos} {es : List Expr} {ps : List (Str ⊕ TE)} (h : FParts X es ps) : FParts X (.Constant (.str x) j pos :: es) (.inl x :: ps)
  | val {e : Expr} {pos : Pos} {t : TE} {es : List Expr} {ps : List (Str ⊕ TE)} (he : PE X e t) (h : FParts X es ps) : FParts X (.FormattedValue e (-1) none pos :: es) (.inr t :: ps)
theorem fparts_run {X : Cx} {pins : List (Addr × Obj)} {σ : St} {Q : VK} : ∀ {es : List Expr} {ps : List (Str ⊕ TE)}, FParts X es ps -> ∀ (H : Hp) (s : Shared) (out : Str), Inv X pins σ H s -> out.length + 2000 * es.length <= sizeLine ->
    tParts ps σ H (fun H' => ∀ x : Str, x.length <= sizeLine -> Q (.str x) H') -> wpAny (model X.prog X.w) X.A (joinParts out (evalEach es X.env)) (EP X pins σ Q) X.xe s
  | _, _, .nil, H, s, out, I, hl, h => joinParts_nilE (joinParts_nil (show EP X pins σ Q _ _ from ⟨.str out, H, I.tok _, ⟨_, rfl⟩, h out (by simpa using hl)⟩) (by simpa using hl))
  | _, _, .txt (x := x) hp, H, s, out, I, hl, h => by
    refine joinParts_consE (joinParts_cons (Calls.Constant_str ?_))
    rw [List.length_cons] at hl
    have hx := h.1
    have hz : (out ++ x).length = out.length + x.length := strLen_append ..
    exact ⟨by rw [hz]; omega, fparts_run hp H _ _ (I.tok _) (by rw [hz]; omega) h.2⟩
  | _, _, .val (e := e) (t := t) he hp, H, s, out, I, hl, h => by
    rw [List.length_cons] at hl
    refine joinParts_consE (joinParts_cons (FormattedValue_plain (thn (he pins s σ H _ I h) fun v s1 ⟨x, H1, I1, r1, i, hx, hi, h1⟩ => ?_)))
    subst hx
    obtain ⟨tk, rfl⟩ := r1
    refine formatField_int_small (by omega) ?_
    have ht : (Str.ofString (toString i)).length <= 65 := by
      have := int_text_length_le (a := i) (k := 64) (by decide) hi
      rw [PySem.ofString_length]; exact this
    have hz : (out ++ Str.ofString (toString i)).length = out.length + (Str.ofString (toString i)).length := strLen_append ..
    exact ⟨by rw [hz]; omega, fparts_run hp H1 _ _ (I1.tok _) (by rw [hz]; omega) h1⟩
noncomputable def tFs (ps : List (Str ⊕ TE)) : TE := fun σ H Q => tParts ps σ H fun H' => ∀ x : Str, x.length <= sizeLine -> Q (.str x) H'
theorem pe_fs {X : Cx} {e1 e2 : Expr} {es : List Expr} {ps : List (Str ⊕ TE)} {pos : Pos} (h : FParts X (e1 :: e2 :: es) ps) (hl : 2000 * (e1 :: e2 :: es).length <= sizeLine := by decide) : PE X (.JoinedStr (e1 :: e2 :: es) pos) (tFs ps) :=
  fun pins s σ H Q I q => JoinedStr_many (fparts_run h H s Str.empty I (by rw [show Str.empty.length = 0 from rfl, Nat.zero_add]; exact hl) q)
end L2
set_option Elab.async false
set_option linter.all false
set_option maxRecDepth 100000
set_option maxHeartbeats 4000000
namespace L2
open PySem PySem.Spec PyProof.Rows
noncomputable def Cx.tryb (X : Cx) (pn' : List (Addr × Obj)) (xe' : Value -> Shared -> Prop) : Cx := { X with xe := xe', pn := pn' }
noncomputable def xu : HO := .ext fun _ => True
noncomputable def Cx.hand (X : Cx) (pn' : List (Addr × Obj)) (e : Addr) (oe : Obj) : Cx := { X with A := X.A.mark (some (.ref e)), calm := false, xe := fun _ _ => False, pn := pn', H₀ := upd X.H₀ e (.frz oe xu) }
structure XO (C : Addr) (o : Obj) : Prop where
  cls : o.cls = .ref C
  dict : o.dict = none
  ctx : ∃ vs, o.data = .fields vs /\ vs[2]? = some .none
structure Fr0 (X : Cx) (e : Addr) : Prop where
  no : ∀ o, X.s₀.heap.get? e ≠ some o
  tup : ∀ xs, X.H₀ e ≠ some (.tup xs)
  frz : ∀ o u, X.H₀ e ≠ some (.frz o u)
  tbl : ∀ ps, X.H₀ e ≠ some (.tbl ps)
section
variable {X : Cx} {pins : List (Addr × Obj)} {σ : L2.St} {H : Hp} {s' : Shared} {e : Addr} {cls : Value}
theorem look_pass (I : Inv X pins σ H s') (hst : X.stack = X.env :: X.outer) (hf : X.env.frame = some X.env.locals) (R : Raised X H e cls s') {Q : Unit -> Shared -> Prop} {E : Value -> Shared -> Prop}
    (hQ : ∀ h' B a0, Heap.HeldW B (X.env :: X.outer) e cls a0 X.env.locals h' -> B.StaysIn s'.heap -> s'.heap.UpToSlots h' -> (∀ a u, H a = some u -> ∃ o, B.get? a = some o) -> (∀ b o, X.s₀.heap.get? b = some o -> b ∉ X.fs -> ∃ o', B.get? b = some o') -> (∀ p ∈ X.pn, ∃ o', B.get? p.1 = some o') -> C0 e h' -> Q () { s' with heap := h' }) :
    wpAny (model X.prog X.w) X.A (noteFrame (.ref e) X.env) Q E s' := by
  have hfr : X.A.frames = some (X.env :: X.outer) := by rw [<- hst]; exact I.ok.frames
  have nl : ∀ b o, X.s₀.heap.get? b = some o -> b ∉ X.fs -> b ∉ frs (X.env :: X.outer) := fun b o q hb z => by
    unfold frs at z
    rw [List.filterMap_cons, hf] at z
    rcases List.mem_cons.mp z with z | z
    · rw [z] at q
      exact absurd (Nat.lt_of_lt_of_le (Heap.lt_size q) I.ok.above) (Nat.lt_irrefl _)
    · exact hb z
  rcases R with ⟨g', vs, M, ffg, m1, m2, m3⟩ | ⟨B, a0, F, c1, c2, c3, k0⟩
  · rw [hst] at ffg
    have hin : ∀ env ∈ (X.env :: X.outer), ∀ b, env.frame = some b -> b ∈ frs (X.env :: X.outer) := fun env he b hb => List.mem_filterMap.mpr ⟨env, he, hb⟩
    have hl := PySem.W.funFrames_hide ffg hin
    obtain ⟨t, he, htn, ht⟩ := M.there
    have bn : (PySem.W.hideAll g' (frs (X.env :: X.outer))).get? e = none := by
      cases hq : (PySem.W.hideAll g' (frs (X.env :: X.outer))).get? e with
      | none => rfl
      | some o' => have := PySem.W.of_hideAll _ hq; rw [M.new] at this; cases this
    have k1 : (PySem.W.hideAll g' (frs (X.env :: X.outer))).StaysIn s'.heap := fun b o q => M.keeps b o (PySem.W.of_hideAll _ q)
    have go : wpAny (model X.prog X.w) X.A (noteFrame (.ref e) X.env) (fun _ s'' => ∃ h', s'' = { s' with heap := h' } /\ Heap.HeldW (PySem.W.hideAll g' (frs (X.env :: X.outer))) (X.env :: X.outer) e cls (.ref t) X.env.locals h' /\ s'.heap.UpToSlots h') (fun _ _ => False) s' := by
      unfold noteFrame
      simp only [hf]
      refine wpAny_bind (wpAny_field he rfl (x := .none) rfl ?_)
      rw [if_neg (by decide)]
      refine wpAny_entryW (base := PySem.W.hideAll g' (frs (X.env :: X.outer))) (a0 := .ref t) hfr (hl.of_keeps fun b o hb _ => ⟨o, M.keeps b o hb, rfl⟩) hf he k1 bn rfl (by simp) rfl fun h' hL => ?_
      obtain ⟨x1, x2, x3, x4⟩ := hL
      exact ⟨h', rfl, ⟨x1, bn, x2, x3⟩, x4⟩
    refine wpAny_mono (Kp2.any (e := e) (Kp2.note _ _) go (made_C0 M)) (fun _ s'' z => ?_) fun _ _ z => z.1.elim
    obtain ⟨⟨h', rfl, x1, x4⟩, k0⟩ := z
    refine hQ h' _ _ x1 k1 x4 (fun a u ea => ?_) (fun b o q hb => ?_) (fun p hp => ?_) k0
    · obtain ⟨o, q⟩ := m1 a u ea
      refine ⟨o, PySem.W.hideAll_get _ q fun z => ?_⟩
      rw [<- hst] at z
      rw [I.stkFree a z] at ea; cases ea
    · obtain ⟨o', q'⟩ := m2 b o q
      exact ⟨o', PySem.W.hideAll_get _ q' (nl b o q hb)⟩
    · obtain ⟨o', q'⟩ := m3 p hp
      obtain ⟨q, _, n1, n2, _⟩ := I.pin p (List.mem_append_left _ hp)
      refine ⟨o', PySem.W.hideAll_get _ q' fun z => ?_⟩
      rw [<- hst] at z
      exact (List.mem_cons.mp (I.stkSub _ z)).elim n1 n2
  · rw [hst] at F c2
    refine wpAny_mono (Kp2.any (e := e) (Kp2.note _ _) (wpAny_looks_onW (Q := fun _ s'' => ∃ h', s'' = { s' with heap := h' } /\ Heap.HeldW B (X.env :: X.outer) e cls a0 X.env.locals h' /\ s'.heap.UpToSlots h') (E := fun _ _ => False) hfr hf F fun h' x1 x4 => ⟨h', rfl, x1, x4⟩) k0) (fun _ s'' z => ?_) fun _ _ z => z.1.elim
    obtain ⟨⟨h', rfl, x1, x4⟩, k0'⟩ := z
    exact hQ h' B a0 x1 F.1 x4 c1 (fun b o q hb => c2 b o q (nl b o q hb)) c3 k0'
end
section
variable {X : Cx} {pn' pins : List (Addr × Obj)} {xe' : Value -> Shared -> Prop} {σ : L2.St} {H : Hp} {s' : Shared} {e C : Addr} {B h6 : Heap} {a0 : Value}
theorem inv_catch (I : Inv (X.tryb pn' xe') pins σ H s') (hex : X.ex = []) (F : Heap.FlyingW B (X.env :: X.outer) e (.ref C) a0 h6) (k1 : B.StaysIn s'.heap) (up : s'.heap.UpToSlots h6)
    (c1 : ∀ a u, H a = some u -> ∃ o, B.get? a = some o) (c2 : ∀ b o, X.s₀.heap.get? b = some o -> b ∉ X.fs -> ∃ o', B.get? b = some o') (c3 : ∀ p ∈ pn', ∃ o', B.get? p.1 = some o') (k0 : C0 e h6) :
    Fr0 X e /\ H e = none /\ ∃ oe, XO C oe /\ Inv (X.hand pn' e oe) [] σ (upd H e (.frz oe xu)) { s' with heap := h6 } := by
  obtain ⟨un, hok⟩ := fly_core I hex k1 F.1 up c1 c2
  have hn : H e = none := by
    cases q : H e with
    | none => rfl
    | some u => obtain ⟨o, z⟩ := c1 e u q; rw [F.2.1] at z; cases z
  obtain ⟨o0, vs0, g1, g2, g3, g5⟩ := k0
  have ns : ∀ o, X.s₀.heap.get? e ≠ some o := fun o q => by
    by_cases hb : e ∈ X.fs
    · obtain ⟨_, o2, q2, d2⟩ := I.ok.funs.mem hb
      have q2 : X.s₀.heap.get? e = some o2 := q2
      rw [q] at q2; cases q2
      obtain ⟨sl, z⟩ := un.slot e o q (I.ok.frf e hb) hb (by simp)
      rw [g1] at z
      have z : o0 = _ := Option.some.inj z
      rw [z] at g2
      exact d2 _ g2
    · obtain ⟨o', z⟩ := c2 e o q hb
      rw [F.2.1] at z; cases z
  have hs0 : ∀ (b : Addr) (ob : Obj), s'.heap.get? b = some ob -> (∀ vs, ob.data ≠ .fields vs) -> b ≠ e := fun b ob q d z => by
    obtain ⟨sl, z'⟩ := up b ob q d
    rw [z, g1] at z'
    have z' : o0 = _ := Option.some.inj z'
    rw [z'] at g2
    exact d _ g2
  obtain ⟨m, hm, hl⟩ := id I.loc
  have hm' : s'.heap.Ns X.env.locals m := hm
  have cel : ∀ c v, s'.heap.IsCell c v -> h6.IsCell c v := fun c v ⟨oc, q, d⟩ => by
    obtain ⟨sl, z⟩ := up c oc q fun vs y => by rw [d] at y; cases y
    exact ⟨_, z, d⟩
  have lne : X.env.locals ≠ e := by
    obtain ⟨oL, es, ep, q, d, _⟩ := id hm'
    exact hs0 _ oL q fun vs y => by rw [d] at y; cases y
  have xo : XO C o0 := by
    obtain ⟨_, _, _, oe, vs, T, oT, ts, he, ⟨hc, _⟩, hd, _⟩ := F
    rw [g1] at he
    have he : o0 = oe := Option.some.inj he
    subst he
    exact ⟨hc, g5, vs0, g2, g3⟩
  have no : ∀ u, H e ≠ some u := fun u q => by rw [hn] at q; cases q
  have fr : Fr0 X e := ⟨ns, fun xs q => no _ (un.tups e xs q), fun o u q => no _ (un.frzs e o u q), fun ps q => let ⟨_, z⟩ := un.tbls e ps q; no _ z⟩
  refine ⟨fr, hn, o0, xo, ⟨I.ok.mod, I.ok.kind, I.ok.glob, I.ok.blt, I.ok.above, I.ok.inj, I.ok.has, I.ok.cab, fun h => (by cases h), I.ok.frames, I.ok.stk, I.ok.exf, fun b o q => ⟨(I.ok.bs b o q).1, ?_⟩, I.ok.bsz, I.ok.noex, I.ok.exfs, I.ok.funs, fun b hb => ?_⟩, I.os, I.bare, ?_, ⟨m, up.ns hm', fun i x v h1 h2 h3 => ?_⟩, fun x c h => ?_, ?_, fun x c h => ?_, fun p hp => ?_, fun b u q => ?_, I.len⟩
  · show upd X.H₀ e _ b = none
    rw [upd_ne (fun z => ns o (by rw [<- z]; exact (I.ok.bs b o q).1))]; exact (I.ok.bs b o q).2
  · show upd X.H₀ e _ b = none
    obtain ⟨_, o2, q2, d2⟩ := I.ok.funs.mem hb
    rw [upd_ne (fun z => ns o2 (by rw [<- z]; exact q2))]; exact I.ok.frf b hb
  · have h0 : ∀ b o, X.s₀.heap.get? b = some o -> upd X.H₀ e (.frz o0 xu) b = none -> X.H₀ b = none := fun b o q n => by
      rwa [upd_ne (fun z => ns o (by rw [<- z]; exact q))] at n
    refine ⟨fun b o q n h _ => un.keep b o q (h0 b o q n) h (by simp), fun b o q n h _ => un.slot b o q (h0 b o q n) h (by simp), fun b o q n _ => ?_, fun b o q _ => un.there b o q (by simp), fun b xs q => ?_, fun b o u q => ?_, fun b ps q => ?_⟩
    · rw [upd_ne (fun z => ns o (by rw [<- z]; exact q))]
      exact un.free b o q (h0 b o q n) (by simp)
    · have q : upd X.H₀ e (.frz o0 xu) b = some (.tup xs) := q
      by_cases hb : b = e
      · rw [hb, upd_same] at q; cases q
      · rw [upd_ne hb] at q ⊢
        exact un.tups b xs q
    · have q : upd X.H₀ e (.frz o0 xu) b = some (.frz o u) := q
      by_cases hb : b = e
      · rw [hb, upd_same] at q ⊢; exact q
      · rw [upd_ne hb] at q ⊢
        exact un.frzs b o u q
    · have q : upd X.H₀ e (.frz o0 xu) b = some (.tbl ps) := q
      by_cases hb : b = e
      · rw [hb, upd_same] at q; cases q
      · rw [upd_ne hb] at q ⊢
        exact un.tbls b ps q
  · obtain ⟨u, r, lk⟩ := hl i x v h1 h2 h3
    refine ⟨u, r, ?_⟩
    rcases lk with ⟨k, z⟩ | ⟨k, c, z, y⟩
    · exact .inl ⟨k, z⟩
    · exact .inr ⟨k, c, z, cel c _ y⟩
  · obtain ⟨v, z⟩ := I.cell x c h
    exact ⟨v, cel c v z⟩
  · show upd H e _ X.env.locals = none
    rw [upd_ne lne]; exact I.free
  · obtain ⟨v, oc, q, d⟩ := I.cell x c h
    rw [upd_ne (hs0 c oc q fun vs y => by rw [d] at y; cases y)]
    exact I.freeC x c h
  · have hp : p ∈ pn' := by
      have hp : p ∈ pn' ++ [] := hp
      rwa [List.append_nil] at hp
    obtain ⟨q, n, n1, n2, d⟩ := I.pin p (List.mem_append_left _ hp)
    obtain ⟨o', z⟩ := c3 p hp
    have z1 := k1 _ _ z
    rw [q] at z1
    have z1 : p.2 = o' := Option.some.inj z1
    refine ⟨by rw [z1]; exact F.1 _ _ z, ?_, n1, n2, d⟩
    rw [upd_ne (fun y => by rw [y, F.2.1] at z; cases z)]
    exact n
  · by_cases hb : b = e
    · subst hb
      rw [upd_same] at q; cases q
      exact ⟨g1, trivial, ⟨o0, g1⟩, fun _ _ _ _ => trivial⟩
    · rw [upd_ne hb] at q
      exact (hok b u q).stay (fun _ _ _ z => z) (fun c z => by rw [upd_ne (ne_of_none z hn)]; exact z) fun c xs z => by rw [upd_ne (ne_of_none z hn)]; exact z
end
section
variable {X : Cx} {pins : List (Addr × Obj)} {σ : L2.St} {H : Hp} {s : Shared}
theorem unbind_ok {M : Model} {A : Around} {E : Value -> Shared -> Prop} {i : Nat} {n : Str} {v : V} {Q : Unit -> Shared -> Prop} (I : Inv X pins σ H s) (hN : X.N.Nodup) (hi : X.N[i]? = some n) (hlo : X.env.scope.names.lookup n = some .local) (hv : σ[i]? = some (some v))
    (h : ∀ s', Inv X pins (σ.set i none) H s' -> Q () s') : wpAny M A (unbindName X.env n) Q E s := by
  obtain ⟨m, hn, hl⟩ := id I.loc
  obtain ⟨u, r, lk⟩ := hl i n v hi hv (.inl hlo)
  have hm : m n = some u := by
    rcases lk with ⟨_, z⟩ | ⟨k, _⟩
    · exact z
    · exfalso
      have hk : X.env.kindOf n = some .local := hlo
      rcases k with k | k <;> (rw [hk] at k; cases k)
  have hcl : (X.env.scope.kind == .class || (X.env.scope.kind == .module && X.env.locals != X.env.globals)) = false := by rw [I.ok.kind]; rfl
  refine wpAny_unbindName_local hlo hn hm hcl fun h' u' hn' hs => ?_
  have far : ∀ b o, X.s₀.heap.get? b = some o -> h'.get? b = s.heap.get? b := fun b o q => hs.2 b (Nat.ne_of_lt (Nat.lt_of_lt_of_le (Heap.lt_size q) I.ok.above))
  obtain ⟨oL, _, _, hoL, _⟩ := id hn
  refine h _ ⟨I.ok, I.os, I.bare, ⟨fun b o q a1 a2 a3 => (far b o q).trans (I.base.keep b o q a1 a2 a3), fun b o q a1 a2 a3 => ?_, I.base.free, fun b o q a3 => ?_, I.base.tups, I.base.frzs, I.base.tbls⟩, ⟨_, hn', fun j y v' e1 e2 e3 => ?_⟩, fun y c q => ?_, I.free, I.freeC, fun p hp => ?_, fun b ob q => ?_, by rw [List.length_set]; exact I.len⟩
  · obtain ⟨sl, z⟩ := I.base.slot b o q a1 a2 a3
    exact ⟨sl, (far b o q).trans z⟩
  · obtain ⟨o', z⟩ := I.base.there b o q a3
    exact ⟨o', (far b o q).trans z⟩
  · by_cases hj : j = i
    · subst hj
      have : j < σ.length := (List.getElem?_eq_some_iff.mp hv).1
      rw [List.getElem?_set_self this] at e2
      cases e2
    · rw [List.getElem?_set_ne (Ne.symm hj)] at e2
      obtain ⟨w, r', q⟩ := hl j y v' e1 e2 e3
      refine ⟨w, r', ?_⟩
      rcases q with ⟨k, z⟩ | ⟨k, c, z, y'⟩
      · have : y ≠ n := fun z => hj (nodup_ix hN e1 (z ▸ hi))
        exact .inl ⟨k, by simp [this, z]⟩
      · exact .inr ⟨k, c, z, y'.sameBut hs (I.cne y c z)⟩
  · obtain ⟨w, z⟩ := I.cell y c q
    exact ⟨w, z.sameBut hs (I.cne y c q)⟩
  · obtain ⟨z, n0, ne, nf, d⟩ := I.pin p hp
    exact ⟨(hs.2 p.1 ne).trans z, n0, ne, nf, d⟩
  · refine (I.hok b ob q).stay (fun c w hc z => (hs.2 c ?_).trans z) (fun _ z => z) fun _ _ z => z
    intro y
    rcases hc with hc | hc
    · rw [<- hc, y, I.free] at q; cases q
    · rw [y, I.free] at hc; cases hc
theorem Inv.tryb (I : Inv X pins σ H s) (xe' : Value -> Shared -> Prop) : Inv (X.tryb (X.pn ++ pins) xe') [] σ H s :=
  ⟨⟨I.ok.mod, I.ok.kind, I.ok.glob, I.ok.blt, I.ok.above, I.ok.inj, I.ok.has, I.ok.cab, I.ok.hd, I.ok.frames, I.ok.stk, I.ok.exf, I.ok.bs, I.ok.bsz, I.ok.noex, I.ok.exfs, I.ok.funs, I.ok.frf⟩, I.os, I.bare, I.base, I.loc, I.cell, I.free, I.freeC, fun p hp => I.pin p (by
    have hp : p ∈ (X.pn ++ pins) ++ [] := hp
    rwa [List.append_nil] at hp), I.hok, I.len⟩
theorem Inv.untry {xe' : Value -> Shared -> Prop} {pins' : List (Addr × Obj)} (I : Inv (X.tryb (X.pn ++ pins) xe') pins' σ H s) : Inv X pins σ H s :=
  ⟨⟨I.ok.mod, I.ok.kind, I.ok.glob, I.ok.blt, I.ok.above, I.ok.inj, I.ok.has, I.ok.cab, I.ok.hd, I.ok.frames, I.ok.stk, I.ok.exf, I.ok.bs, I.ok.bsz, I.ok.noex, I.ok.exfs, I.ok.funs, I.ok.frf⟩, I.os, I.bare, I.base, I.loc, I.cell, I.free, I.freeC, fun p hp => I.pin p (List.mem_append_left _ hp), I.hok, I.len⟩
theorem Inv.unhand {e : Addr} {oe : Obj} {pins' : List (Addr × Obj)} (I : Inv (X.hand (X.pn ++ pins) e oe) pins' σ H s) (ok : X.Ok) (f0 : Fr0 X e) : Inv X pins σ H s :=
  have h0 : ∀ b o, X.s₀.heap.get? b = some o -> X.H₀ b = none -> upd X.H₀ e (.frz oe xu) b = none := fun b o q n => by
    rw [upd_ne (fun z => f0.no o (by rw [<- z]; exact q))]; exact n
  ⟨ok, I.os, I.bare, ⟨fun b o q n => I.base.keep b o q (h0 b o q n), fun b o q n => I.base.slot b o q (h0 b o q n), fun b o q n => I.base.free b o q (h0 b o q n), I.base.there, fun b xs q => I.base.tups b xs (show upd X.H₀ e (.frz oe xu) b = _ by rw [upd_ne (fun z => f0.tup xs (by rw [<- z]; exact q))]; exact q), fun b o u q => I.base.frzs b o u (show upd X.H₀ e (.frz oe xu) b = _ by rw [upd_ne (fun z => f0.frz o u (by rw [<- z]; exact q))]; exact q), fun b ps q => I.base.tbls b ps (show upd X.H₀ e (.frz oe xu) b = _ by rw [upd_ne (fun z => f0.tbl ps (by rw [<- z]; exact q))]; exact q)⟩, I.loc, I.cell, I.free, I.freeC, fun p hp => I.pin p (List.mem_append_left _ hp), I.hok, I.len⟩
end
section
variable {M : Model} {A : Around} {E : Value -> Shared -> Prop} {h : Heap} {g : Array GenState} {d : Drawn} {t : Nat} {os : OsState} {C N D N' : Addr} {nm q nm' q' : Str} {bs bm bs' bm' : List Value} {hdct hdct' : Bool} {sn sn' : List Str} {sub sub' : List Value} {ab ab' : Bool} {col col' : Option Bool} {dd dd' : Option Addr} {k0 k1 k2 k3 k5 k0' k1' k2' k3' k5' : Option Value} {newId newId' : String}
theorem excMatches_up {e : Addr} {oe : Obj} {Q : Bool -> Shared -> Prop} (hC : h.get? C = some (excClassObj nm q C N bs bm hdct sn sub ab col dd k0 k1 k2 k3 k5 newId)) (hD : h.get? D = some (excClassObj nm' q' D N' bs' bm' hdct' sn' sub' ab' col' dd' k0' k1' k2' k3' k5' newId'))
    (he : h.get? e = some oe) (hcls : oe.cls = .ref C) (hbase : bm'.contains (.type "BaseException") = true) (hq : Q ((Value.ref C :: bm).contains (.ref D)) ⟨h, g, d, t, os⟩) : wpAny M A (excMatches (.ref e) (.ref D)) Q E ⟨h, g, d, t, os⟩ := by
  have hcB : (Value.ref D :: bm').contains (.type "BaseException") = true := by rw [List.contains_cons, hbase, Bool.or_true]
  have f := tc_notTuple
  unfold excMatches
  repeat (first | (with_reducible refine wpAny_loadPart_at he ?_; rw [hcls]) | with_reducible refine wpAny_loadPart_at hD ?_ | (with_reducible refine wpAny_isSubtype_exc hD ?_; rw [hcB]) | with_reducible refine wpAny_isSubtype_exc hC ?_ | wp_step)
  cases hb : (Value.ref C :: bm).contains (.ref D) <;> (rw [hb] at hq; wp_walk; exact hq)
end
noncomputable def mroIn (K : PySem.W.Frag) (C : Addr) : Option (List Value) := match K.lookup C with
  | some ⟨.type "type", _, .cls cd, sl⟩ => (match cd.mro, sl.toList with
    | .ref C' :: bm, [_, _, _, _, some (.builtin _), _] => if C' = C /\ cd.hasDel = false then some bm else none
    | _, _ => none)
  | _ => none
structure ClsAt (h : Heap) (C : Addr) (bm : List Value) : Prop where
  ex : ∃ nm q N bs hdct sn sub ab col dd k0 k1 k2 k3 k5 newId, h.get? C = some (excClassObj nm q C N bs bm hdct sn sub ab col dd k0 k1 k2 k3 k5 newId)
theorem mro_of {K : PySem.W.Frag} {h : Heap} {C : Addr} {bm : List Value} (X : K.In h) (e : mroIn K C = some bm) : ClsAt h C bm := by
  unfold mroIn at e
  split at e
  · rename_i dd cd sl ho
    split at e
    · rename_i C' bm' k0 k1 k2 k3 n k5 hm hs
      split at e
      · rename_i hc
        cases e
        obtain ⟨rfl, hdel⟩ := hc
        obtain ⟨nm, bs, mro, ns, qn, hd, sn, sub, ab, col, del⟩ := cd
        dsimp only at hm hdel
        subst hm hdel
        have hsl : sl = #[k0, k1, k2, k3, some (.builtin n), k5] := by
          obtain ⟨l⟩ := sl
          simp only at hs
          rw [hs]
        subst hsl
        exact ⟨nm, qn, ns, bs, hd, sn, sub, ab, col, dd, k0, k1, k2, k3, k5, n, X _ _ ho⟩
      · cases e
    · cases e
  · cases e
noncomputable def unD (i : Nat) (D : Ends) : Ends := ⟨fun σ H => D.nx (σ.set i none) H, D.rt, fun σ H => D.bk (σ.set i none) H, fun σ H => D.ct (σ.set i none) H⟩
section
variable {X : Cx} {pins pins' : List (Addr × Obj)} {xe' : Value -> Shared -> Prop} {σ : L2.St} {H : Hp} {s' : Shared} {e C Dc : Addr} {bm bmD : List Value} {x n : Str} {i : Nat} {De : Ends} {b0 : Stmt} {suite : List Stmt} {np hp : Pos}
theorem after_suite {f : Flow} {s2 : Shared} {pos : Pos} (hN : X.N.Nodup) (hi : X.N[i]? = some n) (hlo : X.env.scope.names.lookup n = some .local) {oe : Obj} (ok : X.Ok) (f0 : Fr0 X e) (h : SP (X.hand (X.pn ++ pins) e oe) [] (unD i De) f s2) :
    wpAny (model X.prog X.w) X.A (do bindName X.env n .none; unbindBehindTheSuite X.env n pos) (fun _ s3 => SP X pins De f s3) X.xe s2 := by
  have hl : ∀ {σ' : L2.St} {H' : Hp}, Inv (X.hand (X.pn ++ pins) e oe) [] σ' H' s2 -> (∀ s3, Inv X pins (σ'.set i none) H' s3 -> SP X pins De f s3) -> wpAny (model X.prog X.w) X.A (do bindName X.env n .none; unbindBehindTheSuite X.env n pos) (fun _ s3 => SP X pins De f s3) X.xe s2 := fun {σ' H'} J k => by
    have J := J.unhand ok f0
    have hiσ : i < σ'.length := by rw [J.len]; exact (List.getElem?_eq_some_iff.mp hi).1
    refine wpAny_bind (wpAny_bindName (store_ok (v := .non) J hN hi (.inl hlo) rfl (fun s3 J3 => ?_) (.inr hlo)))
    unfold unbindBehindTheSuite
    refine wpAny_onRaise (unbind_ok (v := .non) J3 hN hi hlo (List.getElem?_set_self hiσ) fun s4 J4 => k s4 ?_)
    rwa [List.set_set] at J4
  cases f with
  | next => obtain ⟨σ', H', J, q⟩ := h; exact hl J fun s3 J3 => ⟨_, _, J3, q⟩
  | brk => obtain ⟨σ', H', J, q⟩ := h; exact hl J fun s3 J3 => ⟨_, _, J3, q⟩
  | cont => obtain ⟨σ', H', J, q⟩ := h; exact hl J fun s3 J3 => ⟨_, _, J3, q⟩
  | ret u => obtain ⟨v, σ', H', J, r, q⟩ := h; exact hl J fun s3 J3 => ⟨v, _, _, J3, r, q⟩
theorem catch_ok (hst : X.stack = X.env :: X.outer) (hf : X.env.frame = some X.env.locals) (hex : X.ex = []) (hN : X.N.Nodup) (hi : X.N[i]? = some n) (hlo : X.env.scope.names.lookup n = some .local) (hg : Gl X x) (hm : X.mg x = some (.ref Dc)) (mD : mroIn X.K Dc = some bmD) (hbD : bmD.contains (.type "BaseException") = true)
    (I : Inv (X.tryb (X.pn ++ pins) xe') pins' σ H s') (R : Raised (X.tryb (X.pn ++ pins) xe') H e (.ref C) s') (mC : mroIn X.K C = some bm) (hCD : (Value.ref C :: bm).contains (.ref Dc) = true)
    (k : ∀ oe s6, XO C oe -> H e = none -> Inv (X.hand (X.pn ++ pins) e oe) [] (σ.set i (some (.ref e))) (upd H e (.frz oe xu)) s6 -> wpAny (model X.prog X.w) (X.A.mark (some (.ref e))) (execs (b0 :: suite) X.env) (SP (X.hand (X.pn ++ pins) e oe) [] (unD i De)) (fun _ _ => False) s6)
    (ok : X.Ok) (hdb : (x == ("__debug__" : Str)) = false) :
    wpAny (model X.prog X.w) X.A (noteFrame (.ref e) X.env) (fun _ s2 => wpAny (model X.prog X.w) X.A (setFlight (.ref e) none) (fun _ s3 => wpAny (model X.prog X.w) X.A (handleBy (.ref e) X.env [.ExceptHandler (some (.Name x np)) (some n) (b0 :: suite) hp]) (SP X pins De) X.xe s3) X.xe s2) X.xe s' := by
  refine look_pass I hst hf R fun h4 B a0 held k1 up4 c1 c2 c3 z4 => ?_
  refine wpAny_mono (Kp2.any (e := e) (Kp2.flight _ _) (wpAny_landsW (Q := fun _ s'' => ∃ h', s'' = { s' with heap := h' } /\ Heap.FlyingW B (X.env :: X.outer) e (.ref C) a0 h' /\ h4.UpToSlots h') (E := fun _ _ => False) held fun h' y1 y2 => ⟨h', rfl, y1, y2⟩) z4) (fun _ s'' z => ?_) fun _ _ z => z.1.elim
  obtain ⟨⟨h5, rfl, F5, up5⟩, z5⟩ := z
  obtain ⟨_, _, o5, x5, I5⟩ := inv_catch I hex F5 k1 (up4.trans up5) c1 c2 c3 z5
  refine wpAny_handleBy_cons (codeAny_handlers_test (ld_glob (X := X.hand (X.pn ++ pins) e o5) I5 hg hm ?_ hdb)) (by intro q; cases q)
  obtain ⟨g1, _⟩ := I5.hok e _ upd_same
  obtain ⟨_, _, _, _, _, _, _, _, _, _, _, _, _, _, _, _, hC⟩ := (mro_of I5.kIn mC).ex
  obtain ⟨_, _, _, _, _, _, _, _, _, _, _, _, _, _, _, _, hD⟩ := (mro_of I5.kIn mD).ex
  refine excMatches_up hC hD g1 x5.cls hbD ?_
  rw [hCD]
  refine codeAny_handlers_suite_as ?_
  refine wpAny_mono (Kp2.any (e := e) (Kp2.flight _ _) (lands_againW (Q := fun _ s'' => ∃ h', s'' = { s' with heap := h' } /\ Heap.FlyingW B (X.env :: X.outer) e (.ref C) a0 h' /\ h5.UpToSlots h') (E := fun _ _ => False) F5 fun h' y1 y2 => ⟨h', rfl, y1, y2⟩) z5) (fun _ s'' z => ?_) fun _ _ z => z.1.elim
  obtain ⟨⟨h6, rfl, F6, up6⟩, z6⟩ := z
  obtain ⟨f0, n6, o6, x6, I6⟩ := inv_catch I hex F6 k1 ((up4.trans up5).trans up6) c1 c2 c3 z6
  refine store_ok (X := X.hand (X.pn ++ pins) e o6) (v := .ref e) I6 hN hi (.inl hlo) rfl (fun s7 I7 => ?_) (.inr hlo)
  exact wpAny_mono (k o6 s7 x6 n6 I7) (fun f s8 h8 => after_suite hN hi hlo ok f0 h8) fun _ _ z => z.elim
end
end L2
set_option Elab.async false
set_option linter.all false
set_option maxRecDepth 100000
set_option maxHeartbeats 4000000
namespace L2
open PySem PySem.Spec PyProof.Rows
open PySem.W in
structure XCls (K : PySem.W.Frag) (C : Addr) : Prop where
  ga : findIn K (.ref C) "__getattribute__" = some (some (.builtin "BaseException.__getattribute__"))
  gt : findIn K (.ref C) "__getattr__" = some none
  fc : findObj K C none "__class__" = some (.bind (.builtin "getset_descriptor.__get__") (.builtin "object.__class__"))
  ob : PySem.W.mroIn K C (.type "object") = some true
  bs : subIn K (.ref C) (.type "BaseException") = some true
section
open PySem.W
variable {K : PySem.W.Frag} {C a : Addr} {ox : Obj} {prog : Program} {w : World} {A : Around} {E : Value -> Shared -> Prop} {h : Heap} {g : Array GenState} {d : Drawn} {t : Nat} {os : OsState}
theorem xc_entry {tk : Tok} {Q : Fin -> Shared -> Prop} (x : XCls K C) (X : K.In h) (I : PySem.W.InstAt h a ox C none) (hq : Q (.done (.ret (.ref C))) ⟨h, g, d, t, os⟩) :
    wpAny (model prog w) A (Builtin.«object.__getattribute__» ⟨[.ref a, .str "__class__" tk], []⟩) Q E ⟨h, g, d, t, os⟩ := by
  have L0 := I.type (M := model prog w)
  have L1 := looks_find (M := model prog w) X I x.fc
  unfold Builtin.«object.__getattribute__»
  repeat (first | with_reducible refine wpAny_bind (wpAny_call ?_) | with_reducible refine wpAny_call ?_ | lk)
  refine class_get X I x.ob ?_
  repeat lk
  exact hq
theorem xc_check {M : Model} {nv : Value} {Q : Unit -> Shared -> Prop} (x : XCls K C) (X : K.In h) (I : PySem.W.InstAt h a ox C none) (hq : Q () ⟨h, g, d, t, os⟩) : wpAny M A (checkBuiltinCall "BaseException.__getattribute__" ⟨[.ref a, nv], []⟩) Q E ⟨h, g, d, t, os⟩ := by
  have hk : builtinKind "BaseException.__getattribute__" = some .slot := by decide +kernel
  have hs : splitId "BaseException.__getattribute__" = some ("BaseException", "__getattribute__") := by decide +kernel
  have LI : Looks M h (isInstance (.ref a) (.type "BaseException")) true := (I.type (M := M)).andThen (looks_subIn X x.bs)
  have hA := F.args_bexc_ga (.ref a) nv
  simp only [checkBuiltinCall, hk, hs]
  refine wpAny_bind (LI.at ?_)
  show wpAny M A (match Manifest.signature? "BaseException.__getattribute__" with
    | some sig => Bind.checkArgs "BaseException.__getattribute__" sig { pos := [Value.ref a, nv] }
    | x => pure ()) Q E _
  cases hsig : Manifest.signature? "BaseException.__getattribute__" with
  | none => exact wpAny_pure hq
  | some sig =>
    simp only [argsOk, hsig] at hA
    have h2 : Bind.checkArgs "BaseException.__getattribute__" sig ⟨[.ref a, nv], []⟩ = pure () := hA
    show wpAny M A (Bind.checkArgs "BaseException.__getattribute__" sig ⟨[.ref a, nv], []⟩) Q E _
    rw [h2]
    exact wpAny_pure hq
theorem bx_bind (self : Value) : bindSpecial (.builtin "BaseException.__getattribute__") self = pure (.builtin "BaseException.__getattribute__", [self]) := by
  have h1 : withoutEnding? "BaseException.__getattribute__" "#opaque" = none := by decide +kernel
  have h2 : withoutEnding? "BaseException.__getattribute__" "#data" = none := by decide +kernel
  have hk : builtinKind "BaseException.__getattribute__" = some .slot := by decide +kernel
  simp only [bindSpecial, typeOf, builtinType, h1, h2, hk]; rfl
theorem xc_by {tk : Tok} {Q : Value -> Shared -> Prop} (x : XCls K C) (X : K.In h) (I : PySem.W.InstAt h a ox C none) (hq : Q (.ref C) ⟨h, g, d, t, os⟩) : wpAny (model prog w) A (getAttrBy (.ref a) (.str "__class__" tk) false) Q E ⟨h, g, d, t, os⟩ := by
  have L0 := I.type (M := model prog w)
  have L1 := looks_findIn (M := model prog w) X x.ga
  have L2 := looks_findIn (M := model prog w) X x.gt
  unfold getAttrBy
  refine wpAny_holding (wpAny_bind (L0.at (wpAny_bind (L1.at ?_))))
  show wpAny _ _ (if (onTheHeap (Value.ref C) && Value.builtin "BaseException.__getattribute__" == Value.builtin "object.__getattribute__") = true then _ else getAttrByItsOwn (.ref a) (.str "__class__" tk) (.ref C) (.builtin "BaseException.__getattribute__") false false) _ _ _
  have ne : (Value.builtin "BaseException.__getattribute__" == Value.builtin "object.__getattribute__") = false := by decide +kernel
  rw [ne, Bool.and_false, if_neg Bool.false_ne_true]
  unfold getAttrByItsOwn hookBefore
  rw [if_pos (show onTheHeap (Value.ref C) = true from rfl)]
  refine wpAny_bind (L2.at (wpAny_bind (wpAny_attempt (wpAny_holding ?_))))
  unfold callGetattribute boundAndCalled
  show wpAny _ _ (bindSpecial (.builtin "BaseException.__getattribute__") (.ref a) >>= fun x => call x.1 (x.2 ++ [.str "__class__" tk])) _ _ _
  rw [bx_bind, pure_bind]
  refine wpAny_call (codeAny_call_builtin (by decide +kernel) F.entry_bexc_ga (xc_check x X I (xc_entry x X I ?_)))
  exact wpAny_pure hq
theorem xc_class {Q : Option Value -> Shared -> Prop} (x : XCls K C) (X : K.In h) (I : PySem.W.InstAt h a ox C none) (hq : Q (some (.ref C)) ⟨h, g, d, t + 1, os⟩) : wpAny (model prog w) A (getAttr? (.ref a) "__class__") Q E ⟨h, g, d, t, os⟩ := by
  unfold getAttr? getAttrBy?
  refine wpAny_bind (wpAny_mkText (wpAny_bind (wpAny_attempt (xc_by x X I ?_))))
  exact wpAny_pure hq
noncomputable def XIn (C a : Addr) : Heap -> Prop := fun h => ∃ ox, PySem.W.InstAt h a ox C none
theorem kitx_exc (x : XCls K C) (hc : (clsIn K C).isSome = true) : KitX K (.ref a) (.ref C) (XIn C a) where
  ty := fun _ _ _ ⟨_, I⟩ => I.type
  it := fun _ _ X _ => by
    unfold clsIn at hc
    split at hc
    · rename_i ho
      intro A' Q' E' s' k q
      unfold isType loadHead
      exact wpAny_bind (wpAny_loadPart (k _ _ (X _ _ ho)) (wpAny_pure q))
    · cases hc
  ne := fun h tp dd its n sl X htp => by
    refine Bool.eq_false_iff.mpr fun q => ?_
    have e : C = tp := Value.ref.inj (beq_iff_eq.mp q)
    subst e
    unfold clsIn at hc
    split at hc
    · rename_i ho
      have z := (X _ _ ho).symm.trans htp
      cases z
    · cases hc
  ca := fun {_ _ _ _ _ s} X ⟨_, I⟩ k => by
    obtain ⟨hh, gg, dd, tt, oo⟩ := s
    exact xc_class x X I k
end
section
variable {X : Cx} {C : Addr} {pins : List (Addr × Obj)} {σ : L2.St} {H : Hp} {s : Shared}
theorem isinst_exc {A : Around} {E : Value -> Shared -> Prop} {Q : Value -> Shared -> Prop} {a : Addr} {c : Value} {b : Bool} (x : XCls X.K C) (hc : (PySem.W.clsIn X.K C).isSome = true) (I : Inv X pins σ H s) {oe : Obj} (ha : H a = some (.frz oe xu)) (hx : XO C oe) (e : PySem.W.kitOne X.K (.ref C) c = some b) (h : ∀ tk, Q (.bool b) { s with toks := tk }) :
    wpAny (model X.prog X.w) A (call (.builtin "isinstance") [.ref a, c]) Q E s := by
  obtain ⟨g1, _⟩ := I.hok a _ ha
  obtain ⟨g2, g5, vs, g3, g4⟩ := hx
  refine PySem.W.kia_one (kitx_exc x hc) I.kIn ⟨oe, g1, g2, ?_, ?_⟩ e (fun z => nomatch z) h
  · unfold PySem.W.notCls; rw [g3]
  · rw [g5]; trivial
end
end L2
set_option Elab.async false
set_option linter.all false
set_option maxRecDepth 100000
set_option maxHeartbeats 4000000
namespace L2
open PySem PySem.Spec PyProof.Rows
theorem entry_unchain : entryFor table "proto.unchain" = some Builtin.«proto.unchain» := entryFor_of_fast (by kernel_rfl)
section
variable {prog : Program} {w : World} {A : Around} {E : Value -> Shared -> Prop} {s : Shared} {e n : Addr} {oe on : Obj} {vs ns : Array Value}
theorem raiseNew_h {α : Type} {Q : α -> Shared -> Prop} (hh : A.handled = some (.ref e)) (he : s.heap.get? e = some oe) (hd : oe.data = .fields vs) (h2 : vs[2]? = some .none) (hn : s.heap.get? n = some on) (nd : on.data = .fields ns) (n2 : 2 < ns.size) (ne : e ≠ n)
    (h : E (.ref n) { s with heap := s.heap.update n (Obj.mapFields (·.setIfInBounds 2 (.ref e))) }) : wpAny (model prog w) A (raiseNew (.ref n) : Sem α) Q E s := by
  unfold raiseNew
  refine wpAny_bind (wpAny_handled ?_)
  rw [hh]
  show wpAny _ _ (if (Value.ref e != Value.ref n) = true then _ else _) _ _ _
  rw [if_pos (by simp [ne])]
  refine wpAny_bind (wpAny_holding (wpAny_runValue (codeAny_builtin entry_unchain ?_)))
  unfold Builtin.«proto.unchain»
  refine wpAny_bind (wpAny_field he hd h2 ?_)
  rw [if_pos (show (Value.none == Value.none) = true from rfl)]
  refine wpAny_pure ?_
  show wpAny _ _ (setField (.ref n) 2 (.ref e) >>= fun _ => throw (.ref n)) _ _ _
  exact wpAny_bind (wpAny_setField hn nd n2 (wpAny_throw h))
theorem next_end_h {it l : Addr} {i : Nat} {items : Array Value} {Q : Option Value -> Shared -> Prop} (hh : A.handled = some (.ref e)) (he : s.heap.get? e = some oe) (hd : oe.data = .fields vs) (h2 : vs[2]? = some .none) (nit : e ≠ it)
    (hit : s.heap.IsListIter it l i) (hl : s.heap.IsList l items) (hx : items[i]? = none) (hQ : ∀ h', Heap.ExtBut it s.heap h' -> Q none { s with heap := h' }) : wpAny (model prog w) A (pyNext (.ref it)) Q E s := by
  obtain ⟨o, ho, hc, ho2⟩ := id hit
  obtain ⟨ol, hol, _, nl, hdl⟩ := hl
  unfold pyNext
  refine wpAny_bind (wpAny_attempt (wpAny_callSpecial?_slot (name := Str.ofString "__next__") hit.typeIs slot_listiter_next (wpAny_call_entry slot_listiter_next hit.typeIs entry_listiter_next ?_ (args_listiter_next _))))
  show wpAny _ _ (field (.ref it) 0 >>= _) _ _ _
  refine wpAny_bind (wpAny_field ho ho2 (x := .ref l) rfl ?_)
  show wpAny _ _ (if (Value.ref l == Value.none) = true then _ else _) _ _ _
  rw [if_neg (show ¬ ((Value.ref l == Value.none) = true) from Bool.false_ne_true)]
  show wpAny _ _ (field (.ref it) 1 >>= _) _ _ _
  refine wpAny_bind (wpAny_field ho ho2 (x := .int i 0) rfl ?_)
  show wpAny _ _ (seqItems? (.ref l) >>= _) _ _ _
  refine wpAny_bind (wpAny_seqItems hol hdl ?_)
  simp only [Int.toNat_natCast, hx]
  refine wpAny_bind (wpAny_rule (wpAny_bind (wpAny_setField ho ho2 (by simp) ?_)))
  show wpAny _ _ (newExc (.type "StopIteration") [] >>= _) _ _ _
  refine wpAny_bind ?_
  simp only [newExc, newTuple]
  refine wpAny_bind (wpAny_newObj_type ?_ (by size_fits))
  refine wpAny_bind (m := firstArgMember _ _) (wpAny_of_eq (a := Value.none) (by first | rfl | (simp only [firstArgMember]; rfl)) ?_)
  refine wpAny_newObj_type ?_ (by size_fits)
  have he1 : ∀ (f : Obj -> Obj), (s.heap.update it f).get? e = some oe := fun f => by rw [Heap.get?_update_other _ _ (Ne.symm nit)]; exact he
  have hlt : ∀ (f : Obj -> Obj) (o1 : Obj), e ≠ ((s.heap.update it f).push o1).objs.size := fun f o1 => Nat.ne_of_lt (Heap.lt_size (Heap.get?_push_of_some _ (he1 f)))
  refine raiseNew_h (A := A.in1) hh (Heap.get?_push_of_some _ (Heap.get?_push_of_some _ (he1 _))) hd h2 (Heap.get?_push_size _ rfl) rfl (by simp [ownMembersOf]) (hlt _ _) ?_
  refine wpAny_bind (wpAny_isInstance (T := "StopIteration") (b := true) ⟨_, Heap.get?_update_self _ (Heap.get?_push_size _ rfl) (Obj.isFreed_of_fields (Obj.data_mapFields rfl _)), Obj.cls_mapFields ..⟩ isSubtype_stop ?_)
  refine wpAny_pure (hQ _ fun b o' hb q => ?_)
  have q2 := ((Heap.SameBut.update it (Obj.mapFields fun x => x.setIfInBounds 0 Value.none) (h := s.heap)).extBut.push { cls := Value.type "tuple", data := Data.seq #[] }) b o' hb q
  rw [Heap.get?_update_other _ _ (Ne.symm (Nat.ne_of_lt (Heap.lt_size q2)))]
  exact Heap.get?_push_of_some _ q2
end
section
variable {X : Cx} {e C : Addr} {oe : Obj}
end
end L2
set_option Elab.async false
set_option linter.all false
set_option maxRecDepth 100000
set_option maxHeartbeats 4000000
namespace L2
open PySem PySem.Spec PyProof.Rows
noncomputable def calmed (A : Around) : Around := { A with handled := none }
noncomputable def RoomH (k : Nat) (A : Around) : Prop := Room k (calmed A)
theorem room_hand {j k : Nat} {A : Around} {h : Option Value} (r : Room j A) (hk : k <= j) : RoomH k (A.mark h) := ⟨rfl, (r.mono hk).dp, (r.mono hk).un⟩
structure Hnd (A : Around) (H : Hp) (e : Addr) (oe : Obj) (C : Addr) : Prop where
  hh : A.handled = some (.ref e)
  h0 : H e = some (.frz oe xu)
  xo : XO C oe
structure FnOkH (P : Program) (w : World) (K : PySem.W.Frag) (mg : Str -> Option Value) (base : Heap) (k : Nat) (f : Addr) (fd : FuncData) (ps : List Str) (sp : Sp) : Prop where
  len : ∀ vs H Q E, sp vs H Q E -> vs.length = ps.length
  run : ∀ (A : Around) (outer : List Env) (s : Shared) (H : Hp) (args : Args) (us : List Value) (vs : List V) (Q : VK) (e : Addr) (oe : Obj) (C : Addr), RoomH k A -> Hnd A H e oe C -> Env0 P w K mg base A outer s H -> BindsTo s fd args (ps.zip us) -> Vals vs us -> sp vs H Q E0 ->
    codeAny (model P w) A (.call (.ref f) args) (CR CX0 outer P w H s Q E0) s
noncomputable def cxH (P : Program) (w : World) (K : PySem.W.Frag) (mg : Str -> Option Value) (base : Heap) (N : List Str) (qual : Str) (scope : Scope) (f : Addr) (cd : Value) (A : Around) (outer : List Env) (s : Shared) (H : Hp) : Cx :=
  { cxOf CX0 P w K mg base N qual scope f cd A outer s H E0 with calm := false, xe := fun _ _ => False }
theorem inv_calmed {P : Program} {w : World} {K : PySem.W.Frag} {mg : Str -> Option Value} {base : Heap} {N : List Str} {qual : Str} {scope : Scope} {f : Addr} {cd : Value} {A : Around} {outer : List Env} {s s1 : Shared} {H H' : Hp} {σ : L2.St} {pins : List (Addr × Obj)}
    (I : Inv (cxOf CX0 P w K mg base N qual scope f cd (calmed A) outer s H E0) pins σ H' s1) : Inv (cxH P w K mg base N qual scope f cd A outer s H) pins σ H' s1 :=
  ⟨⟨I.ok.mod, I.ok.kind, I.ok.glob, I.ok.blt, I.ok.above, I.ok.inj, I.ok.has, I.ok.cab, fun h => (by cases h), I.ok.frames, I.ok.stk, I.ok.exf, I.ok.bs, I.ok.bsz, I.ok.noex, I.ok.exfs, I.ok.funs, I.ok.frf⟩, I.os, I.bare, I.base, I.loc, I.cell, I.free, I.freeC, I.pin, I.hok, I.len⟩
theorem fn_ofH {P : Program} {w : World} {K : PySem.W.Frag} {mg : Str -> Option Value} {base : Heap} {k : Nat} {x qual : Str} {st : Stmt} {f : Addr} {fd : FuncData} {N ps : List Str} {sp : Sp} (F : Fun K x qual st f fd) (S : FnScope N ps (defScope st)) (len : ∀ vs H Q E, sp vs H Q E -> vs.length = ps.length)
    (hb : ∀ (cdv : Value) (A : Around) (outer : List Env) (s : Shared) (H : Hp) (vs : List V) (Q : VK) (e : Addr) (oe : Obj) (C : Addr), RoomH k (A.deeper (envOfC qual (defScope st) s.heap.objs.size f cdv)) -> Hnd A H e oe C -> sp vs H Q E0 ->
      ∃ t, PSs (cxH P w K mg base N qual (defScope st) f cdv A outer s H) (defBody st) t /\ t { nx := fun _ H' => Q .non H', rt := Q } (start N vs) H) : FnOkH P w K mg base (k + 1) f fd ps sp := by
  obtain ⟨oc, od, kV, doc, pm, an, cdv, ct, osl, rfl, lk, hcd⟩ := F.ex
  refine ⟨len, fun A outer s H args us vs Q e oe C hr hx e0 hbd r hsp => ?_⟩
  have hl := len _ _ _ _ hsp
  have KX : K.In s.heap := e0.mod.kin.keeps fun b o z => (e0.bs b o z).1
  have lim : s.heap.NoLimit := e0.mod.nolimit.keeps fun b o z => (e0.bs b o z).1
  have kinds : ∀ y ∈ ps.zip us, (defScope st).names.lookup y.1 = some .local \/ ((defScope st).names.lookup y.1 = some .cell /\ ((cellsFrom (s.heap.objs.size + 1) (defScope st).names []).lookup y.1).isSome = true) := fun y hy =>
    (S.par y.1 (List.of_mem_zip hy).1).imp (fun q => q) fun q => ⟨q, PySem.W.cellsFrom_some _ _ _ (.inl q)⟩
  refine codeAny_call_function (show A.depth < _ from hr.depth) (KX _ _ lk) rfl S.co S.gen rfl (PySem.W.codeRec_of KX hcd) (hbd _ _ _ _ ?_)
  refine wpAny_newFunctionEnv_cells S.kind kinds fun env he s1 xc => ?_
  subst he
  refine ⟨lim.keeps xc.toInCall.keep, codeAny_func ?_⟩
  obtain ⟨t, ht, hq⟩ := hb cdv A outer s H vs Q e oe C (Room.deeper hr _) hx hsp
  have e1 : Env0 P w K mg base (calmed A) outer s H := ⟨e0.frames, e0.mod, e0.bs, e0.bsz, e0.funs, e0.frf, e0.hok, e0.bare⟩
  have I := inv_calmed (inv_start (CX := CX0) (E := E0) (qual := qual) (f := f) (cd := cdv) S hr.hd e1 hl r xc)
  refine wpAny_mono (ht [] s1 (start N vs) H _ I hq) (fun fl s' hs => ?_) fun _ _ z => z.elim
  have fin : ∀ {σ' : L2.St} {H' : Hp} {v : V} {u : Value}, Inv (cxH P w K mg base N qual (defScope st) f cdv A outer s H) [] σ' H' s' -> RelV v u -> Q v H' -> CE outer P w H s Q u s' := fun {σ' H' v u} J rv q => ⟨v, H', J.os, J.bare, J.base, J.hok, rv, q⟩
  cases fl with
  | ret u => obtain ⟨v, σ', H', J, rv, q⟩ := hs; exact fin J rv q
  | next => obtain ⟨σ', H', J, q⟩ := hs; exact fin (v := V.non) (u := Value.none) J rfl q
  | brk => obtain ⟨_, _, _, q⟩ := hs; exact q.elim
  | cont => obtain ⟨_, _, _, q⟩ := hs; exact q.elim
noncomputable def KnH (P : Program) (w : World) (K : PySem.W.Frag) (mg : Str -> Option Value) (base : Heap) (k : Nat) (x : Str) (ps : List Str) (sp : Sp) : Prop :=
  ∃ (f : Addr) (fd : FuncData), FnOkH P w K mg base k f fd ps sp /\ mg x = some (.ref f) /\ PySem.W.keepIn K (.ref f) = true /\ Binds K fd ps []
theorem pe_knH {X : Cx} {k : Nat} {x : Str} {ps : List Str} {sp : Sp} {a : Expr} {es : List Expr} {t : TA} {p pos : Pos} {e C : Addr} {oe : Obj} (G : KnH X.prog X.w X.K X.mg X.base k x ps sp) (hr : RoomH k X.A) (hh : X.A.handled = some (.ref e)) (h0 : X.H₀ e = some (.frz oe xu)) (xo : XO C oe) (ha : PA X (a :: es) t) (hg : Gl X x := by rfl)
    (hdb : (x == ("__debug__" : Str)) = false := by decide) (hs : starEach (a :: es) X.env = (false, eval a X.env) :: starEach es X.env := by rfl) (hplain : (backTo pos (starEach es X.env)).any (·.1) = false := by rfl) :
    PE X (.Call (.Name x p) (a :: es) [] pos) (tCall sp [] E0 t) := by
  obtain ⟨f, fd, F, hm, hk, hb⟩ := G
  intro pins s σ H Q I h
  refine wpAny_Call_Name_kw (ld_glob I hg hm ?_ hdb)
  refine PySem.W.callWith_K (h₀ := X.base) I.ok.mod.kin hk (thn (ha pos pins s σ H _ I h) fun us s1 ⟨vs, H1, I1, r, q⟩ => ⟨I1.kIn, ?_⟩) hs hplain
  have q : sp (vs ++ []) H1 Q E0 := q
  rw [List.append_nil] at q
  have hl : us.length = ps.length := by rw [<- r.length]; exact F.len _ _ _ _ q
  refine wpAny_call (codeAny_mono (F.run X.A X.stack s1 H1 ⟨us, []⟩ us vs Q e oe C hr ⟨hh, I1.base.frzs e oe xu h0, xo⟩ I1.env0 (by have := hb s1 us I1.kIn (by rw [List.append_nil]; exact hl); rwa [List.append_nil] at this) r q) fun r s' hq => ?_)
  cases r with
  | error e => exact hq.elim
  | ok fl =>
    cases fl with
    | ret u => exact I1.after hq
    | next => exact hq.elim
    | brk => exact hq.elim
    | cont => exact hq.elim
end L2
set_option Elab.async false
set_option linter.all false
set_option maxRecDepth 100000
set_option maxHeartbeats 4000000
namespace L2
open PySem PySem.Spec PyProof.Rows PySem.SeqAt
section
variable {X : Cx}
end
end L2
set_option Elab.async false
set_option linter.all false
set_option maxRecDepth 100000
set_option maxHeartbeats 4000000
namespace L2
open PySem PySem.Spec PyProof.Rows PySem.SeqAt
theorem bt_reversed : bootBuiltins "reversed" = some (.type "reversed") := by decide +kernel
section
variable {X : Cx} {pos : Pos} {a b : Expr}
end
end L2
set_option Elab.async false
set_option linter.all false
set_option maxRecDepth 100000
set_option maxHeartbeats 4000000
namespace L2
open PySem PySem.Spec PyProof.Rows PySem.SeqAt
section
variable {X : Cx}
end
end L2
set_option Elab.async false
set_option linter.all false
set_option maxRecDepth 100000
set_option maxHeartbeats 4000000
namespace L2
open PySem PySem.Spec PyProof.Rows PySem.SeqAt
theorem owner_lri : Manifest.owners.lookup (String.ofList ['r', 'o', 't', 'a', 'r', 'e', 't', 'i', 'e', 's', 'r', 'e', 'v', 'e', 'r', '_', 't', 's', 'i', 'l'].reverse) = some Manifest.sig_list_reverseiterator := by kernel_rfl
theorem slot_lri_next : Slot "list_reverseiterator" "__next__" "list_reverseiterator.__next__" :=
  .of (owner := "list_reverseiterator") (n := "__next__") (by rw [typeLookup_type, builtinLookup_eq_fast]; kernel_rfl) (by decide +kernel) (by decide +kernel) (by decide +kernel)
    (by first | exact .inl (by decide +kernel) | exact .inr (by decide +kernel)) (by rw [isSubtype_type]; kernel_rfl)
theorem entry_lri_next : entryFor table "list_reverseiterator.__next__" = some Builtin.«list_reverseiterator.__next__» := entryFor_of_tree (by kernel_rfl)
theorem args_lri_next (a : Value) : argsOk "list_reverseiterator.__next__" ⟨[a], []⟩ := by
  unfold argsOk; rw [signature?_of (id := "list_reverseiterator.__next__") (n := ['_', '_', 't', 'x', 'e', 'n', '_', '_']) (o := ['r', 'o', 't', 'a', 'r', 'e', 't', 'i', 'e', 's', 'r', 'e', 'v', 'e', 'r', '_', 't', 's', 'i', 'l']) (by kernel_rfl) owner_lri]; kernel_rfl
theorem slot_lri_iter : Slot "list_reverseiterator" "__iter__" "list_reverseiterator.__iter__" :=
  .of (owner := "list_reverseiterator") (n := "__iter__") (by rw [typeLookup_type, builtinLookup_eq_fast]; kernel_rfl) (by decide +kernel) (by decide +kernel) (by decide +kernel)
    (by first | exact .inl (by decide +kernel) | exact .inr (by decide +kernel)) (by rw [isSubtype_type]; kernel_rfl)
theorem entry_lri_iter : entryFor table "list_reverseiterator.__iter__" = some Builtin.«dict_keyiterator.__iter__» :=
  entryFor_alias (id' := "dict_keyiterator.__iter__") (by kernel_rfl) (by first | rfl | decide +kernel | (unfold String.splitOn; simp +decide [String.splitOnAux])) (by decide +kernel) (by kernel_rfl)
theorem args_lri_iter (a : Value) : argsOk "list_reverseiterator.__iter__" ⟨[a], []⟩ := by
  unfold argsOk; rw [signature?_of (id := "list_reverseiterator.__iter__") (n := ['_', '_', 'r', 'e', 't', 'i', '_', '_']) (o := ['r', 'o', 't', 'a', 'r', 'e', 't', 'i', 'e', 's', 'r', 'e', 'v', 'e', 'r', '_', 't', 's', 'i', 'l']) (by kernel_rfl) owner_lri]; kernel_rfl
theorem slot_reversed_init : Slot "reversed" "__init__" "object.__init__" :=
  .of (owner := "object") (n := "__init__") (by rw [typeLookup_type, builtinLookup_eq_fast]; kernel_rfl) (by decide +kernel) (by decide +kernel) (by decide +kernel)
    (by first | exact .inl (by decide +kernel) | exact .inr (by decide +kernel)) (by rw [isSubtype_type]; kernel_rfl)
theorem mro_reversed : mroOf (.type "reversed") = pure [.type "reversed", .type "object"] := by rw [mroOf_type]; kernel_rfl
theorem lookup_reversed_new : typeLookup (.type "reversed") "__new__" = pure (some (.builtin "reversed.__new__")) := by rw [typeLookup_type, builtinLookup_eq_fast]; kernel_rfl
theorem called_reversed : TypeCalled "reversed" "reversed.__new__" "object.__init__" :=
  ⟨by decide +kernel, by decide +kernel, ⟨_, _, mro_reversed⟩, madeBy_type mro_reversed lookup_reversed_new (by decide +kernel), by decide +kernel, by rw [isSubtype_type]; kernel_rfl, slot_reversed_init⟩
theorem typeCall_reversed_1 (a : Value) : checkTypeCall "reversed" ⟨[a], []⟩ = pure () := by kernel_rfl
theorem newCall_reversed_1 (a : Value) : checkBuiltinCall "reversed.__new__" ⟨[.type "reversed", a], []⟩ = pure () := by kernel_rfl
theorem entry_reversed_new : entryFor table "reversed.__new__" = some Builtin.«reversed.__new__» := entryFor_of_tree (by kernel_rfl)
theorem sub_lri_reversed : isSubtype (.type "list_reverseiterator") (.type "reversed") = pure false := by rw [isSubtype_type]; kernel_rfl
theorem sub_reversed : isSubtype (.type "reversed") (.type "reversed") = pure true := by rw [isSubtype_type]; kernel_rfl
section
variable {prog : Program} {w : World} {A : Around} {E : Value -> Shared -> Prop} {s : Shared}
theorem callType_other {T T' newId : String} {Bn : Builtin} {args : List Value} {S : PySem.Spec} {Q : Value -> Shared -> Prop} (ft : TypeCalled T newId "object.__init__")
    (hct : checkTypeCall T ⟨args, []⟩ = pure ()) (hcn : checkBuiltinCall newId ⟨.type T :: args, []⟩ = pure ())
    (entryN : entryFor table newId = some Bn) (g : Meets (Bn ⟨.type T :: args, []⟩) S) (hns : isSubtype (.type T') (.type T) = pure false)
    (h : S A.in1 (wants (fun obj s₁ => s₁.TypeIs obj T' /\ Q obj s₁) E) s) : wpAny (model prog w) A (call (.type T) args) Q E s := by
  obtain ⟨c, tl, hmro⟩ := ft.mro
  have hmade := ft.made
  refine wpAny_call (codeAny_of_tree ?_)
  show wpAny _ _ (callAny (.type T) _) _ _ _
  refine wpAny_pure ⟨Code.quiet_builtin _ (by decide +kernel), codeAny_builtin F.entry_type_call ?_⟩
  rw [Around.under_plain (weight_type_call_type T args []) (units_type_call_type T args [])]
  have h1 := ft.notType
  have h2 := ft.canCreate
  repeat (any_goals (first | assumption | wp_step))
  refine codeAny_mono (codeAny_call_builtin ft.plain entryN (wpAny_of_eq hcn (g prog w A.in1 _ s h))) fun r s₁ hr => ?_
  cases r with
  | error e => exact hr
  | ok fl =>
    cases fl with
    | ret obj =>
      obtain ⟨hT, hq⟩ := hr
      repeat (any_goals (first | assumption | wp_step))
    | _ => exact hr.elim
end
noncomputable def IsLri (h : Heap) (a l : Addr) (i : Int) : Prop := ∃ o, h.get? a = some o /\ o.cls = .type "list_reverseiterator" /\ o.data = .fields #[.ref l, rawInt i]
theorem IsLri.typeIs {s : Shared} {a l : Addr} {i : Int} (x : IsLri s.heap a l i) : s.TypeIs (.ref a) "list_reverseiterator" := let ⟨o, ho, hc, _⟩ := x; ⟨o, ho, hc⟩
theorem IsLri.at {h h' : Heap} {a l : Addr} {i : Int} (x : IsLri h a l i) (k : ∀ o, h.get? a = some o -> h'.get? a = some o) : IsLri h' a l i := let ⟨o, ho, r⟩ := x; ⟨o, k o ho, r⟩
section
variable {prog : Program} {w : World} {A : Around} {E : Value -> Shared -> Prop} {s : Shared}
theorem pyIter_lri {it l : Addr} {i : Int} {Q : Value -> Shared -> Prop} (hz : IsLri s.heap it l i) (h : Q (.ref it) s) : wpAny (model prog w) A (pyIter (.ref it)) Q E s := by
  refine wpAny_pyIter_slot hz.typeIs slot_lri_iter (wpAny_call_entry slot_lri_iter hz.typeIs entry_lri_iter ?_ (args_lri_iter _))
  show wpAny _ _ (ret (.ref it)) _ _ s
  exact wpAny_pure ⟨_, rfl, "list_reverseiterator", _, hz.typeIs, slot_lri_next.lookup, h⟩
theorem pyNext_lri_item {it l : Addr} {i : Nat} {items : Array Value} {x : Value} {Q : Option Value -> Shared -> Prop} (hit : IsLri s.heap it l i)
    (ht : s.heap.IsList l items) (hx : items[i]? = some x) (hQ : ∀ h', IsLri h' it l ((i : Int) - 1) -> Heap.SameBut it s.heap h' -> Q (some x) { s with heap := h' }) :
    wpAny (model prog w) A (pyNext (.ref it)) Q E s := by
  obtain ⟨o, ho, hc, hd⟩ := id hit
  obtain ⟨ol, hol, _, nl, hdl⟩ := ht
  unfold pyNext
  refine wpAny_bind (wpAny_attempt (wpAny_callSpecial?_slot (name := Str.ofString "__next__") hit.typeIs slot_lri_next
    (wpAny_call_entry slot_lri_next hit.typeIs entry_lri_next ?_ (args_lri_next _))))
  show wpAny _ _ (field (.ref it) 1 >>= _) _ _ s
  refine wpAny_bind (wpAny_field ho hd (x := rawInt i) rfl ?_)
  show wpAny _ _ (if (i : Int) < 0 then _ else _) _ _ s
  rw [if_neg (by omega)]
  show wpAny _ _ (field (.ref it) 0 >>= _) _ _ s
  refine wpAny_bind (wpAny_field ho hd (x := .ref l) rfl ?_)
  show wpAny _ _ (seqItems? (.ref l) >>= _) _ _ s
  refine wpAny_bind (wpAny_seqItems hol hdl ?_)
  simp only [Int.toNat_natCast, hx]
  refine wpAny_bind (wpAny_setField ho hd (by simp) (wpAny_pure ⟨x, rfl, wpAny_pure (hQ _ ?_ (Heap.SameBut.update ..))⟩))
  exact ⟨_, Heap.get?_update_self _ ho (Obj.isFreed_of_fields (Obj.data_mapFields hd _)), (Obj.cls_mapFields ..).trans hc, by
    rw [Obj.data_mapFields hd]; simp [rawInt]⟩
theorem pyNext_lri_end {it l : Addr} {i : Int} {Q : Option Value -> Shared -> Prop} (hh : A.handled = none) (hit : IsLri s.heap it l i) (hi : i < 0)
    (hQ : ∀ h', (∀ b o, s.heap.get? b = some o -> h'.get? b = some o) -> Q none { s with heap := h' }) : wpAny (model prog w) A (pyNext (.ref it)) Q E s := by
  obtain ⟨o, ho, hc, hd⟩ := id hit
  unfold pyNext
  refine wpAny_bind (wpAny_attempt (wpAny_callSpecial?_slot (name := Str.ofString "__next__") hit.typeIs slot_lri_next
    (wpAny_call_entry slot_lri_next hit.typeIs entry_lri_next ?_ (args_lri_next _))))
  show wpAny _ _ (field (.ref it) 1 >>= _) _ _ s
  refine wpAny_bind (wpAny_field ho hd (x := rawInt i) rfl ?_)
  show wpAny _ _ (if i < 0 then _ else _) _ _ s
  rw [if_pos hi]
  refine wpAny_bind (wpAny_rule ?_)
  refine wpAny_bind ?_
  show wpAny _ _ (newExc (.type "StopIteration") [] >>= _) _ _ _
  refine wpAny_bind ?_
  simp only [newExc, newTuple]
  refine wpAny_bind (wpAny_newObj_type ?_ (by size_fits))
  refine wpAny_bind (m := firstArgMember _ _) (wpAny_of_eq (a := Value.none) (by first | rfl | (simp only [firstArgMember]; rfl)) ?_)
  refine wpAny_newObj_type ?_ (by size_fits)
  simp only [raiseNew]
  refine wpAny_bind (wpAny_handled ?_)
  first | rw [show A.in1.handled = none from hh] | rw [hh]
  refine wpAny_bind (wpAny_pure (wpAny_throw ?_))
  refine wpAny_bind (wpAny_isInstance (T := "StopIteration") (b := true) ⟨_, Heap.get?_push_size _ rfl, rfl⟩ isSubtype_stop ?_)
  exact wpAny_pure (hQ _ fun b o e => Heap.get?_push_of_some _ (Heap.get?_push_of_some _ e))
end
theorem list_revW (l : Addr) (items : Array Value) (n : Nat) (dd : Option Addr) (sl : Array (Option Value)) :
    Meets (Builtin.«list.__reversed__» ⟨[.ref l], []⟩) (fun _ R s => s.heap.get? l = some { cls := .type "list", dict := dd, data := .seq items n, slots := sl } /\ R (.ok (.ret (Value.ref s.heap.objs.size))) { s with heap := s.heap.push { cls := Value.type "list_reverseiterator", data := Data.fields #[Value.ref l, rawInt (((items.size : Nat) : Int) - 1)] }, toks := s.toks }) :=
  .of_wp fun prog w A R s h => by obtain ⟨hp, g, d, tk, os⟩ := s; obtain ⟨hl, h⟩ := h; wp_walk using AutoSeq1.wpAny_loadPart' hl; exact ⟨_, rfl, h⟩
theorem meets_reversed (l : Addr) (items : Array Value) (n : Nat) (dd : Option Addr) (sl : Array (Option Value)) :
    Meets (Builtin.«reversed.__new__» ⟨[.type "reversed", .ref l], []⟩) (fun _ R s => s.heap.get? l = some { cls := .type "list", dict := dd, data := .seq items n, slots := sl } /\
      R (.ok (.ret (.ref s.heap.objs.size))) { s with heap := s.heap.push { cls := Value.type "list_reverseiterator", data := Data.fields #[Value.ref l, rawInt (((items.size : Nat) : Int) - 1)] } }) :=
  .of_wp fun prog w A R s h => by
    obtain ⟨hp, g, d, tk, os⟩ := s; obtain ⟨hl, h⟩ := h
    have hsub := sub_reversed
    have hlk := F.slot_list_reversed.lookup
    have hT : Shared.TypeIs ⟨hp, g, d, tk, os⟩ (.ref l) "list" := ⟨_, hl, rfl⟩
    wp_walk using AutoSeq1.wpAny_loadPart' hl, wpAny_specialOf hT hlk
    refine wpAny_of_eq (F.slot_list_reversed.bind (.ref l)) ?_
    show wpAny _ _ (if (Value.builtin "list.__reversed__" == Value.none) = true then _ else _) _ _ _
    rw [if_neg (show ¬ ((Value.builtin "list.__reversed__" == Value.none) = true) from by decide)]
    refine wpAny_bind (wpAny_rule ?_)
    show wpAny _ _ (call (.builtin "list.__reversed__") [.ref l] >>= _) _ _ _
    refine wpAny_bind (call_meets F.slot_list_reversed ⟨_, hl, rfl⟩ F.entry_list_reversed (F.args_list_reversed_1 _) (list_revW l items n dd sl) ⟨hl, ?_⟩)
    exact wpAny_pure ⟨_, rfl, h⟩
noncomputable def Itv (K : PySem.W.Frag) (a : Addr) (n : Nat) : It :=
  ⟨fun i H => i < n /\ ∃ xs x, SqL K H a xs /\ xs[n - 1 - i]? = some x, fun i H x H' => H' = H /\ ∀ xs y, SqL K H a xs -> xs[n - 1 - i]? = some y -> x = y, fun i H => n <= i⟩
theorem turn_lri {P : Program} {w : World} {K : PySem.W.Frag} {tg : Expr} (a it : Addr) (n : Nat) :
    Turn P w K tg (Itv K a n) [it] it (fun i h => IsLri h it a ((n : Int) - 1 - i)) where
  mem := by simp
  obj := fun i h st b hb => by
    rw [List.mem_singleton] at hb
    subst hb
    obtain ⟨o, e, c, d⟩ := st
    exact ⟨o, e, fun v z => by rw [d] at z; cases z⟩
  keep := fun i h h' st k => st.at fun o ho => k it (by simp) o ho
  item := by
    intro X hP hw hK hc i pins s σ H E I hf st hg
    subst hP hw hK
    obtain ⟨hi, xs, x, hq, hx⟩ := hg
    obtain ⟨its, rv, p, hz⟩ := I.list hq
    obtain ⟨u, hu, ru⟩ := rv.get hx
    obtain ⟨i0, i1, i2, i3, i4, i5⟩ := hf it (by simp)
    refine pyNext_lri_item (i := n - 1 - i) (by rw [show (((n - 1 - i : Nat)) : Int) = (n : Int) - 1 - i by omega]; exact st) p.isList (x := u) (by simpa using hu) fun h' hit' hs' => ?_
    obtain ⟨oo, e1, c1, d1⟩ := id hit'
    refine ⟨u, rfl, go_of (s := { s with heap := h' }) e1 c1 d1 (by decide) ⟨x, H, I.turned (t' := s.toks) (fun b o hb q => hs'.extBut b o hb q) i0 i1 i3 i4 i5, ru, ⟨rfl, fun ys y hy hyi => ?_⟩, ?_, fun b hb => ?_⟩⟩
    · rw [I.list_inj hy hq, hx] at hyi
      exact Option.some.inj hyi
    · rw [show (n : Int) - 1 - ((i + 1 : Nat) : Int) = ((n - 1 - i : Nat) : Int) - 1 by omega]; exact hit'
    · rw [List.mem_singleton] at hb
      rw [hb]; exact i0
  done := by
    intro X hP hw hK hc i pins s σ H E I hf st hg
    subst hP hw hK
    have hg : n <= i := hg
    exact pyNext_lri_end (I.ok.hd hc) st (by omega) fun h' hk => ⟨rfl, I.kept (t' := s.toks) hk⟩
  self := fun _ _ _ _ _ st h => pyIter_lri st h
section
variable {X : Cx}
noncomputable def iRev (K : PySem.W.Frag) (ta : TA) : TI := fun σ H R => ta σ H fun vs H1 => ∃ a xs, vs = [.ref a] /\ SqL K H1 a xs /\ R (Itv K a xs.length) H1
theorem pi_rev {tg a : Expr} {ta : TA} {p pos : Pos} (hg : Gl X "reversed") (hm : X.mg "reversed" = none) (ha : PA X [a] ta) (hs : starEach [a] X.env = [(false, eval a X.env)] := by rfl) : PI X tg (.Call (.Name "reversed" p) [a] [] pos) (iRev X.K ta) := by
  intro pins s σ H R I h
  refine Call_ (ld_blt I hg hm bt_reversed (PyProof.Rows.callWith_type1 (thn (ha pos pins s σ H _ I h) fun us s1 ⟨vs, H1, I1, r1, q1⟩ => ?_) hs rfl))
  obtain ⟨t, xs, e, hq, q⟩ := q1
  subst e
  obtain ⟨u, rfl, rx⟩ := vals1 r1
  cases rx
  obtain ⟨its, rv, ⟨⟨cls, dd, data, sl⟩, n, g1, g2, g3, g4⟩, hz⟩ := I1.list hq
  simp only at g2 g3 g4
  subst g2 g3 g4
  have hl := rv.length
  refine callType_other (T' := "list_reverseiterator") called_reversed (typeCall_reversed_1 _) (newCall_reversed_1 _) entry_reversed_new (meets_reversed t its.toArray n none sl) sub_lri_reversed ⟨g1, ⟨_, Heap.get?_push_size _ rfl, rfl⟩, ?_⟩
  have I2 : Inv X pins σ H1 { s1 with heap := s1.heap.push { cls := .type "list_reverseiterator", data := .fields #[.ref t, rawInt (((its.toArray.size : Nat) : Int) - 1)] } } := I1.kept (t' := s1.toks) fun b o e => Heap.get?_push_of_some _ e
  have he : IsLri (s1.heap.push { cls := .type "list_reverseiterator", data := .fields #[.ref t, rawInt (((its.toArray.size : Nat) : Int) - 1)] }) s1.heap.objs.size t ((xs.length : Int) - 1 - ((0 : Nat) : Int)) := ⟨_, Heap.get?_push_size _ rfl, rfl, by rw [List.size_toArray, hl]; simp⟩
  refine pyIter_lri he ⟨_, [s1.heap.objs.size], _, _, H1, rfl, I2, turn_lri t _ xs.length, he, fun b hb => ?_, q⟩
  rw [List.mem_singleton] at hb
  rw [hb]
  exact I1.fpOk (Nat.le_refl _) (I1.hok.fresh (Nat.le_refl _))
end
end L2
set_option Elab.async false
set_option linter.all false
set_option maxRecDepth 100000
set_option maxHeartbeats 4000000
namespace L2
open PySem PySem.Spec PyProof.Rows
noncomputable def Itel (K : PySem.W.Frag) (a : Addr) : It :=
  ⟨fun i H => ∃ xs x, SqL K H a xs /\ xs[i]? = some x, fun i H x H' => ∃ T, H T = none /\ x = .ref T /\ ∀ xs y, SqL K H a xs -> xs[i]? = some y -> H' = upd H T (.tup [.int i, y]), fun i H => ∃ xs, SqL K H a xs /\ xs.length = i⟩
theorem turn_enumL {P : Program} {w : World} {K : PySem.W.Frag} {elts : List Expr} {x1 : Nat} {tpos : Pos} (a e it : Addr) (hei : e ≠ it) : Turn P w K (.Tuple elts x1 tpos) (Itel K a) [e, it] e (fun i h => (∃ old, IsEnum h e it i old) /\ h.IsListIter it a i) where
  mem := by simp
  obj := fun i h st b hb => by
    obtain ⟨⟨old, st1⟩, st2⟩ := st
    have hb' : b = e \/ b = it := by simpa using hb
    rcases hb' with rfl | rfl
    · exact ⟨_, st1, fun v z => by cases z⟩
    · obtain ⟨o, e, c, d⟩ := st2
      exact ⟨o, e, fun v z => by rw [d] at z; cases z⟩
  keep := fun i h h' st k => by
    obtain ⟨⟨old, st1⟩, st2⟩ := st
    exact ⟨⟨old, k e (by simp) _ st1⟩, st2.at fun o ho => k it (by simp) o ho⟩
  item := by
    intro X hP hw hK hc i pins s σ H E I hf st hg
    subst hP hw hK
    obtain ⟨⟨old, st1⟩, st2⟩ := st
    obtain ⟨xs, x, hq, hx⟩ := hg
    obtain ⟨its, rv, p, hz⟩ := I.list hq
    obtain ⟨u, hu, ru⟩ := rv.get hx
    have hia : a ≠ it := by
      obtain ⟨o, ho, hc1, _⟩ := p.isList
      obtain ⟨o2, ho2, hc2, _⟩ := st2
      intro z
      rw [z, ho2] at ho
      cases ho
      rw [hc1] at hc2
      exact absurd (Value.type.inj hc2) (by decide)
    have hea : e ≠ a := by
      obtain ⟨o, ho, hc1, _⟩ := p.isList
      intro z
      rw [<- z, st1] at ho
      cases ho
      exact absurd (Value.type.inj hc1) (by decide)
    have hlt : i < its.toArray.size := by
      rw [List.size_toArray]
      exact (List.getElem?_eq_some_iff.mp hu).1
    refine wpAny_pyNext_enum_itemD (Draws.list (A := X.A.in1) (I.ok.hd hc) it a hia its.toArray) st1 ⟨st2, p.isList⟩ hlt hei (by simp [hei, hea]) fun x' h' tk hP hout hst hT hsz hk => ?_
    have ex : x' = u := by
      have : its.toArray[i]? = some u := by simpa using hu
      rw [this] at hP
      exact (Option.some.inj hP).symm
    subst ex
    refine ⟨_, rfl, wpAny_letOwnedTupleGo_enum hout fun h2 he2 hs2 => ?_⟩
    have fT : H s.heap.objs.size = none := I.hok.fresh (Nat.le_refl _)
    have hel : e < s.heap.objs.size := Heap.lt_size st1
    have hil : it < s.heap.objs.size := by obtain ⟨o, ho, _⟩ := st2; exact Heap.lt_size ho
    have k2 : ∀ b o, b ≠ e -> b ≠ it -> s.heap.get? b = some o -> h2.get? b = some o := fun b o h1 h3 q => hs2.extBut b o h1 (hk b o h1 h3 q)
    have hT2 : h2.get? s.heap.objs.size = some { cls := .type "tuple", data := .seq #[.int i tk, x'] } := hs2.extBut _ _ (Nat.ne_of_gt hel) hT
    obtain ⟨e0, e1, e2, e3, e4, e5⟩ := hf e (by simp)
    obtain ⟨i0, i1, i2, i3, i4, i5⟩ := hf it (by simp)
    have nT : ∀ b o, s.heap.get? b = some o -> b ≠ s.heap.objs.size := fun b o q => Nat.ne_of_lt (Heap.lt_size q)
    have ne_tr : ∀ c v, H c = some v -> c ≠ e /\ c ≠ it := fun c v q => ⟨(fun z => by rw [z, e0] at q; cases q), (fun z => by rw [z, i0] at q; cases q)⟩
    have I2 : Inv X pins σ (upd H s.heap.objs.size (.tup [.int i, x])) { s with heap := h2, toks := tk + 1 } := by
      refine I.step (g' := s.gens) (d' := s.drawn) (ch := [e, it]) (fun b hb => ?_) (fun b o _ _ hch q _ => ?_) (fun b o _ _ hch q _ => ?_) (fun b o hch q n => ?_) (fun b o hch q => ?_) (fun b ys q => ?_) (fun b o u' q => ?_) (fun b ps q => ?_) (fun m hm => ?_) (fun b u' q => ?_) I.bare
      · have hb' : b = e \/ b = it := by simpa using hb
        rcases hb' with rfl | rfl
        · exact ⟨e3, e1, e4, e5⟩
        · exact ⟨i3, i1, i4, i5⟩
      · exact k2 b o (fun z => hch (by simp [z])) (fun z => hch (by simp [z])) q
      · exact ⟨o.slots, k2 b o (fun z => hch (by simp [z])) (fun z => hch (by simp [z])) q⟩
      · rw [upd_ne (nT b o q)]; exact n
      · exact ⟨o, k2 b o (fun z => hch (by simp [z])) (fun z => hch (by simp [z])) q⟩
      · rw [upd_ne (ne_of_none q fT)]; exact q
      · rw [upd_ne (ne_of_none q fT)]; exact q
      · exact ⟨#[], by rw [upd_ne (ne_of_none q fT), q]; simp⟩
      · obtain ⟨o, es, ep, ho, r⟩ := hm
        exact ⟨o, es, ep, k2 _ o (Ne.symm e1) (Ne.symm i1) ho, r⟩
      · by_cases z : b = s.heap.objs.size
        · subst z
          rw [upd_same] at q
          cases q
          exact ⟨by show 2 <= sizeLine; decide, [.int i tk, x'], .cons ⟨tk, rfl⟩ (.cons ru .nil), ⟨_, hT2, rfl, rfl, 0, rfl⟩⟩
        · rw [upd_ne z] at q
          refine (I.hok b u' q).stay (fun c v hc q' => k2 c v ?_ ?_ q') (fun c q' => ?_) fun c ys q' => ?_
          · rcases hc with z | z
            · rw [z]; exact (ne_tr b u' q).1
            · exact (ne_tr c _ z).1
          · rcases hc with z | z
            · rw [z]; exact (ne_tr b u' q).2
            · exact (ne_tr c _ z).2
          · rw [upd_ne (ne_of_none q' fT)]; exact q'
          · rw [upd_ne (ne_of_none q' fT)]; exact q'
    refine ⟨.ref s.heap.objs.size, _, I2, rfl, ⟨s.heap.objs.size, fT, rfl, fun ys y hy hyi => ?_⟩, ⟨⟨x', by simpa using he2⟩, ?_⟩, fun b hb => ?_⟩
    · rw [I.list_inj hy hq] at hyi
      rw [hx] at hyi
      cases hyi
      rfl
    · exact hst.1.at fun o ho => hs2.extBut it o (Ne.symm hei) ho
    · have hb' : b = e \/ b = it := by simpa using hb
      rcases hb' with rfl | rfl
      · rw [upd_ne (Nat.ne_of_lt hel)]; exact e0
      · rw [upd_ne (Nat.ne_of_lt hil)]; exact i0
  done := by
    intro X hP hw hK hc i pins s σ H E I hf st hg
    subst hP hw hK
    obtain ⟨⟨old, st1⟩, st2⟩ := st
    obtain ⟨xs, hq, hx⟩ := hg
    obtain ⟨its, rv, p, hz⟩ := I.list hq
    obtain ⟨i0, i1, i2, i3, i4, i5⟩ := hf it (by simp)
    have hia : a ≠ it := by
      obtain ⟨o, ho, hc1, _⟩ := p.isList
      obtain ⟨o2, ho2, hc2, _⟩ := st2
      intro z
      rw [z, ho2] at ho
      cases ho
      rw [hc1] at hc2
      exact absurd (Value.type.inj hc2) (by decide)
    have hl := rv.length
    have ei : its.toArray.size = i := by rw [List.size_toArray, <- hl, hx]
    exact wpAny_pyNext_enum_endD (Draws.list (A := X.A.in1) (I.ok.hd hc) it a hia its.toArray) st1 ⟨by rw [ei]; exact st2, p.isList⟩ fun h' eb => ⟨rfl, I.turned (t' := s.toks) (fun b o hb q => eb b o hb q) i0 i1 i3 i4 i5⟩
  self := fun _ _ _ _ _ st h => let ⟨⟨_, st1⟩, _⟩ := st; wpAny_pyIter_enum st1 h
section
variable {X : Cx}
noncomputable def iEnumL (K : PySem.W.Frag) (ta : TA) : TI := fun σ H R => ta σ H fun vs H1 => ∃ a xs, vs = [.ref a] /\ SqL K H1 a xs /\ R (Itel K a) H1
theorem pi_enumL {elts : List Expr} {x1 : Nat} {tpos : Pos} {a : Expr} {ta : TA} {p pos : Pos} (hg : Gl X "enumerate") (hm : X.mg "enumerate" = none) (ha : PA X [a] ta) (hs : starEach [a] X.env = [(false, eval a X.env)] := by rfl) : PI X (.Tuple elts x1 tpos) (.Call (.Name "enumerate" p) [a] [] pos) (iEnumL X.K ta) := by
  intro pins s σ H R I h
  refine Call_ (ld_blt I hg hm bt_enumerate (PyProof.Rows.callWith_type1 (thn (ha pos pins s σ H _ I h) fun us s1 ⟨vs, H1, I1, r1, q1⟩ => ?_) hs rfl))
  obtain ⟨t, xs, e, hq, q⟩ := q1
  subst e
  obtain ⟨u, rfl, rx⟩ := vals1 r1
  cases rx
  obtain ⟨its, rv, pt, hz⟩ := I1.list hq
  refine call_enumerate_list pt.isList fun h' he hit hsz hk => ?_
  have I3 : Inv X pins σ H1 { s1 with heap := h' } := I1.kept (t' := s1.toks) hk
  have hne : s1.heap.objs.size + 1 ≠ s1.heap.objs.size := by omega
  refine wpAny_pyIter_enum he ⟨_, [_, s1.heap.objs.size], _, _, H1, rfl, I3, turn_enumL t _ s1.heap.objs.size hne, ⟨⟨.none, he⟩, hit⟩, fun b hb => ?_, q⟩
  have hb' : b = s1.heap.objs.size + 1 \/ b = s1.heap.objs.size := by simpa using hb
  rcases hb' with rfl | rfl
  · exact I1.fpOk (Nat.le_succ _) (I1.hok.fresh (Nat.le_succ _))
  · exact I1.fpOk (Nat.le_refl _) (I1.hok.fresh (Nat.le_refl _))
end
end L2
set_option Elab.async false
set_option linter.all false
set_option maxRecDepth 100000
set_option maxHeartbeats 4000000
namespace L2
open PySem PySem.Spec PyProof.Rows
theorem lc_gen {X : Cx} {use : Option (Value -> Sem Unit)} {Q' : Value -> Shared -> Prop} {tg iter elt : Expr} {ifs : List Expr} {scope : Scope} {pos : Pos} {N : List Str} {cap : List (Option Nat)} {wi : TI} {g : TG} {tc : TT} {te : TE} (hc : X.calm = true) (S : CpScope X scope N cap) (hi : PI X tg iter wi)
    (hg : ∀ C s₀ H₀ ex, PG (cpCx X scope N C s₀ H₀ ex) tg g) (ht : ∀ C s₀ H₀ ex, PTs (cpCx X scope N C s₀ H₀ ex) ifs tc) (he : ∀ C s₀ H₀ ex, PE (cpCx X scope N C s₀ H₀ ex) elt te)
    (hs : ∀ x, foldedSetIterable iter X.env x = pure x := by intro _; rfl) : ∀ (pins : List (Addr × Obj)) (s : Shared) (σ : St) (H : Hp) (Q : VK), Inv X pins σ H s -> tLC cap wi g tc te σ H Q ->
    (∀ (s6 : Shared) (C D : Addr) (H5 : Hp) (m : Str -> Option Value), s6.heap.Ns C m -> FpOk X pins H5 C -> (∀ h', Heap.SameBut C s6.heap h' -> Inv X pins σ H5 { s6 with heap := h' }) -> Q (.ref D) H5 -> ∀ v, compPost (model X.prog X.w) X.A X.xe use Q' (.ref D) C (.ok v) s6) ->
    wpAny (model X.prog X.w) X.A (comprehension (.ListComp elt [⟨tg, iter, ifs, 0⟩] scope pos) scope X.env (firstIterPos [⟨tg, iter, ifs, 0⟩] pos) (newList []) (firstAsync [⟨tg, iter, ifs, 0⟩]) (firstIter [⟨tg, iter, ifs, 0⟩] X.env) use) Q' X.xe s := by
  intro pins s σ H Q I h hfin
  have hfree : ∀ y ∈ scope.names, y.2 = .free -> ∃ c, X.env.cells.lookup y.1 = some c := fun y hy e => I.ok.has _ (S.fr y hy e)
  refine wpAny_comprehension_free (use := use) rfl hs (closure_ok hfree) S.kind S.nm (thn (hi pins s σ H _ I h) fun xv s1 h1 => thn h1 fun itv s2 h2 => ?_)
  obtain ⟨it, fp, tn, J, H2, rfl, I2, T, st2, f2, h2⟩ := h2
  refine wpAny_newObj_type (wpAny_newFunctionEnv S.nocell (by intro y hy; simp at hy) (fun h₁ hns₁ hsb₁ => ?_) S.kind)
  obtain ⟨W, ⟨m0, w0⟩, turn⟩ := h2 s2.heap.objs.size I2.fresh
  dsimp only at hns₁ hsb₁ ⊢
  have I3 : Inv X pins σ (upd H2 s2.heap.objs.size (.lst [])) { s2 with heap := s2.heap.push { cls := .type "list", data := .seq ([] : List Value).toArray } } := I2.lnew (t' := s2.toks) (its := []) .nil (Nat.zero_le _)
  have hfp : ∀ b ∈ fp, ∃ o, s2.heap.get? b = some o := fun b hb => by
    obtain ⟨o, e, _⟩ := T.obj 0 _ st2 b hb
    exact ⟨o, e⟩
  have neD : ∀ b ∈ fp, b ≠ s2.heap.objs.size := fun b hb => by
    obtain ⟨o, e⟩ := hfp b hb
    exact Nat.ne_of_lt (Heap.lt_size e)
  have f3 : ∀ b ∈ fp, FpOk X pins (upd H2 s2.heap.objs.size (.lst [])) b := fun b hb => ⟨by rw [upd_ne (neD b hb)]; exact (f2 b hb).1, (f2 b hb).2⟩
  have hDC : s2.heap.objs.size ≠ (s2.heap.push { cls := .type "list", data := .seq ([] : List Value).toArray }).objs.size := by rw [Heap.size_push]; exact Nat.ne_of_lt (Nat.lt_succ_self _)
  have old : ∀ b o, (s2.heap.push { cls := .type "list", data := .seq ([] : List Value).toArray }).get? b = some o -> h₁.get? b = some o := fun b o e => hsb₁.extBut b o (Nat.ne_of_lt (Heap.lt_size e)) (Heap.get?_push_of_some _ e)
  have I4 := cp_inv (tk := s2.toks + ([] : List (Str × Value)).length) (fp := fp) S I3 f3 (fun b hb => by
    obtain ⟨o, e⟩ := hfp b hb
    exact ⟨o, Heap.get?_push_of_some _ e⟩) hns₁ old
  have st4 : tn 0 h₁ := T.keep _ _ _ st2 fun b hb o e => old b o (Heap.get?_push_of_some _ e)
  have stat : ∀ {H' : Hp}, (∀ b ∈ fp, H' b = none) -> ∀ b ∈ fp, FpOk (cpCx X scope N (s2.heap.push { cls := .type "list", data := .seq ([] : List Value).toArray }).objs.size { s2 with heap := s2.heap.push { cls := .type "list", data := .seq ([] : List Value).toArray } } (upd H2 s2.heap.objs.size (.lst [])) fp) [] H' b := fun hn b hb => by
    have ok := I4.ok
    refine ⟨hn b hb, (ok.exf b hb).1, ok.exfs b hb, .inl hb, fun x c e => (ok.exf b hb).2 x c e, fun p hp => nomatch hp⟩
  have loop : ∀ s4 : Shared, s4 = { s2 with heap := h₁, toks := s2.toks + ([] : List (Str × Value)).length } ->
      codeAny (model X.prog X.w) X.A (.compLoop (.ListComp elt [⟨tg, iter, ifs, 0⟩] scope pos) 0 (.ref it) (.ref s2.heap.objs.size) (compEnvC scope (clOf X.env scope.names []) (s2.heap.push { cls := .type "list", data := .seq ([] : List Value).toArray }).objs.size X.env))
        (compPost (model X.prog X.w) X.A X.xe use Q' (.ref s2.heap.objs.size) (s2.heap.push { cls := .type "list", data := .seq ([] : List Value).toArray }).objs.size) s4 := by
    rintro s4 rfl
    refine codeAny_loop rfl (fun n s' => ∃ i σ' H', Inv (cpCx X scope N (s2.heap.push { cls := .type "list", data := .seq ([] : List Value).toArray }).objs.size { s2 with heap := s2.heap.push { cls := .type "list", data := .seq ([] : List Value).toArray } } (upd H2 s2.heap.objs.size (.lst [])) fp) [] σ' H' s' /\ tn i s'.heap /\ (∀ b ∈ fp, H' b = none) /\ W i n σ' H') (fun n s5 hI => ?_) m0 ⟨0, _, _, I4, st4, fun b hb => (f3 b hb).1, w0⟩
    obtain ⟨i, σ5, H5, I5, st5, fr5, w5⟩ := hI
    show wpAny _ X.A ((compTurn (.ListComp elt [⟨tg, iter, ifs, 0⟩] scope pos) 0 (.ref it) (.ref s2.heap.objs.size) (compEnvC scope (clOf X.env scope.names []) (s2.heap.push { cls := .type "list", data := .seq ([] : List Value).toArray }).objs.size X.env)).onRaise (fun x => do noteFrame x _; theTreesLotGoes x)) _ _ s5
    refine wpAny_noted ?_
    rw [compTurn_list]
    refine wpAny_bind (wpAny_standAt (wpAny_bind ?_))
    rcases turn i n σ5 H5 w5 with ⟨stop, q⟩ | ⟨go, step⟩
    · refine thn (T.done (cpCx X scope N (s2.heap.push { cls := .type "list", data := .seq ([] : List Value).toArray }).objs.size { s2 with heap := s2.heap.push { cls := .type "list", data := .seq ([] : List Value).toArray } } (upd H2 s2.heap.objs.size (.lst [])) fp) rfl rfl rfl hc i [] s5 σ5 H5 _ I5 (stat fr5) st5 stop) fun r s6 ⟨hr, I6⟩ => ?_
      subst hr
      obtain ⟨m6, hn6, _⟩ := I6.loc
      refine wpAny_pure (hfin s6 _ _ H5 m6 hn6 (I3.fpOk (Nat.le_refl _) I6.free) (fun h' sb => ?_) q _)
      have u6 := I6.base
      have nC : ∀ b o, (s2.heap.push { cls := .type "list", data := .seq ([] : List Value).toArray }).get? b = some o -> b ≠ (s2.heap.push { cls := .type "list", data := .seq ([] : List Value).toArray }).objs.size := fun b o e => Nat.ne_of_lt (Heap.lt_size e)
      refine I3.call' (ch := fp) I6.os ⟨fun b o e n hb hx => ?_, fun b o e n hb hx => ?_, fun b o e n hx => ?_, fun b o e hx => ?_, u6.tups, u6.frzs, u6.tbls⟩ ?_ I6.bare ?_
      · exact sb.extBut b o (nC b o e) (u6.keep b o e n hb hx)
      · obtain ⟨sl, z⟩ := u6.slot b o e n hb hx
        exact ⟨sl, sb.extBut b _ (nC b o e) z⟩
      · exact u6.free b o e n hx
      · obtain ⟨o', z⟩ := u6.there b o e hx
        exact ⟨o', sb.extBut b _ (nC b o e) z⟩
      · intro b o e
        have hb : ∀ c v, H5 c = some v -> c ≠ (s2.heap.push { cls := .type "list", data := .seq ([] : List Value).toArray }).objs.size := fun c v e z => by
          rw [z] at e
          have := I6.free
          rw [show H5 (s2.heap.push { cls := .type "list", data := .seq ([] : List Value).toArray }).objs.size = none from this] at e
          cases e
        refine (I6.hok b o e).stay (fun c v hc q => sb.extBut c v ?_ q) (fun _ q => q) fun _ _ q => q
        rcases hc with z | z
        · rw [z]; exact hb b o e
        · exact hb c _ z
      · intro b hb
        obtain ⟨_, z1, _, z3, z4, z5⟩ := f3 b hb
        exact ⟨z3, z1, z4, z5⟩
    · refine thn (T.item (cpCx X scope N (s2.heap.push { cls := .type "list", data := .seq ([] : List Value).toArray }).objs.size { s2 with heap := s2.heap.push { cls := .type "list", data := .seq ([] : List Value).toArray } } (upd H2 s2.heap.objs.size (.lst [])) fp) rfl rfl rfl hc i [] s5 σ5 H5 _ I5 (stat fr5) st5 go) fun r s6 ⟨u, hr, h6⟩ => ?_
      subst hr
      refine wpAny_bind (thn h6 fun _ s7 ⟨x, H7, I7, r7, y7, st7, fr7⟩ => ?_)
      have I7' := I7.pinned (stat fr7) (T.obj _ _ st7)
      refine wpAny_bind (thnF (hg _ _ _ fp _ s7 σ5 H7 x u _ I7' r7 (step x H7 y7)) fun _ s8 ⟨σ8, H8, I8, q8⟩ => ?_)
      refine wpAny_bind (thnF (ht _ _ _ fp _ s8 σ8 H8 _ I8 q8) fun ok s9 ⟨H9, I9, q9⟩ => ?_)
      have again : ∀ {s10 : Shared} {H10 : Hp}, Inv (cpCx X scope N (s2.heap.push { cls := .type "list", data := .seq ([] : List Value).toArray }).objs.size { s2 with heap := s2.heap.push { cls := .type "list", data := .seq ([] : List Value).toArray } } (upd H2 s2.heap.objs.size (.lst [])) fp) ([] ++ pinsAt fp s7.heap) σ8 H10 s10 -> (∃ m', m' < n /\ W (i + 1) m' σ8 H10) ->
          ∃ m, m < n /\ ∃ i σ' H', Inv (cpCx X scope N (s2.heap.push { cls := .type "list", data := .seq ([] : List Value).toArray }).objs.size { s2 with heap := s2.heap.push { cls := .type "list", data := .seq ([] : List Value).toArray } } (upd H2 s2.heap.objs.size (.lst [])) fp) [] σ' H' s10 /\ tn i s10.heap /\ (∀ b ∈ fp, H' b = none) /\ W i m σ' H' := fun {s10 H10} I10 ⟨m', hm, w10⟩ => by
        refine ⟨m', hm, i + 1, σ8, H10, I10.unpinned, T.keep _ _ _ st7 fun b hb o e => (I10.pin (b, o) (List.mem_append_right _ (List.mem_append_right _ (mem_pinsAt hb e)))).1, fun b hb => ?_, w10⟩
        obtain ⟨o, e, d⟩ := T.obj _ _ st7 b hb
        exact (I10.pin (b, o) (List.mem_append_right _ (List.mem_append_right _ (mem_pinsAt hb e)))).2.1
      cases ok with
      | false =>
        rw [if_neg Bool.false_ne_true] at q9
        exact wpAny_pure ⟨rfl, again I9 q9⟩
      | true =>
        rw [if_pos rfl] at q9
        refine wpAny_bind (wpAny_bind (thnF (he _ _ _ fp _ s9 σ8 H9 _ I9 q9) fun y s10 ⟨v10, H10, I10, r10, ys, hD, hz, w10⟩ => ?_))
        refine wpAny_bind (thnF (mt_append _ s10 σ8 H10 (.ref s2.heap.objs.size) [v10] _ [y] (fun _ H' => H' = upd H10 s2.heap.objs.size (.lst (ys ++ [v10]))) I10 rfl (.cons r10 .nil) ⟨_, ys, v10, rfl, rfl, hD, hz, rfl⟩) fun _ s11 ⟨_, H11, I11, _, e11⟩ => ?_)
        subst e11
        exact wpAny_pure (wpAny_pure ⟨rfl, again I11 w10⟩)
  exact codeAny_compStart_list (loop _ rfl) (T.self _ 0 _ _ _ st4 (loop _ rfl))
theorem ps_setLC {X : Cx} {i : Nat} {y : Str} {py spos : Pos} {tg iter elt : Expr} {ifs : List Expr} {scope : Scope} {pos : Pos} {N : List Str} {cap : List (Option Nat)} {wi : TI} {g : TG} {tc : TT} {te : TE}
    (hN : X.N.Nodup) (hi' : X.N[i]? = some y) (hx : Loc X.env.scope y) (hc : X.calm = true) (S : CpScope X scope N cap) (hi : PI X tg iter wi)
    (hg : ∀ C s₀ H₀ ex, PG (cpCx X scope N C s₀ H₀ ex) tg g) (ht : ∀ C s₀ H₀ ex, PTs (cpCx X scope N C s₀ H₀ ex) ifs tc) (he : ∀ C s₀ H₀ ex, PE (cpCx X scope N C s₀ H₀ ex) elt te)
    (hsw : swapsWith (.ListComp elt [⟨tg, iter, ifs, 0⟩] scope pos) (some (.Name y py)) spos.line X.env = pure true)
    (hf : X.fn y = true \/ X.env.scope.names.lookup y = some .local) (hs : ∀ x, foldedSetIterable iter X.env x = pure x := by intro _; rfl) :
    PS X (.Assign [.Name y py] (.ListComp elt [⟨tg, iter, ifs, 0⟩] scope pos) spos) (tAsg (tLC cap wi g tc te) (gName i)) := by
  intro pins s σ H D I h
  rw [exec_Assign_Name_used _ _ _ _ hsw]
  refine wpAny_bind (wpAny_standAt (wpAny_bind ?_))
  show wpAny _ X.A (do let _ <- comprehension (.ListComp elt [⟨tg, iter, ifs, 0⟩] scope pos) scope X.env (firstIterPos [⟨tg, iter, ifs, 0⟩] pos) (newList []) (firstAsync [⟨tg, iter, ifs, 0⟩]) (firstIter [⟨tg, iter, ifs, 0⟩] X.env) (some (assign (.Name y py) X.env))) _ _ s
  refine wpAny_bind (wpAny_mono (lc_gen (Q' := fun _ s' => SP X pins D .next s') hc S hi hg ht he hs pins s σ H _ I h ?_) (fun _ s' hq => wpAny_pure (wpAny_pure hq)) fun _ _ e => e)
  intro s6 C Dd H5 m hn fk inv q v
  have Ia := inv s6.heap (Heap.SameBut.refl _ _)
  obtain ⟨oC, hoC⟩ : ∃ o, s6.heap.get? C = some o /\ ∀ v, o.data ≠ .cell v := by
    obtain ⟨o, es, ep, e, d, _⟩ := hn
    exact ⟨o, e, fun v z => by rw [d] at z; cases z⟩
  have Ip := Ia.pinned (fp := [C]) (fun b hb => by rw [List.mem_singleton] at hb; rw [hb]; exact fk) (fun b hb => by rw [List.mem_singleton] at hb; rw [hb]; exact ⟨oC, hoC⟩)
  show wpAny _ X.A (assign (.Name y py) X.env (.ref Dd)) _ _ s6
  refine thn (pg_name hN hi' hx hf _ s6 σ H5 (.ref Dd) (.ref Dd) _ Ip rfl q) fun _ s7 ⟨σ7, H7, I7, q7⟩ => ?_
  have hp := I7.pin (C, oC) (List.mem_append_right _ (List.mem_append_right _ (mem_pinsAt (List.mem_singleton.mpr rfl) hoC.1)))
  refine ⟨m, hn.at' fun o e => by rw [hoC.1] at e; cases e; exact hp.1, fun h' sb => ?_⟩
  have nC : ∀ c v, H7 c = some v -> c ≠ C := fun c v e z => by rw [z, hp.2.1] at e; cases e
  refine ⟨σ7, H7, ?_, q7⟩
  refine I7.unpinned.call' (ch := [C]) rfl ⟨fun b o e n hb hx => ?_, fun b o e n hb hx => ?_, fun b o e n hx => n, fun b o e hx => ?_, fun _ _ e => e, fun _ _ _ e => e, fun _ _ e => ⟨#[], by rw [Array.append_empty]; exact e⟩⟩ ?_ I7.bare ?_
  · exact sb.extBut b o (by simpa using hx) e
  · exact ⟨o.slots, sb.extBut b o (by simpa using hx) e⟩
  · exact ⟨o, sb.extBut b o (by simpa using hx) e⟩
  · intro b o e
    refine (I7.hok b o e).stay (fun c v hc q => sb.extBut c v ?_ q) (fun _ q => q) fun _ _ q => q
    rcases hc with z | z
    · rw [z]; exact nC b o e
    · exact nC c _ z
  · intro b hb
    rw [List.mem_singleton] at hb
    rw [hb]
    exact ⟨fk.2.2.2.1, fk.2.1, fk.2.2.2.2.1, fk.2.2.2.2.2⟩
end L2
set_option Elab.async false
set_option linter.all false
set_option maxRecDepth 100000
set_option maxHeartbeats 4000000
namespace L2
open PySem PySem.Spec PyProof.Rows
noncomputable def Itn (lo : Int) (n : Nat) : It := ⟨fun i _ => i < n, fun i H x H' => H' = H /\ x = .int (lo - i), fun i _ => n <= i⟩
theorem turn_down {P : Program} {w : World} {K : PySem.W.Frag} {tg : Expr} (it : Addr) (lo : Int) (n : Nat) : Turn P w K tg (Itn lo n) [it] it (fun i h => IsRangeIter h it (lo + (i : Nat) * (-1)) ((n : Int) - (i : Nat)) (-1)) where
  mem := by simp
  obj := fun i h st b hb => by
    have e : b = it := by simpa using hb
    subst e
    exact ⟨_, st, fun v z => by
      have z' : Data.fields _ = Data.cell v := z
      cases z'⟩
  keep := fun i h h' st k => k it (by simp) _ st
  item := by
    intro X hP hw hK hc i pins s σ H E I hf st hg
    subst hP hw hK
    obtain ⟨f0, f1, f2, f3, f4, f5⟩ := hf it (by simp)
    have W := Walks.range (prog := X.prog) (w := X.w) (I.ok.hd hc) it lo (-1) n
    refine W.item i s _ _ hg st fun v h' tk hv st' kk => ?_
    obtain ⟨t, rfl⟩ := hv
    have I1 : Inv X pins σ H { s with heap := h', toks := tk } := I.turned (fun b o hb e => kk b o (by simpa using hb) e) f0 f1 f3 f4 f5
    refine ⟨_, rfl, go_of (s := { s with heap := h', toks := tk }) (n := "range_iterator") st' rfl rfl (by decide) ⟨.int (lo - i), H, I1, ⟨t, ?_⟩, ⟨rfl, rfl⟩, st', fun b hb => (hf b hb).1⟩⟩
    rw [show lo + (i : Int) * (-1) = lo - i by omega]
  done := by
    intro X hP hw hK hc i pins s σ H E I hf st hg
    subst hP hw hK
    obtain ⟨f0, f1, f2, f3, f4, f5⟩ := hf it (by simp)
    exact wpAny_pyNext_range_end (I.ok.hd hc) st (by have : n <= i := hg; omega) fun h' eb => ⟨rfl, I.turned (t' := s.toks) (fun b o hb e => eb b o hb e) f0 f1 f3 f4 f5⟩
  self := fun _ _ _ _ _ st h => wpAny_pyIter_rangeiter st h
theorem size_down (a b : Int) : Builtin.Range.rangeSize a b (-1) = if a > b then a - b else 0 := by
  unfold Builtin.Range.rangeSize
  simp only [show ¬ ((-1 : Int) > 0) by decide, if_false, Int.neg_neg, Int.ediv_one]
  split <;> omega
theorem small_down {a b : Int} (ha : -(2 ^ 62) <= a) (ha' : a < 2 ^ 62) (hb : -(2 ^ 62) <= b) (hb' : b < 2 ^ 62) : Builtin.Range.small a b (-1) = true := by
  unfold Builtin.Range.small
  rw [size_down]
  simp only [Builtin.Range.rangeFitsLong, Bool.and_eq_true, Bool.or_eq_true, decide_eq_true_eq, beq_iff_eq, show ¬ ((-1 : Int) > 0) by decide, if_false]
  split <;> omega
section
variable {X : Cx} {tg : Expr}
theorem down_it {pins : List (Addr × Obj)} {σ : St} {H : Hp} {s : Shared} {R : It -> Hp -> Prop} {E : Value -> Shared -> Prop} {lo hi : Int} {t u v : Tok} {tk : Nat} (I : Inv X pins σ H s) (h1 : -(2 ^ 62) <= lo) (h2 : lo < 2 ^ 62) (h3 : -(2 ^ 62) <= hi) (h4 : hi < 2 ^ 62)
    (q : R (Itn lo (lo - hi).toNat) H) : wpAny (model X.prog X.w) X.A (pyIter (.ref s.heap.objs.size)) (PIE X pins σ tg R) E { s with heap := s.heap.push { cls := .type "range", data := .fields #[.int lo t, .int hi u, .int (-1) v] }, toks := tk } := by
  refine wpAny_pyIter_range (IsRange.new ..) (small_down h1 h2 h3 h4) ?_
  have I1 : Inv X pins σ H { s with heap := s.heap.push { cls := .type "range", data := .fields #[.int lo t, .int hi u, .int (-1) v] }, toks := tk } := I.kept fun b o e => Heap.get?_push_of_some _ e
  refine ⟨(s.heap.push { cls := .type "range", data := .fields #[.int lo t, .int hi u, .int (-1) v] }).objs.size, [(s.heap.push { cls := .type "range", data := .fields #[.int lo t, .int hi u, .int (-1) v] }).objs.size], _, _, H, rfl,
    I1.kept (t' := tk) fun b o e => Heap.get?_push_of_some _ e, turn_down _ lo (lo - hi).toNat, ?_, fun b hb => ?_, q⟩
  · have e1 : lo + ((0 : Nat) : Int) * (-1) = lo := by simp
    have e2 : (((lo - hi).toNat : Nat) : Int) - ((0 : Nat) : Int) = Builtin.Range.rangeSize lo hi (-1) := by rw [size_down]; split <;> omega
    show IsRangeIter _ _ (lo + ((0 : Nat) : Int) * (-1)) ((((lo - hi).toNat : Nat) : Int) - ((0 : Nat) : Int)) (-1)
    rw [e1, e2]
    exact Heap.get?_push_size _ rfl
  · have e : b = (s.heap.push { cls := .type "range", data := .fields #[.int lo t, .int hi u, .int (-1) v] }).objs.size := by simpa using hb
    subst e
    exact I1.fpOk (Nat.le_refl _) (I1.hok.fresh (Nat.le_refl _))
noncomputable def iDown (ta : TA) : TI := fun σ H R => ta σ H fun vs H1 => ∃ i j : Int, vs = [.int i, .int j, .int (-1)] /\ (-(2 ^ 62) <= i /\ i < 2 ^ 62 /\ -(2 ^ 62) <= j /\ j < 2 ^ 62) /\ R (Itn i (i - j).toNat) H1
theorem pi_down {a b c : Expr} {ta : TA} {p pos : Pos} (hg : Gl X "range") (hm : X.mg "range" = none) (ha : PA X [a, b, c] ta) (hs : starEach [a, b, c] X.env = [(false, eval a X.env), (false, eval b X.env), (false, eval c X.env)] := by rfl) (hs2 : starEach [b, c] X.env = [(false, eval b X.env), (false, eval c X.env)] := by rfl) :
    PI X tg (.Call (.Name "range" p) [a, b, c] [] pos) (iDown ta) := by
  intro pins s σ H R I h
  refine Call_ (ld_blt I hg hm boot_range (PyProof.Rows.callWith_type1 (thn (ha pos pins s σ H _ I h) fun us s1 ⟨vs, H1, I1, r1, q1⟩ => ?_) (by rw [hs, hs2]) (by rw [hs2]; rfl)))
  obtain ⟨i, j, e, ⟨q1, q2, q3, q4⟩, q⟩ := q1
  subst e
  cases r1 with
  | cons r rr =>
    cases rr with
    | cons r' rr =>
      cases rr with
      | cons r'' rr =>
        cases rr
        obtain ⟨t, rfl⟩ := r
        obtain ⟨t', rfl⟩ := r'
        obtain ⟨t'', rfl⟩ := r''
        exact call_range_3 (by decide) (down_it I1 q1 q2 q3 q4 q)
end
end L2
set_option Elab.async false
set_option linter.all false
set_option maxRecDepth 100000
set_option maxHeartbeats 4000000
namespace L2
open PySem PySem.Spec PyProof.Rows
noncomputable def selB (start stop step : Int) (i : Nat) : Bool :=
  if step > 0 then decide (start <= i) && decide ((i : Int) < stop) && ((i - start) % step == 0)
  else decide (stop < i) && decide ((i : Int) <= start) && ((start - i) % (-step) == 0)
theorem selB_one {a n i : Nat} (h : i < n) : selB a n 1 i = decide (a <= i) := by
  unfold selB
  rw [if_pos (by decide), decide_eq_true (show (i : Int) < (n : Int) by omega), Bool.and_true, Int.emod_one]
  by_cases c : a <= i
  · rw [decide_eq_true (show (a : Int) <= (i : Int) by omega), decide_eq_true c]; rfl
  · rw [decide_eq_false (show ¬ (a : Int) <= (i : Int) by omega), decide_eq_false c]; rfl
theorem keep_take {α : Type} (a n : Nat) : ∀ (xs : List α) (i : Nat), i + xs.length <= n -> (xs.zipIdx i).filterMap (fun (p : α × Nat) => if selB a n 1 p.2 = true then none else some p.1) = xs.take (a - i)
  | [], i, _ => by simp
  | x :: xs, i, h => by
    rw [List.length_cons] at h
    rw [List.zipIdx_cons, List.filterMap_cons]
    simp only [selB_one (show i < n by omega)]
    by_cases c : a <= i
    · rw [if_pos (by simpa using c), keep_take a n xs (i + 1) (by omega), show a - (i + 1) = 0 by omega, show a - i = 0 by omega, List.take_zero, List.take_zero]
    · rw [if_neg (by simpa using c), keep_take a n xs (i + 1) (by omega), show a - i = a - (i + 1) + 1 by omega, List.take_succ_cons]
section
variable {prog : Program} {w : World} {A : Around} {E : Value -> Shared -> Prop} {s : Shared}
theorem delItem_from {l sl : Addr} {items : Array Value} {n : Nat} {k : Nat} {t : Tok} {Q : Unit -> Shared -> Prop} (ho : s.heap.get? l = some { cls := .type "list", data := .seq items n })
    (hs : s.heap.IsSliceOf sl (.int k t) .none .none) (hsz : items.size <= sizeLine)
    (h : ∀ h' m, h'.get? l = some { cls := .type "list", data := .seq (items.toList.take k).toArray m } -> (∀ b, b ≠ l -> h'.get? b = s.heap.get? b) -> Q () { s with heap := h' }) : wpAny (model prog w) A (delItem (.ref l) (.ref sl)) Q E s := by
  obtain ⟨os, hos, hcs, hds⟩ := id hs
  have hTs : s.TypeIs (.ref sl) "slice" := ⟨os, hos, hcs⟩
  have hTl : s.TypeIs (.ref l) "list" := ⟨_, ho, rfl⟩
  refine wpAny_delItem_slot hTl (by decide) PySem.F.slot_list_delitem (wpAny_call_entry PySem.F.slot_list_delitem hTl PySem.F.entry_list_delitem ?_ (PySem.F.args_list_delitem_2 _ _))
  show wpAny _ _ (Builtin.List.listSubscript? (.ref sl) >>= _) _ _ s
  refine wpAny_bind ?_
  unfold Builtin.List.listSubscript?
  refine wpAny_bind (wpAny_specialOf hTs slice_no_index ?_)
  simp only [Option.isNone_none, if_true]
  refine wpAny_pure ?_
  show wpAny _ _ (typeOf (.ref sl) >>= _) _ _ s
  refine wpAny_bind (wpAny_typeOf hTs ?_)
  rw [if_neg (by decide)]
  rw [listSliceParts_eq]
  refine wpAny_bind (wpAny_bind (wpAny_field hos hds (x := .none) rfl (wpAny_bind (wpAny_listPart .none ?_))))
  rw [if_neg (by decide)]
  refine wpAny_bind (wpAny_field hos hds (x := .int k t) rfl (wpAny_bind (wpAny_listPart (.int k t) ?_)))
  refine wpAny_bind (wpAny_field hos hds (x := .none) rfl (wpAny_bind (wpAny_listPart .none (wpAny_pure ?_))))
  refine wpAny_bind (listItems_at ho rfl ?_)
  refine wpAny_bind (wpAny_of_eq (sliceIndices_raw (some (k : Int)) none none items.size (by simp)) ?_)
  refine wpAny_bind (wpAny_rule ?_)
  have hb : sliceBounds (some (k : Int)) none none items.size = (((min k items.size : Nat) : Int), (items.size : Int), 1) := by
    unfold sliceBounds
    simp only [Option.getD_none, show (1 : Int) > 0 by decide, if_true]
    rw [if_neg (by omega)]
    congr 1
    omega
  rw [hb]
  have kt := keep_take (min k items.size) items.size items.toList 0 (by simp)
  have tk : items.toList.take (min k items.size - 0) = items.toList.take k := by
    rw [Nat.sub_zero]
    by_cases c : k <= items.size
    · rw [Nat.min_eq_left c]
    · rw [Nat.min_eq_right (by omega), List.take_of_length_le (by simp), List.take_of_length_le (by simp; omega)]
  rw [tk] at kt
  refine wpAny_bind (listUpdate_at ho rfl ?_ hsz ?_)
  · refine wpAny_bind (wpAny_letGo (wpAny_pure ⟨_, rfl, ?_⟩))
    have g0 : ∀ f : Array Value -> Array Value, ∃ m, (s.heap.update l (Obj.mapSeq f)).get? l = some (seqObj "list" (f items) m) := fun f => ⟨_, get?_update_seq ho f⟩
    obtain ⟨m, hm⟩ := g0 _
    exact h _ m (hm.trans (congrArg (fun z : List Value => some (seqObj "list" z.toArray m)) kt)) fun b hb' => Heap.get?_update_ne _ _ _ _ hb'
  · have : (items.toList.take k).toArray.size <= sizeLine + 1 := by
      rw [List.size_toArray, List.length_take]
      have : items.toList.length = items.size := rfl
      omega
    rw [<- kt] at this
    exact this
end
section
variable {X : Cx} {o e : Expr} {to : TE} {tl : TO} {p2 spos pos : Pos}
noncomputable def tDel (to : TE) (tl : TO) : TS := fun D σ H => to σ H fun x H1 => tl σ H1 fun l H2 => ∃ a xs k, x = .ref a /\ H2 a = some (.lst xs) /\ l = some ((k : Nat) : Int) /\ D.nx σ (upd H2 a (.lst (xs.take k)))
theorem vals_take : ∀ {xs : List V} {us : List Value} (k : Nat), Vals xs us -> Vals (xs.take k) (us.take k)
  | _, _, 0, _ => by rw [List.take_zero, List.take_zero]; exact .nil
  | _, _, k + 1, .nil => .nil
  | _, _, k + 1, .cons h t => .cons h (vals_take k t)
theorem ps_del (ho : PE X o to) (he : PO X (some e) tl) : PS X (.Delete [.Subscript o (.Slice (some e) none none p2) spos] pos) (tDel to tl) := by
  intro pins s σ H D I h
  refine wpAny_Delete (wpAny_deleteEach_cons ?_)
  rw [arm_delete_Subscript]
  refine wpAny_bind (thn (ho pins s σ H _ I h) fun v s1 ⟨x, H1, I1, r1, q1⟩ => ?_)
  refine wpAny_bind (wpAny_holding (wpAny_Slice (thn (he pins s1 σ H1 _ I1 q1) fun vl s2 ⟨l, H2, I2, pl, q2⟩ => ?_)))
  rw [evalPart_none]
  refine wpAny_pure ?_
  refine wpAny_pure ?_
  obtain ⟨a, xs, k, rfl, hH, rfl, q⟩ := q2
  cases r1
  cases pl with
  | int i t =>
    have I3 : Inv X pins σ H2 { s2 with heap := s2.heap.push { cls := .type "slice", data := .fields #[.int (k : Int) t, .none, .none] } } := I2.kept (t' := s2.toks) fun b ob q => Heap.get?_push_of_some _ q
    obtain ⟨z, its, n, r, hl, e1⟩ := I3.lstM hH
    refine wpAny_bind (wpAny_standAt ?_)
    refine wpAny_bind (wpAny_holding (delItem_from (k := k) (t := t) e1 (Heap.IsSliceOf.new ..) (by rw [List.size_toArray]; omega) fun h' m g1 g2 => ?_))
    refine wpAny_release (wpAny_deleteEach_nil ?_)
    refine ⟨σ, _, I3.write (t' := s2.toks) (x := a) (e := a) (o := .lst (xs.take k)) (by rw [hH]; exact trivial) (.inl rfl) (fun b u hb hu => (g2 b hb).trans hu) ⟨_, g1⟩ ?_, q⟩
    exact ⟨by rw [List.length_take]; omega, its.take k, m, vals_take k r, g1⟩
end
end L2
set_option Elab.async false
set_option linter.all false
set_option maxRecDepth 100000
set_option maxHeartbeats 4000000
namespace Sx
open PySem PyProof.Rows
structure Ord where
  lt : Nat -> Nat -> Bool
  irr : ∀ i, lt i i = false
  tr : ∀ i j k, lt i j = true -> lt j k = true -> lt i k = true
  neg : ∀ i j k, lt i k = true -> lt i j = true \/ lt j k = true
noncomputable def P (o : Ord) (i j : Nat) : Prop := o.lt i j = true \/ (o.lt j i = false /\ i < j)
noncomputable def So (o : Ord) (g : Nat -> Nat) (a b : Nat) : Prop := ∀ i j, a <= i -> i < j -> j < b -> P o (g i) (g j)
noncomputable def Cl (g : Nat -> Nat) (a b : Nat) : Prop := ∀ i, a <= i -> i < b -> a <= g i /\ g i < b
section
variable {prog : Program} {w : World} {A : Around} {E : Value -> Shared -> Prop} {s : Shared} {o : Ord} {N : Nat} {f : Nat -> Keyed} {kd : SortKind} {g : Nat -> Nat} {p : Array (Nat × Nat × Nat)} {st : SortSt}
structure Sg (N : Nat) (f : Nat -> Keyed) (kd : SortKind) (g : Nat -> Nat) (p : Array (Nat × Nat × Nat)) (st : SortSt) : Prop where
  size : (arrOf st).size = N
  get : ∀ i, i < N -> (arrOf st)[i]? = some (f (g i))
  lt : ∀ i, i < N -> g i < N
  kind : kindOf st = kd
  failed : failedOf st = none
  pend : pendingOf st = p
structure Rn (o : Ord) (g0 g : Nat -> Nat) (a b : Nat) : Prop where
  out : ∀ i, i < a \/ b <= i -> g i = g0 i
  cl : Cl g a b
  so : So o g a b
end
section
variable {prog : Program} {w : World} {A : Around} {E : Value -> Shared -> Prop} {s : Shared} {o : Ord} {N : Nat} {f : Nat -> Keyed} {kd : SortKind} {g g0 : Nat -> Nat} {p : Array (Nat × Nat × Nat)} {st : SortSt}
structure Dc (o : Ord) (g0 g : Nat -> Nat) (a b q : Nat) : Prop where
  out : ∀ i, i < a \/ b <= i -> g i = g0 i
  cl : Cl g a b
  few : a + (q + 1) <= b
  dn : ∀ i j, a <= i -> i < j -> j < b -> i < b - (q + 1) -> P o (g j) (g i)
  id : ∀ i, b - (q + 1) <= i -> i < b -> g i = i
  al : ∀ i j, b - (q + 1) <= i -> i < b -> b - (q + 1) <= j -> j < b -> o.lt i j = false
noncomputable def Fin (o : Ord) (g0 g : Nat -> Nat) (a b : Nat) : Prop := (∀ i, i < a \/ b <= i -> g i = g0 i) /\ Cl g a b /\ (∀ i j, a <= i -> i < j -> j < b -> P o (g j) (g i))
end
end Sx
set_option Elab.async false
set_option linter.all false
set_option maxRecDepth 100000
set_option maxHeartbeats 4000000
namespace Sx
open PySem PyProof.Rows
section
variable {prog : Program} {w : World} {A : Around} {E : Value -> Shared -> Prop} {s : Shared} {st : SortSt}
end
section
variable {prog : Program} {w : World} {A : Around} {E : Value -> Shared -> Prop} {s : Shared} {o : Ord} {N : Nat} {f : Nat -> Keyed} {kd : SortKind} {st : SortSt}
end
end Sx
set_option Elab.async false
set_option linter.all false
set_option maxRecDepth 100000
set_option maxHeartbeats 4000000
namespace Sx
open PySem PyProof.Rows
section
variable {o : Ord} {N : Nat} {f : Nat -> Keyed} {A B hs : List Nat} {ia ib : Nat}
noncomputable def fa (f : Nat -> Keyed) (l : List Nat) : Array Keyed := (l.map f).toArray
structure Ab (o : Ord) (N : Nat) (A B : List Nat) : Prop where
  sa : A.Pairwise (P o)
  sb : B.Pairwise (P o)
  lt : ∀ x ∈ A, ∀ y ∈ B, x < y
  nb : ∀ y ∈ B, y < N
  na : ∀ x ∈ A, x < N
structure Mg (o : Ord) (A B hs : List Nat) (ia ib : Nat) : Prop where
  la : ia <= A.length
  lb : ib <= B.length
  len : hs.length = ia + ib
  so : hs.Pairwise (P o)
  mem : ∀ x ∈ hs, x ∈ A \/ x ∈ B
  ua : ∀ x ∈ hs, ∀ y ∈ A.drop ia, P o x y
  ub : ∀ x ∈ hs, ∀ y ∈ B.drop ib, P o x y
noncomputable def Res (o : Ord) (f : Nat -> Keyed) (A B : List Nat) (out : Array Keyed) : Prop := ∃ hs : List Nat, out = fa f hs /\ hs.length = A.length + B.length /\ hs.Pairwise (P o) /\ ∀ x ∈ hs, x ∈ A \/ x ∈ B
theorem getD_at {l : List Nat} {i : Nat} (h : i < l.length) : l[i]? = some (l.getD i 0) := by
  rw [List.getD_eq_getElem?_getD, List.getElem?_eq_getElem h]; rfl
end
structure Sm (st st' : SortSt) : Prop where
  a : arrOf st' = arrOf st
  k : kindOf st' = kindOf st
  p : pendingOf st' = pendingOf st
  f : failedOf st' = failedOf st
noncomputable abbrev G := Option (Array Keyed) × Array Keyed × Nat × Nat × Nat × Nat × Nat
section
variable {prog : Program} {w : World} {A : Around} {E : Value -> Shared -> Prop} {s : Shared} {o : Ord} {N : Nat} {f : Nat -> Keyed} {kd : SortKind} {st st0 : SortSt} {X Y hs : List Nat} {ia ib : Nat}
end
end Sx
set_option Elab.async false
set_option linter.all false
set_option maxRecDepth 100000
set_option maxHeartbeats 4000000
namespace Sx
open PySem PyProof.Rows
section
variable {o : Ord} {N : Nat} {f : Nat -> Keyed} {A B ts : List Nat} {na nb : Nat}
structure Mh (o : Ord) (A B ts : List Nat) (na nb : Nat) : Prop where
  la : na <= A.length
  lb : nb <= B.length
  len : ts.length + na + nb = A.length + B.length
  so : ts.Pairwise (P o)
  mem : ∀ x ∈ ts, x ∈ A \/ x ∈ B
  ua : ∀ y ∈ A.take na, ∀ x ∈ ts, P o y x
  ub : ∀ y ∈ B.take nb, ∀ x ∈ ts, P o y x
end
noncomputable abbrev H := Option (Array Keyed) × Nat × Nat × Array Keyed × Nat × Nat × Nat
section
variable {prog : Program} {w : World} {A : Around} {E : Value -> Shared -> Prop} {s : Shared} {o : Ord} {N : Nat} {f : Nat -> Keyed} {kd : SortKind} {st st0 : SortSt} {X Y ts : List Nat} {na nb : Nat}
noncomputable def Oh (o : Ord) (X Y : List Nat) (n : Nat) (ts : List Nat) (na nb : Nat) : Prop := Mh o X Y ts na nb /\ 1 <= na /\ 2 <= nb /\ na + nb + n <= X.length + Y.length
noncomputable def H2 (o : Ord) (f : Nat -> Keyed) (X Y : List Nat) (n : Nat) (st0 : SortSt) : ForInStep H -> SortSt -> Prop := fun r st' => Sm st0 st' /\ match r with
  | .done c => (∃ r z, c = (some r, z) /\ Res o f X Y r) \/ ∃ ts na nb mg ac bc, c = (none, na, nb, fa f ts.reverse, mg, ac, bc) /\ Oh o X Y n ts na nb
  | .yield c => ∃ ts na nb mg ac bc, c = (none, na, nb, fa f ts.reverse, mg, ac, bc) /\ Oh o X Y n ts na nb
end
end Sx
set_option Elab.async false
set_option linter.all false
set_option maxRecDepth 100000
set_option maxHeartbeats 4000000
namespace Sx
open PySem PyProof.Rows
section
variable {o : Ord} {N : Nat} {f : Nat -> Keyed} {g : Nat -> Nat}
end
section
variable {prog : Program} {w : World} {A : Around} {E : Value -> Shared -> Prop} {s : Shared} {o : Ord} {N : Nat} {f : Nat -> Keyed} {kd : SortKind} {g : Nat -> Nat} {st : SortSt}
end
end Sx
set_option Elab.async false
set_option linter.all false
set_option maxRecDepth 100000
set_option maxHeartbeats 4000000
namespace Sx
open PySem PyProof.Rows
noncomputable abbrev pr (x : Nat × Nat × Nat) : Nat × Nat := (x.1, x.2.1)
noncomputable def Pend (o : Ord) (g : Nat -> Nat) : List (Nat × Nat) -> Nat -> Nat -> Prop
  | [], a, b => a = b
  | x :: l, a, b => x.1 = a /\ 1 <= x.2 /\ Cl g a (a + x.2) /\ So o g a (a + x.2) /\ Pend o g l (a + x.2) b
noncomputable def PA (o : Ord) (g : Nat -> Nat) (p : Array (Nat × Nat × Nat)) (b : Nat) : Prop := Pend o g (p.toList.map pr) 0 b
section
variable {o : Ord} {g : Nat -> Nat}
end
section
variable {prog : Program} {w : World} {A : Around} {E : Value -> Shared -> Prop} {s : Shared} {o : Ord} {N : Nat} {f : Nat -> Keyed} {kd : SortKind} {g : Nat -> Nat} {p : Array (Nat × Nat × Nat)} {st : SortSt}
end
end Sx
set_option Elab.async false
set_option linter.all false
set_option maxRecDepth 100000
set_option maxHeartbeats 4000000
namespace Sx
open PySem PyProof.Rows
section
variable {prog : Program} {w : World} {A : Around} {E : Value -> Shared -> Prop} {s : Shared} {o : Ord} {kd : SortKind}
end
section
variable {prog : Program} {w : World} {A : Around} {E : Value -> Shared -> Prop} {s : Shared}
end
end Sx
set_option Elab.async false
set_option linter.all false
set_option maxRecDepth 100000
set_option maxHeartbeats 4000000
namespace Sx
open PySem PyProof.Rows
theorem lex_irr : ∀ a : List Int, HT.lexLt a a = false
  | [] => HT.lexLt_nil_nil
  | x :: a => by rw [HT.lexLt_cons, if_pos rfl]; exact lex_irr a
section
variable {prog : Program} {w : World} {A : Around} {E : Value -> Shared -> Prop} {s : Shared}
end
end Sx
namespace L2
open PySem PySem.Spec PyProof.Rows
section
variable {X : Cx}
end
end L2
set_option Elab.async false
set_option linter.all false
set_option maxRecDepth 100000
set_option maxHeartbeats 4000000
namespace Sx
open PySem PyProof.Rows
open PySem.AutoSeq1 (wpAny_loadPart')
open PySem.MeetsSeq PySem.MeetsSeq2 PySem.MeetsSeq3
section
variable {prog : Program} {w : World} {A : Around} {E : Value -> Shared -> Prop} {s : Shared}
end
end Sx
namespace L2
open PySem PySem.Spec PyProof.Rows
section
variable {X : Cx}
end
end L2
set_option Elab.async false
set_option linter.all false
set_option maxRecDepth 100000
set_option maxHeartbeats 4000000
namespace Am
open PySem
inductive A where
  | unb | non | bl (b : Bool) | int (i : Int) | str (x : Str) | tup (xs : List A) | frz (xs : List A) | rng (lo hi : Int) | ref (n : Nat) | exn (c : Str) | ty (n : String)
inductive O where
  | lst (xs : List A) | dct (kvs : List (List Int × A)) | ins (c : Str) (fs : List (Str × A))
noncomputable abbrev Sto := List O
inductive R (α : Type) where
  | ok (a : α) (S : Sto) | ex (c : Str) (S : Sto) | no
noncomputable def R.bind {α β : Type} (r : R α) (f : α -> Sto -> R β) : R β := match r with
  | .ok a S => f a S
  | .ex c S => .ex c S
  | .no => .no
noncomputable def R.post {α : Type} (r : R α) (P : α -> Sto -> Prop) (E : Str -> Sto -> Prop) : Prop := match r with
  | .ok a S => P a S
  | .ex c S => E c S
  | .no => False
theorem post_bind {α β : Type} {r : R α} {f : α -> Sto -> R β} {P : β -> Sto -> Prop} {E : Str -> Sto -> Prop} (h : (r.bind f).post P E) : r.post (fun a S => (f a S).post P E) E := by
  cases r <;> exact h
theorem post_mono {α : Type} {r : R α} {P P' : α -> Sto -> Prop} {E E' : Str -> Sto -> Prop} (h : r.post P E) (hp : ∀ a S, P a S -> P' a S) (he : ∀ c S, E c S -> E' c S) : r.post P' E' := by
  cases r with
  | ok a S => exact hp _ _ h
  | ex c S => exact he _ _ h
  | no => exact h.elim
noncomputable def gd {α : Type} (c : Prop) [Decidable c] (r : R α) : R α := if c then r else .no
noncomputable def opt {α β : Type} (o : Option β) (f : β -> R α) : R α := match o with
  | some b => f b
  | none => .no
theorem gd_post {α : Type} {c : Prop} [Decidable c] {r : R α} {P : α -> Sto -> Prop} {E : Str -> Sto -> Prop} (h : (gd c r).post P E) : c /\ r.post P E := by
  unfold gd at h
  by_cases hc : c
  · rw [if_pos hc] at h; exact ⟨hc, h⟩
  · rw [if_neg hc] at h; exact h.elim
theorem opt_post {α β : Type} {o : Option β} {f : β -> R α} {P : α -> Sto -> Prop} {E : Str -> Sto -> Prop} (h : (opt o f).post P E) : ∃ b, o = some b /\ (f b).post P E := by
  cases o with
  | none => exact h.elim
  | some b => exact ⟨b, rfl, h⟩
theorem gd_t {α : Type} {c : Prop} [Decidable c] {r : R α} (h : c) : gd c r = r := if_pos h
noncomputable def lstAt (S : Sto) (n : Nat) : Option (List A) := match S[n]? with
  | some (.lst xs) => some xs
  | _ => none
theorem lstAt_of {S : Sto} {n : Nat} {xs : List A} (h : lstAt S n = some xs) : S[n]? = some (.lst xs) := by
  unfold lstAt at h
  split at h
  · rename_i e; cases h; exact e
  · cases h
theorem lstAt_eq {S : Sto} {n : Nat} {xs : List A} (h : S[n]? = some (.lst xs)) : lstAt S n = some xs := by
  unfold lstAt; rw [h]
inductive RS where
  | nx (τ : List A) (S : Sto) | rt (a : A) (S : Sto) | bk (τ : List A) (S : Sto) | ct (τ : List A) (S : Sto) | ex (c : Str) (S : Sto) | no
noncomputable abbrev Ex := List A -> Sto -> R A
noncomputable abbrev Exs := List A -> Sto -> R (List A)
noncomputable abbrev Te := List A -> Sto -> R Bool
noncomputable abbrev Sm := List A -> Sto -> RS
noncomputable abbrev Tg := A -> List A -> Sto -> R (List A)
end Am
namespace Am
open PySem L2
section
variable (K : PySem.W.Frag) (ρ : List Addr) (H : Hp)
noncomputable def ClN (K : PySem.W.Frag) (c : Str) (C : Addr) : Prop := PySem.W.nsIn K mainGlobals c = some (some (.ref C))
noncomputable def Fz (K : PySem.W.Frag) (H : Hp) (a : Addr) (vs : List V) : Prop :=
  (∃ o, H a = some (.frz o (.lst vs))) \/ ∃ (o : Obj) (its : Array Value) (n : Nat), K.lookup a = some o /\ o.cls = .type "list" /\ o.dict = none /\ o.data = .seq its n /\ its.size <= sizeLine /\ Vals vs its.toList
mutual
inductive AV : A -> V -> Prop
  | non : AV .non .non
  | bl (b : Bool) : AV (.bl b) (.bl b)
  | int (i : Int) : AV (.int i) (.int i)
  | str (x : Str) : AV (.str x) (.str x)
  | ty (n : String) : AV (.ty n) (.ty n)
  | tup {a : Addr} {xs : List A} {vs : List V} (h : H a = some (.tup vs)) (r : AVs xs vs) : AV (.tup xs) (.ref a)
  | frz {a : Addr} {xs : List A} {vs : List V} (h : Fz K H a vs) (r : AVs xs vs) : AV (.frz xs) (.ref a)
  | rng {a : Addr} {lo hi : Int} (h : H a = some (.rng lo hi)) : AV (.rng lo hi) (.ref a)
  | ref {a : Addr} {n : Nat} (h : ρ[n]? = some a) : AV (.ref n) (.ref a)
  | exn {a C : Addr} {c : Str} {oe : Obj} (n : ClN K c C) (h : H a = some (.frz oe xu)) (x : XO C oe) : AV (.exn c) (.ref a)
inductive AVs : List A -> List V -> Prop
  | nil : AVs [] []
  | cons {x : A} {v : V} {xs : List A} {vs : List V} (h : AV x v) (t : AVs xs vs) : AVs (x :: xs) (v :: vs)
end
noncomputable def DV : List (List Int × A) -> List (List Key × V) -> Prop
  | [], [] => True
  | p :: r, q :: r' => (q.1 = p.1.map Sum.inl /\ AV K ρ H p.2 q.2) /\ DV r r'
  | _, _ => False
noncomputable def OR (a : Addr) : O -> Prop
  | .lst xs => ∃ vs, H a = some (.lst vs) /\ AVs K ρ H xs vs
  | .dct kvs => ∃ ks, H a = some (.dT ks) /\ DV K ρ H kvs ks
  | .ins _ _ => ∃ o u, H a = some (.frz o u)
structure Rel (S : Sto) : Prop where
  len : ρ.length = S.length
  nd : ρ.Nodup
  «at» : ∀ (n : Nat) (a : Addr) (o : O), ρ[n]? = some a -> S[n]? = some o -> OR K ρ H a o
end
noncomputable def Imm : HO -> Prop
  | .tup _ => True
  | .rng _ _ => True
  | .frz _ _ => True
  | _ => False
structure Ext0 (ρ ρ' : List Addr) (H H' : Hp) : Prop where
  pre : ρ <+: ρ'
  im : ∀ a u, Imm u -> H a = some u -> H' a = some u
structure Ext (ρ ρ' : List Addr) (H H' : Hp) : Prop extends Ext0 ρ ρ' H H' where
  fr : ∀ a u, H a = some u -> a ∉ ρ -> H' a = some u
  nw : ∀ a, a ∈ ρ' -> a ∈ ρ \/ H a = none
theorem Ext.refl {ρ : List Addr} {H : Hp} : Ext ρ ρ H H := ⟨⟨List.prefix_refl _, fun _ _ _ h => h⟩, fun _ _ h _ => h, fun _ h => .inl h⟩
theorem Ext.trans {ρ ρ1 ρ2 : List Addr} {H H1 H2 : Hp} (a : Ext ρ ρ1 H H1) (b : Ext ρ1 ρ2 H1 H2) : Ext ρ ρ2 H H2 := ⟨⟨a.pre.trans b.pre, fun x u i h => b.im x u i (a.im x u i h)⟩, fun x u h n => b.fr x u (a.fr x u h n) fun z => (a.nw x z).elim n fun z => by (rw [z] at h; cases h), fun x h => by
  by_cases hx : x ∈ ρ
  · exact .inl hx
  · right
    cases q : H x with
    | none => rfl
    | some u =>
      rcases b.nw x h with z | z
      · exact ((a.nw x z).elim hx fun z => by (rw [z] at q; cases q)).elim
      · rw [a.fr x u q hx] at z; cases z⟩
theorem Ext0.get {ρ ρ' : List Addr} {H H' : Hp} (e : Ext0 ρ ρ' H H') {n : Nat} {a : Addr} (h : ρ[n]? = some a) : ρ'[n]? = some a := by
  obtain ⟨t, rfl⟩ := e.pre
  rw [List.getElem?_append_left (List.getElem?_eq_some_iff.mp h).1]
  exact h
section
variable {K : PySem.W.Frag} {ρ ρ' : List Addr} {H H' : Hp}
theorem Ext0.sqT (e : Ext0 ρ ρ' H H') {a : Addr} {vs : List V} (h : SqT K H a vs) : SqT K H' a vs := by
  rcases h with (h | ⟨o, h⟩) | h
  · exact .inl (.inl (e.im _ _ trivial h))
  · exact .inl (.inr ⟨o, e.im _ _ trivial h⟩)
  · exact .inr h
theorem Ext0.fz (e : Ext0 ρ ρ' H H') {a : Addr} {vs : List V} (h : Fz K H a vs) : Fz K H' a vs := by
  rcases h with ⟨o, h⟩ | h
  · exact .inl ⟨o, e.im _ _ trivial h⟩
  · exact .inr h
theorem Fz.sqL {a : Addr} {vs : List V} (h : Fz K H a vs) : SqL K H a vs := by
  rcases h with ⟨o, h⟩ | h
  · exact .inl (.inr ⟨o, h⟩)
  · exact .inr h
mutual
theorem AV.ext0 (e : Ext0 ρ ρ' H H') : ∀ {x : A} {v : V}, AV K ρ H x v -> AV K ρ' H' x v
  | _, _, .non => .non
  | _, _, .bl b => .bl b
  | _, _, .int i => .int i
  | _, _, .str x => .str x
  | _, _, .ty x => .ty x
  | _, _, .tup h r => .tup (e.im _ _ trivial h) (AVs.ext0 e r)
  | _, _, .frz h r => .frz (e.fz h) (AVs.ext0 e r)
  | _, _, .rng h => .rng (e.im _ _ trivial h)
  | _, _, .ref h => .ref (e.get h)
  | _, _, .exn n h x => .exn n (e.im _ _ trivial h) x
theorem AVs.ext0 (e : Ext0 ρ ρ' H H') : ∀ {xs : List A} {vs : List V}, AVs K ρ H xs vs -> AVs K ρ' H' xs vs
  | _, _, .nil => .nil
  | _, _, .cons h t => .cons (AV.ext0 e h) (AVs.ext0 e t)
end
theorem DV.ext0 (e : Ext0 ρ ρ' H H') : ∀ {xs : List (List Int × A)} {vs : List (List Key × V)}, DV K ρ H xs vs -> DV K ρ' H' xs vs
  | [], [], _ => trivial
  | _ :: _, _ :: _, ⟨⟨a, b⟩, r⟩ => ⟨⟨a, AV.ext0 e b⟩, DV.ext0 e r⟩
theorem DV.ext {x : List (List Int × A)} {v : List (List Key × V)} (h : DV K ρ H x v) (e : Ext ρ ρ' H H') : DV K ρ' H' x v := DV.ext0 e.toExt0 h
theorem AV.ext {x : A} {v : V} (h : AV K ρ H x v) (e : Ext ρ ρ' H H') : AV K ρ' H' x v := AV.ext0 e.toExt0 h
theorem AVs.ext {x : List A} {v : List V} (h : AVs K ρ H x v) (e : Ext ρ ρ' H H') : AVs K ρ' H' x v := AVs.ext0 e.toExt0 h
theorem AVs.length : ∀ {xs : List A} {vs : List V}, AVs K ρ H xs vs -> xs.length = vs.length
  | _, _, .nil => rfl
  | _, _, .cons _ t => congrArg (· + 1) (AVs.length t)
theorem AVs.append : ∀ {xs ys : List A} {vs ws : List V}, AVs K ρ H xs vs -> AVs K ρ H ys ws -> AVs K ρ H (xs ++ ys) (vs ++ ws)
  | _, _, _, _, .nil, s => s
  | _, _, _, _, .cons h t, s => .cons h (AVs.append t s)
theorem AVs.take : ∀ {xs : List A} {vs : List V} (n : Nat), AVs K ρ H xs vs -> AVs K ρ H (xs.take n) (vs.take n)
  | _, _, 0, _ => .nil
  | _, _, _ + 1, .nil => .nil
  | _, _, n + 1, .cons h t => .cons h (AVs.take n t)
theorem AVs.drop : ∀ {xs : List A} {vs : List V} (n : Nat), AVs K ρ H xs vs -> AVs K ρ H (xs.drop n) (vs.drop n)
  | _, _, 0, r => r
  | _, _, _ + 1, .nil => .nil
  | _, _, n + 1, .cons _ t => AVs.drop n t
theorem AVs.get : ∀ {xs : List A} {vs : List V} {i : Nat} {x : A}, AVs K ρ H xs vs -> xs[i]? = some x -> ∃ v, vs[i]? = some v /\ AV K ρ H x v
  | _, _, _, _, .nil, e => by simp at e
  | _, _, 0, _, .cons h _, e => by simp at e; subst e; exact ⟨_, rfl, h⟩
  | _, _, i + 1, x, .cons _ t, e => by
    obtain ⟨u, h1, h2⟩ := AVs.get (i := i) (x := x) t (by simpa using e)
    exact ⟨u, by simpa using h1, h2⟩
theorem AVs.set {x : A} {v : V} (h : AV K ρ H x v) : ∀ {xs : List A} {vs : List V} (i : Nat), AVs K ρ H xs vs -> AVs K ρ H (xs.set i x) (vs.set i v)
  | _, _, _, .nil => .nil
  | _, _, 0, .cons _ t => .cons h t
  | _, _, i + 1, .cons q t => .cons q (AVs.set h i t)
theorem AVs.one {x : A} {v : V} (h : AV K ρ H x v) : AVs K ρ H [x] [v] := .cons h .nil
theorem avs_ints : ∀ (ns : List Int), AVs K ρ H (ns.map .int) (ns.map .int)
  | [] => .nil
  | n :: ns => .cons (.int n) (avs_ints ns)
theorem Rel.lay {S : Sto} {p : Addr} {xs : List A} {vs : List V} (R : Rel K ρ H S) (hp : H p = none) (r : AVs K ρ H xs vs) : Ext ρ (ρ ++ [p]) H (upd H p (.lst vs)) /\ Rel K (ρ ++ [p]) (upd H p (.lst vs)) (S ++ [.lst xs]) /\ (ρ ++ [p])[S.length]? = some p := by
  have ex : Ext ρ (ρ ++ [p]) H (upd H p (.lst vs)) := ⟨⟨List.prefix_append _ _, fun a u _ h => by rw [upd_ne (ne_of_none h hp)]; exact h⟩, fun a u h _ => by rw [upd_ne (ne_of_none h hp)]; exact h, fun a h => by
    rcases List.mem_append.mp h with z | z
    · exact .inl z
    · have e : a = p := by simpa using z
      rw [e]; exact .inr hp⟩
  have np : ∀ (n : Nat) (a : Addr), ρ[n]? = some a -> a ≠ p := by
    intro n a e z
    subst z
    have hn : n < S.length := by rw [<- R.len]; exact (List.getElem?_eq_some_iff.mp e).1
    have := R.at n a S[n] e (List.getElem?_eq_getElem hn)
    cases ho : S[n] with
    | lst xs => rw [ho] at this; obtain ⟨vs, h, _⟩ := this; rw [hp] at h; cases h
    | dct _ => rw [ho] at this; obtain ⟨vs, h, _⟩ := this; rw [hp] at h; cases h
    | ins _ _ => rw [ho] at this; obtain ⟨_, _, h⟩ := this; rw [hp] at h; cases h
  have last : (ρ ++ [p])[S.length]? = some p := by rw [<- R.len]; simp
  refine ⟨ex, ⟨by simp [R.len], ?_, ?_⟩, last⟩
  · rw [List.nodup_append]
    refine ⟨R.nd, by simp, fun a ha b hb e => ?_⟩
    have : b = p := by simpa using hb
    obtain ⟨n, hn, e'⟩ := List.mem_iff_getElem.mp ha
    exact np n a (by rw [List.getElem?_eq_getElem hn, e']) (e.trans this)
  · intro n a o h1 h2
    by_cases hn : n < S.length
    · rw [List.getElem?_append_left (by rw [R.len]; exact hn)] at h1
      rw [List.getElem?_append_left hn] at h2
      have := R.at n a o h1 h2
      cases o with
      | lst ys => obtain ⟨ws, e, q⟩ := this; exact ⟨ws, by rw [upd_ne (np n a h1)]; exact e, q.ext ex⟩
      | dct _ => obtain ⟨ws, e, q⟩ := this; exact ⟨ws, by rw [upd_ne (np n a h1)]; exact e, q.ext ex⟩
      | ins _ _ => obtain ⟨oo, uu, e⟩ := this; exact ⟨oo, uu, by rw [upd_ne (np n a h1)]; exact e⟩
    · have e : n = S.length := by
        have := (List.getElem?_eq_some_iff.mp h2).1
        simp at this
        omega
      subst e
      rw [last] at h1
      cases h1
      simp at h2
      subst h2
      exact ⟨vs, upd_same, r.ext ex⟩
theorem Rel.im {S : Sto} {p : Addr} {u : HO} (R : Rel K ρ H S) (hp : H p = none) : Ext ρ ρ H (upd H p u) /\ Rel K ρ (upd H p u) S := by
  have ex : Ext ρ ρ H (upd H p u) := ⟨⟨List.prefix_refl _, fun a u _ h => by rw [upd_ne (ne_of_none h hp)]; exact h⟩, fun a u h _ => by rw [upd_ne (ne_of_none h hp)]; exact h, fun _ h => .inl h⟩
  refine ⟨ex, R.len, R.nd, fun n a o h1 h2 => ?_⟩
  have := R.at n a o h1 h2
  cases o with
  | lst ys => obtain ⟨ws, e, q⟩ := this; exact ⟨ws, by rw [upd_ne (ne_of_none e hp)]; exact e, q.ext ex⟩
  | dct _ => obtain ⟨ws, e, q⟩ := this; exact ⟨ws, by rw [upd_ne (ne_of_none e hp)]; exact e, q.ext ex⟩
  | ins _ _ => obtain ⟨oo, uu, e⟩ := this; exact ⟨oo, uu, by rw [upd_ne (ne_of_none e hp)]; exact e⟩
theorem Rel.put {S : Sto} {n : Nat} {a : Addr} {xs ys : List A} {ws : List V} (R : Rel K ρ H S) (ha : ρ[n]? = some a) (hS : S[n]? = some (.lst xs)) (r : AVs K ρ H ys ws) : Ext ρ ρ H (upd H a (.lst ws)) /\ Rel K ρ (upd H a (.lst ws)) (S.set n (.lst ys)) := by
  obtain ⟨vs, e, _⟩ := R.at n a _ ha hS
  have ex : Ext ρ ρ H (upd H a (.lst ws)) := ⟨⟨List.prefix_refl _, fun b u i h => by
    have : b ≠ a := by
      intro z; subst z; rw [e] at h; cases h; exact i
    rw [upd_ne this]; exact h⟩, fun b u h n => by
    rw [upd_ne (fun z => n (by rw [z]; exact List.mem_of_getElem? ha))]; exact h, fun _ h => .inl h⟩
  refine ⟨ex, by rw [List.length_set]; exact R.len, R.nd, fun m b o h1 h2 => ?_⟩
  by_cases hm : m = n
  · subst hm
    rw [ha] at h1; cases h1
    rw [List.getElem?_set_self (List.getElem?_eq_some_iff.mp hS).1] at h2
    cases h2
    exact ⟨ws, upd_same, r.ext ex⟩
  · rw [List.getElem?_set_ne (Ne.symm hm)] at h2
    have nb : b ≠ a := fun z => by
      subst z
      obtain ⟨l1, e1⟩ := List.getElem?_eq_some_iff.mp ha
      obtain ⟨l2, e2⟩ := List.getElem?_eq_some_iff.mp h1
      exact hm ((List.getElem_inj R.nd).mp (e2.trans e1.symm))
    have := R.at m b o h1 h2
    cases o with
    | lst ys => obtain ⟨ws', e', q⟩ := this; exact ⟨ws', by rw [upd_ne nb]; exact e', q.ext ex⟩
    | dct _ => obtain ⟨ws', e', q⟩ := this; exact ⟨ws', by rw [upd_ne nb]; exact e', q.ext ex⟩
    | ins _ _ => obtain ⟨oo, uu, e'⟩ := this; exact ⟨oo, uu, by rw [upd_ne nb]; exact e'⟩
theorem Rel.lst {S : Sto} {n : Nat} {a : Addr} {xs : List A} (R : Rel K ρ H S) (ha : ρ[n]? = some a) (hS : S[n]? = some (.lst xs)) : ∃ vs, H a = some (.lst vs) /\ AVs K ρ H xs vs := R.at n a _ ha hS
structure SR (K : PySem.W.Frag) (ρ : List Addr) (H : Hp) (τ : List A) (σ : St) : Prop where
  len : τ.length = σ.length
  «at» : ∀ (i : Nat) (a : A), τ[i]? = some a -> a = .unb \/ ∃ v, σ[i]? = some (some v) /\ AV K ρ H a v
theorem SR.ext0 {τ : List A} {σ : St} (s : SR K ρ H τ σ) (e : Ext0 ρ ρ' H H') : SR K ρ' H' τ σ := ⟨s.len, fun i a h => by
  rcases s.at i a h with z | ⟨v, h1, h2⟩
  · exact .inl z
  · exact .inr ⟨v, h1, AV.ext0 e h2⟩⟩
theorem SR.ext {τ : List A} {σ : St} (s : SR K ρ H τ σ) (e : Ext ρ ρ' H H') : SR K ρ' H' τ σ := s.ext0 e.toExt0
theorem Rel.out {S : Sto} {D : Addr} {vs ws : List V} (R : Rel K ρ H S) (hD : H D = some (.lst vs)) (hn : D ∉ ρ) : Ext0 ρ ρ H (upd H D (.lst ws)) /\ Rel K ρ (upd H D (.lst ws)) S := by
  have ex : Ext0 ρ ρ H (upd H D (.lst ws)) := ⟨List.prefix_refl _, fun b u i h => by
    have : b ≠ D := by
      intro z; subst z; rw [hD] at h; cases h; exact i
    rw [upd_ne this]; exact h⟩
  refine ⟨ex, R.len, R.nd, fun n a o h1 h2 => ?_⟩
  have na : a ≠ D := fun z => hn (by rw [<- z]; exact List.mem_of_getElem? h1)
  have := R.at n a o h1 h2
  cases o with
  | lst ys => obtain ⟨ws', e, q⟩ := this; exact ⟨ws', by rw [upd_ne na]; exact e, AVs.ext0 ex q⟩
  | dct _ => obtain ⟨ws', e, q⟩ := this; exact ⟨ws', by rw [upd_ne na]; exact e, q.ext0 ex⟩
  | ins _ _ => obtain ⟨oo, uu, e⟩ := this; exact ⟨oo, uu, by rw [upd_ne na]; exact e⟩
theorem Rel.take {S : Sto} {D : Addr} {xs : List A} {vs : List V} (R : Rel K ρ H S) (hD : H D = some (.lst vs)) (hn : D ∉ ρ) (r : AVs K ρ H xs vs) : Rel K (ρ ++ [D]) H (S ++ [.lst xs]) /\ (ρ ++ [D])[S.length]? = some D := by
  have ex : Ext0 ρ (ρ ++ [D]) H H := ⟨List.prefix_append _ _, fun _ _ _ h => h⟩
  have last : (ρ ++ [D])[S.length]? = some D := by rw [<- R.len]; simp
  refine ⟨⟨by simp [R.len], ?_, fun n a o h1 h2 => ?_⟩, last⟩
  · rw [List.nodup_append]
    refine ⟨R.nd, by simp, fun a ha b hb e => ?_⟩
    have : b = D := by simpa using hb
    exact hn (by rw [<- this, <- e]; exact ha)
  · by_cases hs : n < S.length
    · rw [List.getElem?_append_left (by rw [R.len]; exact hs)] at h1
      rw [List.getElem?_append_left hs] at h2
      have := R.at n a o h1 h2
      cases o with
      | lst ys => obtain ⟨ws, e, q⟩ := this; exact ⟨ws, e, AVs.ext0 ex q⟩
      | dct _ => obtain ⟨ws, e, q⟩ := this; exact ⟨ws, e, q.ext0 ex⟩
      | ins _ _ => obtain ⟨oo, uu, e⟩ := this; exact ⟨oo, uu, e⟩
    · have e : n = S.length := by
        have := (List.getElem?_eq_some_iff.mp h2).1
        simp at this
        omega
      subst e
      rw [last] at h1
      cases h1
      simp at h2
      subst h2
      exact ⟨vs, hD, AVs.ext0 ex r⟩
theorem SR.set {τ : List A} {σ : St} {i : Nat} {a : A} {v : V} (s : SR K ρ H τ σ) (h : AV K ρ H a v) : SR K ρ H (τ.set i a) (σ.set i (some v)) := by
  refine ⟨by simp [s.len], fun j b e => ?_⟩
  by_cases hj : j = i
  · subst hj
    have hl : j < τ.length := by
      have := (List.getElem?_eq_some_iff.mp e).1
      simpa using this
    rw [List.getElem?_set_self hl] at e
    cases e
    exact .inr ⟨v, List.getElem?_set_self (by rw [<- s.len]; exact hl), h⟩
  · rw [List.getElem?_set_ne (Ne.symm hj)] at e
    rw [List.getElem?_set_ne (Ne.symm hj)]
    exact s.at j b e
end
end Am
set_option Elab.async false
set_option linter.all false
set_option maxRecDepth 100000
set_option maxHeartbeats 4000000
namespace Am
open PySem PySem.Spec PyProof.Rows L2
noncomputable def XE (X : Cx) (ρ : List Addr) (H : Hp) : Str -> Sto -> Prop := fun c S' => ∀ (C : Addr) (ρ' : List Addr) (H' : Hp), ClN X.K c C -> Ext ρ ρ' H H' -> Rel X.K ρ' H' S' -> EX X (.ref C) none H'
theorem XE.ext {X : Cx} {ρ ρ' : List Addr} {H H' : Hp} {c : Str} {S : Sto} (h : XE X ρ H c S) (e : Ext ρ ρ' H H') : XE X ρ' H' c S := fun C ρ2 H2 n e2 => h C ρ2 H2 n (e.trans e2)
noncomputable def okP (X : Cx) (ρ : List Addr) (H : Hp) (Q : VK) : A -> Sto -> Prop := fun a S' => ∀ ρ' H' v, Ext ρ ρ' H H' -> Rel X.K ρ' H' S' -> AV X.K ρ' H' a v -> Q v H'
noncomputable def okB (X : Cx) (ρ : List Addr) (H : Hp) (Q : Bool -> Hp -> Prop) : Bool -> Sto -> Prop := fun b S' => ∀ ρ' H', Ext ρ ρ' H H' -> Rel X.K ρ' H' S' -> Q b H'
noncomputable def okL (X : Cx) (ρ : List Addr) (H : Hp) (Q : List V -> Hp -> Prop) : List A -> Sto -> Prop := fun as S' => ∀ ρ' H' vs, Ext ρ ρ' H H' -> Rel X.K ρ' H' S' -> AVs X.K ρ' H' as vs -> Q vs H'
theorem okP.ext {X : Cx} {ρ ρ' : List Addr} {H H' : Hp} {Q : VK} {a : A} {S : Sto} (h : okP X ρ H Q a S) (e : Ext ρ ρ' H H') : okP X ρ' H' Q a S := fun ρ2 H2 v e2 => h ρ2 H2 v (e.trans e2)
theorem okB.ext {X : Cx} {ρ ρ' : List Addr} {H H' : Hp} {Q : Bool -> Hp -> Prop} {a : Bool} {S : Sto} (h : okB X ρ H Q a S) (e : Ext ρ ρ' H H') : okB X ρ' H' Q a S := fun ρ2 H2 e2 => h ρ2 H2 (e.trans e2)
theorem post_ext {α : Type} {X : Cx} {ρ ρ' : List Addr} {H H' : Hp} {r : R α} {P P' : α -> Sto -> Prop} (h : r.post P (XE X ρ H)) (e : Ext ρ ρ' H H') (hp : ∀ a S, P a S -> P' a S) : r.post P' (XE X ρ' H') := post_mono h hp fun _ _ z => z.ext e
noncomputable def tE (X : Cx) (c : Ex) : TE := fun σ H Q => ∃ ρ S τ, Rel X.K ρ H S /\ SR X.K ρ H τ σ /\ (c τ S).post (okP X ρ H Q) (XE X ρ H)
noncomputable def tT (X : Cx) (c : Te) : TT := fun σ H Q => ∃ ρ S τ, Rel X.K ρ H S /\ SR X.K ρ H τ σ /\ (c τ S).post (okB X ρ H Q) (XE X ρ H)
noncomputable def tL (X : Cx) (c : Exs) : TA := fun σ H Q => ∃ ρ S τ, Rel X.K ρ H S /\ SR X.K ρ H τ σ /\ (c τ S).post (okL X ρ H Q) (XE X ρ H)
noncomputable def AE (X : Cx) (e : Expr) (c : Ex) : Prop := PE X e (tE X c)
noncomputable def AT (X : Cx) (e : Expr) (c : Te) : Prop := PT X e (tT X c)
noncomputable def AW (X : Cx) (e : Expr) (c : Te) : Prop := PW X e (tT X c)
noncomputable def AL (X : Cx) (es : List Expr) (c : Exs) : Prop := PA X es (tL X c)
theorem PE.imp {X : Cx} {e : Expr} {t t' : TE} (h : PE X e t) (i : ∀ σ H Q, t' σ H Q -> t σ H Q) : PE X e t' := fun pins s σ H Q I q => h pins s σ H Q I (i σ H Q q)
theorem PT.imp {X : Cx} {e : Expr} {t t' : TT} (h : PT X e t) (i : ∀ σ H Q, t' σ H Q -> t σ H Q) : PT X e t' := fun pins s σ H Q I q => h pins s σ H Q I (i σ H Q q)
theorem PW.imp {X : Cx} {e : Expr} {t t' : TT} (h : PW X e t) (i : ∀ σ H Q, t' σ H Q -> t σ H Q) : PW X e t' := fun w pins s σ H Q I q => h w pins s σ H Q I (i σ H Q q)
theorem PA.imp {X : Cx} {e : List Expr} {t t' : TA} (h : PA X e t) (i : ∀ σ H Q, t' σ H Q -> t σ H Q) : PA X e t' := fun p pins s σ H Q I q => h p pins s σ H Q I (i σ H Q q)
theorem AW.at {X : Cx} {e : Expr} {c : Te} (h : AW X e c) : AT X e c := h _
noncomputable def A.isUnb : A -> Bool
  | .unb => true
  | _ => false
noncomputable def eVar (i : Nat) : Ex := fun τ S => if (τ.getD i .unb).isUnb then .no else .ok (τ.getD i .unb) S
noncomputable def eC (a : A) : Ex := fun _ S => .ok a S
section
variable {X : Cx} {pos : Pos} {a b : Expr}
theorem ae_var (i : Nat) {x : Str} (hN : X.N[i]? = some x := by rfl) (hv : Vis X.env.scope x := by first | exact Or.inl rfl | exact Or.inr (Or.inl rfl) | exact Or.inr (Or.inr rfl)) (hd : (x == ("__debug__" : Str)) = false := by decide)
    (hcd : (x == ("__classdict__" : Str)) = false := by decide) : AE X (.Name x pos) (eVar i) := PE.imp (pe_var hN hv hd hcd) fun σ H Q ⟨ρ, S, τ, R, r, h⟩ => by
  unfold eVar at h
  cases hi : τ[i]? with
  | none =>
    rw [List.getD_eq_getElem?_getD, hi] at h
    exact h.elim
  | some x =>
    rw [List.getD_eq_getElem?_getD, hi] at h
    rcases r.at i x hi with z | ⟨v, e, q⟩
    · subst z; exact h.elim
    · refine ⟨v, e, ?_⟩
      cases x <;> first | (exact h ρ H v .refl R q) | exact h.elim
theorem ae_int {i : Int} {j pos} : AE X (.Constant (.int i) j pos) (eC (.int i)) := PE.imp pe_int fun σ H Q ⟨ρ, S, τ, R, r, h⟩ => h ρ H _ .refl R (.int i)
theorem ae_bl {i : Bool} {j pos} : AE X (.Constant (.bool i) j pos) (eC (.bl i)) := PE.imp pe_bl fun σ H Q ⟨ρ, S, τ, R, r, h⟩ => h ρ H _ .refl R (.bl i)
theorem ae_str {x : Str} {j pos} : AE X (.Constant (.str x) j pos) (eC (.str x)) := PE.imp pe_str fun σ H Q ⟨ρ, S, τ, R, r, h⟩ => h ρ H _ .refl R (.str x)
theorem ae_globI {x : Str} {i : Int} {t : Tok} (hm : X.mg x = some (.int i t)) (hg : Gl X x := by rfl) (hd : (x == ("__debug__" : Str)) = false := by decide) : AE X (.Name x pos) (eC (.int i)) :=
  PE.imp (pe_glob (v := .int i) hg hm ⟨t, rfl⟩ hd) fun σ H Q ⟨ρ, S, τ, R, r, h⟩ => h ρ H _ .refl R (.int i)
noncomputable def eBin (f : A -> A -> Sto -> R A) (ca cb : Ex) : Ex := fun τ S => (ca τ S).bind fun a S1 => (cb τ S1).bind fun b S2 => f a b S2
noncomputable def r2 (X : Cx) (f : A -> A -> Sto -> R A) : R2 := fun x y H Q => ∃ ρ S a b, Rel X.K ρ H S /\ AV X.K ρ H a x /\ AV X.K ρ H b y /\ (f a b S).post (okP X ρ H Q) (XE X ρ H)
noncomputable def r1 (X : Cx) (f : A -> Sto -> R A) : V -> Hp -> VK -> Prop := fun x H Q => ∃ ρ S a, Rel X.K ρ H S /\ AV X.K ρ H a x /\ (f a S).post (okP X ρ H Q) (XE X ρ H)
noncomputable def rN (X : Cx) (f : List A -> Sto -> R A) : List V -> Hp -> VK -> Prop := fun xs H Q => ∃ ρ S as, Rel X.K ρ H S /\ AVs X.K ρ H as xs /\ (f as S).post (okP X ρ H Q) (XE X ρ H)
theorem OpR.imp {f : Value -> Value -> Sem Value} {r r' : R2} (h : OpR X f r) (i : ∀ x y H Q, r' x y H Q -> r x y H Q) : OpR X f r' := fun pins s σ H x y v u Q I rx ry q => h pins s σ H x y v u Q I rx ry (i _ _ _ _ q)
theorem CallR.imp {f : Value} {r r' : List V -> Hp -> VK -> Prop} (h : CallR X f r) (i : ∀ x H Q, r' x H Q -> r x H Q) : CallR X f r' := fun pins s σ H x v Q I rx q => h pins s σ H x v Q I rx (i _ _ _ q)
theorem bin_imp {f : A -> A -> Sto -> R A} {ca cb : Ex} {σ : L2.St} {H : Hp} {Q : VK} (h : tE X (eBin f ca cb) σ H Q) : tOp (r2 X f) (tE X ca) (tE X cb) σ H Q := by
  obtain ⟨ρ, S, τ, R, r, h⟩ := h
  refine ⟨ρ, S, τ, R, r, post_ext (post_bind h) .refl fun a S1 h1 ρ1 H1 x e1 R1 v1 => ⟨ρ1, S1, τ, R1, r.ext e1, post_ext (post_bind h1) e1 fun b S2 h2 ρ2 H2 y e2 R2 v2 => ?_⟩⟩
  exact ⟨ρ2, S2, a, b, R2, v1.ext e2, v2, post_ext h2 (e1.trans e2) fun c S3 h3 => h3.ext (e1.trans e2)⟩
theorem ae_bin {op : Operator} {f : A -> A -> Sto -> R A} {ca cb : Ex} (ho : OpR X (binaryOp op) (r2 X f)) (ha : AE X a ca) (hb : AE X b cb) : AE X (.BinOp a op b pos) (eBin f ca cb) :=
  PE.imp (pe_op ho ha hb) fun σ H Q h => bin_imp h
theorem ae_cmp {op : CmpOp} {f : A -> A -> Sto -> R A} {ca cb : Ex} (ho : OpR X (compareOp op) (r2 X f)) (ha : AE X a ca) (hb : AE X b cb) (hm : behindInMarks op b = false := by first | exact nomark _ | with_unfolding_all rfl) : AE X (.Compare a [op] [b] pos) (eBin f ca cb) :=
  PE.imp (pe_cmpR ho ha hb hm) fun σ H Q h => bin_imp h
noncomputable def A.tru : A -> Sto -> Option Bool
  | .non, _ => some false
  | .bl b, _ => some b
  | .int i, _ => some (i != 0)
  | .str x, _ => if x.length <= sizeLine then some ((x.length : Int) != 0) else none
  | .tup xs, _ => some (!xs.isEmpty)
  | .frz xs, _ => some (!xs.isEmpty)
  | .ref n, S => (lstAt S n).map fun xs => !xs.isEmpty
  | _, _ => none
noncomputable def eTru (c : Ex) : Te := fun τ S => (c τ S).bind fun a S1 => opt (a.tru S1) fun b => .ok b S1
noncomputable def toB (c : Ex) : Te := fun τ S => (c τ S).bind fun a S1 => match a with
  | .bl b => .ok b S1
  | _ => .no
theorem av_bl {K : PySem.W.Frag} {ρ : List Addr} {H : Hp} {b : Bool} {v : V} (h : AV K ρ H (.bl b) v) : v = .bl b := by cases h; rfl
theorem at_cmp {op : CmpOp} {f : A -> A -> Sto -> R A} {ca cb : Ex} (ho : OpR X (compareOp op) (r2 X f)) (ha : AE X a ca) (hb : AE X b cb) (hm : behindInMarks op b = false := by first | exact nomark _ | with_unfolding_all rfl) : AT X (.Compare a [op] [b] pos) (toB (eBin f ca cb)) :=
  PT.imp (pt_cmpR ho ha hb hm) fun σ H Q ⟨ρ, S, τ, R, r, h⟩ => by
    refine bin_imp ⟨ρ, S, τ, R, r, post_ext (post_bind h) .refl fun c S1 h1 ρ1 H1 x e1 R1 v1 => ?_⟩
    cases c with
    | bl k => cases av_bl v1; exact ⟨k, rfl, h1 ρ1 H1 e1 R1⟩
    | _ => exact h1.elim
theorem tru_of {K : PySem.W.Frag} {ρ : List Addr} {H : Hp} {S : Sto} {x : A} {v : V} {b : Bool} (R : Rel K ρ H S) (h : AV K ρ H x v) (e : x.tru S = some b) : TruV K v H b := by
  have emp : ∀ {xs : List A} {vs : List V}, AVs K ρ H xs vs -> (!xs.isEmpty) = !vs.isEmpty := fun r => by cases r <;> rfl
  cases h with
  | non => exact (Option.some.inj e).symm
  | bl b => exact (Option.some.inj e).symm
  | int i => exact (Option.some.inj e).symm
  | str x =>
    by_cases hx : x.length <= sizeLine
    · exact ⟨hx, by have := (if_pos hx).symm.trans e; exact (Option.some.inj this).symm⟩
    · have := (if_neg hx).symm.trans e; cases this
  | tup h r => exact .inr (.inl ⟨_, SqT.of h, by rw [<- emp r]; exact (Option.some.inj e).symm⟩)
  | frz h r => exact .inl ⟨_, h.sqL, by rw [<- emp r]; exact (Option.some.inj e).symm⟩
  | rng h => cases e
  | ty n => cases e
  | exn n h x => cases e
  | @ref a n h =>
    have e : (lstAt S n).map (fun xs => !xs.isEmpty) = some b := e
    obtain ⟨xs, hn, e⟩ := Option.map_eq_some_iff.mp e
    obtain ⟨vs, h1, h2⟩ := R.lst h (lstAt_of hn)
    exact .inl ⟨vs, SqL.of h1, by rw [<- emp h2]; exact e.symm⟩
theorem at_val {ca : Ex} (ha : AE X a ca) (he : ∀ whole, isTrue a X.env whole = (do let v <- whole; standAt a.pos; holding [v] (truthy v)) := by intro _; rfl) : AT X a (eTru ca) :=
  PT.imp (pt_truth ha he) fun σ H Q ⟨ρ, S, τ, R, r, h⟩ => ⟨ρ, S, τ, R, r, post_ext (post_bind h) .refl fun c S1 h1 ρ1 H1 x e1 R1 v1 => by
    obtain ⟨b, hb, h1⟩ := opt_post h1
    exact ⟨b, tru_of R1 v1 hb, h1 ρ1 H1 e1 R1⟩⟩
noncomputable def bNot (c : Te) : Te := fun τ S => (c τ S).bind fun b S1 => .ok (!b) S1
noncomputable def bAnd (c d : Te) : Te := fun τ S => (c τ S).bind fun b S1 => match b with | true => d τ S1 | false => .ok false S1
noncomputable def bOr (c d : Te) : Te := fun τ S => (c τ S).bind fun b S1 => match b with | true => .ok true S1 | false => d τ S1
theorem at_not {c : Te} (h : AT X a c) : AT X (.UnaryOp .Not a pos) (bNot c) := PT.imp (pt_not h) fun σ H Q ⟨ρ, S, τ, R, r, h⟩ => ⟨ρ, S, τ, R, r, post_ext (post_bind h) .refl fun b S1 h1 => h1⟩
theorem and_imp {c d : Te} {σ : L2.St} {H : Hp} {Q : Bool -> Hp -> Prop} (h : tT X (bAnd c d) σ H Q) : tAnd (tT X c) (tT X d) σ H Q := by
  obtain ⟨ρ, S, τ, R, r, h⟩ := h
  refine ⟨ρ, S, τ, R, r, post_ext (post_bind h) .refl fun b S1 h1 ρ1 H1 e1 R1 => ?_⟩
  cases b with
  | true =>
    rw [if_pos rfl]
    exact ⟨ρ1, S1, τ, R1, r.ext e1, post_ext h1 e1 fun _ _ z => z.ext e1⟩
  | false =>
    rw [if_neg Bool.false_ne_true]
    exact h1 ρ1 H1 e1 R1
theorem or_imp {c d : Te} {σ : L2.St} {H : Hp} {Q : Bool -> Hp -> Prop} (h : tT X (bOr c d) σ H Q) : tOr (tT X c) (tT X d) σ H Q := by
  obtain ⟨ρ, S, τ, R, r, h⟩ := h
  refine ⟨ρ, S, τ, R, r, post_ext (post_bind h) .refl fun b S1 h1 ρ1 H1 e1 R1 => ?_⟩
  cases b with
  | false =>
    rw [if_neg Bool.false_ne_true]
    exact ⟨ρ1, S1, τ, R1, r.ext e1, post_ext h1 e1 fun _ _ z => z.ext e1⟩
  | true =>
    rw [if_pos rfl]
    exact h1 ρ1 H1 e1 R1
variable {rest : List Expr}
theorem aw_and1 {c : Te} (h : AT X a c) : AW X (.BoolOp .And [a] pos) c := pw_and1 h
theorem aw_or1 {c : Te} (h : AT X a c) : AW X (.BoolOp .Or [a] pos) c := pw_or1 h
theorem aw_and {c d : Te} (h : AT X a c) (h2 : AW X (.BoolOp .And (b :: rest) pos) d) : AW X (.BoolOp .And (a :: b :: rest) pos) (bAnd c d) := PW.imp (pw_and h h2) fun _ _ _ q => and_imp q
theorem aw_or {c d : Te} (h : AT X a c) (h2 : AW X (.BoolOp .Or (b :: rest) pos) d) : AW X (.BoolOp .Or (a :: b :: rest) pos) (bOr c d) := PW.imp (pw_or h h2) fun _ _ _ q => or_imp q
noncomputable def eAnd (c d : Ex) : Ex := fun τ S => (c τ S).bind fun a S1 => match a with | .bl true => d τ S1 | .bl false => .ok (.bl false) S1 | _ => .no
noncomputable def eOr (c d : Ex) : Ex := fun τ S => (c τ S).bind fun a S1 => match a with | .bl true => .ok (.bl true) S1 | .bl false => d τ S1 | _ => .no
noncomputable def eNot (c : Ex) : Ex := fun τ S => (c τ S).bind fun a S1 => match a with | .bl b => .ok (.bl !b) S1 | _ => .no
theorem ae_one {op} {c : Ex} (h : AE X a c) : AE X (.BoolOp op [a] pos) c := pe_one h
theorem ae_and {c d : Ex} (h : AE X a c) (h2 : AE X (.BoolOp .And (b :: rest) pos) d) : AE X (.BoolOp .And (a :: b :: rest) pos) (eAnd c d) := PE.imp (pe_and h h2) fun σ H Q ⟨ρ, S, τ, R, r, h⟩ => by
  refine ⟨ρ, S, τ, R, r, post_ext (post_bind h) .refl fun b S1 h1 ρ1 H1 x e1 R1 v1 => ?_⟩
  cases b with
  | bl k =>
    cases av_bl v1
    refine ⟨k, rfl, ?_⟩
    cases k with
    | true =>
      rw [if_pos rfl]
      exact ⟨ρ1, S1, τ, R1, r.ext e1, post_ext h1 e1 fun _ _ z => z.ext e1⟩
    | false =>
      rw [if_neg Bool.false_ne_true]
      exact h1 ρ1 H1 _ e1 R1 (.bl false)
  | _ => exact h1.elim
theorem ae_not {c : Ex} (h : AE X a c) : AE X (.UnaryOp .Not a pos) (eNot c) := PE.imp (pe_not h) fun σ H Q ⟨ρ, S, τ, R, r, h⟩ => by
  refine ⟨ρ, S, τ, R, r, post_ext (post_bind h) .refl fun b S1 h1 ρ1 H1 x e1 R1 v1 => ?_⟩
  cases b with
  | bl k =>
    cases av_bl v1
    exact ⟨k, rfl, h1 ρ1 H1 _ e1 R1 (.bl _)⟩
  | _ => exact h1.elim
noncomputable def eIf (t : Te) (c d : Ex) : Ex := fun τ S => (t τ S).bind fun b S1 => match b with | true => c τ S1 | false => d τ S1
noncomputable def lNil : Exs := fun _ S => .ok [] S
noncomputable def lCons (c : Ex) (d : Exs) : Exs := fun τ S => (c τ S).bind fun a S1 => (d τ S1).bind fun as S2 => .ok (a :: as) S2
theorem al_nil : AL X [] lNil := PA.imp pa_nil fun σ H Q ⟨ρ, S, τ, R, r, h⟩ => h ρ H _ .refl R .nil
theorem al_cons {e : Expr} {es : List Expr} {c : Ex} {d : Exs} (ha : AE X e c) (hr : AL X es d) (hs : starEach (e :: es) X.env = (false, eval e X.env) :: starEach es X.env := by rfl) : AL X (e :: es) (lCons c d) :=
  PA.imp (pa_cons ha hr hs) fun σ H Q ⟨ρ, S, τ, R, r, h⟩ => by
    refine ⟨ρ, S, τ, R, r, post_ext (post_bind h) .refl fun a S1 h1 ρ1 H1 x e1 R1 v1 => ⟨ρ1, S1, τ, R1, r.ext e1, post_ext (post_bind h1) e1 fun as S2 h2 ρ2 H2 xs e2 R2 v2 => ?_⟩⟩
    exact h2 ρ2 H2 _ (e1.trans e2) R2 (.cons (v1.ext e2) v2)
noncomputable def eTup (d : Exs) : Ex := fun τ S => (d τ S).bind fun as S1 => gd (as.length <= sizeLine) (.ok (.tup as) S1)
noncomputable def newL (as : List A) (S : Sto) : R A := gd (as.length <= sizeLine) (.ok (.ref S.length) (S ++ [.lst as]))
noncomputable def eLst (d : Exs) : Ex := fun τ S => (d τ S).bind fun as S1 => newL as S1
theorem new_tup {ρ ρ0 : List Addr} {H H0 : Hp} {S : Sto} {as : List A} {vs : List V} {Q : VK} (R : Rel X.K ρ H S) (r : AVs X.K ρ H as vs) (e : Ext ρ0 ρ H0 H) (h : okP X ρ0 H0 Q (.tup as) S) : ∀ p, H p = none -> Q (.ref p) (upd H p (.tup vs)) := fun p hp => by
  obtain ⟨ex, R'⟩ := R.im (u := .tup vs) hp
  exact h ρ _ _ (e.trans ex) R' (.tup upd_same (r.ext ex))
theorem new_lst {ρ ρ0 : List Addr} {H H0 : Hp} {S : Sto} {as : List A} {vs : List V} {Q : VK} (R : Rel X.K ρ H S) (r : AVs X.K ρ H as vs) (e : Ext ρ0 ρ H0 H) (h : okP X ρ0 H0 Q (.ref S.length) (S ++ [.lst as])) : ∀ p, H p = none -> Q (.ref p) (upd H p (.lst vs)) := fun p hp => by
  obtain ⟨ex, R', g⟩ := R.lay hp r
  exact h _ _ _ (e.trans ex) R' (.ref g)
theorem newL_of {ρ ρ0 : List Addr} {H H0 : Hp} {S : Sto} {as : List A} {vs : List V} {Q : VK} (R : Rel X.K ρ H S) (r : AVs X.K ρ H as vs) (e : Ext ρ0 ρ H0 H) (h : (newL as S).post (okP X ρ0 H0 Q) (XE X ρ0 H0)) : vs.length <= sizeLine /\ ∀ p, H p = none -> Q (.ref p) (upd H p (.lst vs)) := by
  obtain ⟨hl, h⟩ := gd_post h
  exact ⟨by rw [<- r.length]; exact hl, new_lst R r e h⟩
theorem ae_tup {es : List Expr} {d : Exs} {x1} (h : AL X es d) : AE X (.Tuple es x1 pos) (eTup d) := PE.imp (pe_tup h) fun σ H Q ⟨ρ, S, τ, R, r, h⟩ => by
  refine ⟨ρ, S, τ, R, r, post_ext (post_bind h) .refl fun as S1 h1 ρ1 H1 xs e1 R1 v1 => ?_⟩
  obtain ⟨hl, h1⟩ := gd_post h1
  exact ⟨by rw [<- v1.length]; exact hl, new_tup R1 v1 e1 h1⟩
theorem ae_lst {es : List Expr} {d : Exs} (h : AL X es d) : AE X (.List es pos) (eLst d) := PE.imp (pe_lst h) fun σ H Q ⟨ρ, S, τ, R, r, h⟩ =>
  ⟨ρ, S, τ, R, r, post_ext (post_bind h) .refl fun as S1 h1 ρ1 H1 xs e1 R1 v1 => newL_of R1 v1 e1 h1⟩
end
end Am
set_option Elab.async false
set_option linter.all false
set_option maxRecDepth 100000
set_option maxHeartbeats 4000000
namespace Am
open PySem PySem.Spec PyProof.Rows L2
section
variable {X : Cx} {pos : Pos} {a b : Expr}
noncomputable def aSub (a b : A) (S : Sto) : R A := match a, b with
  | .int i, .int j => .ok (.int (i - j)) S
  | _, _ => .no
theorem o_sub : OpR X (binaryOp .Sub) (r2 X aSub) := OpR.imp op_sub fun x y H Q ⟨ρ, S, a, b, R, va, vb, h⟩ => by
  cases va <;> first | exact h.elim | (cases vb <;> first | exact h.elim | exact ⟨_, _, rfl, rfl, h _ _ _ .refl R (.int _)⟩)
noncomputable def mulOk (i j : Int) : Bool := (decide (-(2 ^ 64) < i) && decide (i < 2 ^ 64)) || (decide (-(2 ^ 64) < j) && decide (j < 2 ^ 64))
theorem mulOk_of {i j : Int} (h : mulOk i j = true) : CMul i j := by
  unfold mulOk at h
  simp only [Bool.or_eq_true, Bool.and_eq_true, decide_eq_true_eq] at h
  exact h
noncomputable def aMul (a b : A) (S : Sto) : R A := match a, b with
  | .int i, .int j => gd (mulOk i j) (.ok (.int (i * j)) S)
  | .ref n, .int k => opt (lstAt S n) fun xs => gd (-(2 ^ 63) <= k /\ k < 2 ^ 63 /\ xs.length * k.toNat <= sizeLine) (.ok (.ref S.length) (S ++ [.lst (List.replicate k.toNat xs).flatten]))
  | _, _ => .no
theorem AVs.rep {K : PySem.W.Frag} {ρ : List Addr} {H : Hp} {xs : List A} {vs : List V} (r : AVs K ρ H xs vs) : ∀ k : Nat, AVs K ρ H (List.replicate k xs).flatten (List.replicate k vs).flatten
  | 0 => .nil
  | k + 1 => by rw [List.replicate_succ, List.replicate_succ, List.flatten_cons, List.flatten_cons]; exact r.append (AVs.rep r k)
theorem o_mul : OpR X (binaryOp .Mult) (r2 X aMul) := fun pins s σ H x y v u Q I rx ry ⟨ρ, S, a, b, R, va, vb, h⟩ => by
  cases va with
  | int i =>
    cases vb with
    | int j =>
      obtain ⟨hm, h⟩ := gd_post h
      exact op_mul pins s σ H _ _ v u Q I rx ry ⟨i, j, rfl, rfl, mulOk_of hm, h _ _ _ .refl R (.int _)⟩
    | _ => exact h.elim
  | @ref p n hp =>
    cases vb with
    | int k =>
      obtain ⟨xs, hn, h⟩ := opt_post h
      obtain ⟨hc, h⟩ := gd_post h
      obtain ⟨vs, h1, h2⟩ := R.lst hp (lstAt_of hn)
      exact op_rep pins s σ H _ _ v u Q I rx ry ⟨p, k, vs, rfl, rfl, h1, hc.1, hc.2.1, by rw [<- h2.length]; exact hc.2.2, new_lst R (h2.rep _) .refl h⟩
    | _ => exact h.elim
  | _ => exact h.elim
noncomputable def aFdiv (a b : A) (S : Sto) : R A := match a, b with
  | .int i, .int j => gd (0 < j /\ j < 18446744073709551616) (.ok (.int (i / j)) S)
  | _, _ => .no
theorem o_fdiv : OpR X (binaryOp .FloorDiv) (r2 X aFdiv) := OpR.imp op_fdivW fun x y H Q ⟨ρ, S, a, b, R, va, vb, h⟩ => by
  cases va <;> first | exact h.elim | (cases vb <;> first | exact h.elim | exact ⟨_, _, rfl, rfl, (gd_post h).1, (gd_post h).2 _ _ _ .refl R (.int _)⟩)
noncomputable def aMod (a b : A) (S : Sto) : R A := match a, b with
  | .int i, .int j => gd (0 < j) (.ok (.int (i % j)) S)
  | _, _ => .no
theorem o_mod : OpR X (binaryOp .Mod) (r2 X aMod) := OpR.imp op_mod fun x y H Q ⟨ρ, S, a, b, R, va, vb, h⟩ => by
  cases va <;> first | exact h.elim | (cases vb <;> first | exact h.elim | exact ⟨_, _, rfl, rfl, (gd_post h).1, (gd_post h).2 _ _ _ .refl R (.int _)⟩)
noncomputable def aPow (a b : A) (S : Sto) : R A := match a, b with
  | .int i, .int j => gd (0 <= j /\ j <= 1000000 /\ i.natAbs < 2 ^ 64) (.ok (.int (i ^ j.toNat)) S)
  | _, _ => .no
theorem o_pow : OpR X (binaryOp .Pow) (r2 X aPow) := OpR.imp op_pow fun x y H Q ⟨ρ, S, a, b, R, va, vb, h⟩ => by
  cases va <;> first | exact h.elim | (cases vb <;> first | exact h.elim | exact ⟨_, _, rfl, rfl, (gd_post h).1, (gd_post h).2 _ _ _ .refl R (.int _)⟩)
noncomputable def aAdd (a b : A) (S : Sto) : R A := match a, b with
  | .int i, .int j => .ok (.int (i + j)) S
  | .tup xs, .tup ys => gd (xs.length + ys.length <= sizeLine) (.ok (.tup (xs ++ ys)) S)
  | .str x, .str y => gd (x.length + y.length <= sizeLine) (.ok (.str (x ++ y)) S)
  | .ref n, .ref m => opt (lstAt S n) fun xs => opt (lstAt S m) fun ys => gd (xs.length + ys.length <= sizeLine) (.ok (.ref S.length) (S ++ [.lst (xs ++ ys)]))
  | _, _ => .no
theorem AVs.nil_inv {K : PySem.W.Frag} {ρ : List Addr} {H : Hp} {xs : List A} {vs : List V} (r : AVs K ρ H xs vs) : xs = [] ↔ vs = [] := by cases r <;> simp
theorem o_add : OpR X (binaryOp .Add) (r2 X aAdd) := fun pins s σ H x y v u Q I rx ry ⟨ρ, S, a, b, R, va, vb, h⟩ => by
  cases va with
  | int i =>
    cases vb with
    | int j => exact op_add pins s σ H _ _ v u Q I rx ry ⟨i, j, rfl, rfl, h _ _ _ .refl R (.int _)⟩
    | _ => exact h.elim
  | str x =>
    cases vb with
    | str y =>
      obtain ⟨hc, h⟩ := gd_post h
      exact op_add_str pins s σ H _ _ v u Q I rx ry ⟨x, y, rfl, rfl, hc, h _ _ _ .refl R (.str _)⟩
    | _ => exact h.elim
  | @tup p xs vs h1 r1 =>
    cases vb with
    | @tup q ys ws h2 r2 =>
      obtain ⟨hc, h⟩ := gd_post h
      by_cases hv : vs = []
      · have hx := r1.nil_inv.mpr hv
        subst hv hx
        exact op_catT0 pins s σ H _ _ v u Q I rx ry ⟨p, q, ws, rfl, rfl, SqT.of h1, SqT.of h2, h _ _ _ .refl R (.tup h2 r2)⟩
      · refine op_catT pins s σ H _ _ v u Q I rx ry ⟨p, q, vs, ws, rfl, rfl, SqT.of h1, SqT.of h2, hv, by rw [<- r1.length, <- r2.length]; exact hc, fun e => ?_, fun _ => new_tup R (r1.append r2) .refl h⟩
        have hy := r2.nil_inv.mpr e
        subst hy
        rw [List.append_nil] at h
        exact h _ _ _ .refl R (.tup h1 r1)
    | _ => exact h.elim
  | @ref p n hp =>
    cases vb with
    | @ref q m hq =>
      obtain ⟨xs, hn, h⟩ := opt_post h
      obtain ⟨ys, hm, h⟩ := opt_post h
      obtain ⟨hc, h⟩ := gd_post h
      obtain ⟨vs, h1, h2⟩ := R.lst hp (lstAt_of hn)
      obtain ⟨ws, h3, h4⟩ := R.lst hq (lstAt_of hm)
      exact op_cat pins s σ H _ _ v u Q I rx ry ⟨p, q, vs, ws, rfl, rfl, h1, h3, by rw [<- h2.length, <- h4.length]; exact hc, new_lst R (h2.append h4) .refl h⟩
    | _ => exact h.elim
  | _ => exact h.elim
noncomputable def A.ints : List A -> Option (List Int)
  | [] => some []
  | .int i :: xs => (A.ints xs).map (i :: ·)
  | _ => none
noncomputable def aLt (a b : A) (S : Sto) : R A := match a, b with
  | .int i, .int j => .ok (.bl (decide (i < j))) S
  | _, _ => .no
theorem o_lt (hu : X.A.units + 64 < cLine) : OpR X (compareOp .Lt) (r2 X aLt) := fun pins s σ H x y v u Q I rx ry ⟨ρ, S, a, b, R, va, vb, h⟩ => by
  cases va with
  | int i =>
    cases vb with
    | int j => exact op_lt pins s σ H _ _ v u Q I rx ry ⟨i, j, rfl, rfl, h _ _ _ .refl R (.bl _)⟩
    | _ => exact h.elim
  | _ => exact h.elim
noncomputable def aLe (a b : A) (S : Sto) : R A := match a, b with
  | .int i, .int j => .ok (.bl (decide (i <= j))) S
  | _, _ => .no
theorem o_le : OpR X (compareOp .LtE) (r2 X aLe) := OpR.imp op_le fun x y H Q ⟨ρ, S, a, b, R, va, vb, h⟩ => by
  cases va <;> first | exact h.elim | (cases vb <;> first | exact h.elim | exact ⟨_, _, rfl, rfl, h _ _ _ .refl R (.bl _)⟩)
noncomputable def aGt (a b : A) (S : Sto) : R A := match a, b with
  | .int i, .int j => .ok (.bl (decide (j < i))) S
  | _, _ => .no
theorem o_gt (hu : X.A.units + 64 < cLine) : OpR X (compareOp .Gt) (r2 X aGt) := fun pins s σ H x y v u Q I rx ry ⟨ρ, S, a, b, R, va, vb, h⟩ => by
  cases va with
  | int i =>
    cases vb with
    | int j => exact op_gt pins s σ H _ _ v u Q I rx ry ⟨i, j, rfl, rfl, h _ _ _ .refl R (.bl _)⟩
    | _ => exact h.elim
  | _ => exact h.elim
noncomputable def aGe (a b : A) (S : Sto) : R A := match a, b with
  | .int i, .int j => .ok (.bl (decide (j <= i))) S
  | _, _ => .no
theorem o_ge : OpR X (compareOp .GtE) (r2 X aGe) := OpR.imp op_ge fun x y H Q ⟨ρ, S, a, b, R, va, vb, h⟩ => by
  cases va <;> first | exact h.elim | (cases vb <;> first | exact h.elim | exact ⟨_, _, rfl, rfl, h _ _ _ .refl R (.bl _)⟩)
noncomputable def aIs (neg : Bool) (a b : A) (S : Sto) : R A := match a, b with
  | .bl i, .bl j => .ok (.bl (if neg then i != j else i == j)) S
  | .non, .non => .ok (.bl (!neg)) S
  | .unb, .non => .no
  | .exn _, .non => .no
  | _, .non => .ok (.bl neg) S
  | _, _ => .no
noncomputable def eUn (f : A -> Sto -> R A) (c : Ex) : Ex := fun τ S => (c τ S).bind fun a S1 => f a S1
noncomputable def aNeg (a : A) (S : Sto) : R A := match a with
  | .int i => .ok (.int (-i)) S
  | _ => .no
theorem u_neg : UnR X (unaryOp .USub) (r1 X aNeg) := fun pins s σ H x v Q I rx ⟨ρ, S, a, R, va, h⟩ => by
  cases va with
  | int i => exact un_neg pins s σ H _ v Q I rx ⟨i, rfl, h _ _ _ .refl R (.int _)⟩
  | _ => exact h.elim
theorem un_imp {f : A -> Sto -> R A} {c : Ex} {σ : L2.St} {H : Hp} {Q : VK} (h : tE X (eUn f c) σ H Q) : tUn (r1 X f) (tE X c) σ H Q := by
  obtain ⟨ρ, S, τ, R, r, h⟩ := h
  exact ⟨ρ, S, τ, R, r, post_ext (post_bind h) .refl fun a S1 h1 ρ1 H1 x e1 R1 v1 => ⟨ρ1, S1, a, R1, v1, post_ext h1 e1 fun c S3 h3 => h3.ext e1⟩⟩
theorem ae_neg {c : Ex} (h : AE X a c) : AE X (.UnaryOp .USub a pos) (eUn aNeg c) := PE.imp (pe_un u_neg h) fun _ _ _ q => un_imp q
noncomputable def aIx (a b : A) (S : Sto) : R A := match a, b with
  | .tup xs, .int i => opt (atI xs i) fun x => .ok x S
  | .frz xs, .int i => opt (atI xs i) fun x => .ok x S
  | .ref n, .int i => opt (lstAt S n) fun xs => opt (atI xs i) fun x => .ok x S
  | .str z, .int i => gd (z.length <= sizeLine) (opt (atI z.cps.toList i) fun c => .ok (.str ⟨#[c]⟩) S)
  | _, _ => .no
theorem AVs.atI {K : PySem.W.Frag} {ρ : List Addr} {H : Hp} {xs : List A} {vs : List V} {i : Int} {x : A} (r : AVs K ρ H xs vs) (h : L2.atI xs i = some x) : ∃ v, L2.atI vs i = some v /\ AV K ρ H x v := by
  unfold L2.atI at h ⊢
  rw [<- r.length]
  cases hj : ixN xs.length i with
  | none => rw [hj] at h; cases h
  | some j =>
    rw [hj] at h
    exact r.get h
theorem i_any : IxR X (r2 X aIx) := fun value slice pins s σ H x y v u Q I rx ry ⟨ρ, S, a, b, R, va, vb, h⟩ hs => by
  cases va with
  | @tup p xs vs h1 r1 =>
    cases vb with
    | int i =>
      obtain ⟨x, hx, h⟩ := opt_post h
      obtain ⟨z, e, q⟩ := r1.atI hx
      exact ix_tup value slice pins s σ H _ _ v u Q I rx ry ⟨p, vs, i, z, rfl, rfl, SqT.of h1, e, h _ _ _ .refl R q⟩ hs
    | _ => exact h.elim
  | @frz p xs vs h1 r1 =>
    cases vb with
    | int i =>
      obtain ⟨x, hx, h⟩ := opt_post h
      obtain ⟨z, e, q⟩ := r1.atI hx
      exact ix_list value slice pins s σ H _ _ v u Q I rx ry ⟨p, vs, i, z, rfl, rfl, h1.sqL, e, h _ _ _ .refl R q⟩ hs
    | _ => exact h.elim
  | @ref p n hp =>
    cases vb with
    | int i =>
      obtain ⟨xs, hn, h⟩ := opt_post h
      obtain ⟨x, hx, h⟩ := opt_post h
      obtain ⟨vs, h1, r1⟩ := R.lst hp (lstAt_of hn)
      obtain ⟨z, e, q⟩ := r1.atI hx
      exact ix_list value slice pins s σ H _ _ v u Q I rx ry ⟨p, vs, i, z, rfl, rfl, SqL.of h1, e, h _ _ _ .refl R q⟩ hs
    | _ => exact h.elim
  | str z =>
    cases vb with
    | int i =>
      obtain ⟨hz, h⟩ := gd_post h
      obtain ⟨c, hc, h⟩ := opt_post h
      exact ix_str value slice pins s σ H _ _ v u Q I rx ry ⟨z, i, c, rfl, rfl, hz, hc, h _ _ _ .refl R (.str _)⟩ hs
    | _ => exact h.elim
  | _ => exact h.elim
theorem ae_ix {ca cb : Ex} (ha : AE X a ca) (hb : AE X b cb) (hs : PlainIx b := by exact fun _ _ => rfl) : AE X (.Subscript a b pos) (eBin aIx ca cb) := PE.imp (pe_ix i_any ha hb hs) fun σ H Q h => bin_imp h
end
end Am
set_option Elab.async false
set_option linter.all false
set_option maxRecDepth 100000
set_option maxHeartbeats 4000000
namespace Am
open PySem PySem.Spec PyProof.Rows L2
noncomputable def eqLs (f : A -> A -> Option Bool) : List A -> List A -> Option Bool
  | [], [] => some true
  | x :: xs, y :: ys => (f x y).bind fun p => (eqLs f xs ys).map fun q => p && q
  | _, _ => some false
noncomputable def eqA (S : Sto) : Nat -> A -> A -> Option Bool
  | 0, _, _ => none
  | n + 1, a, b => match a, b with
    | .non, .non => some true
    | .bl x, .bl y => some (x == y)
    | .bl x, .int y => some ((if x then 1 else 0) == y)
    | .int x, .bl y => some (x == (if y then 1 else 0))
    | .int x, .int y => some (x == y)
    | .str x, .str y => some (x == y)
    | .non, .bl _ => some false
    | .non, .int _ => some false
    | .non, .str _ => some false
    | .bl _, .non => some false
    | .bl _, .str _ => some false
    | .int _, .non => some false
    | .int _, .str _ => some false
    | .str _, .non => some false
    | .str _, .bl _ => some false
    | .str _, .int _ => some false
    | .tup xs, .tup ys => eqLs (eqA S n) xs ys
    | .ref i, .ref j => (lstAt S i).bind fun xs => (lstAt S j).bind fun ys => eqLs (eqA S n) xs ys
    | .ref i, .tup _ => (lstAt S i).map fun _ => false
    | .tup _, .ref j => (lstAt S j).map fun _ => false
    | .ref i, .non => (lstAt S i).map fun _ => false
    | .ref i, .int _ => (lstAt S i).map fun _ => false
    | .ref i, .bl _ => (lstAt S i).map fun _ => false
    | .ref i, .str _ => (lstAt S i).map fun _ => false
    | .non, .ref i => (lstAt S i).map fun _ => false
    | .int _, .ref i => (lstAt S i).map fun _ => false
    | .bl _, .ref i => (lstAt S i).map fun _ => false
    | .str _, .ref i => (lstAt S i).map fun _ => false
    | .tup _, .non => some false
    | .tup _, .int _ => some false
    | .tup _, .bl _ => some false
    | .tup _, .str _ => some false
    | .non, .tup _ => some false
    | .int _, .tup _ => some false
    | .bl _, .tup _ => some false
    | .str _, .tup _ => some false
    | _, _ => none
section
variable {X : Cx} {pins : List (Addr × Obj)} {σ : L2.St} {H : Hp} {s : Shared} {ρ : List Addr} {S : Sto}
theorem tup_lst {a : Addr} {vs ws : List V} (I : Inv X pins σ H s) (h : SqT X.K H a vs) (h' : H a = some (.lst ws)) : False := by
  rcases h with (h | ⟨o, h⟩) | ⟨o, its, n, hk, _⟩
  · rw [h] at h'; cases h'
  · rw [h] at h'; cases h'
  · rw [(I.bs a o (I.mod.kin a o hk)).2] at h'; cases h'
theorem eqs_same {f : A -> A -> Option Bool} (hf : ∀ a b x k, AV X.K ρ H a x -> AV X.K ρ H b x -> f a b = some k -> k = true) : ∀ {xs ys : List A} {vs : List V} {k : Bool}, AVs X.K ρ H xs vs -> AVs X.K ρ H ys vs -> eqLs f xs ys = some k -> k = true
  | _, _, _, _, .nil, .nil, h => (Option.some.inj h).symm
  | _, _, _, _, .cons (x := x) h t, .cons (x := y) h' t', e => by
    unfold eqLs at e
    cases e1 : f x y with
    | none => rw [e1] at e; cases e
    | some p =>
      rw [e1] at e
      obtain ⟨q, e2, e3⟩ := Option.map_eq_some_iff.mp e
      rw [<- e3, hf _ _ _ p h h' e1, eqs_same hf t t' e2]; rfl
theorem eq_same (I : Inv X pins σ H s) (R : Rel X.K ρ H S) : ∀ (n : Nat) (a b : A) (x : V) (k : Bool), AV X.K ρ H a x -> AV X.K ρ H b x -> eqA S n a b = some k -> k = true
  | 0, _, _, _, _, _, _, e => nomatch e
  | n + 1, a, b, x, k, ha, hb, e => by
    cases ha with
    | non => cases hb; exact (Option.some.inj e).symm
    | bl i => cases hb; exact (Option.some.inj e).symm.trans (beq_self_eq_true i)
    | int i => cases hb; exact (Option.some.inj e).symm.trans (beq_self_eq_true i)
    | str i => cases hb; exact (Option.some.inj e).symm.trans (beq_self_eq_true i)
    | ty i => cases hb; cases e
    | @tup p xs vs h1 r1 =>
      cases hb with
      | @tup _ ys ws h2 r2 =>
        have := I.tuple_inj (SqT.of h1) (SqT.of h2)
        subst this
        exact eqs_same (eq_same I R n) r1 r2 e
      | frz _ _ => cases e
      | rng _ => cases e
      | exn _ _ _ => cases e
      | @ref _ m h2 =>
        obtain ⟨ys, e1, _⟩ := Option.map_eq_some_iff.mp e
        obtain ⟨vs', h3, _⟩ := R.lst h2 (lstAt_of e1)
        exact (tup_lst I (SqT.of h1) h3).elim
    | frz h1 r1 => cases hb <;> cases e
    | rng h1 => cases hb <;> cases e
    | exn n1 h1 x1 => cases hb <;> cases e
    | @ref p i h1 =>
      cases hb with
      | @tup _ ys ws h2 r2 =>
        obtain ⟨ys, e1, _⟩ := Option.map_eq_some_iff.mp e
        obtain ⟨vs', h3, _⟩ := R.lst h1 (lstAt_of e1)
        exact (tup_lst I (SqT.of h2) h3).elim
      | frz _ _ => cases e
      | rng _ => cases e
      | exn _ _ _ => cases e
      | @ref _ m h2 =>
        obtain ⟨xs, e1, e⟩ := Option.bind_eq_some_iff.mp e
        obtain ⟨ys, e2, e⟩ := Option.bind_eq_some_iff.mp e
        obtain ⟨vs, h3, r1⟩ := R.lst h1 (lstAt_of e1)
        obtain ⟨ws, h4, r2⟩ := R.lst h2 (lstAt_of e2)
        rw [h3] at h4
        cases h4
        exact eqs_same (eq_same I R n) r1 r2 e
noncomputable def eAt2 (f : A -> A -> Option Bool) (xs ys : List A) (j : Nat) : Bool := match xs[j]?, ys[j]? with
  | some x, some y => (f x y).getD true
  | _, _ => true
theorem eqLs_at {f : A -> A -> Option Bool} : ∀ {xs ys : List A} {k : Bool}, eqLs f xs ys = some k -> k = ((List.range (min xs.length ys.length)).all (eAt2 f xs ys) && xs.length == ys.length) /\ ∀ j x y, xs[j]? = some x -> ys[j]? = some y -> f x y = some (eAt2 f xs ys j)
  | [], [], k, e => ⟨(Option.some.inj e).symm, fun j x y h => by simp at h⟩
  | [], _ :: _, k, e => ⟨(Option.some.inj e).symm, fun j x y h => by simp at h⟩
  | _ :: _, [], k, e => ⟨(Option.some.inj e).symm, fun j x y _ h => by simp at h⟩
  | x :: xs, y :: ys, k, e => by
    unfold eqLs at e
    cases e1 : f x y with
    | none => rw [e1] at e; cases e
    | some p =>
      rw [e1] at e
      obtain ⟨q, e2, e3⟩ := Option.map_eq_some_iff.mp e
      obtain ⟨h1, h2⟩ := eqLs_at e2
      have p0 : eAt2 f (x :: xs) (y :: ys) 0 = p := by simp [eAt2, e1]
      have ps : ∀ j, eAt2 f (x :: xs) (y :: ys) (j + 1) = eAt2 f xs ys j := fun j => by simp [eAt2]
      refine ⟨?_, fun j a b ha hb => ?_⟩
      · rw [<- e3, h1, List.length_cons, List.length_cons, Nat.succ_min_succ, List.range_succ_eq_map, List.all_cons, List.all_map, p0]
        have : (eAt2 f (x :: xs) (y :: ys) ∘ Nat.succ) = eAt2 f xs ys := funext ps
        rw [this, Bool.and_assoc]
        simp
      · cases j with
        | zero =>
          simp at ha hb
          subst ha hb
          rw [p0]; exact e1
        | succ j => rw [ps]; exact h2 j a b (by simpa using ha) (by simpa using hb)
theorem eqItems {f : A -> A -> Option Bool} {B : Around} (hf : ∀ a b x y u v k, AV X.K ρ H a x -> AV X.K ρ H b y -> RelV x u -> RelV y v -> f a b = some k -> SeqAt.EqAt B s u v k) {xs ys : List A} {vs ws : List V} {us ts : List Value} {k : Bool}
    (r1 : AVs X.K ρ H xs vs) (r2 : AVs X.K ρ H ys ws) (q1 : Vals vs us) (q2 : Vals ws ts) (e : eqLs f xs ys = some k) : ∀ j (h1 : j < us.toArray.size) (h2 : j < ts.toArray.size), SeqAt.EqAt B s us.toArray[j] ts.toArray[j] (eAt2 f xs ys j) := by
  intro j h1 h2
  have l1 := r1.length
  have l2 := r2.length
  have l3 := q1.length
  have l4 := q2.length
  have hx : j < xs.length := by simp at h1; omega
  have hy : j < ys.length := by simp at h2; omega
  have e1 : xs[j]? = some xs[j] := List.getElem?_eq_getElem hx
  have e2 : ys[j]? = some ys[j] := List.getElem?_eq_getElem hy
  obtain ⟨x, ex, ax⟩ := r1.get e1
  obtain ⟨y, ey, ay⟩ := r2.get e2
  obtain ⟨u, eu, ru⟩ := q1.get ex
  obtain ⟨t, et, rt⟩ := q2.get ey
  have a1 : us.toArray[j] = u := by
    have : us[j]? = some us.toArray[j] := by simp at h1; simp [h1]
    rw [eu] at this; exact (Option.some.inj this).symm
  have a2 : ts.toArray[j] = t := by
    have : ts[j]? = some ts.toArray[j] := by simp at h2; simp [h2]
    rw [et] at this; exact (Option.some.inj this).symm
  rw [a1, a2]
  exact hf _ _ x y u t _ ax ay ru rt ((eqLs_at e).2 j _ _ e1 e2)
theorem in1_units (B : Around) : B.in1.units = B.units + 1 := rfl
theorem rc_at (I : Inv X pins σ H s) (R : Rel X.K ρ H S) : ∀ (n : Nat) (B : Around) (a b : A) (x y : V) (u v : Value) (k : Bool), B.units + n < cLine -> AV X.K ρ H a x -> AV X.K ρ H b y -> RelV x u -> RelV y v -> eqA S n a b = some k -> SeqAt.RcAt B s u v k /\ SeqAt.EqAt B s u v k
  | 0, _, _, _, _, _, _, _, _, _, _, _, _, _, e => nomatch e
  | n + 1, B, a, b, x, y, u, v, k, hu, ha, hb, rx, ry, e => by
    have hu0 : B.units < cLine := by omega
    have items : ∀ a b x y u v k, AV X.K ρ H a x -> AV X.K ρ H b y -> RelV x u -> RelV y v -> eqA S n a b = some k -> SeqAt.EqAt B.in1 s u v k := fun a b x y u v k h1 h2 h3 h4 h5 => (rc_at I R n B.in1 a b x y u v k (by rw [in1_units]; omega) h1 h2 h3 h4 h5).2
    have refs : ∀ {p q : Addr} {k : Bool}, AV X.K ρ H a (.ref p) -> AV X.K ρ H b (.ref q) -> eqA S (n + 1) a b = some k -> SeqAt.RcAt B s (.ref p) (.ref q) k -> SeqAt.RcAt B s (.ref p) (.ref q) k /\ SeqAt.EqAt B s (.ref p) (.ref q) k := by
      intro p q k h1 h2 e h
      refine ⟨h, ?_⟩
      by_cases hp : p = q
      · subst hp
        have := eq_same I R (n + 1) a b _ k h1 h2 e
        subst this
        exact .same _
      · exact .of_refs hp h
    have tl : ∀ {p : Addr} {xs : List A} {vs : List V}, SqT X.K H p vs -> AVs X.K ρ H xs vs -> ∃ us : List Value, Vals vs us /\ s.heap.IsTuple p us.toArray := fun h1 r1 => by
      obtain ⟨us, q, p, _⟩ := I.tuple h1
      exact ⟨us, q, p⟩
    have ll : ∀ {p : Addr} {i : Nat} {xs : List A}, ρ[i]? = some p -> lstAt S i = some xs -> ∃ (vs : List V) (us : List Value), AVs X.K ρ H xs vs /\ Vals vs us /\ s.heap.IsList p us.toArray := fun h1 e1 => by
      obtain ⟨vs, h3, r1⟩ := R.lst h1 (lstAt_of e1)
      obtain ⟨us, q, p, _⟩ := I.list (SqL.of h3)
      exact ⟨vs, us, r1, q, p.isList⟩
    cases ha with
    | non =>
      obtain rfl : u = Value.none := rx
      cases hb with
      | non => obtain rfl : v = Value.none := ry; cases Option.some.inj e; exact ⟨.none_none, .same _⟩
      | bl j => obtain rfl : v = Value.bool j := ry; cases Option.some.inj e; exact ⟨.none_bool _, .none_bool _⟩
      | int j => obtain ⟨t, rfl⟩ : ∃ t, v = Value.int j t := ry; cases Option.some.inj e; exact ⟨.none_int _ _, .none_int _ _⟩
      | str j => obtain ⟨t, rfl⟩ : ∃ t, v = Value.str j t := ry; cases Option.some.inj e; exact ⟨.none_str _ _, .none_str _ _⟩
      | tup h2 r2 => obtain ⟨us, _, p⟩ := tl (SqT.of h2) r2; cases (show v = Value.ref _ from ry); cases Option.some.inj e; exact ⟨.none_tuple p hu0, .none_tuple p hu0⟩
      | ref h2 => obtain ⟨xs, e1, e2⟩ := Option.map_eq_some_iff.mp e; obtain ⟨_, us, _, _, p⟩ := ll h2 e1; cases (show v = Value.ref _ from ry); cases e2; exact ⟨.none_list p hu0, .none_list p hu0⟩
      | _ => cases e
    | bl i =>
      obtain rfl : u = Value.bool i := rx
      cases hb with
      | non => obtain rfl : v = Value.none := ry; cases Option.some.inj e; exact ⟨.bool_none _, .bool_none _⟩
      | bl j => obtain rfl : v = Value.bool j := ry; cases Option.some.inj e; exact ⟨.bool_bool _ _, .bool_bool _ _⟩
      | int j => obtain ⟨t, rfl⟩ : ∃ t, v = Value.int j t := ry; cases Option.some.inj e; exact ⟨.bool_int _ _ _, .bool_int _ _ _⟩
      | str j => obtain ⟨t, rfl⟩ : ∃ t, v = Value.str j t := ry; cases Option.some.inj e; exact ⟨.bool_str _ _ _, .bool_str _ _ _⟩
      | tup h2 r2 => obtain ⟨us, _, p⟩ := tl (SqT.of h2) r2; cases (show v = Value.ref _ from ry); cases Option.some.inj e; exact ⟨.bool_tuple _ p hu0, .bool_tuple _ p hu0⟩
      | ref h2 => obtain ⟨xs, e1, e2⟩ := Option.map_eq_some_iff.mp e; obtain ⟨_, us, _, _, p⟩ := ll h2 e1; cases (show v = Value.ref _ from ry); cases e2; exact ⟨.bool_list _ p hu0, .bool_list _ p hu0⟩
      | _ => cases e
    | int i =>
      obtain ⟨t0, rfl⟩ : ∃ t, u = Value.int i t := rx
      cases hb with
      | non => obtain rfl : v = Value.none := ry; cases Option.some.inj e; exact ⟨.int_none _ _, .int_none _ _⟩
      | bl j => obtain rfl : v = Value.bool j := ry; cases Option.some.inj e; exact ⟨.int_bool _ _ _, .int_bool _ _ _⟩
      | int j => obtain ⟨t, rfl⟩ : ∃ t, v = Value.int j t := ry; cases Option.some.inj e; exact ⟨.int_int _ _ _ _, .int_int _ _ _ _⟩
      | str j => obtain ⟨t, rfl⟩ : ∃ t, v = Value.str j t := ry; cases Option.some.inj e; exact ⟨.int_str _ _ _ _, .int_str _ _ _ _⟩
      | tup h2 r2 => obtain ⟨us, _, p⟩ := tl (SqT.of h2) r2; cases (show v = Value.ref _ from ry); cases Option.some.inj e; exact ⟨.int_tuple _ _ p hu0, .int_tuple _ _ p hu0⟩
      | ref h2 => obtain ⟨xs, e1, e2⟩ := Option.map_eq_some_iff.mp e; obtain ⟨_, us, _, _, p⟩ := ll h2 e1; cases (show v = Value.ref _ from ry); cases e2; exact ⟨.int_list _ _ p hu0, .int_list _ _ p hu0⟩
      | _ => cases e
    | str i =>
      obtain ⟨t0, rfl⟩ : ∃ t, u = Value.str i t := rx
      cases hb with
      | non => obtain rfl : v = Value.none := ry; cases Option.some.inj e; exact ⟨.str_none _ _, .str_none _ _⟩
      | bl j => obtain rfl : v = Value.bool j := ry; cases Option.some.inj e; exact ⟨.str_bool _ _ _, .str_bool _ _ _⟩
      | int j => obtain ⟨t, rfl⟩ : ∃ t, v = Value.int j t := ry; cases Option.some.inj e; exact ⟨.str_int _ _ _ _, .str_int _ _ _ _⟩
      | str j => obtain ⟨t, rfl⟩ : ∃ t, v = Value.str j t := ry; cases Option.some.inj e; exact ⟨.str_str _ _ _ _, .str_str _ _ _ _⟩
      | tup h2 r2 => obtain ⟨us, _, p⟩ := tl (SqT.of h2) r2; cases (show v = Value.ref _ from ry); cases Option.some.inj e; exact ⟨.str_tuple _ _ p hu0, .str_tuple _ _ p hu0⟩
      | ref h2 => obtain ⟨xs, e1, e2⟩ := Option.map_eq_some_iff.mp e; obtain ⟨_, us, _, _, p⟩ := ll h2 e1; cases (show v = Value.ref _ from ry); cases e2; exact ⟨.str_list _ _ p hu0, .str_list _ _ p hu0⟩
      | _ => cases e
    | @tup p xs vs h1 r1 =>
      obtain rfl : u = Value.ref p := rx
      obtain ⟨us, q1, p1⟩ := tl (SqT.of h1) r1
      cases hb with
      | non => obtain rfl : v = Value.none := ry; cases Option.some.inj e; exact ⟨.tuple_none p1 hu0, .tuple_none p1 hu0⟩
      | bl j => obtain rfl : v = Value.bool j := ry; cases Option.some.inj e; exact ⟨.tuple_bool _ p1 hu0, .tuple_bool _ p1 hu0⟩
      | int j => obtain ⟨t, rfl⟩ : ∃ t, v = Value.int j t := ry; cases Option.some.inj e; exact ⟨.tuple_int _ _ p1 hu0, .tuple_int _ _ p1 hu0⟩
      | str j => obtain ⟨t, rfl⟩ : ∃ t, v = Value.str j t := ry; cases Option.some.inj e; exact ⟨.tuple_str _ _ p1 hu0, .tuple_str _ _ p1 hu0⟩
      | @tup q ys ws h2 r2 =>
        obtain rfl : v = Value.ref q := ry
        obtain ⟨ts, q2, p2⟩ := tl (SqT.of h2) r2
        have e' : eqLs (eqA S n) xs ys = some k := e
        refine refs (.tup h1 r1) (.tup h2 r2) e ?_
        rw [(eqLs_at e').1]
        have := SeqAt.RcAt.tuples p1 p2 hu0 (eqItems items r1 r2 q1 q2 e')
        rw [List.size_toArray, List.size_toArray, <- q1.length, <- q2.length, <- r1.length, <- r2.length] at this
        exact this
      | @ref q j h2 =>
        obtain rfl : v = Value.ref q := ry
        obtain ⟨ys, e1, e2⟩ := Option.map_eq_some_iff.mp e
        obtain ⟨_, ts, _, _, p2⟩ := ll h2 e1
        refine refs (.tup h1 r1) (.ref h2) e ?_
        rw [<- e2]
        exact .tuple_list p1 p2 hu0
      | _ => cases e
    | @ref p i h1 =>
      obtain rfl : u = Value.ref p := rx
      cases hb with
      | non => obtain ⟨xs, e1, e2⟩ := Option.map_eq_some_iff.mp e; obtain ⟨_, us, _, _, p1⟩ := ll h1 e1; obtain rfl : v = Value.none := ry; cases e2; exact ⟨.list_none p1 hu0, .list_none p1 hu0⟩
      | bl j => obtain ⟨xs, e1, e2⟩ := Option.map_eq_some_iff.mp e; obtain ⟨_, us, _, _, p1⟩ := ll h1 e1; obtain rfl : v = Value.bool j := ry; cases e2; exact ⟨.list_bool _ p1 hu0, .list_bool _ p1 hu0⟩
      | int j => obtain ⟨xs, e1, e2⟩ := Option.map_eq_some_iff.mp e; obtain ⟨_, us, _, _, p1⟩ := ll h1 e1; obtain ⟨t, rfl⟩ : ∃ t, v = Value.int j t := ry; cases e2; exact ⟨.list_int _ _ p1 hu0, .list_int _ _ p1 hu0⟩
      | str j => obtain ⟨xs, e1, e2⟩ := Option.map_eq_some_iff.mp e; obtain ⟨_, us, _, _, p1⟩ := ll h1 e1; obtain ⟨t, rfl⟩ : ∃ t, v = Value.str j t := ry; cases e2; exact ⟨.list_str _ _ p1 hu0, .list_str _ _ p1 hu0⟩
      | @tup q ys ws h2 r2 =>
        obtain rfl : v = Value.ref q := ry
        obtain ⟨ts, q2, p2⟩ := tl (SqT.of h2) r2
        obtain ⟨xs, e1, e2⟩ := Option.map_eq_some_iff.mp e
        obtain ⟨_, us, _, _, p1⟩ := ll h1 e1
        refine refs (.ref h1) (.tup h2 r2) e ?_
        rw [<- e2]
        exact .list_tuple p1 p2 hu0
      | @ref q j h2 =>
        obtain rfl : v = Value.ref q := ry
        have e0 := e
        obtain ⟨xs, e1, e⟩ := Option.bind_eq_some_iff.mp e
        obtain ⟨ys, e2, e'⟩ := Option.bind_eq_some_iff.mp e
        obtain ⟨vs, us, r1, q1, p1⟩ := ll h1 e1
        obtain ⟨ws, ts, r2, q2, p2⟩ := ll h2 e2
        refine refs (.ref h1) (.ref h2) e0 ?_
        have l1 := r1.length
        have l2 := r2.length
        have l3 := q1.length
        have l4 := q2.length
        rw [(eqLs_at e').1]
        by_cases hl : xs.length = ys.length
        · have := SeqAt.RcAt.lists p1 p2 (by simp; omega) hu0 (eqItems items r1 r2 q1 q2 e')
          rw [List.size_toArray, <- l3, <- l1] at this
          rw [<- hl, Nat.min_self, beq_self_eq_true, Bool.and_true]
          exact this
        · have : (xs.length == ys.length) = false := by simpa using hl
          rw [this, Bool.and_false]
          exact .lists_lengths p1 p2 (by simp; omega) hu0
      | _ => cases e
    | _ => cases hb <;> cases e
theorem rcn_at (I : Inv X pins σ H s) (R : Rel X.K ρ H S) : ∀ (n : Nat) (B : Around) (a b : A) (x y : V) (u v : Value) (k : Bool), B.units + n < cLine -> AV X.K ρ H a x -> AV X.K ρ H b y -> RelV x u -> RelV y v -> eqA S n a b = some k -> SeqAt.RcNeAt B s u v (!k)
  | 0, _, _, _, _, _, _, _, _, _, _, _, _, _, e => nomatch e
  | n + 1, B, a, b, x, y, u, v, k, hu, ha, hb, rx, ry, e => by
    have hu0 : B.units < cLine := by omega
    have items : ∀ a b x y u v k, AV X.K ρ H a x -> AV X.K ρ H b y -> RelV x u -> RelV y v -> eqA S n a b = some k -> SeqAt.EqAt B.in1 s u v k := fun a b x y u v k h1 h2 h3 h4 h5 => (rc_at I R n B.in1 a b x y u v k (by rw [in1_units]; omega) h1 h2 h3 h4 h5).2
    have tl : ∀ {p : Addr} {xs : List A} {vs : List V}, SqT X.K H p vs -> AVs X.K ρ H xs vs -> ∃ us : List Value, Vals vs us /\ s.heap.IsTuple p us.toArray := fun h1 r1 => by
      obtain ⟨us, q, p, _⟩ := I.tuple h1
      exact ⟨us, q, p⟩
    have ll : ∀ {p : Addr} {i : Nat} {xs : List A}, ρ[i]? = some p -> lstAt S i = some xs -> ∃ (vs : List V) (us : List Value), AVs X.K ρ H xs vs /\ Vals vs us /\ s.heap.IsList p us.toArray := fun h1 e1 => by
      obtain ⟨vs, h3, r1⟩ := R.lst h1 (lstAt_of e1)
      obtain ⟨us, q, p, _⟩ := I.list (SqL.of h3)
      exact ⟨vs, us, r1, q, p.isList⟩
    cases ha with
    | non =>
      obtain rfl : u = Value.none := rx
      cases hb with
      | non => obtain rfl : v = Value.none := ry; cases Option.some.inj e; exact SeqAt.RcNeAt.none_none
      | bl j => obtain rfl : v = Value.bool j := ry; cases Option.some.inj e; exact SeqAt.RcNeAt.none_bool _
      | int j => obtain ⟨t, rfl⟩ : ∃ t, v = Value.int j t := ry; cases Option.some.inj e; exact SeqAt.RcNeAt.none_int _ _
      | str j => obtain ⟨t, rfl⟩ : ∃ t, v = Value.str j t := ry; cases Option.some.inj e; exact SeqAt.RcNeAt.none_str _ _
      | tup h2 r2 => obtain ⟨us, _, p⟩ := tl (SqT.of h2) r2; cases (show v = Value.ref _ from ry); cases Option.some.inj e; exact SeqAt.RcNeAt.none_tuple p hu0
      | ref h2 => obtain ⟨xs, e1, e2⟩ := Option.map_eq_some_iff.mp e; obtain ⟨_, us, _, _, p⟩ := ll h2 e1; cases (show v = Value.ref _ from ry); cases e2; exact SeqAt.RcNeAt.none_list p hu0
      | _ => cases e
    | bl i =>
      obtain rfl : u = Value.bool i := rx
      cases hb with
      | non => obtain rfl : v = Value.none := ry; cases Option.some.inj e; exact SeqAt.RcNeAt.bool_none _
      | bl j => obtain rfl : v = Value.bool j := ry; cases Option.some.inj e; exact SeqAt.RcNeAt.bool_bool _ _
      | int j => obtain ⟨t, rfl⟩ : ∃ t, v = Value.int j t := ry; cases Option.some.inj e; exact SeqAt.RcNeAt.bool_int _ _ _
      | str j => obtain ⟨t, rfl⟩ : ∃ t, v = Value.str j t := ry; cases Option.some.inj e; exact SeqAt.RcNeAt.bool_str _ _ _
      | tup h2 r2 => obtain ⟨us, _, p⟩ := tl (SqT.of h2) r2; cases (show v = Value.ref _ from ry); cases Option.some.inj e; exact SeqAt.RcNeAt.bool_tuple _ p hu0
      | ref h2 => obtain ⟨xs, e1, e2⟩ := Option.map_eq_some_iff.mp e; obtain ⟨_, us, _, _, p⟩ := ll h2 e1; cases (show v = Value.ref _ from ry); cases e2; exact SeqAt.RcNeAt.bool_list _ p hu0
      | _ => cases e
    | int i =>
      obtain ⟨t0, rfl⟩ : ∃ t, u = Value.int i t := rx
      cases hb with
      | non => obtain rfl : v = Value.none := ry; cases Option.some.inj e; exact SeqAt.RcNeAt.int_none _ _
      | bl j => obtain rfl : v = Value.bool j := ry; cases Option.some.inj e; exact SeqAt.RcNeAt.int_bool _ _ _
      | int j => obtain ⟨t, rfl⟩ : ∃ t, v = Value.int j t := ry; cases Option.some.inj e; exact SeqAt.RcNeAt.int_int _ _ _ _
      | str j => obtain ⟨t, rfl⟩ : ∃ t, v = Value.str j t := ry; cases Option.some.inj e; exact SeqAt.RcNeAt.int_str _ _ _ _
      | tup h2 r2 => obtain ⟨us, _, p⟩ := tl (SqT.of h2) r2; cases (show v = Value.ref _ from ry); cases Option.some.inj e; exact SeqAt.RcNeAt.int_tuple _ _ p hu0
      | ref h2 => obtain ⟨xs, e1, e2⟩ := Option.map_eq_some_iff.mp e; obtain ⟨_, us, _, _, p⟩ := ll h2 e1; cases (show v = Value.ref _ from ry); cases e2; exact SeqAt.RcNeAt.int_list _ _ p hu0
      | _ => cases e
    | str i =>
      obtain ⟨t0, rfl⟩ : ∃ t, u = Value.str i t := rx
      cases hb with
      | non => obtain rfl : v = Value.none := ry; cases Option.some.inj e; exact SeqAt.RcNeAt.str_none _ _
      | bl j => obtain rfl : v = Value.bool j := ry; cases Option.some.inj e; exact SeqAt.RcNeAt.str_bool _ _ _
      | int j => obtain ⟨t, rfl⟩ : ∃ t, v = Value.int j t := ry; cases Option.some.inj e; exact SeqAt.RcNeAt.str_int _ _ _ _
      | str j => obtain ⟨t, rfl⟩ : ∃ t, v = Value.str j t := ry; cases Option.some.inj e; exact SeqAt.RcNeAt.str_str _ _ _ _
      | tup h2 r2 => obtain ⟨us, _, p⟩ := tl (SqT.of h2) r2; cases (show v = Value.ref _ from ry); cases Option.some.inj e; exact SeqAt.RcNeAt.str_tuple _ _ p hu0
      | ref h2 => obtain ⟨xs, e1, e2⟩ := Option.map_eq_some_iff.mp e; obtain ⟨_, us, _, _, p⟩ := ll h2 e1; cases (show v = Value.ref _ from ry); cases e2; exact SeqAt.RcNeAt.str_list _ _ p hu0
      | _ => cases e
    | @tup p xs vs h1 r1 =>
      obtain rfl : u = Value.ref p := rx
      obtain ⟨us, q1, p1⟩ := tl (SqT.of h1) r1
      cases hb with
      | non => obtain rfl : v = Value.none := ry; cases Option.some.inj e; exact SeqAt.RcNeAt.tuple_none p1 hu0
      | bl j => obtain rfl : v = Value.bool j := ry; cases Option.some.inj e; exact SeqAt.RcNeAt.tuple_bool _ p1 hu0
      | int j => obtain ⟨t, rfl⟩ : ∃ t, v = Value.int j t := ry; cases Option.some.inj e; exact SeqAt.RcNeAt.tuple_int _ _ p1 hu0
      | str j => obtain ⟨t, rfl⟩ : ∃ t, v = Value.str j t := ry; cases Option.some.inj e; exact SeqAt.RcNeAt.tuple_str _ _ p1 hu0
      | @tup q ys ws h2 r2 =>
        obtain rfl : v = Value.ref q := ry
        obtain ⟨ts, q2, p2⟩ := tl (SqT.of h2) r2
        have e' : eqLs (eqA S n) xs ys = some k := e
        rw [(eqLs_at e').1]
        have := SeqAt.RcNeAt.tuples p1 p2 hu0 (eqItems items r1 r2 q1 q2 e')
        rw [List.size_toArray, List.size_toArray, <- q1.length, <- q2.length, <- r1.length, <- r2.length] at this
        exact this
      | @ref q j h2 =>
        obtain rfl : v = Value.ref q := ry
        obtain ⟨ys, e1, e2⟩ := Option.map_eq_some_iff.mp e
        obtain ⟨_, ts, _, _, p2⟩ := ll h2 e1
        rw [<- e2]
        exact SeqAt.RcNeAt.tuple_list p1 p2 hu0
      | _ => cases e
    | @ref p i h1 =>
      obtain rfl : u = Value.ref p := rx
      cases hb with
      | non => obtain ⟨xs, e1, e2⟩ := Option.map_eq_some_iff.mp e; obtain ⟨_, us, _, _, p1⟩ := ll h1 e1; obtain rfl : v = Value.none := ry; cases e2; exact SeqAt.RcNeAt.list_none p1 hu0
      | bl j => obtain ⟨xs, e1, e2⟩ := Option.map_eq_some_iff.mp e; obtain ⟨_, us, _, _, p1⟩ := ll h1 e1; obtain rfl : v = Value.bool j := ry; cases e2; exact SeqAt.RcNeAt.list_bool _ p1 hu0
      | int j => obtain ⟨xs, e1, e2⟩ := Option.map_eq_some_iff.mp e; obtain ⟨_, us, _, _, p1⟩ := ll h1 e1; obtain ⟨t, rfl⟩ : ∃ t, v = Value.int j t := ry; cases e2; exact SeqAt.RcNeAt.list_int _ _ p1 hu0
      | str j => obtain ⟨xs, e1, e2⟩ := Option.map_eq_some_iff.mp e; obtain ⟨_, us, _, _, p1⟩ := ll h1 e1; obtain ⟨t, rfl⟩ : ∃ t, v = Value.str j t := ry; cases e2; exact SeqAt.RcNeAt.list_str _ _ p1 hu0
      | @tup q ys ws h2 r2 =>
        obtain rfl : v = Value.ref q := ry
        obtain ⟨ts, q2, p2⟩ := tl (SqT.of h2) r2
        obtain ⟨xs, e1, e2⟩ := Option.map_eq_some_iff.mp e
        obtain ⟨_, us, _, _, p1⟩ := ll h1 e1
        rw [<- e2]
        exact SeqAt.RcNeAt.list_tuple p1 p2 hu0
      | @ref q j h2 =>
        obtain rfl : v = Value.ref q := ry
        have e0 := e
        obtain ⟨xs, e1, e⟩ := Option.bind_eq_some_iff.mp e
        obtain ⟨ys, e2, e'⟩ := Option.bind_eq_some_iff.mp e
        obtain ⟨vs, us, r1, q1, p1⟩ := ll h1 e1
        obtain ⟨ws, ts, r2, q2, p2⟩ := ll h2 e2
        have l1 := r1.length
        have l2 := r2.length
        have l3 := q1.length
        have l4 := q2.length
        rw [(eqLs_at e').1]
        by_cases hl : xs.length = ys.length
        · have := SeqAt.RcNeAt.lists p1 p2 (by simp; omega) hu0 (eqItems items r1 r2 q1 q2 e')
          rw [List.size_toArray, <- l3, <- l1] at this
          rw [<- hl, Nat.min_self, beq_self_eq_true, Bool.and_true]
          exact this
        · have : (xs.length == ys.length) = false := by simpa using hl
          rw [this, Bool.and_false]
          exact SeqAt.RcNeAt.lists_lengths p1 p2 (by simp; omega) hu0
      | _ => cases e
    | _ => cases hb <;> cases e
end
section
variable {X : Cx}
noncomputable def aEq (neg : Bool) (a b : A) (S : Sto) : R A := opt (eqA S 12 a b) fun k => .ok (.bl (if neg then !k else k)) S
theorem o_eq (hu : X.A.units + 64 < cLine) : OpR X (compareOp .Eq) (r2 X (aEq false)) := fun pins s σ H x y v u Q I rx ry ⟨ρ, S, a, b, R, va, vb, h⟩ => by
  obtain ⟨k, e, h⟩ := opt_post h
  exact (rc_at I R 12 X.A a b x y v u k (by omega) va vb rx ry e).1 _ _ _ _ ⟨.bl _, H, I, rfl, h _ _ _ .refl R (.bl _)⟩
theorem o_ne (hu : X.A.units + 64 < cLine) : OpR X (compareOp .NotEq) (r2 X (aEq true)) := fun pins s σ H x y v u Q I rx ry ⟨ρ, S, a, b, R, va, vb, h⟩ => by
  obtain ⟨k, e, h⟩ := opt_post h
  exact rcn_at I R 12 X.A a b x y v u k (by omega) va vb rx ry e _ _ _ _ ⟨.bl _, H, I, rfl, h _ _ _ .refl R (.bl _)⟩
end
end Am
set_option Elab.async false
set_option linter.all false
set_option maxRecDepth 100000
set_option maxHeartbeats 4000000
namespace Am
open PySem PySem.Spec PyProof.Rows L2
section
variable {X : Cx} {pos : Pos} {a b : Expr}
noncomputable abbrev Pt := List A -> Sto -> R (Option Int)
noncomputable def pNone : Pt := fun _ S => .ok none S
noncomputable def pSome (c : Ex) : Pt := fun τ S => (c τ S).bind fun a S1 => match a with
  | .int i => .ok (some i) S1
  | _ => .no
noncomputable def tO (X : Cx) (c : Pt) : TO := fun σ H Q => ∃ ρ S τ, Rel X.K ρ H S /\ SR X.K ρ H τ σ /\ (c τ S).post (fun o S' => ∀ ρ' H', Ext ρ ρ' H H' -> Rel X.K ρ' H' S' -> Q o H') (XE X ρ H)
noncomputable def AO (X : Cx) (e : Option Expr) (c : Pt) : Prop := PO X e (tO X c)
theorem ao_none : AO X none pNone := fun pins s σ H Q I ⟨ρ, S, τ, R, r, h⟩ => po_none pins s σ H Q I (h ρ H .refl R)
theorem ao_some {c : Ex} (ha : AE X a c) : AO X (some a) (pSome c) := fun pins s σ H Q I ⟨ρ, S, τ, R, r, h⟩ => po_some ha pins s σ H Q I ⟨ρ, S, τ, R, r, post_ext (post_bind h) .refl fun x S1 h1 ρ1 H1 v e1 R1 v1 => by
  cases v1 <;> first | exact h1.elim | exact ⟨_, rfl, h1 ρ1 H1 e1 R1⟩⟩
noncomputable def cutA (xs : List A) (lo hi : Option Int) : List A := (xs.drop (HT.sIx xs.length 0 lo)).take (HT.sIx xs.length xs.length hi - HT.sIx xs.length 0 lo)
theorem AVs.cut {K : PySem.W.Frag} {ρ : List Addr} {H : Hp} {xs : List A} {vs : List V} (r : AVs K ρ H xs vs) (lo hi : Option Int) : AVs K ρ H (cutA xs lo hi) (cutV vs lo hi) := by
  unfold cutA cutV
  rw [r.length]
  exact (r.drop _).take _
noncomputable def aSl (a : A) (lo hi : Option Int) (S : Sto) : R A := match a with
  | .ref n => opt (lstAt S n) fun xs => .ok (.ref S.length) (S ++ [.lst (cutA xs lo hi)])
  | .frz xs => .ok (.ref S.length) (S ++ [.lst (cutA xs lo hi)])
  | .tup xs => gd (¬ (HT.sIx xs.length 0 lo = 0 /\ HT.sIx xs.length xs.length hi = xs.length)) (.ok (.tup (cutA xs lo hi)) S)
  | _ => .no
noncomputable def eSl (c : Ex) (lo hi : Pt) : Ex := fun τ S => (c τ S).bind fun a S1 => (lo τ S1).bind fun l S2 => (hi τ S2).bind fun u S3 => aSl a l u S3
noncomputable def rS (X : Cx) : V -> Option Int -> Option Int -> Hp -> VK -> Prop := fun x lo hi H Q => ∃ ρ S a, Rel X.K ρ H S /\ AV X.K ρ H a x /\ (aSl a lo hi S).post (okP X ρ H Q) (XE X ρ H)
theorem sl_any : SlR X (rS X) := fun pins s σ H x v vl vu lo hi sl Q I rx hs pl pu ⟨ρ, S, a, R, va, h⟩ => by
  cases va with
  | @tup p xs vs h1 r1 =>
    obtain ⟨hc, h⟩ := gd_post h
    exact sl_tup pins s σ H _ v vl vu lo hi sl Q I rx hs pl pu ⟨p, vs, rfl, (SqT.of h1), by rw [<- r1.length]; exact hc, new_tup R (r1.cut lo hi) .refl h⟩
  | @frz p xs vs h1 r1 => exact sl_list pins s σ H _ v vl vu lo hi sl Q I rx hs pl pu ⟨p, vs, rfl, h1.sqL, new_lst R (r1.cut lo hi) .refl h⟩
  | @ref p n hp =>
    obtain ⟨xs, hn, h⟩ := opt_post h
    obtain ⟨vs, h1, r1⟩ := R.lst hp (lstAt_of hn)
    exact sl_list pins s σ H _ v vl vu lo hi sl Q I rx hs pl pu ⟨p, vs, rfl, SqL.of h1, new_lst R (r1.cut lo hi) .refl h⟩
  | _ => exact h.elim
theorem ae_sl {e : Expr} {lo hi : Option Expr} {p2 : Pos} {c : Ex} {cl ch : Pt} (he : AE X e c) (hl : AO X lo cl) (hh : AO X hi ch) : AE X (.Subscript e (.Slice lo hi none p2) pos) (eSl c cl ch) := PE.imp (pe_slice sl_any he hl hh) fun σ H Q ⟨ρ, S, τ, R, r, h⟩ => by
  refine ⟨ρ, S, τ, R, r, post_ext (post_bind h) .refl fun a S1 h1 ρ1 H1 x e1 R1 v1 => ⟨ρ1, S1, τ, R1, r.ext e1, post_ext (post_bind h1) e1 fun l S2 h2 ρ2 H2 e2 R2 => ⟨ρ2, S2, τ, R2, r.ext (e1.trans e2), post_ext (post_bind h2) (e1.trans e2) fun u S3 h3 ρ3 H3 e3 R3 => ?_⟩⟩⟩
  exact ⟨ρ3, S3, a, R3, v1.ext (e2.trans e3), post_ext h3 (e1.trans (e2.trans e3)) fun _ _ z => z.ext (e1.trans (e2.trans e3))⟩
noncomputable def aRev (a : A) (S : Sto) : R A := match a with
  | .ref n => opt (lstAt S n) fun xs => .ok (.ref S.length) (S ++ [.lst xs.reverse])
  | .tup xs => .ok (.tup xs.reverse) S
  | _ => .no
noncomputable def eCall (f : List A -> Sto -> R A) (d : Exs) : Ex := fun τ S => (d τ S).bind fun as S1 => f as S1
theorem call_imp {f : List A -> Sto -> R A} {d : Exs} {σ : L2.St} {H : Hp} {Q : VK} (h : tE X (eCall f d) σ H Q) : tCB (rN X f) (tL X d) σ H Q := by
  obtain ⟨ρ, S, τ, R, r, h⟩ := h
  exact ⟨ρ, S, τ, R, r, post_ext (post_bind h) .refl fun as S1 h1 ρ1 H1 vs e1 R1 v1 => ⟨ρ1, S1, as, R1, v1, post_ext h1 e1 fun _ _ z => z.ext e1⟩⟩
variable {x : Str} {p : Pos} {e : Expr} {es : List Expr} {id T : String} {f : List A -> Sto -> R A} {d : Exs}
theorem ae_callB (hc : CallR X (.builtin id) (rN X f)) (hm : X.mg x = none) (hv : bootBuiltins x = some (.builtin id)) (ha : AL X (e :: es) d) (hg : Gl X x := by rfl) (hn : x ≠ "__name__" := by decide) (hdb : (x == ("__debug__" : Str)) = false := by decide)
    (he : starEach (e :: es) X.env = (false, eval e X.env) :: starEach es X.env := by rfl) (hpl : (backTo pos (starEach es X.env)).any (·.1) = false := by rfl) : AE X (.Call (.Name x p) (e :: es) [] pos) (eCall f d) :=
  PE.imp (pe_callB hc hg hm hv ha hn hdb he hpl) fun _ _ _ h => call_imp h
theorem ae_callT (hc : CallR X (.type T) (rN X f)) (hm : X.mg x = none) (hv : bootBuiltins x = some (.type T)) (ha : AL X (e :: es) d) (hg : Gl X x := by rfl) (hn : x ≠ "__name__" := by decide) (hdb : (x == ("__debug__" : Str)) = false := by decide)
    (he : starEach (e :: es) X.env = (false, eval e X.env) :: starEach es X.env := by rfl) (hpl : (backTo pos (starEach es X.env)).any (·.1) = false := by rfl) : AE X (.Call (.Name x p) (e :: es) [] pos) (eCall f d) :=
  PE.imp (pe_callTy hc hg hm hv ha hn hdb he hpl) fun _ _ _ h => call_imp h
theorem ae_ty (hm : X.mg x = none) (hv : bootBuiltins x = some (.type T)) (hg : Gl X x := by rfl) (hn : x ≠ "__name__" := by decide) (hdb : (x == ("__debug__" : Str)) = false := by decide) : AE X (.Name x pos) (eC (.ty T)) :=
  PE.imp (pe_bltn (v := .ty T) hg hm hv rfl hn hdb) fun σ H Q ⟨ρ, S, τ, R, r, h⟩ => h ρ H _ .refl R (.ty T)
noncomputable def A.seq (S : Sto) : A -> Option (List A)
  | .tup xs => some xs
  | .frz xs => some xs
  | .ref n => lstAt S n
  | _ => none
theorem seq_of {K : PySem.W.Frag} {ρ : List Addr} {H : Hp} {S : Sto} {x : A} {v : V} {xs : List A} (R : Rel K ρ H S) (h : AV K ρ H x v) (e : x.seq S = some xs) : ∃ p vs, v = .ref p /\ (SqL K H p vs \/ SqT K H p vs) /\ AVs K ρ H xs vs := by
  cases h with
  | tup h r => cases Option.some.inj e; exact ⟨_, _, rfl, .inr (SqT.of h), r⟩
  | frz h r => cases Option.some.inj e; exact ⟨_, _, rfl, .inl h.sqL, r⟩
  | ref h =>
    obtain ⟨vs, h1, r1⟩ := R.lst h (lstAt_of e)
    exact ⟨_, vs, rfl, .inl (SqL.of h1), r1⟩
  | _ => cases e
theorem avs1 {K : PySem.W.Frag} {ρ : List Addr} {H : Hp} {x : A} {vs : List V} (h : AVs K ρ H [x] vs) : ∃ v, vs = [v] /\ AV K ρ H x v := by
  cases h with
  | cons h t => cases t; exact ⟨_, rfl, h⟩
theorem avs2 {K : PySem.W.Frag} {ρ : List Addr} {H : Hp} {x y : A} {vs : List V} (h : AVs K ρ H [x, y] vs) : ∃ v w, vs = [v, w] /\ AV K ρ H x v /\ AV K ρ H y w := by
  cases h with
  | cons h t => obtain ⟨w, rfl, h'⟩ := avs1 t; exact ⟨_, _, rfl, h, h'⟩
noncomputable def f1 (g : A -> Sto -> R A) : List A -> Sto -> R A := fun as S => match as with
  | [x] => g x S
  | _ => .no
noncomputable def f2 (g : A -> A -> Sto -> R A) : List A -> Sto -> R A := fun as S => match as with
  | [x, y] => g x y S
  | _ => .no
theorem f1_post {g : A -> Sto -> R A} {as : List A} {S : Sto} {P : A -> Sto -> Prop} {E : Str -> Sto -> Prop} (h : (f1 g as S).post P E) : ∃ x, as = [x] /\ (g x S).post P E := by
  match as, h with
  | [], h => exact h.elim
  | [x], h => exact ⟨x, rfl, h⟩
  | _ :: _ :: _, h => exact h.elim
theorem f2_post {g : A -> A -> Sto -> R A} {as : List A} {S : Sto} {P : A -> Sto -> Prop} {E : Str -> Sto -> Prop} (h : (f2 g as S).post P E) : ∃ x y, as = [x, y] /\ (g x y S).post P E := by
  match as, h with
  | [], h => exact h.elim
  | [_], h => exact h.elim
  | [x, y], h => exact ⟨x, y, rfl, h⟩
  | _ :: _ :: _ :: _, h => exact h.elim
theorem rn1 {g : A -> Sto -> R A} {vs : List V} {H : Hp} {Q : VK} (h : rN X (f1 g) vs H Q) : ∃ v, vs = [v] /\ ∃ ρ S x, Rel X.K ρ H S /\ AV X.K ρ H x v /\ (g x S).post (okP X ρ H Q) (XE X ρ H) := by
  obtain ⟨ρ, S, as, R, v, h⟩ := h
  obtain ⟨x, rfl, h⟩ := f1_post h
  obtain ⟨w, rfl, hv⟩ := avs1 v
  exact ⟨w, rfl, ρ, S, x, R, hv, h⟩
theorem rn2 {g : A -> A -> Sto -> R A} {vs : List V} {H : Hp} {Q : VK} (h : rN X (f2 g) vs H Q) : ∃ v w, vs = [v, w] /\ ∃ ρ S x y, Rel X.K ρ H S /\ AV X.K ρ H x v /\ AV X.K ρ H y w /\ (g x y S).post (okP X ρ H Q) (XE X ρ H) := by
  obtain ⟨ρ, S, as, R, v, h⟩ := h
  obtain ⟨x, y, rfl, h⟩ := f2_post h
  obtain ⟨w, w', rfl, hv, hv'⟩ := avs2 v
  exact ⟨w, w', rfl, ρ, S, x, y, R, hv, hv', h⟩
noncomputable def aLen (x : A) (S : Sto) : R A := match x with
  | .str x => gd (x.length <= sizeLine) (.ok (.int x.length) S)
  | .tup xs => .ok (.int xs.length) S
  | .frz xs => .ok (.int xs.length) S
  | .ref n => opt (lstAt S n) fun xs => .ok (.int xs.length) S
  | _ => .no
theorem c_len : CallR X (.builtin "len") (rN X (f1 aLen)) := CallR.imp call_len fun vs H Q h0 => by
  obtain ⟨w, rfl, ρ, S, x, R, hv, h⟩ := rn1 h0
  clear h0
  cases hv with
  | str z =>
    obtain ⟨hz, h⟩ := gd_post h
    exact ⟨_, _, rfl, ⟨hz, rfl⟩, h _ _ _ .refl R (.int _)⟩
  | @tup p xs us h1 r => exact ⟨_, us.length, rfl, .inr ⟨us, (SqT.of h1), rfl⟩, by rw [<- r.length]; exact h _ _ _ .refl R (.int _)⟩
  | @frz p xs us h1 r => exact ⟨_, us.length, rfl, .inl ⟨us, h1.sqL, rfl⟩, by rw [<- r.length]; exact h _ _ _ .refl R (.int _)⟩
  | ref hp =>
    obtain ⟨xs, hn, h⟩ := opt_post h
    obtain ⟨us, h1, r⟩ := R.lst hp (lstAt_of hn)
    exact ⟨_, us.length, rfl, .inl ⟨us, SqL.of h1, rfl⟩, by rw [<- r.length]; exact h _ _ _ .refl R (.int _)⟩
  | _ => exact h.elim
noncomputable def aAbs (x : A) (S : Sto) : R A := match x with
  | .int i => .ok (.int (if i < 0 then -i else i)) S
  | _ => .no
noncomputable def aMax2 (x y : A) (S : Sto) : R A := match x, y with
  | .int i, .int j => .ok (.int (if j > i then j else i)) S
  | _, _ => .no
theorem c_max2 (hc : X.calm = true) : CallR X (.builtin "max") (rN X (f2 aMax2)) := CallR.imp (call_max2 hc) fun vs H Q h0 => by
  obtain ⟨w, w', rfl, ρ, S, x, y, R, hv, hv', h⟩ := rn2 h0
  clear h0
  cases hv <;> first | exact h.elim | (cases hv' <;> first | exact h.elim | exact ⟨_, _, rfl, h _ _ _ .refl R (.int _)⟩)
noncomputable def aMin2 (x y : A) (S : Sto) : R A := match x, y with
  | .int i, .int j => .ok (.int (if j < i then j else i)) S
  | _, _ => .no
theorem c_min2 (hc : X.calm = true) : CallR X (.builtin "min") (rN X (f2 aMin2)) := CallR.imp (call_min2 hc) fun vs H Q h0 => by
  obtain ⟨w, w', rfl, ρ, S, x, y, R, hv, hv', h⟩ := rn2 h0
  clear h0
  cases hv <;> first | exact h.elim | (cases hv' <;> first | exact h.elim | exact ⟨_, _, rfl, h _ _ _ .refl R (.int _)⟩)
noncomputable def aInt1 (x : A) (S : Sto) : R A := match x with
  | .int i => .ok (.int i) S
  | .bl k => .ok (.int (if k then 1 else 0)) S
  | .str y => opt (PySem.intText? y) fun n => gd (y.length <= 640) (.ok (.int n) S)
  | _ => .no
noncomputable def aRange2 (x y : A) (S : Sto) : R A := match x, y with
  | .int i, .int j => .ok (.rng i j) S
  | _, _ => .no
noncomputable def rngOk (i j : Int) : Prop := (-(2 ^ 62) <= i /\ i < 2 ^ 62 /\ -(2 ^ 62) <= j /\ j < 2 ^ 62) /\ (j - i).toNat <= 1000
instance (i j : Int) : Decidable (rngOk i j) := by unfold rngOk; infer_instance
noncomputable def aList (x : A) (S : Sto) : R A := match x with
  | .rng i j => gd (rngOk i j) (.ok (.ref S.length) (S ++ [.lst ((rngL i j).map .int)]))
  | .tup xs => .ok (.ref S.length) (S ++ [.lst xs])
  | .frz xs => .ok (.ref S.length) (S ++ [.lst xs])
  | .ref n => opt (lstAt S n) fun xs => .ok (.ref S.length) (S ++ [.lst xs])
  | _ => .no
theorem c_list (hc : X.calm = true) : CallR X (.type "list") (rN X (f1 aList)) := fun pins s σ H vs us Q I rx h0 => by
  obtain ⟨w, rfl, ρ, S, x, R, hv, h⟩ := rn1 h0
  clear h0
  cases hv with
  | @rng p i j hp =>
    obtain ⟨hc', h⟩ := gd_post h
    exact call_list_rng hc pins s σ H _ us Q I rx ⟨p, i, j, rfl, hp, hc'.1, hc'.2, new_lst R (avs_ints _) .refl h⟩
  | @tup p xs vs h1 r => exact call_list_of pins s σ H _ us Q I rx ⟨p, vs, rfl, .inr (SqT.of h1), new_lst R r .refl h⟩
  | @frz p xs vs h1 r => exact call_list_of pins s σ H _ us Q I rx ⟨p, vs, rfl, .inl h1.sqL, new_lst R r .refl h⟩
  | @ref p n hp =>
    obtain ⟨xs, hn, h⟩ := opt_post h
    obtain ⟨vs, h1, r⟩ := R.lst hp (lstAt_of hn)
    exact call_list_of pins s σ H _ us Q I rx ⟨p, vs, rfl, .inl (SqL.of h1), new_lst R r .refl h⟩
  | _ => exact h.elim
noncomputable def aTuple (x : A) (S : Sto) : R A := match x with
  | .rng i j => gd (rngOk i j) (.ok (.tup ((rngL i j).map .int)) S)
  | .tup xs => .ok (.tup xs) S
  | .frz xs => .ok (.tup xs) S
  | .ref n => opt (lstAt S n) fun xs => .ok (.tup xs) S
  | _ => .no
noncomputable def A.bls : List A -> Option (List Bool)
  | [] => some []
  | .bl b :: xs => (A.bls xs).map (b :: ·)
  | _ => none
theorem bls_of {K : PySem.W.Frag} {ρ : List Addr} {H : Hp} : ∀ {xs : List A} {vs : List V} {bs : List Bool}, AVs K ρ H xs vs -> A.bls xs = some bs -> vs = bs.map V.bl
  | _, _, _, .nil, e => by cases e; rfl
  | _, _, _, .cons (x := .bl b) h t, e => by
    obtain ⟨cs, e1, rfl⟩ := Option.map_eq_some_iff.mp e
    cases h
    rw [bls_of t e1]; rfl
  | _, _, _, .cons (x := .unb) h t, e => nomatch e
  | _, _, _, .cons (x := .non) h t, e => nomatch e
  | _, _, _, .cons (x := .int _) h t, e => nomatch e
  | _, _, _, .cons (x := .str _) h t, e => nomatch e
  | _, _, _, .cons (x := .tup _) h t, e => nomatch e
  | _, _, _, .cons (x := .frz _) h t, e => nomatch e
  | _, _, _, .cons (x := .rng _ _) h t, e => nomatch e
  | _, _, _, .cons (x := .ref _) h t, e => nomatch e
  | _, _, _, .cons (x := .exn _) h t, e => nomatch e
  | _, _, _, .cons (x := .ty _) h t, e => nomatch e
noncomputable def aAll (x : A) (S : Sto) : R A := match x with
  | .ref n => opt (lstAt S n) fun xs => opt (A.bls xs) fun bs => .ok (.bl (bs.all fun b => b)) S
  | _ => .no
theorem c_all (hc : X.calm = true) : CallR X (.builtin "all") (rN X (f1 aAll)) := CallR.imp (call_allL hc) fun vs H Q h0 => by
  obtain ⟨w, rfl, ρ, S, x, R, hv, h⟩ := rn1 h0
  clear h0
  cases hv with
  | @ref p n hp =>
    obtain ⟨xs, hn, h⟩ := opt_post h
    obtain ⟨bs, hb, h⟩ := opt_post h
    obtain ⟨vs, h1, r⟩ := R.lst hp (lstAt_of hn)
    rw [bls_of r hb] at h1
    exact ⟨p, bs, rfl, SqL.of h1, h _ _ _ .refl R (.bl _)⟩
  | _ => exact h.elim
noncomputable def insI (x : Int) : List Int -> List Int
  | [] => [x]
  | y :: ys => if x <= y then x :: y :: ys else y :: insI x ys
noncomputable def sortI : List Int -> List Int
  | [] => []
  | x :: xs => insI x (sortI xs)
noncomputable def aSortI (x : A) (S : Sto) : R A := opt (x.seq S) fun xs => opt (A.ints xs) fun ns => gd (ns.length < 64) (.ok (.ref S.length) (S ++ [.lst ((sortI ns).map .int)]))
noncomputable def A.kd : A -> Sto -> Option Kd
  | .non, _ => some .non
  | .bl _, _ => some .bl
  | .int _, _ => some .int
  | .str _, _ => some .str
  | .tup _, _ => some .tup
  | .ref n, S => (lstAt S n).map fun _ => .lst
  | _, _ => none
theorem kit_str {K : PySem.W.Frag} (k : Kd) : PySem.W.kitOne K k.ty (.type "str") = some (decide (k = .str)) := by cases k <;> rfl
noncomputable def isKd (k : Kd) (c : String) : Option Bool := if c = "int" then some (decide (k = .int \/ k = .bl)) else if c = "bool" then some (decide (k = .bl)) else if c = "tuple" then some (decide (k = .tup)) else if c = "list" then some (decide (k = .lst)) else if c = "str" then some (decide (k = .str)) else none
theorem isKd_of {K : PySem.W.Frag} {k : Kd} {c : String} {b : Bool} (h : isKd k c = some b) : PySem.W.kitOne K k.ty (.type c) = some b := by
  unfold isKd at h
  split at h
  · rename_i e; subst e; rw [<- h]; exact kit_int k
  · split at h
    · rename_i e; subst e; rw [<- h]; exact kit_bool k
    · split at h
      · rename_i e; subst e; rw [<- h]; exact kit_tuple k
      · split at h
        · rename_i e; subst e; rw [<- h]; exact kit_list k
        · split at h
          · rename_i e; subst e; rw [<- h]; exact kit_str k
          · cases h
noncomputable def aIsi (x y : A) (S : Sto) : R A := match y with
  | .ty c => opt (x.kd S) fun k => opt (isKd k c) fun b => .ok (.bl b) S
  | _ => .no
theorem ty_of {K : PySem.W.Frag} {ρ : List Addr} {H : Hp} {S : Sto} {x : A} {v : V} {k : Kd} (R : Rel K ρ H S) (h : AV K ρ H x v) (e : x.kd S = some k) : (∃ p vs, v = .ref p /\ SqT K H p vs /\ k = .tup) \/ IsKd H v k := by
  cases h with
  | non => cases e; exact .inr rfl
  | bl b => cases e; exact .inr ⟨b, rfl⟩
  | int i => cases e; exact .inr ⟨i, rfl⟩
  | str i => cases e; exact .inr ⟨i, rfl⟩
  | tup h r => cases e; exact .inl ⟨_, _, rfl, (SqT.of h), rfl⟩
  | ref h =>
    obtain ⟨xs, e1, e2⟩ := Option.map_eq_some_iff.mp e
    obtain ⟨vs, h1, _⟩ := R.lst h (lstAt_of e1)
    cases e2
    exact .inr ⟨_, vs, rfl, h1⟩
  | _ => cases e
theorem c_isi : CallR X (.builtin "isinstance") (rN X (f2 aIsi)) := fun pins s σ H vs us Q I rx h0 => by
  obtain ⟨w, w', rfl, ρ, S, x, y, R, hv, hv', h⟩ := rn2 h0
  clear h0
  cases hv' with
  | ty c =>
    obtain ⟨k, hk, h⟩ := opt_post h
    obtain ⟨b, hb, hq⟩ := opt_post h
    have hq : okP X ρ H Q (.bl b) S := hq
    clear h
    rcases ty_of R hv hk with ⟨p, vs, rfl, ht, rfl⟩ | hd
    · match us, rx with
      | [_, _], .cons r1 (.cons r2 .nil) =>
        obtain ⟨its, q, ⟨o, h1, h2, _⟩, _⟩ := I.tuple ht
        cases (show _ = Value.ref p from r1)
        cases (show _ = Value.type c from r2)
        exact PySem.W.kia_one PySem.W.kitx_tuple I.kIn ⟨o, h1, h2⟩ (isKd_of hb) (fun z => nomatch z) fun tk => ⟨.bl b, H, I.tok _, rfl, hq _ _ _ .refl R (.bl _)⟩
    · exact call_isinst (c := c) pins s σ H _ us Q I rx ⟨w, _, b, rfl, hd.tyOf, isKd_of hb, hq _ _ _ .refl R (.bl _)⟩
  | _ => exact h.elim
end
end Am
set_option Elab.async false
set_option linter.all false
set_option maxRecDepth 100000
set_option maxHeartbeats 4000000
namespace Am
open PySem PySem.Spec PyProof.Rows L2
noncomputable def insT (x : List Int) : List (List Int) -> List (List Int)
  | [] => [x]
  | y :: ys => if HT.lexLt y x = true then y :: insT x ys else x :: y :: ys
noncomputable def sortT : List (List Int) -> List (List Int)
  | [] => []
  | x :: xs => insT x (sortT xs)
noncomputable def tsA : List A -> Option (List (List Int))
  | [] => some []
  | .tup xs :: r => match A.ints xs with
    | some (k :: ks) => (tsA r).map fun rs => (k :: ks) :: rs
    | _ => none
  | _ => none
section
variable {X : Cx}
noncomputable def aSortT (n : Nat) (S : Sto) : R A := opt (lstAt S n) fun xs => opt (tsA xs) fun kss => .ok (.ref S.length) (S ++ [.lst ((sortT kss).map fun ks => .tup (ks.map .int))])
noncomputable def isT (x : A) (S : Sto) : Bool := match x with
  | .ref n => match lstAt S n with
    | some (.tup _ :: _) => true
    | _ => false
  | _ => false
noncomputable def aSort (x : A) (S : Sto) : R A := match isT x S with
  | false => aSortI x S
  | true => match x with
    | .ref n => aSortT n S
    | _ => .no
end
end Am
set_option Elab.async false
set_option linter.all false
set_option maxRecDepth 100000
set_option maxHeartbeats 4000000
namespace Am
open PySem PySem.Spec PyProof.Rows L2
section
variable {X : Cx}
end
end Am
set_option Elab.async false
set_option linter.all false
set_option maxRecDepth 100000
set_option maxHeartbeats 4000000
namespace Am
open PySem PySem.Spec PyProof.Rows L2
noncomputable def RS.post (r : RS) (N : List A -> Sto -> Prop) (T : A -> Sto -> Prop) (B C : List A -> Sto -> Prop) (E : Str -> Sto -> Prop) : Prop := match r with
  | .nx τ S => N τ S
  | .rt a S => T a S
  | .bk τ S => B τ S
  | .ct τ S => C τ S
  | .ex c S => E c S
  | .no => False
noncomputable def RS.of {α : Type} (r : R α) (f : α -> Sto -> RS) : RS := match r with
  | .ok a S => f a S
  | .ex c S => .ex c S
  | .no => .no
theorem of_post {α : Type} {r : R α} {f : α -> Sto -> RS} {N B C : List A -> Sto -> Prop} {T : A -> Sto -> Prop} {E : Str -> Sto -> Prop} (h : (RS.of r f).post N T B C E) : r.post (fun a S => (f a S).post N T B C E) E := by
  cases r <;> exact h
theorem RS.mono {r : RS} {N B C N' B' C' : List A -> Sto -> Prop} {T T' : A -> Sto -> Prop} {E E' : Str -> Sto -> Prop} (h : r.post N T B C E) (hn : ∀ τ S, N τ S -> N' τ S) (ht : ∀ a S, T a S -> T' a S) (hb : ∀ τ S, B τ S -> B' τ S) (hc : ∀ τ S, C τ S -> C' τ S) (he : ∀ c S, E c S -> E' c S) : r.post N' T' B' C' E' := by
  cases r with
  | nx τ S => exact hn _ _ h
  | rt a S => exact ht _ _ h
  | bk τ S => exact hb _ _ h
  | ct τ S => exact hc _ _ h
  | ex c S => exact he _ _ h
  | no => exact h.elim
noncomputable def nxP (X : Cx) (ρ : List Addr) (H : Hp) (N : L2.St -> Hp -> Prop) : List A -> Sto -> Prop := fun τ' S' => ∀ ρ' H' σ', Ext ρ ρ' H H' -> Rel X.K ρ' H' S' -> SR X.K ρ' H' τ' σ' -> N σ' H'
theorem nxP.ext {X : Cx} {ρ ρ' : List Addr} {H H' : Hp} {N : L2.St -> Hp -> Prop} {τ : List A} {S : Sto} (h : nxP X ρ H N τ S) (e : Ext ρ ρ' H H') : nxP X ρ' H' N τ S := fun ρ2 H2 σ2 e2 => h ρ2 H2 σ2 (e.trans e2)
noncomputable def enP (X : Cx) (ρ : List Addr) (H : Hp) (D : Ends) (r : RS) : Prop := r.post (nxP X ρ H D.nx) (okP X ρ H D.rt) (nxP X ρ H D.bk) (nxP X ρ H D.ct) (XE X ρ H)
theorem enP.ext {X : Cx} {ρ ρ' : List Addr} {H H' : Hp} {D : Ends} {r : RS} (h : enP X ρ H D r) (e : Ext ρ ρ' H H') : enP X ρ' H' D r := RS.mono h (fun _ _ z => z.ext e) (fun _ _ z => z.ext e) (fun _ _ z => z.ext e) (fun _ _ z => z.ext e) fun _ _ z => z.ext e
noncomputable def tS (X : Cx) (c : Sm) : TS := fun D σ H => ∃ ρ S τ, Rel X.K ρ H S /\ SR X.K ρ H τ σ /\ enP X ρ H D (c τ S)
noncomputable def AS (X : Cx) (st : Stmt) (c : Sm) : Prop := PS X st (tS X c)
noncomputable def ASs (X : Cx) (sts : List Stmt) (c : Sm) : Prop := PSs X sts (tS X c)
noncomputable def tG (X : Cx) (g : Tg) : TG := fun v σ H Q => ∃ ρ S τ a, Rel X.K ρ H S /\ SR X.K ρ H τ σ /\ AV X.K ρ H a v /\ (g a τ S).post (nxP X ρ H Q) (XE X ρ H)
noncomputable def AG (X : Cx) (e : Expr) (g : Tg) : Prop := PG X e (tG X g)
noncomputable abbrev Tgs := List A -> List A -> Sto -> R (List A)
noncomputable def tGs (X : Cx) (g : Tgs) : TGs := fun vs σ H Q => ∃ ρ S τ as, Rel X.K ρ H S /\ SR X.K ρ H τ σ /\ AVs X.K ρ H as vs /\ (g as τ S).post (nxP X ρ H Q) (XE X ρ H)
noncomputable def AGs (X : Cx) (es : List Expr) (g : Tgs) : Prop := PGs X es (tGs X g)
section
variable {X : Cx} {pos : Pos} {a b e : Expr} {st : Stmt} {rest : List Stmt} {c d : Sm}
theorem PS.imp {t t' : TS} (h : PS X st t) (i : ∀ D σ H, t' D σ H -> t D σ H) : PS X st t' := fun pins s σ H D I q => h pins s σ H D I (i D σ H q)
theorem PSs.imp {t t' : TS} (h : PSs X rest t) (i : ∀ D σ H, t' D σ H -> t D σ H) : PSs X rest t' := fun pins s σ H D I q => h pins s σ H D I (i D σ H q)
theorem PG.imp {t t' : TG} (h : PG X e t) (i : ∀ v σ H Q, t' v σ H Q -> t v σ H Q) : PG X e t' := fun pins s σ H v u Q I r q => h pins s σ H v u Q I r (i _ _ _ _ q)
noncomputable def gNm (i : Nat) : Tg := fun a τ S => .ok (τ.set i a) S
theorem ag_name {i : Nat} {x : Str} (hN : X.N.Nodup) (hi : X.N[i]? = some x := by rfl) (hx : Loc X.env.scope x := by first | exact Or.inl rfl | exact Or.inr rfl) (hf : X.fn x = true \/ X.env.scope.names.lookup x = some .local := by first | exact .inl rfl | exact .inr rfl | assumption) : AG X (.Name x pos) (gNm i) :=
  PG.imp (pg_name hN hi hx hf) fun v σ H Q ⟨ρ, S, τ, a, R, r, va, h⟩ => h ρ H _ .refl R (r.set va)
noncomputable def gNl : Tgs := fun as τ S => match as with
  | [] => .ok τ S
  | _ => .no
noncomputable def gCn (g : Tg) (gs : Tgs) : Tgs := fun as τ S => match as with
  | a :: as => (g a τ S).bind fun τ1 S1 => gs as τ1 S1
  | [] => .no
theorem ags_nil : AGs X [] gNl := fun pins s σ H vs us Q I r ⟨ρ, S, τ, as, R, sr, va, h⟩ => pgs_nil pins s σ H vs us Q I r (by
  cases va with
  | nil => exact ⟨rfl, h ρ H σ .refl R sr⟩
  | cons _ _ => exact h.elim)
theorem ags_cons {es : List Expr} {g : Tg} {gs : Tgs} (h1 : AG X e g) (h2 : AGs X es gs) (hs : (assignEach (e :: es) X.env).map (·.2) = assign e X.env :: (assignEach es X.env).map (·.2) := by rfl) : AGs X (e :: es) (gCn g gs) :=
  fun pins s σ H vs us Q I r ⟨ρ, S, τ, as, R, sr, va, h⟩ => pgs_cons h1 h2 hs pins s σ H vs us Q I r (by
    cases va with
    | nil => exact h.elim
    | cons ha hr => exact ⟨_, _, rfl, ρ, S, τ, _, R, sr, ha, post_ext (post_bind h) .refl fun τ1 S1 h1 ρ1 H1 σ1 e1 R1 sr1 => ⟨ρ1, S1, τ1, _, R1, sr1, hr.ext e1, post_ext h1 e1 fun _ _ z => z.ext e1⟩⟩)
noncomputable def gTp (n : Nat) (gs : Tgs) : Tg := fun a τ S => match a with
  | .tup xs => gd (xs.length = n) (gs xs τ S)
  | _ => .no
theorem ag_tup {es : List Expr} {k n : Nat} {gs : Tgs} (hc : X.calm = true) (h : AGs X es gs) (hn : (assignEach es X.env).length = n := by rfl) (hst : (assignEach es X.env).findIdx? (·.1) = none := by rfl) : AG X (.Tuple es k pos) (gTp n gs) :=
  PG.imp (pg_tup hc h hn hst) fun v σ H Q ⟨ρ, S, τ, a, R, r, va, h⟩ => by
    cases va with
    | tup h1 r1 =>
      obtain ⟨hl, h⟩ := gd_post h
      exact ⟨_, _, rfl, SqT.of h1, by rw [<- r1.length]; exact hl, ρ, S, τ, _, R, r, r1, h⟩
    | _ => exact h.elim
noncomputable def aSet (o i v : A) (S : Sto) : R Unit := match o, i with
  | .ref n, .int k => opt (lstAt S n) fun xs => opt (ixN xs.length k) fun j => .ok () (S.set n (.lst (xs.set j v)))
  | _, _ => .no
noncomputable def rSt (X : Cx) : TSet := fun o i v H Q => ∃ ρ S ao ai av, Rel X.K ρ H S /\ AV X.K ρ H ao o /\ AV X.K ρ H ai i /\ AV X.K ρ H av v /\ (aSet ao ai av S).post (fun _ S' => ∀ ρ' H', Ext ρ ρ' H H' -> Rel X.K ρ' H' S' -> Q H') (XE X ρ H)
theorem set_any : PSet X (rSt X) := fun pins s σ H o i v ov iv u Q I ro ri rv ⟨ρ, S, ao, ai, av, R, h1, h2, h3, h⟩ => by
  cases h1 with
  | @ref p n hp =>
    cases h2 with
    | int k =>
      obtain ⟨xs, hn, h⟩ := opt_post h
      obtain ⟨j, hj, h⟩ := opt_post h
      obtain ⟨vs, e, r⟩ := R.lst hp (lstAt_of hn)
      obtain ⟨ex, R'⟩ := R.put hp (lstAt_of hn) (r.set h3 j)
      exact set_list pins s σ H _ _ v ov iv u Q I ro ri rv ⟨p, vs, k, j, rfl, rfl, e, by rw [<- r.length]; exact hj, h _ _ ex R'⟩
    | _ => exact h.elim
  | _ => exact h.elim
noncomputable def gSb (co ci : Ex) : Tg := fun a τ S => (co τ S).bind fun o S1 => (ci τ S1).bind fun i S2 => (aSet o i a S2).bind fun _ S3 => .ok τ S3
theorem ag_sub {o i : Expr} {co ci : Ex} (ho : AE X o co) (hi : AE X i ci)
    (ha : ∀ v, assign (.Subscript o i pos) X.env v = (do
      let ov <- holding [v] (eval o X.env)
      let iv <- holding [v, ov] (eval i X.env)
      standAt pos
      holding [v, ov, iv] (setItem ov iv v)
      release [v, ov, iv] []) := by intro _; rfl) : AG X (.Subscript o i pos) (gSb co ci) := PG.imp (pg_sub ho hi set_any ha) fun v σ H Q ⟨ρ, S, τ, a, R, r, va, h⟩ => by
  refine ⟨ρ, S, τ, R, r, post_ext (post_bind h) .refl fun o S1 h1 ρ1 H1 x e1 R1 v1 => ⟨ρ1, S1, τ, R1, r.ext e1, post_ext (post_bind h1) e1 fun i S2 h2 ρ2 H2 y e2 R2 v2 => ?_⟩⟩
  refine ⟨ρ2, S2, o, i, a, R2, v1.ext e2, v2, va.ext (e1.trans e2), post_ext (post_bind h2) (e1.trans e2) fun _ S3 h3 ρ3 H3 e3 R3 => ?_⟩
  exact h3 ρ3 H3 σ ((e1.trans e2).trans e3) R3 (r.ext ((e1.trans e2).trans e3))
noncomputable def sNil : Sm := fun τ S => .nx τ S
noncomputable def sSeq (c d : Sm) : Sm := fun τ S => match c τ S with
  | .nx τ' S' => d τ' S'
  | r => r
theorem ass_nil : ASs X [] sNil := PSs.imp pss_nil fun D σ H ⟨ρ, S, τ, R, r, h⟩ => h ρ H σ .refl R r
theorem seq_imp {D : Ends} {σ : L2.St} {H : Hp} (h : tS X (sSeq c d) D σ H) : tSeq (tS X c) (tS X d) D σ H := by
  obtain ⟨ρ, S, τ, R, r, h⟩ := h
  refine ⟨ρ, S, τ, R, r, ?_⟩
  unfold sSeq at h
  cases hc : c τ S with
  | nx τ1 S1 =>
    rw [hc] at h
    exact fun ρ1 H1 σ1 e1 R1 r1 => ⟨ρ1, S1, τ1, R1, r1, enP.ext h e1⟩
  | rt a S1 => rw [hc] at h; exact h
  | bk τ1 S1 => rw [hc] at h; exact h
  | ct τ1 S1 => rw [hc] at h; exact h
  | ex x S1 => rw [hc] at h; exact h
  | no => rw [hc] at h; exact h
theorem ass_cons (h1 : AS X st c) (h2 : ASs X rest d) : ASs X (st :: rest) (sSeq c d) := PSs.imp (pss_cons h1 h2) fun D σ H h => seq_imp h
theorem ass_one (h1 : AS X st c) : ASs X [st] c := pss_one h1
noncomputable def sBreak : Sm := fun τ S => .bk τ S
noncomputable def sCont : Sm := fun τ S => .ct τ S
noncomputable def sExpr (e : Ex) : Sm := fun τ S => .of (e τ S) fun _ S1 => .nx τ S1
theorem as_expr {f : Ex} (he : AE X e f) (hs : swapsWith e none pos.line X.env = pure false := by rfl) : AS X (.Expr e pos) (sExpr f) := PS.imp (ps_expr he hs) fun D σ H ⟨ρ, S, τ, R, r, h⟩ =>
  ⟨ρ, S, τ, R, r, post_ext (of_post h) .refl fun a S1 h1 ρ1 H1 x e1 R1 v1 => h1 ρ1 H1 σ e1 R1 (r.ext e1)⟩
noncomputable def sRet (e : Ex) : Sm := fun τ S => .of (e τ S) fun a S1 => .rt a S1
theorem as_ret {f : Ex} (he : AE X e f) : AS X (.Return (some e) pos) (sRet f) := PS.imp (ps_ret he) fun D σ H ⟨ρ, S, τ, R, r, h⟩ => ⟨ρ, S, τ, R, r, post_ext (of_post h) .refl fun a S1 h1 => h1⟩
noncomputable def sRetN : Sm := fun τ S => .rt .non S
theorem as_retN : AS X (.Return none pos) sRetN := PS.imp ps_retN fun D σ H ⟨ρ, S, τ, R, r, h⟩ => h ρ H _ .refl R .non
noncomputable def sIf (t : Te) (c d : Sm) : Sm := fun τ S => .of (t τ S) fun b S1 => match b with | true => c τ S1 | false => d τ S1
theorem as_if {t : Te} {ca cb : List Stmt} (ht : AT X e t) (ha : ASs X ca c) (hb : ASs X cb d) : AS X (.If e ca cb pos) (sIf t c d) := PS.imp (ps_if ht ha hb) fun D σ H ⟨ρ, S, τ, R, r, h⟩ => by
  refine ⟨ρ, S, τ, R, r, post_ext (of_post h) .refl fun b S1 h1 ρ1 H1 e1 R1 => ?_⟩
  cases b with
  | true => rw [if_pos rfl]; exact ⟨ρ1, S1, τ, R1, r.ext e1, enP.ext h1 e1⟩
  | false => rw [if_neg Bool.false_ne_true]; exact ⟨ρ1, S1, τ, R1, r.ext e1, enP.ext h1 e1⟩
noncomputable def sAsg (e : Ex) (g : Tg) : Sm := fun τ S => .of (e τ S) fun a S1 => .of (g a τ S1) fun τ' S2 => .nx τ' S2
theorem asg_imp {f : Ex} {g : Tg} {D : Ends} {σ : L2.St} {H : Hp} (h : tS X (sAsg f g) D σ H) : tAsg (tE X f) (tG X g) D σ H := by
  obtain ⟨ρ, S, τ, R, r, h⟩ := h
  exact ⟨ρ, S, τ, R, r, post_ext (of_post h) .refl fun a S1 h1 ρ1 H1 x e1 R1 v1 => ⟨ρ1, S1, τ, a, R1, r.ext e1, v1, post_ext (of_post h1) e1 fun τ2 S2 h2 => nxP.ext h2 e1⟩⟩
theorem as_asg {tg : Expr} {f : Ex} {g : Tg} (he : AE X e f) (hg : AG X tg g) (hs : swapsWithSole [tg] e pos.line X.env = pure false := by rfl) (hw : swappedStores [tg] e X.env = pure none := by rfl)
    (h1 : (assignEach [tg] X.env).map (·.2) = [assign tg X.env] := by rfl) : AS X (.Assign [tg] e pos) (sAsg f g) := PS.imp (ps_asg he hg hs hw h1) fun D σ H h => asg_imp h
theorem as_set {i : Nat} {x : Str} {f : Ex} {pos' : Pos} (hN : X.N.Nodup) (he : AE X e f) (hi : X.N[i]? = some x := by rfl) (hx : Loc X.env.scope x := by first | exact Or.inl rfl | exact Or.inr rfl) (hs : swapsWith e (some (.Name x pos')) pos.line X.env = pure false := by rfl) (hf : X.fn x = true \/ X.env.scope.names.lookup x = some .local := by first | exact .inl rfl | exact .inr rfl | assumption) :
    AS X (.Assign [.Name x pos'] e pos) (sAsg f (gNm i)) := PS.imp (ps_set hN hi hx he hs hf) fun D σ H ⟨ρ, S, τ, R, r, h⟩ =>
  ⟨ρ, S, τ, R, r, post_ext (of_post h) .refl fun a S1 h1 ρ1 H1 x e1 R1 v1 => h1 ρ1 H1 _ e1 R1 ((r.ext e1).set v1)⟩
noncomputable def sPar (i j : Nat) (c : Exs) : Sm := fun τ S => .of (c τ S) fun as S1 => match as with
  | [a, b] => .nx ((τ.set i a).set j b) S1
  | _ => .no
noncomputable def ip (X : Cx) (f : A -> A -> Sto -> R A) : TIp := fun x y H Q => ∃ ρ S a b, Rel X.K ρ H S /\ AV X.K ρ H a x /\ AV X.K ρ H b y /\ (f a b S).post (okP X ρ H Q) (XE X ρ H)
noncomputable def iAdd (a b : A) (S : Sto) : R A := match a, b with
  | .int i, .int j => .ok (.int (i + j)) S
  | _, _ => .no
theorem ip_addA : PIp X .Add (ip X iAdd) := fun pins s σ H x y v u Q I r1 r2 ⟨ρ, S, a, b, R, va, vb, h⟩ => by
  cases va with
  | int i =>
    cases vb with
    | int j => exact ip_add pins s σ H _ _ v u Q I r1 r2 ⟨i, j, rfl, rfl, h _ _ _ .refl R (.int _)⟩
    | _ => exact h.elim
  | _ => exact h.elim
noncomputable def sAug (i : Nat) (f : A -> A -> Sto -> R A) (e : Ex) : Sm := fun τ S => if (τ.getD i .unb).isUnb then .no else .of (e τ S) fun b S1 => .of (f (τ.getD i .unb) b S1) fun c S2 => .nx (τ.set i c) S2
theorem as_aug {i : Nat} {x : Str} {c : Ex} {op : Operator} {f : A -> A -> Sto -> R A} {pos' : Pos} (hN : X.N.Nodup) (he : AE X e c) (ho : PIp X op (ip X f)) (hi : X.N[i]? = some x := by rfl) (hx : Loc X.env.scope x := by first | exact Or.inl rfl | exact Or.inr rfl) (hf : X.fn x = true \/ X.env.scope.names.lookup x = some .local := by first | exact .inl rfl | exact .inr rfl | assumption) :
    AS X (.AugAssign (.Name x pos') op e pos) (sAug i f c) := PS.imp (ps_aug hN hi hx he ho hf) fun D σ H ⟨ρ, S, τ, R, r, h⟩ => by
  have key : ∀ x, τ[i]? = some x -> x.isUnb = false -> (RS.of (c τ S) fun b S1 => .of (f x b S1) fun c S2 => .nx (τ.set i c) S2).post (nxP X ρ H D.nx) (okP X ρ H D.rt) (nxP X ρ H D.bk) (nxP X ρ H D.ct) (XE X ρ H) ->
      ∃ x, σ[i]? = some (some x) /\ tE X c σ H fun y H1 => ip X f x y H1 fun z H2 => D.nx (σ.set i (some z)) H2 := by
    intro x hi hx h
    rcases r.at i x hi with z | ⟨v, e, q⟩
    · subst z; cases hx
    · refine ⟨v, e, ρ, S, τ, R, r, post_ext (of_post h) .refl fun b S1 h1 ρ1 H1 y e1 R1 v1 => ⟨ρ1, S1, x, b, R1, q.ext e1, v1, post_ext (of_post h1) e1 fun w S2 h2 ρ2 H2 z e2 R2 v2 => ?_⟩⟩
      exact h2 ρ2 H2 _ (e1.trans e2) R2 ((r.ext (e1.trans e2)).set v2)
  unfold sAug enP at h
  rw [List.getD_eq_getElem?_getD] at h
  cases hi : τ[i]? with
  | none => rw [hi] at h; exact h.elim
  | some x =>
    rw [hi] at h
    cases hx : x.isUnb with
    | true => rw [show (some x).getD .unb = x from rfl, hx] at h; exact h.elim
    | false => rw [show (some x).getD .unb = x from rfl, hx] at h; exact key x hi hx h
noncomputable def aGet (a b : A) (S : Sto) : R A := match a, b with
  | .ref n, .int i => opt (lstAt S n) fun xs => gd (0 <= i) (opt (xs[i.toNat]?) fun x => .ok x S)
  | _, _ => .no
noncomputable def sAugS (co ci ce : Ex) (f : A -> A -> Sto -> R A) : Sm := fun τ S => .of (co τ S) fun o S1 => .of (ci τ S1) fun i S2 => .of (aGet o i S2) fun x S3 => .of (ce τ S3) fun y S4 => .of (f x y S4) fun z S5 => .of (aSet o i z S5) fun _ S6 => .nx τ S6
noncomputable def sWhile (t : Te) (c : Sm) : Nat -> Sm
  | 0 => fun _ _ => .no
  | n + 1 => fun τ S => .of (t τ S) fun b S1 => match b with
    | false => .nx τ S1
    | true => match c τ S1 with
      | .nx τ' S' => sWhile t c n τ' S'
      | .ct τ' S' => sWhile t c n τ' S'
      | .bk τ' S' => .nx τ' S'
      | r => r
theorem as_while (n : Nat) {t : Te} {body : List Stmt} (hp : PassesOwn (model X.prog X.w) X.A X.env X.xe) (ht : AT X e t) (hb : ASs X body c) : AS X (.While e body [] pos) (sWhile t c n) := PS.imp (ps_while hp ht hb) fun D σ H ⟨ρ, S, τ, R, r, h⟩ => by
  refine ⟨fun m σ' H' => ∃ ρ' S' τ', Ext ρ ρ' H H' /\ Rel X.K ρ' H' S' /\ SR X.K ρ' H' τ' σ' /\ enP X ρ' H' D (sWhile t c m τ' S'), ⟨n, ρ, S, τ, .refl, R, r, h⟩, ?_⟩
  rintro m σ1 H1 ⟨ρ1, S1, τ1, e1, R1, r1, h1⟩
  cases m with
  | zero => exact h1.elim
  | succ m =>
    refine ⟨ρ1, S1, τ1, R1, r1, post_ext (of_post h1) .refl fun b S2 h2 ρ2 H2 e2 R2 => ?_⟩
    cases b with
    | false => rw [if_neg Bool.false_ne_true]; exact h2 ρ2 H2 σ1 e2 R2 (r1.ext e2)
    | true =>
      rw [if_pos rfl]
      refine ⟨fun σ' H' => ∃ ρ' S' τ', Ext ρ ρ' H H' /\ Rel X.K ρ' H' S' /\ SR X.K ρ' H' τ' σ' /\ enP X ρ' H' D (sWhile t c m τ' S'), fun σ' H' z => ⟨m, Nat.lt_succ_self _, z⟩, ρ2, S2, τ1, R2, r1.ext e2, ?_⟩
      have h2 : enP X ρ1 H1 D (match c τ1 S2 with
        | .nx τ' S' => sWhile t c m τ' S'
        | .ct τ' S' => sWhile t c m τ' S'
        | .bk τ' S' => .nx τ' S'
        | r => r) := h2
      cases hc : c τ1 S2 with
      | nx τ3 S3 => rw [hc] at h2; exact fun ρ3 H3 σ3 e3 R3 r3 => ⟨ρ3, S3, τ3, (e1.trans e2).trans e3, R3, r3, enP.ext h2 (e2.trans e3)⟩
      | ct τ3 S3 => rw [hc] at h2; exact fun ρ3 H3 σ3 e3 R3 r3 => ⟨ρ3, S3, τ3, (e1.trans e2).trans e3, R3, r3, enP.ext h2 (e2.trans e3)⟩
      | bk τ3 S3 => rw [hc] at h2; exact nxP.ext h2 e2
      | rt a S3 => rw [hc] at h2; exact okP.ext h2 e2
      | ex x S3 => rw [hc] at h2; exact XE.ext h2 e2
      | no => rw [hc] at h2; exact h2
end
end Am
set_option Elab.async false
set_option linter.all false
set_option maxRecDepth 100000
set_option maxHeartbeats 4000000
namespace L2
open PySem PySem.Spec PyProof.Rows
section
variable {X : Cx}
noncomputable def tPar3 (i j k : Nat) (ta : TA) : TS := fun D σ H => ta σ H fun vs H1 => ∃ u v w, vs = [u, v, w] /\ D.nx (((σ.set i (some u)).set j (some v)).set k (some w)) H1
theorem ps_par3 {i j k : Nat} {x y z : Str} {a b c : Expr} {ta : TA} {px py pz pt : Pos} {kt k2 pt2} (hc : X.calm = true) (hN : X.N.Nodup) (hi : X.N[i]? = some x) (hj : X.N[j]? = some y) (hk : X.N[k]? = some z) (hij : i ≠ j) (hik : i ≠ k) (hjk : j ≠ k)
    (hx : X.env.scope.names.lookup x = some .local) (hy : X.env.scope.names.lookup y = some .local) (hz : X.env.scope.names.lookup z = some .local) (ha : PA X [a, b, c] ta)
    (hw : swappedStores [.Tuple [.Name x px, .Name y py, .Name z pz] kt pt] (.Tuple [a, b, c] k2 pt2) X.env = pure (some [x, y, z]))
    (hs : swapsWithSole [.Tuple [.Name x px, .Name y py, .Name z pz] kt pt] (.Tuple [a, b, c] k2 pt2) pos.line X.env = pure false := by rfl) :
    PS X (.Assign [.Tuple [.Name x px, .Name y py, .Name z pz] kt pt] (.Tuple [a, b, c] k2 pt2) pos) (tPar3 i j k ta) := by
  intro pins s σ H D I h
  rw [exec_Assign_arm]
  refine wpAny_bind (wpAny_standAt ?_)
  rw [hs]
  refine wpAny_bind (wpAny_pure ?_)
  rw [if_neg (by decide)]
  refine wpAny_bind (Tuple_ (thn (ha _ pins s σ H _ I h) fun us s1 ⟨vs, H1, I1, r1, q1⟩ => ?_))
  obtain ⟨u, v, w, e1, q1⟩ := q1
  subst e1
  obtain ⟨u1, u2, u3, rfl, ru, rv, rw'⟩ : ∃ u1 u2 u3, us = [u1, u2, u3] /\ RelV u u1 /\ RelV v u2 /\ RelV w u3 := by
    cases r1 with
    | cons p q =>
      cases q with
      | cons p' q' =>
        cases q' with
        | cons p'' q'' =>
          cases q''
          exact ⟨_, _, _, rfl, p, p', p''⟩
  refine wpAny_newObj_type ?_ (by show 3 <= sizeLine; decide)
  have I2 : Inv X pins σ H1 { s1 with heap := s1.heap.push { cls := .type "tuple", data := .seq [u1, u2, u3].toArray } } := I1.kept (t' := s1.toks) fun b o e => Heap.get?_push_of_some _ e
  rw [hw]
  refine wpAny_bind (wpAny_pure ?_)
  show wpAny (model X.prog X.w) X.A (do rule "assign.swapped-stores"; let items <- unpackItems (.ref s1.heap.objs.size) 3 none; assignInOrder [fun v => bindName X.env z v, fun v => bindName X.env y v, fun v => bindName X.env x v] items.reverse; pure Flow.next) _ _ _
  refine wpAny_bind (wpAny_rule (wpAny_bind (unpackItems_tuple (items := #[u1, u2, u3]) (I.ok.hd hc) (IsTup.new s1.heap _) fun h' hx' => ?_)))
  have I3 := I2.kept (h' := h') (t' := s1.toks) fun b o e => hx' b o (Nat.ne_of_lt (Heap.lt_size e)) e
  show wpAny _ _ (assignInOrder [fun v => bindName X.env z v, fun v => bindName X.env y v, fun v => bindName X.env x v] [u3, u2, u1] >>= fun _ => pure Flow.next) _ _ _
  refine wpAny_bind (assignInOrder_cons (wpAny_bindName (store_ok I3 hN hk (.inl hz) rw' (fun s2 I4 => ?_) (.inr hz))))
  refine assignInOrder_cons (wpAny_bindName (store_ok I4 hN hj (.inl hy) rv (fun s3 I5 => ?_) (.inr hy)))
  refine assignInOrder_cons (wpAny_bindName (store_ok I5 hN hi (.inl hx) ru (fun s4 I6 => assignInOrder_nil (wpAny_pure ?_)) (.inr hx)))
  rw [List.set_comm _ _ (Ne.symm hij), List.set_comm _ _ (Ne.symm hik), List.set_comm _ _ (Ne.symm hjk)] at I6
  exact ⟨_, H1, I6, q1⟩
end
end L2
namespace Am
open PySem PySem.Spec PyProof.Rows L2
section
variable {X : Cx}
noncomputable def sPar3 (i j k : Nat) (c : Exs) : Sm := fun τ S => .of (c τ S) fun as S1 => match as with
  | [a, b, d] => .nx (((τ.set i a).set j b).set k d) S1
  | _ => .no
theorem sPar3_ap {i j k : Nat} {c : Exs} {τ : List A} {S S1 : Sto} {a b d : A} (h : c τ S = .ok [a, b, d] S1) : sPar3 i j k c τ S = .nx (((τ.set i a).set j b).set k d) S1 := by
  unfold sPar3; rw [h]; rfl
theorem as_par3 {i j k : Nat} {x y z : Str} {a b c : Expr} {f : Exs} {px py pz pt : Pos} {kt k2 pt2} (hc : X.calm = true) (hN : X.N.Nodup) (ha : AL X [a, b, c] f) (hi : X.N[i]? = some x := by rfl) (hj : X.N[j]? = some y := by rfl) (hk : X.N[k]? = some z := by rfl) (hij : i ≠ j := by decide) (hik : i ≠ k := by decide) (hjk : j ≠ k := by decide)
    (hx : X.env.scope.names.lookup x = some .local := by rfl) (hy : X.env.scope.names.lookup y = some .local := by rfl) (hz : X.env.scope.names.lookup z = some .local := by rfl)
    (hw : swappedStores [.Tuple [.Name x px, .Name y py, .Name z pz] kt pt] (.Tuple [a, b, c] k2 pt2) X.env = pure (some [x, y, z]) := by rfl)
    (hs : swapsWithSole [.Tuple [.Name x px, .Name y py, .Name z pz] kt pt] (.Tuple [a, b, c] k2 pt2) pos.line X.env = pure false := by rfl) :
    AS X (.Assign [.Tuple [.Name x px, .Name y py, .Name z pz] kt pt] (.Tuple [a, b, c] k2 pt2) pos) (sPar3 i j k f) := PS.imp (ps_par3 hc hN hi hj hk hij hik hjk hx hy hz ha hw hs) fun D σ H ⟨ρ, S, τ, R, r, h⟩ => by
  refine ⟨ρ, S, τ, R, r, post_ext (of_post h) .refl fun as S1 h1 ρ1 H1 vs e1 R1 v1 => ?_⟩
  cases v1 with
  | nil => exact h1.elim
  | cons g1 v1 =>
    cases v1 with
    | nil => exact h1.elim
    | cons g2 v1 =>
      cases v1 with
      | nil => exact h1.elim
      | cons g3 v1 =>
        cases v1 with
        | nil => exact ⟨_, _, _, rfl, h1 ρ1 H1 _ e1 R1 ((((r.ext e1).set g1).set g2).set g3)⟩
        | cons g4 v1 => exact h1.elim
end
end Am
set_option Elab.async false
set_option linter.all false
set_option maxRecDepth 100000
set_option maxHeartbeats 4000000
namespace Am
open PySem PySem.Spec PyProof.Rows L2
section
variable {X : Cx} {o e : Expr} {p2 spos pos : Pos} {co ci : Ex}
noncomputable def delF (x y : A) (S : Sto) : R Unit := match x, y with
  | .ref n, .int k => opt (lstAt S n) fun xs => gd (0 <= k) (.ok () (S.set n (.lst (xs.take k.toNat))))
  | _, _ => .no
noncomputable def sDel (co ci : Ex) : Sm := fun τ S => .of (co τ S) fun x S1 => .of (ci τ S1) fun y S2 => .of (delF x y S2) fun _ S3 => .nx τ S3
theorem sDel_ap {τ : List A} {S S1 S2 : Sto} {n : Nat} {k : Int} {xs : List A} (h1 : co τ S = .ok (.ref n) S1) (h2 : ci τ S1 = .ok (.int k) S2) (h3 : lstAt S2 n = some xs) (hk : 0 <= k) : sDel co ci τ S = .nx τ (S2.set n (.lst (xs.take k.toNat))) := by
  unfold sDel
  rw [h1]
  show RS.of (ci τ S1) _ = _
  rw [h2]
  show RS.of (opt (lstAt S2 n) _) _ = _
  rw [h3]
  show RS.of (gd (0 <= k) _) _ = _
  unfold gd
  rw [if_pos hk]; rfl
theorem delF_post {x y : A} {S2 : Sto} {P : Unit -> Sto -> Prop} {E : Str -> Sto -> Prop} (h : (delF x y S2).post P E) : ∃ n k xs, x = .ref n /\ y = .int k /\ lstAt S2 n = some xs /\ 0 <= k /\ P () (S2.set n (.lst (xs.take k.toNat))) := by
  unfold delF at h
  split at h
  · obtain ⟨xs, hn, h3⟩ := opt_post h
    obtain ⟨hk, h3⟩ := gd_post h3
    exact ⟨_, _, xs, rfl, rfl, hn, hk, h3⟩
  · exact h.elim
theorem as_del (ho : AE X o co) (he : AE X e ci) : AS X (.Delete [.Subscript o (.Slice (some e) none none p2) spos] pos) (sDel co ci) := PS.imp (ps_del ho (po_some he)) fun D σ H ⟨ρ, S, τ, R, r, h⟩ => by
  refine ⟨ρ, S, τ, R, r, post_ext (of_post h) .refl fun x S1 h1 ρ1 H1 v e1 R1 v1 => ⟨ρ1, S1, τ, R1, r.ext e1, post_ext (of_post h1) e1 fun y S2 h2 ρ2 H2 w e2 R2 v2 => ?_⟩⟩
  obtain ⟨n, k, xs, hx, hy, hn, hk, h3⟩ := delF_post (of_post h2)
  subst hx hy
  cases v2
  have v1' := v1.ext e2
  cases v1' with
  | @ref a _ hp =>
    obtain ⟨us, hu, ru⟩ := R2.lst hp (lstAt_of hn)
    obtain ⟨ex, R'⟩ := R2.put hp (lstAt_of hn) (ru.take k.toNat)
    exact ⟨k, rfl, a, us, k.toNat, rfl, hu, by rw [show ((k.toNat : Nat) : Int) = k by omega], h3 ρ2 _ _ ((e1.trans e2).trans ex) R' (((r.ext e1).ext e2).ext ex)⟩
end
end Am
set_option Elab.async false
set_option linter.all false
set_option maxRecDepth 100000
set_option maxHeartbeats 4000000
namespace Am
open PySem PySem.Spec PyProof.Rows L2
structure Src where
  k : Nat
  get : Nat -> Sto -> Option A
  fin : Sto -> Bool
structure JR (K : PySem.W.Frag) (s : Src) (J : It) (ρ0 : List Addr) (H0 : Hp) : Prop where
  go : ∀ (i : Nat) (S : Sto) (H : Hp) (ρ : List Addr) (x : A), Ext0 ρ0 ρ H0 H -> Rel K ρ H S -> s.get i S = some x -> J.go i H /\ ∀ v H', J.yld i H v H' -> Ext ρ ρ H H' /\ Rel K ρ H' S /\ AV K ρ H' x v
  stop : ∀ (S : Sto) (H : Hp) (ρ : List Addr), Ext0 ρ0 ρ H0 H -> Rel K ρ H S -> s.fin S = true -> J.stop s.k H
noncomputable abbrev Ic := List A -> Sto -> R Src
noncomputable def tI (X : Cx) (c : Ic) : TI := fun σ H Q => ∃ ρ S τ, Rel X.K ρ H S /\ SR X.K ρ H τ σ /\ (c τ S).post (fun s S' => ∀ ρ' H' J, Ext ρ ρ' H H' -> Rel X.K ρ' H' S' -> JR X.K s J ρ' H' -> Q J H') (XE X ρ H)
noncomputable def AI (X : Cx) (tg iter : Expr) (c : Ic) : Prop := PI X tg iter (tI X c)
noncomputable def fixSrc (xs : List A) : Src := ⟨xs.length, fun i _ => xs[i]?, fun _ => true⟩
noncomputable def lstSrc (n k : Nat) : Src := ⟨k, fun i S => (lstAt S n).bind (·[i]?), fun S => match lstAt S n with
  | some ys => decide (ys.length <= k)
  | none => false⟩
noncomputable def rngSrc (lo hi : Int) : Src := ⟨(hi - lo).toNat, fun i _ => if i < (hi - lo).toNat then some (.int (lo + i)) else none, fun _ => true⟩
noncomputable def iVal (c : Ex) : Ic := fun τ S => (c τ S).bind fun a S1 => match a with
  | .tup xs => .ok (fixSrc xs) S1
  | .frz xs => .ok (fixSrc xs) S1
  | .ref n => opt (lstAt S1 n) fun xs => .ok (lstSrc n xs.length) S1
  | .str x => gd (x.cps.all (· < 128) = true) (.ok (fixSrc (x.cps.toList.map fun c => .str ⟨#[c]⟩)) S1)
  | _ => .no
section
variable {X : Cx} {pos : Pos} {tg e a b : Expr}
theorem jr_tup {K : PySem.W.Frag} {ρ0 : List Addr} {H0 : Hp} {p : Addr} {xs : List A} {vs : List V} (h : SqT K H0 p vs) (r : AVs K ρ0 H0 xs vs) : JR K (fixSrc xs) (Itt K p) ρ0 H0 where
  go := fun i S H ρ x e R g => by
    obtain ⟨v, ev, av⟩ := (AVs.ext0 e r).get g
    have hs := e.sqT h
    refine ⟨⟨vs, v, hs, ev⟩, fun w H' ⟨e1, y⟩ => ?_⟩
    subst e1
    have := y vs hs
    rw [ev] at this
    cases this
    exact ⟨.refl, R, av⟩
  stop := fun S H ρ e R _ => ⟨vs, e.sqT h, by rw [<- r.length]; exact Nat.le_refl _⟩
theorem jr_frz {K : PySem.W.Frag} {ρ0 : List Addr} {H0 : Hp} {p : Addr} {xs : List A} {vs : List V} (h : Fz K H0 p vs) (r : AVs K ρ0 H0 xs vs) : JR K (fixSrc xs) (Itl K p) ρ0 H0 where
  go := fun i S H ρ x e R g => by
    obtain ⟨v, ev, av⟩ := (AVs.ext0 e r).get g
    have hs := (e.fz h).sqL
    refine ⟨⟨vs, v, hs, ev⟩, fun w H' ⟨e1, y⟩ => ?_⟩
    subst e1
    have := y vs hs
    rw [ev] at this
    cases this
    exact ⟨.refl, R, av⟩
  stop := fun S H ρ e R _ => ⟨vs, (e.fz h).sqL, by rw [<- r.length]; exact Nat.le_refl _⟩
theorem jr_lst {K : PySem.W.Frag} {ρ0 : List Addr} {H0 : Hp} {p : Addr} {n k : Nat} (h : ρ0[n]? = some p) : JR K (lstSrc n k) (Itl K p) ρ0 H0 where
  go := fun i S H ρ x e R g => by
    obtain ⟨ys, hn, hx⟩ := Option.bind_eq_some_iff.mp (show (lstAt S n).bind (·[i]?) = some x from g)
    obtain ⟨vs, h1, r⟩ := R.lst (e.get h) (lstAt_of hn)
    obtain ⟨v, ev, av⟩ := r.get hx
    refine ⟨⟨vs, v, SqL.of h1, ev⟩, fun w H' ⟨e1, y⟩ => ?_⟩
    subst e1
    have := y vs (SqL.of h1)
    rw [ev] at this
    cases this
    exact ⟨.refl, R, av⟩
  stop := fun S H ρ e R g => by
    have g : (match lstAt S n with
      | some ys => decide (ys.length <= k)
      | none => false) = true := g
    cases hn : lstAt S n with
    | none => rw [hn] at g; cases g
    | some ys =>
      rw [hn] at g
      obtain ⟨vs, h1, r⟩ := R.lst (e.get h) (lstAt_of hn)
      exact ⟨vs, SqL.of h1, by rw [<- r.length]; exact of_decide_eq_true g⟩
theorem jr_rng {K : PySem.W.Frag} {ρ0 : List Addr} {H0 : Hp} {lo hi : Int} : JR K (rngSrc lo hi) (Itr lo (hi - lo).toNat) ρ0 H0 where
  go := fun i S H ρ x e R g => by
    have g : (if i < (hi - lo).toNat then some (A.int (lo + i)) else none) = some x := g
    by_cases hi' : i < (hi - lo).toNat
    · rw [if_pos hi'] at g
      cases g
      refine ⟨hi', fun w H' ⟨e1, y⟩ => ?_⟩
      subst e1 y
      exact ⟨.refl, R, .int _⟩
    · rw [if_neg hi'] at g; cases g
  stop := fun S H ρ e R _ => Nat.le_refl _
theorem jr_str {K : PySem.W.Frag} {ρ0 : List Addr} {H0 : Hp} {x : Str} : JR K (fixSrc (x.cps.toList.map fun c => A.str ⟨#[c]⟩)) (Its x) ρ0 H0 where
  go := fun i S H ρ y e R g => by
    have g : (x.cps.toList.map fun c => A.str ⟨#[c]⟩)[i]? = some y := g
    rw [List.getElem?_map] at g
    obtain ⟨c, hc, rfl⟩ := Option.map_eq_some_iff.mp g
    rw [Array.getElem?_toList] at hc
    refine ⟨(Array.getElem?_eq_some_iff.mp hc).1, fun w H' ⟨e1, c', hc', y'⟩ => ?_⟩
    rw [hc] at hc'
    cases hc'
    subst e1 y'
    exact ⟨.refl, R, .str _⟩
  stop := fun S H ρ e R _ => by
    show (x.cps.toList.map fun c => A.str ⟨#[c]⟩).length = x.cps.size
    rw [List.length_map, Array.length_toList]
theorem ai_val {c : Ex} (he : AE X e c) : AI X tg e (iVal c) := fun pins s σ H Q I ⟨ρ, S, τ, R, r, h⟩ => by
  have hb := post_bind h
  cases hc : c τ S with
  | no => rw [hc] at hb; exact hb.elim
  | ex x S1 =>
    rw [hc] at hb
    exact pi_tup he pins s σ H Q I ⟨ρ, S, τ, R, r, by rw [hc]; exact hb⟩
  | ok a S1 =>
    rw [hc] at hb
    cases a with
    | tup xs =>
      refine pi_tup he pins s σ H Q I ⟨ρ, S, τ, R, r, ?_⟩
      rw [hc]
      intro ρ1 H1 x e1 R1 v1
      cases v1 with
      | tup h1 r1 => exact ⟨_, rfl, ⟨_, (SqT.of h1)⟩, hb ρ1 H1 _ e1 R1 (jr_tup (SqT.of h1) r1)⟩
    | frz xs =>
      refine pi_list he pins s σ H Q I ⟨ρ, S, τ, R, r, ?_⟩
      rw [hc]
      intro ρ1 H1 x e1 R1 v1
      cases v1 with
      | frz h1 r1 => exact ⟨_, rfl, ⟨_, h1.sqL⟩, hb ρ1 H1 _ e1 R1 (jr_frz h1 r1)⟩
    | ref n =>
      obtain ⟨xs, hn, hb⟩ := opt_post hb
      refine pi_list he pins s σ H Q I ⟨ρ, S, τ, R, r, ?_⟩
      rw [hc]
      intro ρ1 H1 x e1 R1 v1
      cases v1 with
      | ref hp =>
        obtain ⟨vs, h1, r1⟩ := R1.lst hp (lstAt_of hn)
        exact ⟨_, rfl, ⟨_, SqL.of h1⟩, hb ρ1 H1 _ e1 R1 (jr_lst hp)⟩
    | str x =>
      obtain ⟨ha, hb⟩ := gd_post hb
      refine pi_str he pins s σ H Q I ⟨ρ, S, τ, R, r, ?_⟩
      rw [hc]
      intro ρ1 H1 v e1 R1 v1
      cases v1 with
      | str => exact ⟨x, rfl, ha, hb ρ1 H1 _ e1 R1 jr_str⟩
    | _ => exact hb.elim
noncomputable def bnd (i : Int) : Prop := -(2 ^ 62) <= i /\ i < 2 ^ 62
instance (i : Int) : Decidable (bnd i) := by unfold bnd; infer_instance
noncomputable def iRng1 (c : Ex) : Ic := fun τ S => (c τ S).bind fun a S1 => match a with
  | .int j => gd (bnd j) (.ok (rngSrc 0 j) S1)
  | _ => .no
theorem ai_range1 {p : Pos} {c : Ex} (hm : X.mg "range" = none) (ha : AE X a c) (hg : Gl X "range" := by rfl) (hs : starEach [a] X.env = [(false, eval a X.env)] := by rfl) : AI X tg (.Call (.Name "range" p) [a] [] pos) (iRng1 c) := fun pins s σ H Q I ⟨ρ, S, τ, R, r, h⟩ => by
  refine pi_range1 hg hm (pa_cons ha pa_nil hs) hs pins s σ H Q I ⟨ρ, S, τ, R, r, post_ext (post_bind h) .refl fun x S1 h1 ρ1 H1 v e1 R1 v1 => ?_⟩
  cases v1 with
  | int j =>
    obtain ⟨hb, h1⟩ := gd_post h1
    exact ⟨_, rfl, hb.1, hb.2, by have := h1 ρ1 H1 _ e1 R1 jr_rng; rwa [Int.sub_zero] at this⟩
  | _ => exact h1.elim
noncomputable def forGo (s : Src) (g : Tg) (c : Sm) : Nat -> Nat -> Sm
  | 0, _ => fun τ S => if s.fin S then .nx τ S else .no
  | k + 1, i => fun τ S => match s.get i S with
    | none => .no
    | some x => .of (g x τ S) fun τ1 S1 => match c τ1 S1 with
      | .nx τ' S' => forGo s g c k (i + 1) τ' S'
      | .ct τ' S' => forGo s g c k (i + 1) τ' S'
      | .bk τ' S' => .nx τ' S'
      | r => r
noncomputable def sFor (src : Ic) (g : Tg) (c : Sm) : Sm := fun τ S => .of (src τ S) fun s S1 => forGo s g c s.k 0 τ S1
theorem as_for {iter : Expr} {body : List Stmt} {src : Ic} {g : Tg} {c : Sm} (hp : PassesOwn (model X.prog X.w) X.A X.env X.xe) (hc : X.calm = true) (hi : AI X tg iter src) (hg : AG X tg g) (hb : ASs X body c)
    (hs : ∀ x, foldedSetIterable iter X.env x = pure x := by intro _; rfl) : AS X (.For tg iter body [] pos) (sFor src g c) := PS.imp (ps_for hp hc hi hg hb hs) fun D σ H ⟨ρ, S, τ, R, r, h⟩ => by
  refine ⟨ρ, S, τ, R, r, post_ext (of_post h) .refl fun s S1 h1 ρ1 H1 J e1 R1 jr => ?_⟩
  refine ⟨fun i m σ' H' => m + i = s.k /\ ∃ ρ' S' τ', Ext ρ1 ρ' H1 H' /\ Rel X.K ρ' H' S' /\ SR X.K ρ' H' τ' σ' /\ enP X ρ' H' D (forGo s g c m i τ' S'), ⟨s.k, rfl, ρ1, S1, τ, .refl, R1, r.ext e1, enP.ext h1 e1⟩, ?_⟩
  rintro i m σ2 H2 ⟨hm, ρ2, S2, τ2, e2, R2, r2, h2⟩
  cases m with
  | zero =>
    left
    have h2 : enP X ρ2 H2 D (if s.fin S2 then .nx τ2 S2 else .no) := h2
    cases hf : s.fin S2 with
    | false => rw [hf] at h2; exact h2.elim
    | true =>
      rw [hf] at h2
      refine ⟨by rw [show i = s.k by omega]; exact jr.stop S2 H2 ρ2 e2.toExt0 R2 hf, h2 ρ2 H2 σ2 .refl R2 r2⟩
  | succ m =>
    right
    have h2 : enP X ρ2 H2 D (match s.get i S2 with
      | none => .no
      | some x => .of (g x τ2 S2) fun τ1 S1 => match c τ1 S1 with
        | .nx τ' S' => forGo s g c m (i + 1) τ' S'
        | .ct τ' S' => forGo s g c m (i + 1) τ' S'
        | .bk τ' S' => .nx τ' S'
        | r => r) := h2
    cases hx : s.get i S2 with
    | none => rw [hx] at h2; exact h2.elim
    | some x =>
      rw [hx] at h2
      obtain ⟨hgo, hy⟩ := jr.go i S2 H2 ρ2 x e2.toExt0 R2 hx
      refine ⟨hgo, fun σ' H' => m + (i + 1) = s.k /\ ∃ ρ' S' τ', Ext ρ1 ρ' H1 H' /\ Rel X.K ρ' H' S' /\ SR X.K ρ' H' τ' σ' /\ enP X ρ' H' D (forGo s g c m (i + 1) τ' S'), fun σ' H' z => ⟨m, Nat.lt_succ_self _, z⟩, fun v H3 y => ?_⟩
      obtain ⟨e3, R3, v3⟩ := hy v H3 y
      refine ⟨ρ2, S2, τ2, x, R3, r2.ext e3, v3, post_ext (of_post h2) e3 fun τ4 S4 h4 ρ4 H4 σ4 e4 R4 r4 => ⟨ρ4, S4, τ4, R4, r4, ?_⟩⟩
      have e24 := e3.trans e4
      cases hcc : c τ4 S4 with
      | nx τ5 S5 => rw [hcc] at h4; exact fun ρ5 H5 σ5 e5 R5 r5 => ⟨by omega, ρ5, S5, τ5, (e2.trans e24).trans e5, R5, r5, enP.ext h4 (e24.trans e5)⟩
      | ct τ5 S5 => rw [hcc] at h4; exact fun ρ5 H5 σ5 e5 R5 r5 => ⟨by omega, ρ5, S5, τ5, (e2.trans e24).trans e5, R5, r5, enP.ext h4 (e24.trans e5)⟩
      | bk τ5 S5 => rw [hcc] at h4; exact nxP.ext h4 e24
      | rt x5 S5 => rw [hcc] at h4; exact okP.ext h4 e24
      | ex x5 S5 => rw [hcc] at h4; exact XE.ext h4 e24
      | no => rw [hcc] at h4; exact h4
end
end Am
set_option Elab.async false
set_option linter.all false
set_option maxRecDepth 100000
set_option maxHeartbeats 4000000
namespace Am
open PySem PySem.Spec PyProof.Rows L2
section
variable {X : Cx} {tg a b c0 : Expr} {pos : Pos}
noncomputable def dnSrc (lo hi : Int) : Src := ⟨(lo - hi).toNat, fun i _ => if i < (lo - hi).toNat then some (.int (lo - i)) else none, fun _ => true⟩
theorem jr_dn {K : PySem.W.Frag} {ρ0 : List Addr} {H0 : Hp} {lo hi : Int} : JR K (dnSrc lo hi) (Itn lo (lo - hi).toNat) ρ0 H0 where
  go := fun i S H ρ x e R g => by
    have g : (if i < (lo - hi).toNat then some (A.int (lo - i)) else none) = some x := g
    by_cases hi' : i < (lo - hi).toNat
    · rw [if_pos hi'] at g
      cases g
      refine ⟨hi', fun w H' ⟨e1, y⟩ => ?_⟩
      subst e1 y
      exact ⟨.refl, R, .int _⟩
    · rw [if_neg hi'] at g; cases g
  stop := fun S H ρ e R _ => Nat.le_refl _
noncomputable def dnF (a b k : A) (S3 : Sto) : R Src := match a, b, k with
  | .int i, .int j, .int m => gd (m = -1 /\ bnd i /\ bnd j) (.ok (dnSrc i j) S3)
  | _, _, _ => .no
theorem dnF_post {a b k : A} {S3 : Sto} {P : Src -> Sto -> Prop} {E : Str -> Sto -> Prop} (h : (dnF a b k S3).post P E) : ∃ i j, a = .int i /\ b = .int j /\ k = .int (-1) /\ bnd i /\ bnd j /\ P (dnSrc i j) S3 := by
  unfold dnF at h
  split at h
  · obtain ⟨⟨z, h1, h2⟩, h⟩ := gd_post h
    exact ⟨_, _, rfl, rfl, by rw [z], h1, h2, h⟩
  · exact h.elim
noncomputable def iRngD (c d : Ex) (e : Ex) : Ic := fun τ S => (c τ S).bind fun a S1 => (d τ S1).bind fun b S2 => (e τ S2).bind fun k S3 => dnF a b k S3
theorem iRngD_ap {c d e : Ex} {τ : List A} {S S1 S2 S3 : Sto} {i j : Int} (h : c τ S = .ok (.int i) S1) (h' : d τ S1 = .ok (.int j) S2) (h'' : e τ S2 = .ok (.int (-1)) S3) (hb : bnd i) (hb' : bnd j) : iRngD c d e τ S = .ok (dnSrc i j) S3 := by
  unfold iRngD; rw [h]; show (d τ S1).bind _ = _; rw [h']; show (e τ S2).bind _ = _; rw [h'']; exact if_pos ⟨rfl, hb, hb'⟩
theorem ai_range3 {p : Pos} {c d e : Ex} (hm : X.mg "range" = none) (ha : AE X a c) (hb : AE X b d) (hc : AE X c0 e) (hg : Gl X "range" := by rfl) (hs : starEach [a, b, c0] X.env = [(false, eval a X.env), (false, eval b X.env), (false, eval c0 X.env)] := by rfl) (hs2 : starEach [b, c0] X.env = [(false, eval b X.env), (false, eval c0 X.env)] := by rfl) (hs3 : starEach [c0] X.env = [(false, eval c0 X.env)] := by rfl) :
    AI X tg (.Call (.Name "range" p) [a, b, c0] [] pos) (iRngD c d e) := fun pins s σ H Q I ⟨ρ, S, τ, R, r, h⟩ => by
  refine pi_down hg hm (pa_cons ha (pa_cons hb (pa_cons hc pa_nil hs3) (by rw [hs2, hs3])) (by rw [hs, hs2])) hs hs2 pins s σ H Q I ⟨ρ, S, τ, R, r, post_ext (post_bind h) .refl fun x S1 h1 ρ1 H1 v e1 R1 v1 => ⟨ρ1, S1, τ, R1, r.ext e1, post_ext (post_bind h1) e1 fun y S2 h2 ρ2 H2 w e2 R2 v2 => ⟨ρ2, S2, τ, R2, (r.ext e1).ext e2, post_ext (post_bind h2) (e1.trans e2) fun z S3 h3 ρ3 H3 u e3 R3 v3 => ?_⟩⟩⟩
  obtain ⟨i, j, hx, hy, hz, hk1, hk2, h4⟩ := dnF_post h3
  subst hx hy hz
  cases v1
  cases v2
  cases v3
  exact ⟨_, _, rfl, ⟨hk1.1, hk1.2, hk2.1, hk2.2⟩, h4 ρ3 H3 _ ((e1.trans e2).trans e3) R3 jr_dn⟩
end
end Am
set_option Elab.async false
set_option linter.all false
set_option maxRecDepth 100000
set_option maxHeartbeats 4000000
namespace Am
open PySem PySem.Spec PyProof.Rows L2
noncomputable def R.bindN {α β : Type} (r : R α) (f : α -> Sto -> R β) : R β := match r with
  | .ok a S => f a S
  | _ => .no
theorem bindN_ok {α β : Type} {r : R α} {f : α -> Sto -> R β} {b : β} {S2 : Sto} (h : r.bindN f = .ok b S2) : ∃ a S, r = .ok a S /\ f a S = .ok b S2 := by
  cases r with
  | ok a S => exact ⟨a, S, rfl, h⟩
  | ex _ _ => cases h
  | no => cases h
theorem bindN_post {α β : Type} {r : R α} {f : α -> Sto -> R β} {P : β -> Sto -> Prop} {E : Str -> Sto -> Prop} (h : (r.bindN f).post P E) : ∃ a S, r = .ok a S /\ (f a S).post P E := by
  cases r with
  | ok a S => exact ⟨a, S, rfl, h⟩
  | ex _ _ => exact h.elim
  | no => exact h.elim
theorem opt_ok {α β : Type} {o : Option β} {f : β -> R α} {a : α} {S : Sto} (h : opt o f = .ok a S) : ∃ b, o = some b /\ f b = .ok a S := by
  cases o with
  | none => cases h
  | some b => exact ⟨b, rfl, h⟩
noncomputable def compGo (s : Src) (g : Tg) (t : Te) (e : Ex) : Nat -> Nat -> List A -> Sto -> R (List A)
  | 0, _ => fun _ S => if s.fin S then .ok [] S else .no
  | k + 1, i => fun τ S => opt (s.get i S) fun x => (g x τ S).bindN fun τ1 S1 => (t τ1 S1).bindN fun b S2 => match b with
    | true => (e τ1 S2).bindN fun y S3 => (compGo s g t e k (i + 1) τ1 S3).bindN fun ys S4 => .ok (y :: ys) S4
    | false => compGo s g t e k (i + 1) τ1 S2
noncomputable def capA (cap : List (Option Nat)) (τ : List A) : List A := cap.map fun o => match o with
  | some j => τ.getD j .unb
  | none => .unb
noncomputable def eComp (cap : List (Option Nat)) (src : Ic) (g : Tg) (t : Te) (e : Ex) : Ex := fun τ S => (src τ S).bind fun s S1 => (compGo s g t e s.k 0 (capA cap τ) S1).bindN fun ys S2 => newL ys S2
noncomputable def bYes : Te := fun _ S => .ok true S
theorem compGo_succ {s : Src} {g : Tg} {t : Te} {e : Ex} {k i : Nat} {τ : List A} {S S' : Sto} {zs : List A} (h : compGo s g t e (k + 1) i τ S = .ok zs S') :
    ∃ x τ1 S1 b S2, s.get i S = some x /\ g x τ S = .ok τ1 S1 /\ t τ1 S1 = .ok b S2 /\ (b = true -> ∃ y S3 ws, e τ1 S2 = .ok y S3 /\ compGo s g t e k (i + 1) τ1 S3 = .ok ws S' /\ zs = y :: ws) /\ (b = false -> compGo s g t e k (i + 1) τ1 S2 = .ok zs S') := by
  obtain ⟨x, hx, h⟩ := opt_ok h
  obtain ⟨τ1, S1, h1, h⟩ := bindN_ok h
  obtain ⟨b, S2, h2, h⟩ := bindN_ok h
  refine ⟨x, τ1, S1, b, S2, hx, h1, h2, fun hb => ?_, fun hb => ?_⟩
  · subst hb
    obtain ⟨y, S3, h3, h⟩ := bindN_ok h
    obtain ⟨ws, S4, h4, h⟩ := bindN_ok h
    cases h
    exact ⟨y, S3, ws, h3, h4, rfl⟩
  · subst hb; exact h
noncomputable def tE0 (K : PySem.W.Frag) (c : Ex) : TE := fun σ H Q => ∃ ρ S τ a S', Rel K ρ H S /\ SR K ρ H τ σ /\ c τ S = .ok a S' /\ ∀ ρ' H' v, Ext ρ ρ' H H' -> Rel K ρ' H' S' -> AV K ρ' H' a v -> Q v H'
noncomputable def tT0 (K : PySem.W.Frag) (c : Te) : TT := fun σ H Q => ∃ ρ S τ a S', Rel K ρ H S /\ SR K ρ H τ σ /\ c τ S = .ok a S' /\ ∀ ρ' H', Ext ρ ρ' H H' -> Rel K ρ' H' S' -> Q a H'
noncomputable def tG0 (K : PySem.W.Frag) (g : Tg) : TG := fun v σ H Q => ∃ ρ S τ a τ' S', Rel K ρ H S /\ SR K ρ H τ σ /\ AV K ρ H a v /\ g a τ S = .ok τ' S' /\ ∀ ρ' H' σ', Ext ρ ρ' H H' -> Rel K ρ' H' S' -> SR K ρ' H' τ' σ' -> Q σ' H'
section
variable {X : Cx} {pos : Pos} {tg iter elt e : Expr} {ifs : List Expr} {scope : Scope} {N : List Str} {cap : List (Option Nat)} {src : Ic} {g : Tg} {t : Te} {c : Ex}
theorem AE.e0 {K : PySem.W.Frag} (hK : X.K = K) (h : AE X e c) : PE X e (tE0 K c) := PE.imp h fun σ H Q ⟨ρ, S, τ, a, S', R, r, hc, q⟩ => ⟨ρ, S, τ, by rw [hK]; exact R, by rw [hK]; exact r, by rw [hc]; exact fun ρ' H' v e R' v' => q ρ' H' v e (by rw [<- hK]; exact R') (by rw [<- hK]; exact v')⟩
theorem AT.t0 {K : PySem.W.Frag} (hK : X.K = K) (h : AT X e t) : PT X e (tT0 K t) := PT.imp h fun σ H Q ⟨ρ, S, τ, a, S', R, r, hc, q⟩ => ⟨ρ, S, τ, by rw [hK]; exact R, by rw [hK]; exact r, by rw [hc]; exact fun ρ' H' e R' => q ρ' H' e (by rw [<- hK]; exact R')⟩
theorem AG.g0 {K : PySem.W.Frag} (hK : X.K = K) (h : AG X e g) : PG X e (tG0 K g) := PG.imp h fun v σ H Q ⟨ρ, S, τ, a, τ', S', R, r, va, hc, q⟩ => ⟨ρ, S, τ, a, by rw [hK]; exact R, by rw [hK]; exact r, by rw [hK]; exact va, by rw [hc]; exact fun ρ' H' v e R' v' => q ρ' H' v e (by rw [<- hK]; exact R') (by rw [<- hK]; exact v')⟩
noncomputable def ATs (X : Cx) (ifs : List Expr) (t : Te) : Prop := PTs X ifs (tT0 X.K t)
theorem ats_nil : ATs X [] bYes := fun pins s σ H Q I ⟨ρ, S, τ, a, S', R, r, hc, q⟩ => pts_nil pins s σ H Q I (by cases hc; exact q ρ H .refl R)
theorem ats_one (h : AT X e t) : ATs X [e] t := pts_one (h.t0 rfl)
theorem capSR {K : PySem.W.Frag} {ρ : List Addr} {H : Hp} {τ : List A} {σ : L2.St} (r : SR K ρ H τ σ) (cap : List (Option Nat)) : SR K ρ H (capA cap τ) (cap.map (capV σ)) := by
  refine ⟨by simp [capA], fun i a h => ?_⟩
  unfold capA at h
  rw [List.getElem?_map] at h
  obtain ⟨o, ho, e⟩ := Option.map_eq_some_iff.mp h
  cases o with
  | none => exact .inl e.symm
  | some j =>
    have e : τ.getD j .unb = a := e
    cases hj : τ[j]? with
    | none => rw [List.getD_eq_getElem?_getD, hj] at e; exact .inl e.symm
    | some b =>
      rw [List.getD_eq_getElem?_getD, hj] at e
      have e : b = a := e
      subst e
      rcases r.at j b hj with z | ⟨v, h1, h2⟩
      · exact .inl z
      · exact .inr ⟨v, by rw [List.getElem?_map, ho]; show some ((σ[j]?).getD none) = _; rw [h1]; rfl, h2⟩
theorem Rel.notin {K : PySem.W.Frag} {ρ : List Addr} {H : Hp} {S : Sto} {p : Addr} (R : Rel K ρ H S) (hp : H p = none) : p ∉ ρ := fun hm => by
  obtain ⟨n, hn, e⟩ := List.mem_iff_getElem.mp hm
  have hl : n < S.length := by rw [<- R.len]; exact hn
  have := R.at n p S[n] (by rw [List.getElem?_eq_getElem hn, e]) (List.getElem?_eq_getElem hl)
  cases ho : S[n] with
  | lst xs => rw [ho] at this; obtain ⟨vs, h, _⟩ := this; rw [hp] at h; cases h
  | dct _ => rw [ho] at this; obtain ⟨vs, h, _⟩ := this; rw [hp] at h; cases h
  | ins _ _ => rw [ho] at this; obtain ⟨_, _, h⟩ := this; rw [hp] at h; cases h
theorem comp_imp (σ : L2.St) (H : Hp) (Q : VK) (h : tE X (eComp cap src g t c) σ H Q) : tLC cap (tI X src) (tG0 X.K g) (tT0 X.K t) (tE0 X.K c) σ H Q := by
  obtain ⟨ρ, S, τ, R, r, h⟩ := h
  refine ⟨ρ, S, τ, R, r, post_ext (post_bind h) .refl fun s S1 h1 ρ1 H1 J e1 R1 jr D hD => ?_⟩
  obtain ⟨ys, S2, hcg, h1⟩ := bindN_post h1
  obtain ⟨hlen, h1⟩ := gd_post h1
  have h1 : okP X ρ H Q (.ref S2.length) (S2 ++ [.lst ys]) := h1
  obtain ⟨eD, RD⟩ := R1.im (u := .lst []) hD
  have nD := R1.notin hD
  refine ⟨fun i m σ' H' => m + i = s.k /\ ∃ ρ' S' τ' acc zs accV, Ext0 ρ1 ρ' H1 H' /\ (∀ a u, a ≠ D -> H1 a = some u -> a ∉ ρ1 -> H' a = some u) /\ (∀ a ∈ ρ', a ∈ ρ1 \/ H1 a = none) /\ D ∉ ρ' /\ H' D = some (.lst accV) /\ Rel X.K ρ' H' S' /\ SR X.K ρ' H' τ' σ' /\ AVs X.K ρ' H' acc accV /\ compGo s g t c m i τ' S' = .ok zs S2 /\ acc ++ zs = ys,
    ⟨s.k, rfl, ρ1, S1, capA cap τ, [], ys, [], eD.toExt0, fun a u na hu _ => by rw [upd_ne na]; exact hu, fun a ha => .inl ha, nD, upd_same, RD, (capSR ((r.ext e1).ext eD) cap), .nil, hcg, rfl⟩, ?_⟩
  rintro i m σ3 H3 ⟨hm, ρ3, S3, τ3, acc, zs, accV, e3, fr3, nw3, nD3, hD3, R3, r3, ac3, cg3, eys⟩
  cases m with
  | zero =>
    left
    have cg3 : (if s.fin S3 then Am.R.ok [] S3 else .no) = .ok zs S2 := cg3
    cases hf : s.fin S3 with
    | false => rw [hf] at cg3; cases cg3
    | true =>
      rw [hf] at cg3
      cases cg3
      rw [List.append_nil] at eys
      subst eys
      refine ⟨by rw [show i = s.k by omega]; exact jr.stop _ H3 ρ3 e3 R3 hf, ?_⟩
      obtain ⟨RT, gt⟩ := R3.take hD3 nD3 ac3
      refine h1 (ρ3 ++ [D]) H3 _ (e1.trans ⟨⟨e3.pre.trans (List.prefix_append _ _), e3.im⟩, fun a u hu na => fr3 a u (ne_of_none hu hD) hu na, fun a ha => ?_⟩) RT (.ref gt)
      rcases List.mem_append.mp ha with z | z
      · exact nw3 a z
      · have : a = D := by simpa using z
        rw [this]; exact .inr hD
  | succ m =>
    right
    obtain ⟨x, τ4, S4, b, S5, hx, hg4, ht5, hT, hF⟩ := compGo_succ cg3
    obtain ⟨hgo, hy⟩ := jr.go i S3 H3 ρ3 x e3 R3 hx
    refine ⟨hgo, fun v H4 y => ?_⟩
    obtain ⟨e4, R4, v4⟩ := hy v H4 y
    refine ⟨ρ3, S3, τ3, x, τ4, S4, R4, r3.ext e4, v4, hg4, fun ρ5 H5 σ5 e5 R5 r5 => ?_⟩
    refine ⟨ρ5, S4, τ4, b, S5, R5, r5, ht5, fun ρ6 H6 e6 R6 => ?_⟩
    have e36 := (e4.trans e5).trans e6
    have stay : ∀ {ρ7 : List Addr} {H7 : Hp}, Ext ρ3 ρ7 H3 H7 -> Ext0 ρ1 ρ7 H1 H7 /\ (∀ a u, a ≠ D -> H1 a = some u -> a ∉ ρ1 -> H7 a = some u) /\ (∀ a ∈ ρ7, a ∈ ρ1 \/ H1 a = none) /\ D ∉ ρ7 /\ H7 D = some (.lst accV) := fun {ρ7 H7} e7 => by
      refine ⟨⟨e3.pre.trans e7.pre, fun a u i h => e7.im a u i (e3.im a u i h)⟩, fun a u na hu nr => e7.fr a u (fr3 a u na hu nr) fun z => (nw3 a z).elim nr fun z => by (rw [z] at hu; cases hu), fun a ha => ?_, fun z => (e7.nw D z).elim nD3 fun z => by (rw [hD3] at z; cases z), e7.fr D _ hD3 nD3⟩
      by_cases hr : a ∈ ρ1
      · exact .inl hr
      · right
        cases q : H1 a with
        | none => rfl
        | some u =>
          have aD : a ≠ D := ne_of_none q hD
          rcases e7.nw a ha with z | z
          · exact ((nw3 a z).elim hr fun z => by (rw [z] at q; cases q)).elim
          · rw [fr3 a u aD q hr] at z; cases z
    cases b with
    | false =>
      dsimp only
      rw [if_neg Bool.false_ne_true]
      obtain ⟨g1, g2, g3, g4, g5⟩ := stay e36
      exact ⟨m, Nat.lt_succ_self _, by omega, ρ6, S5, τ4, acc, zs, accV, g1, g2, g3, g4, g5, R6, r5.ext e6, ac3.ext e36, hF rfl, eys⟩
    | true =>
      dsimp only
      rw [if_pos rfl]
      obtain ⟨y, S6, ws, he6, cg6, ezs⟩ := hT rfl
      refine ⟨ρ6, S5, τ4, y, S6, R6, r5.ext e6, he6, fun ρ7 H7 w e7 R7 v7 => ?_⟩
      obtain ⟨g1, g2, g3, g4, g5⟩ := stay (e36.trans e7)
      obtain ⟨ex8, R8⟩ := R7.out (ws := accV ++ [w]) g5 g4
      have l1 := ac3.length
      refine ⟨accV, g5, ?_, m, Nat.lt_succ_self _, by omega, ρ7, S6, τ4, acc ++ [y], ws, accV ++ [w], ?_, fun a u na hu nr => by rw [upd_ne na]; exact g2 a u na hu nr, g3, g4, upd_same, R8, (r5.ext (e6.trans e7)).ext0 ex8, (AVs.ext0 ex8 ((ac3.ext (e36.trans e7)).append (.one v7))), cg6, ?_⟩
      · have : (acc ++ zs).length <= sizeLine := by rw [eys]; exact hlen
        rw [ezs, List.length_append, List.length_cons] at this
        omega
      · exact ⟨g1.pre, fun a u i h => ex8.im a u i (g1.im a u i h)⟩
      · rw [List.append_assoc, <- eys, ezs]; rfl
theorem ae_comp (hc : X.calm = true) (Sc : CpScope X scope N cap) (hi : AI X tg iter src) (hg : ∀ C s₀ H₀ ex, AG (cpCx X scope N C s₀ H₀ ex) tg g) (ht : ∀ C s₀ H₀ ex, ATs (cpCx X scope N C s₀ H₀ ex) ifs t) (he : ∀ C s₀ H₀ ex, AE (cpCx X scope N C s₀ H₀ ex) elt c)
    (hs : ∀ x, foldedSetIterable iter X.env x = pure x := by intro _; rfl) : AE X (.ListComp elt [⟨tg, iter, ifs, 0⟩] scope pos) (eComp cap src g t c) :=
  PE.imp (pe_lc hc Sc hi (g := tG0 X.K g) (tc := tT0 X.K t) (te := tE0 X.K c) (fun C s₀ H₀ ex => (hg C s₀ H₀ ex).g0 rfl) (fun C s₀ H₀ ex => ht C s₀ H₀ ex) (fun C s₀ H₀ ex => (he C s₀ H₀ ex).e0 rfl) hs) comp_imp
theorem as_setC {i : Nat} {x : Str} {pos' spos : Pos} (hN : X.N.Nodup) (hc : X.calm = true) (Sc : CpScope X scope N cap) (hi : AI X tg iter src) (hg : ∀ C s₀ H₀ ex, AG (cpCx X scope N C s₀ H₀ ex) tg g) (ht : ∀ C s₀ H₀ ex, ATs (cpCx X scope N C s₀ H₀ ex) ifs t) (he : ∀ C s₀ H₀ ex, AE (cpCx X scope N C s₀ H₀ ex) elt c)
    (hi' : X.N[i]? = some x := by rfl) (hx : Loc X.env.scope x := by first | exact Or.inl rfl | exact Or.inr rfl)
    (hsw : swapsWith (.ListComp elt [⟨tg, iter, ifs, 0⟩] scope pos) (some (.Name x pos')) spos.line X.env = pure true := by rfl) (hf : X.fn x = true \/ X.env.scope.names.lookup x = some .local := by first | exact .inl rfl | exact .inr rfl | assumption)
    (hs : ∀ x, foldedSetIterable iter X.env x = pure x := by intro _; rfl) : AS X (.Assign [.Name x pos'] (.ListComp elt [⟨tg, iter, ifs, 0⟩] scope pos) spos) (sAsg (eComp cap src g t c) (gNm i)) :=
  PS.imp (ps_setLC hN hi' hx hc Sc hi (g := tG0 X.K g) (tc := tT0 X.K t) (te := tE0 X.K c) (fun C s₀ H₀ ex => (hg C s₀ H₀ ex).g0 rfl) (fun C s₀ H₀ ex => ht C s₀ H₀ ex) (fun C s₀ H₀ ex => (he C s₀ H₀ ex).e0 rfl) hsw hf hs) fun D σ H ⟨ρ, S, τ, R, r, h⟩ =>
    comp_imp σ H _ ⟨ρ, S, τ, R, r, post_ext (of_post h) .refl fun a S1 h1 ρ1 H1 x e1 R1 v1 => h1 ρ1 H1 _ e1 R1 ((r.ext e1).set v1)⟩
end
end Am
set_option Elab.async false
set_option linter.all false
set_option maxRecDepth 100000
set_option maxHeartbeats 4000000
namespace Am
open PySem PySem.Spec PyProof.Rows L2
noncomputable def A.lst? (S : Sto) : A -> Option (List A)
  | .ref n => lstAt S n
  | _ => none
noncomputable def eMe (f : A -> List A -> Sto -> R A) (co : Ex) (d : Exs) : Ex := fun τ S => (co τ S).bind fun o S1 => opt (o.lst? S1) fun _ => (d τ S1).bind fun as S2 => f o as S2
noncomputable def eMe0 (f : A -> List A -> Sto -> R A) (co : Ex) : Ex := fun τ S => (co τ S).bind fun o S1 => opt (o.lst? S1) fun _ => f o [] S1
noncomputable def rM (X : Cx) (f : A -> List A -> Sto -> R A) : V -> List V -> Hp -> VK -> Prop := fun x vs H Q => ∃ ρ S o as, Rel X.K ρ H S /\ AV X.K ρ H o x /\ AVs X.K ρ H as vs /\ (f o as S).post (okP X ρ H Q) (XE X ρ H)
section
variable {X : Cx} {pos apos cpos : Pos} {o e : Expr} {es : List Expr} {name : Str} {id : String} {f : A -> List A -> Sto -> R A} {co : Ex} {d : Exs}
theorem lst?_ty {K : PySem.W.Frag} {ρ : List Addr} {H : Hp} {S : Sto} {x : A} {v : V} {xs : List A} (R : Rel K ρ H S) (h : AV K ρ H x v) (e : x.lst? S = some xs) : tyV K "list" v H := by
  cases h with
  | ref h =>
    obtain ⟨vs, h1, _⟩ := R.lst h (lstAt_of e)
    exact .inl ⟨rfl, vs, SqL.of h1⟩
  | _ => cases e
theorem ae_me (slot : Slot "list" name id) (hty : typeOf (.builtin id) = pure (.type "method_descriptor")) (hm : MtR X id (rM X f)) (ho : AE X o co) (ha : AL X (e :: es) d)
    (hbase : attributeBase o name X.env (eval o X.env) = eval o X.env := by rfl)
    (hfew : ((backTo cpos (starEach (e :: es) X.env)).all (fun x => !x.1) && (backToKw cpos (keywordEach [] X.env)).all (fun x => x.1.isSome)
      && decide ((e :: es).length + ([] : List Keyword).length + (if ([] : List Keyword).isEmpty then 0 else 1) < 30)) = true := by rfl)
    (hline : (apos.endLine == cpos.line) = true := by rfl) (hs : starEach (e :: es) X.env = (false, eval e X.env) :: starEach es X.env := by rfl) (hplain : (backTo cpos (starEach es X.env)).any (·.1) = false := by rfl) :
    AE X (.Call (.Attribute o name apos) (e :: es) [] cpos) (eMe f co d) := PE.imp (pe_bm PySem.F.plainAttrs_list slot hty hm ho ha hbase hfew hline hs hplain) fun σ H Q ⟨ρ, S, τ, R, r, h⟩ => by
  refine ⟨ρ, S, τ, R, r, post_ext (post_bind h) .refl fun x S1 h1 ρ1 H1 v e1 R1 v1 => ?_⟩
  obtain ⟨xs, hx, h1⟩ := opt_post h1
  refine ⟨lst?_ty R1 v1 hx, ρ1, S1, τ, R1, r.ext e1, post_ext (post_bind h1) e1 fun as S2 h2 ρ2 H2 vs e2 R2 v2 => ?_⟩
  exact ⟨ρ2, S2, x, as, R2, v1.ext e2, v2, post_ext h2 (e1.trans e2) fun _ _ z => z.ext (e1.trans e2)⟩
noncomputable def mAppend (o : A) (as : List A) (S : Sto) : R A := match o, as with
  | .ref n, [x] => opt (lstAt S n) fun xs => gd (xs.length < sizeLine) (.ok .non (S.set n (.lst (xs ++ [x]))))
  | _, _ => .no
theorem m_append : MtR X "list.append" (rM X mAppend) := fun pins s σ H x vs v us Q I rx rv ⟨ρ, S, o, as, R, vo, va, h⟩ => by
  cases vo with
  | @ref p n hp =>
    match as, va, h with
    | [], _, h => exact h.elim
    | _ :: _ :: _, _, h => exact h.elim
    | [y], va, h =>
      obtain ⟨w, rfl, hw⟩ := avs1 va
      obtain ⟨xs, hn, h⟩ := opt_post h
      obtain ⟨hl, h⟩ := gd_post h
      obtain ⟨ws, h1, r⟩ := R.lst hp (lstAt_of hn)
      obtain ⟨ex, R'⟩ := R.put hp (lstAt_of hn) (r.append (.one hw))
      exact mt_append pins s σ H _ _ v us Q I rx rv ⟨p, ws, w, rfl, rfl, h1, by rw [<- r.length]; exact hl, h _ _ _ ex R' .non⟩
  | _ => exact h.elim
end
noncomputable def runF (N : List Str) (m : Sm) (as : List A) (S : Sto) : R A := match m (as ++ List.replicate (N.length - as.length) .unb) S with
  | .rt a S' => .ok a S'
  | .nx _ S' => .ok .non S'
  | .ex c S' => .ex c S'
  | _ => .no
noncomputable def spA (K : PySem.W.Frag) (n : Nat) (F : List A -> Sto -> R A) : Sp := fun vs H Q _ => vs.length = n /\ ∃ ρ S as a S', Rel K ρ H S /\ AVs K ρ H as vs /\ F as S = .ok a S' /\ ∀ ρ' H' v, Ext ρ ρ' H H' -> Rel K ρ' H' S' -> AV K ρ' H' a v -> Q v H'
theorem startSR {K : PySem.W.Frag} {ρ : List Addr} {H : Hp} {as : List A} {vs : List V} (r : AVs K ρ H as vs) (N : List Str) : SR K ρ H (as ++ List.replicate (N.length - as.length) .unb) (L2.start N vs) := by
  have hl := r.length
  refine ⟨by unfold L2.start; simp [hl], fun i a h => ?_⟩
  by_cases hi : i < as.length
  · rw [List.getElem?_append_left hi] at h
    obtain ⟨v, hv, av⟩ := r.get h
    exact .inr ⟨v, by unfold L2.start; rw [List.getElem?_append_left (by simp; omega), List.getElem?_map, hv]; rfl, av⟩
  · rw [List.getElem?_append_right (by omega), List.getElem?_replicate] at h
    split at h
    · exact .inl (Option.some.inj h).symm
    · cases h
section
variable {P : Program} {w : World} {K : PySem.W.Frag} {mg : Str -> Option Value} {base : Heap}
theorem fnA {x qual : Str} {st : Stmt} {f : Addr} {fd : FuncData} {N ps : List Str} {k : Nat} {m : Sm} (F : Fun K x qual st f fd) (Sc : FnScope N ps (defScope st))
    (body : ∀ (cdv : Value) (A : Around) (outer : List Env) (s : Shared) (H : Hp) (E : XK), Room k (A.deeper (envOfC qual (defScope st) s.heap.objs.size f cdv)) -> ASs (cxOf CX0 P w K mg base N qual (defScope st) f cdv A outer s H E).nox (defBody st) m) :
    FnOk P w K mg base CX0 (k + 1) f fd ps (spA K ps.length (runF N m)) := by
  refine F.ok Sc (fun vs H Q E h => h.1) fun cdv B outer s H vs Q E hr ⟨hl, ρ, S, as, a, S', R, va, hF, q⟩ => ⟨_, body cdv B outer s H E hr, ρ, S, _, R, startSR va N, ?_⟩
  unfold runF at hF
  cases hm : m (as ++ List.replicate (N.length - as.length) .unb) S with
  | rt b S2 => rw [hm] at hF; cases hF; exact q
  | nx τ S2 => rw [hm] at hF; cases hF; exact fun ρ' H' σ' e R' _ => q ρ' H' _ e R' .non
  | bk τ S2 => rw [hm] at hF; cases hF
  | ct τ S2 => rw [hm] at hF; cases hF
  | ex c S2 => rw [hm] at hF; cases hF
  | no => rw [hm] at hF; cases hF
end
noncomputable abbrev KnA (P : Program) (w : World) (K : PySem.W.Frag) (mg : Str -> Option Value) (base : Heap) (k : Nat) (x : Str) (ps : List Str) (F : List A -> Sto -> R A) : Prop := Kn P w K mg base k x ps (spA K ps.length F)
noncomputable def eFn (F : List A -> Sto -> R A) (d : Exs) : Ex := fun τ S => (d τ S).bind fun as S1 => match F as S1 with
  | .ok a S2 => .ok a S2
  | _ => .no
section
variable {X : Cx} {pos p : Pos} {e : Expr} {es : List Expr} {x : Str} {ps : List Str} {k : Nat} {F : List A -> Sto -> R A} {d : Exs}
theorem ae_fn (G : KnA X.prog X.w X.K X.mg X.base k x ps F) (hr : Room k X.A) (ha : AL X (e :: es) d) (hl : ∀ τ S as S', d τ S = .ok as S' -> as.length = ps.length) (hg : Gl X x := by rfl) (hdb : (x == ("__debug__" : Str)) = false := by decide)
    (hs : starEach (e :: es) X.env = (false, eval e X.env) :: starEach es X.env := by rfl) (hplain : (backTo pos (starEach es X.env)).any (·.1) = false := by rfl) : AE X (.Call (.Name x p) (e :: es) [] pos) (eFn F d) :=
  PE.imp (pe_kn G hr ha hg hdb hs hplain) fun σ H Q ⟨ρ, S, τ, R, r, h⟩ => by
    refine ⟨ρ, S, τ, R, r, ?_⟩
    have hb := post_bind h
    cases hd : d τ S with
    | no => rw [hd] at hb; exact hb
    | ex c S1 => rw [hd] at hb; exact hb
    | ok as S1 =>
      rw [hd] at hb
      intro ρ1 H1 vs e1 R1 v1
      rw [List.append_nil]
      refine ⟨by rw [<- v1.length]; exact hl τ S as S1 hd, ρ1, S1, as, ?_⟩
      have hb : Am.R.post (match F as S1 with
        | .ok a S2 => .ok a S2
        | _ => .no) (okP X ρ H Q) (XE X ρ H) := hb
      cases hF : F as S1 with
      | ok a S2 => rw [hF] at hb; exact ⟨a, S2, R1, v1, rfl, fun ρ2 H2 v e2 => hb ρ2 H2 v (e1.trans e2)⟩
      | ex c S2 => rw [hF] at hb; exact hb.elim
      | no => rw [hF] at hb; exact hb.elim
theorem len_nil : ∀ τ S as S', lNil τ S = .ok as S' -> as.length = 0 := fun τ S as S' h => by cases h; rfl
theorem len_cons {c : Ex} {d : Exs} {n : Nat} (h : ∀ τ S as S', d τ S = .ok as S' -> as.length = n) : ∀ τ S as S', lCons c d τ S = .ok as S' -> as.length = n + 1 := fun τ S as S' e => by
  unfold lCons at e
  cases hc : c τ S with
  | ok a S1 =>
    rw [hc] at e
    cases hd : d τ S1 with
    | ok bs S2 => have e : R.bind (d τ S1) (fun as S2 => .ok (a :: as) S2) = .ok as S' := e
                  rw [hd] at e; cases e; rw [List.length_cons, h τ S1 bs _ hd]
    | ex _ _ => have e : R.bind (d τ S1) (fun as S2 => .ok (a :: as) S2) = .ok as S' := e
                rw [hd] at e; cases e
    | no => have e : R.bind (d τ S1) (fun as S2 => .ok (a :: as) S2) = .ok as S' := e
            rw [hd] at e; cases e
  | ex _ _ => rw [hc] at e; cases e
  | no => rw [hc] at e; cases e
end
end Am
set_option Elab.async false
set_option linter.all false
set_option maxRecDepth 100000
set_option maxHeartbeats 4000000
namespace Am
open PySem PySem.Spec PyProof.Rows L2
section
variable {X : Cx} {pos : Pos} {a b c d : Expr}
noncomputable def kCh (f' : A -> A -> Sto -> R A) (cc : Ex) (τ : List A) (b k : A) (S : Sto) : R A := match k with
  | .bl true => (cc τ S).bind fun c S4 => f' b c S4
  | .bl false => .ok (.bl false) S
  | _ => .no
noncomputable def eCh (f f' : A -> A -> Sto -> R A) (ca cb cc : Ex) : Ex := fun τ S => (ca τ S).bind fun a S1 => (cb τ S1).bind fun b S2 => (f a b S2).bind fun k S3 => kCh f' cc τ b k S3
theorem ch_imp {f f' : A -> A -> Sto -> R A} {ca cb cc : Ex} {σ : L2.St} {H : Hp} {Q : VK} (h : tE X (eCh f f' ca cb cc) σ H Q) : tChain (r2 X f) (r2 X f') (tE X ca) (tE X cb) (tE X cc) σ H Q := by
  obtain ⟨ρ, S, τ, R, r, h⟩ := h
  refine ⟨ρ, S, τ, R, r, post_ext (post_bind h) .refl fun a S1 h1 ρ1 H1 x e1 R1 v1 => ⟨ρ1, S1, τ, R1, r.ext e1, post_ext (post_bind h1) e1 fun b S2 h2 ρ2 H2 y e2 R2 v2 => ?_⟩⟩
  have e12 := e1.trans e2
  refine ⟨ρ2, S2, a, b, R2, v1.ext e2, v2, post_ext (post_bind h2) e12 fun k S3 h3 ρ3 H3 z e3 R3 v3 => ?_⟩
  have e13 := e12.trans e3
  cases k with
  | bl k =>
    cases av_bl v3
    refine ⟨k, rfl, ?_⟩
    cases k with
    | true =>
      rw [if_pos rfl]
      exact ⟨ρ3, S3, τ, R3, r.ext e13, post_ext (post_bind h3) e13 fun c S4 h4 ρ4 H4 w e4 R4 v4 => ⟨ρ4, S4, b, c, R4, v2.ext (e3.trans e4), v4, post_ext h4 (e13.trans e4) fun _ _ q => q.ext (e13.trans e4)⟩⟩
    | false =>
      rw [if_neg Bool.false_ne_true]
      exact h3 ρ3 H3 _ e13 R3 (.bl false)
  | _ => exact h3.elim
theorem at_ch {op op' : CmpOp} {f f' : A -> A -> Sto -> R A} {ca cb cc : Ex} (ho : OpR X (compareOp op) (r2 X f)) (ho' : OpR X (compareOp op') (r2 X f')) (ha : AE X a ca) (hb : AE X b cb) (hc : AE X c cc) (hm : lastMarks [op, op'] [b, c] = false := by with_unfolding_all rfl) :
    AT X (.Compare a [op, op'] [b, c] pos) (toB (eCh f f' ca cb cc)) := PT.imp (pt_chain ho ho' ha hb hc hm) fun σ H Q ⟨ρ, S, τ, R, r, h⟩ => by
  refine ch_imp ⟨ρ, S, τ, R, r, post_ext (post_bind h) .refl fun c S1 h1 ρ1 H1 x e1 R1 v1 => ?_⟩
  cases c with
  | bl k => cases av_bl v1; exact ⟨k, rfl, h1 ρ1 H1 e1 R1⟩
  | _ => exact h1.elim
noncomputable def inA (S : Sto) (x : A) : List A -> Option Bool
  | [] => some false
  | z :: zs => (eqA S 12 z x).bind fun p => (inA S x zs).map fun q => p || q
noncomputable def aIn (neg : Bool) (x y : A) (S : Sto) : R A := opt (y.seq S) fun ys => opt (inA S x ys) fun b => .ok (.bl (if neg then !b else b)) S
theorem in_vals {pins : List (Addr × Obj)} {σ : L2.St} {H : Hp} {s : Shared} {ρ : List Addr} {S : Sto} {x : A} {vx : V} {v : Value} (I : Inv X pins σ H s) (R : Rel X.K ρ H S) (hu : X.A.units + 64 < cLine) (hx : AV X.K ρ H x vx) (rx : RelV vx v) :
    ∀ {ys : List A} {us : List V} {its : List Value} {b : Bool}, AVs X.K ρ H ys us -> Vals us its -> inA S x ys = some b -> ∃ e : Value -> Bool, (∀ w ∈ its, SeqAt.EqAt X.A.in1 s w v (e w)) /\ its.any e = b
  | _, _, _, b, .nil, .nil, h => ⟨fun _ => false, (fun w hw => by cases hw), Option.some.inj h⟩
  | z :: zs, u :: us, w0 :: its, b, .cons hz hzs, .cons r rs, h => by
    classical
    obtain ⟨p, hp, h⟩ := Option.bind_eq_some_iff.mp h
    obtain ⟨q, hq, h⟩ := Option.map_eq_some_iff.mp h
    obtain ⟨e, he, ha⟩ := in_vals I R hu hx rx hzs rs hq
    have h0 := (rc_at I R 12 X.A.in1 z x u vx w0 v p (by rw [in1_units]; omega) hz hx r rx hp).2
    subst h
    cases p with
    | true =>
      refine ⟨fun w => if w = w0 then true else e w, fun w hw => ?_, ?_⟩
      · by_cases hww : w = w0
        · simp only [hww, if_true]; exact h0
        · simp only [hww, if_false]
          rcases List.mem_cons.mp hw with z | z
          · exact absurd z hww
          · exact he w z
      · simp
    | false =>
      by_cases hm : w0 ∈ its
      · refine ⟨e, fun w hw => ?_, ?_⟩
        · rcases List.mem_cons.mp hw with z | z
          · rw [z]; exact he w0 hm
          · exact he w z
        · rw [List.any_cons, ha, Bool.false_or]
          cases q with
          | true => simp
          | false =>
            have := List.any_eq_false.mp ha w0 hm
            simpa using this
      · refine ⟨fun w => if w = w0 then false else e w, fun w hw => ?_, ?_⟩
        · by_cases hww : w = w0
          · simp only [hww, if_true]; exact h0
          · simp only [hww, if_false]
            rcases List.mem_cons.mp hw with z | z
            · exact absurd z hww
            · exact he w z
        · rw [List.any_cons, <- ha]
          simp only [if_true, Bool.false_or]
          have : ∀ l : List Value, (∀ w ∈ l, w ≠ w0) -> l.any (fun w => if w = w0 then false else e w) = l.any e := fun l hl => by
            induction l with
            | nil => rfl
            | cons c l ih => rw [List.any_cons, List.any_cons, ih fun w hw => hl w (List.mem_cons_of_mem _ hw), if_neg (hl c (List.mem_cons_self ..))]
          exact this its fun w hw z => hm (z ▸ hw)
theorem o_in (hu : X.A.units + 64 < cLine) : OpR X (compareOp .In) (r2 X (aIn false)) := fun pins s σ H x y v u Q I rx ry ⟨ρ, S, a, b, R, va, vb, h⟩ => by
  obtain ⟨ys, hy, h⟩ := opt_post h
  obtain ⟨k, hk, h⟩ := opt_post h
  obtain ⟨p, us, rfl, hs, r⟩ := seq_of R vb hy
  cases ry
  rcases hs with hs | hs
  · obtain ⟨its, rv, pl, hz⟩ := I.list hs
    obtain ⟨e, he, ha⟩ := in_vals I R hu va rx r rv hk
    refine SeqAt.in_listAt e pl.isList (fun w hw => he w (by simpa using hw)) ⟨.bl _, H, I, rfl, ?_⟩
    rw [show its.toArray.any e = its.any e by simp, ha]
    exact h _ _ _ .refl R (.bl _)
  · obtain ⟨its, rv, pl, hz⟩ := I.tuple hs
    obtain ⟨e, he, ha⟩ := in_vals I R hu va rx r rv hk
    refine SeqAt.in_tupleAt e pl (fun w hw => he w (by simpa using hw)) ⟨.bl _, H, I, rfl, ?_⟩
    rw [show its.toArray.any e = its.any e by simp, ha]
    exact h _ _ _ .refl R (.bl _)
theorem o_notin (hu : X.A.units + 64 < cLine) : OpR X (compareOp .NotIn) (r2 X (aIn true)) := fun pins s σ H x y v u Q I rx ry ⟨ρ, S, a, b, R, va, vb, h⟩ => by
  obtain ⟨ys, hy, h⟩ := opt_post h
  obtain ⟨k, hk, h⟩ := opt_post h
  obtain ⟨p, us, rfl, hs, r⟩ := seq_of R vb hy
  cases ry
  rcases hs with hs | hs
  · obtain ⟨its, rv, pl, hz⟩ := I.list hs
    obtain ⟨e, he, ha⟩ := in_vals I R hu va rx r rv hk
    refine SeqAt.notIn_listAt e pl.isList (fun w hw => he w (by simpa using hw)) ⟨.bl _, H, I, rfl, ?_⟩
    rw [show its.toArray.any e = its.any e by simp, ha]
    exact h _ _ _ .refl R (.bl _)
  · obtain ⟨its, rv, pl, hz⟩ := I.tuple hs
    obtain ⟨e, he, ha⟩ := in_vals I R hu va rx r rv hk
    refine SeqAt.notIn_tupleAt e pl (fun w hw => he w (by simpa using hw)) ⟨.bl _, H, I, rfl, ?_⟩
    rw [show its.toArray.any e = its.any e by simp, ha]
    exact h _ _ _ .refl R (.bl _)
end
end Am
set_option Elab.async false
set_option linter.all false
set_option maxRecDepth 100000
set_option maxHeartbeats 4000000
namespace Am
open PySem PySem.Spec PyProof.Rows L2
noncomputable def A.isRef : A -> Bool
  | .ref _ => true
  | _ => false
noncomputable def mIdxL (o : A) (as : List A) (S : Sto) : R A := match o, as with
  | .ref n, [x] => opt (lstAt S n) fun xs => gd (xs.all A.isRef = true /\ (∀ z ∈ xs, (eqA S 12 z x).isSome = true)) (opt (xs.findIdx? fun z => decide (eqA S 12 z x = some true)) fun k => .ok (.int (k : Nat)) S)
  | _, _ => .no
section
variable {X : Cx}
open Classical in
theorem m_idxL (hu : X.A.units + 64 < cLine) : MtR X "list.index" (rM X mIdxL) := fun pins s σ H x vs v us Q I rx rv ⟨ρ, S, o, as, R, vo, va, h⟩ => by
  cases vo with
  | @ref p n hp =>
    match as, va, h with
    | [], _, h => exact h.elim
    | _ :: _ :: _, _, h => exact h.elim
    | [y], va, h =>
      obtain ⟨w, rfl, hw⟩ := avs1 va
      obtain ⟨xs, hn, h⟩ := opt_post h
      obtain ⟨⟨hr, hs⟩, h⟩ := gd_post h
      obtain ⟨k, hk, h⟩ := opt_post h
      obtain ⟨ws, h1, r⟩ := R.lst hp (lstAt_of hn)
      cases rx
      obtain ⟨u, rfl, ru⟩ := rv.one
      obtain ⟨its, rv, pl, hsz⟩ := I.list (SqL.of h1)
      obtain ⟨⟨cls, dd, data, sl⟩, ho, hc, nn, hd⟩ := id pl.isList
      simp only at hc hd
      subst hc hd
      rw [List.findIdx?_eq_some_iff_getElem] at hk
      obtain ⟨hkl, hk1, hk2⟩ := hk
      have key : ∀ (m : Nat) (hm : m < its.toArray.size), ∃ (z : A) (q : Nat) (a : Addr), xs[m]? = some z /\ z = .ref q /\ ρ[q]? = some a /\ its.toArray[m] = .ref a := fun m hm => by
        have l1 := r.length
        have l2 := rv.length
        have hm' : m < xs.length := by simp at hm; omega
        obtain ⟨vz, hz1, hz2⟩ := r.get (List.getElem?_eq_getElem hm')
        obtain ⟨uz, hu1, hu2⟩ := rv.get hz1
        have e1 : its.toArray[m] = uz := by
          obtain ⟨_, e⟩ := List.getElem?_eq_some_iff.mp hu1
          simpa using e
        have f1 := List.all_eq_true.mp hr _ (List.getElem_mem hm')
        generalize hz : xs[m] = z at hz2 f1
        cases z with
        | ref q =>
          cases hz2 with
          | @ref a _ ha =>
            cases hu2
            exact ⟨_, q, a, by rw [List.getElem?_eq_getElem hm', hz], rfl, ha, e1⟩
        | _ => cases f1
      have same : ∀ {q q' : Nat} {a : Addr}, ρ[q]? = some a -> ρ[q']? = some a -> q = q' := fun {q q' a} e1 e2 => by
        obtain ⟨l1, e1⟩ := List.getElem?_eq_some_iff.mp e1
        obtain ⟨l2, e2⟩ := List.getElem?_eq_some_iff.mp e2
        exact (List.getElem_inj R.nd).mp (e1.trans e2.symm)
      have eAt : ∀ {q : Nat} {a : Addr} {b : Bool}, ρ[q]? = some a -> eqA S 12 (.ref q) y = some b -> decide (∃ m, ρ[m]? = some a /\ eqA S 12 (.ref m) y = some true) = b := fun {q a b} e1 e2 => by
        cases b with
        | true => exact decide_eq_true ⟨q, e1, e2⟩
        | false =>
          refine decide_eq_false fun ⟨m, g1, g2⟩ => ?_
          rw [same g1 e1, e2] at g2; cases g2
      have := line63
      have lx := rv.length
      have lr := r.length
      have hkz : k < its.toArray.size := by simp; omega
      have val : ∀ (m : Nat) (hm : m < its.toArray.size) (hm' : m < xs.length), (match its.toArray[m] with | .ref a => decide (∃ m, ρ[m]? = some a /\ eqA S 12 (.ref m) y = some true) | _ => false) = decide (eqA S 12 xs[m] y = some true) := fun m hm hm' => by
        obtain ⟨z, q, a, g1, g2, g3, g4⟩ := key m hm
        have ez : xs[m] = .ref q := by rw [List.getElem?_eq_getElem hm'] at g1; rw [<- g2]; exact Option.some.inj g1
        rw [g4, ez]
        have sm := hs _ (List.getElem_mem hm')
        rw [ez] at sm
        obtain ⟨b, hb⟩ := Option.isSome_iff_exists.mp sm
        rw [hb]
        refine (eAt g3 hb).trans ?_
        cases b <;> rfl
      refine call_meets F.slot_list_index ⟨_, ho, rfl⟩ F.entry_list_index (F.args_list_index_2 _ _) (SeqAt.list_indexAt p its.toArray nn dd sl u (fun w => match w with | .ref a => decide (∃ m, ρ[m]? = some a /\ eqA S 12 (.ref m) y = some true) | _ => false) k hkz (by omega) ?_ ?_) ⟨ho, fun z hz => ?_, .int k, H, I.tok _, ⟨_, rfl⟩, h _ _ _ .refl R (.int _)⟩
      · rw [val k hkz hkl]; exact hk1
      · intro m hm hmk
        rw [val m hm (by omega)]
        have := hk2 m hmk
        simpa using this
      · obtain ⟨m, hm, e⟩ := Array.mem_iff_getElem.mp hz
        subst e
        obtain ⟨z, q, a, g1, g2, g3, g4⟩ := key m hm
        have hm' : m < xs.length := by simp at hm; omega
        have ez : xs[m] = .ref q := by rw [List.getElem?_eq_getElem hm'] at g1; rw [<- g2]; exact Option.some.inj g1
        have sm := hs _ (List.getElem_mem hm')
        rw [ez] at sm
        obtain ⟨b, hb⟩ := Option.isSome_iff_exists.mp sm
        rw [g4]
        show SeqAt.EqAt _ _ _ _ (decide (∃ m, ρ[m]? = some a /\ eqA S 12 (.ref m) y = some true))
        rw [eAt g3 hb]
        exact (rc_at I R 12 X.A.in1 (.ref q) y (.ref a) w (.ref a) u b (by rw [in1_units]; omega) (.ref g3) hw rfl ru hb).2
  | _ => exact h.elim
end
end Am
set_option Elab.async false
set_option linter.all false
set_option maxRecDepth 100000
set_option maxHeartbeats 4000000
namespace Am
open PySem PySem.Spec PyProof.Rows L2
section
variable {X : Cx} {pos apos cpos : Pos} {a b o e : Expr} {es : List Expr}
noncomputable def A.isStr : A -> Bool
  | .str _ => true
  | _ => false
end
end Am
set_option Elab.async false
set_option linter.all false
set_option maxRecDepth 100000
set_option maxHeartbeats 4000000
namespace Am
open PySem PySem.Spec PyProof.Rows L2
section
variable {K : PySem.W.Frag} {ρ ρ' : List Addr} {H H' : Hp}
end
section
variable {X : Cx} {pos : Pos} {a b : Expr}
end
end Am
set_option Elab.async false
set_option linter.all false
set_option maxRecDepth 100000
set_option maxHeartbeats 4000000
namespace Am
open PySem PySem.Spec PyProof.Rows L2
section
variable {X : Cx} {pos : Pos} {a b : Expr}
end
end Am
set_option Elab.async false
set_option linter.all false
set_option maxRecDepth 100000
set_option maxHeartbeats 4000000
namespace Am
open PySem PySem.Spec PyProof.Rows L2
section
variable {X : Cx} {pos : Pos} {a b tg : Expr}
noncomputable def rvSrc (n k : Nat) : Src := ⟨k, fun i S => (lstAt S n).bind fun xs => if i < k then xs[k - 1 - i]? else none, fun _ => true⟩
noncomputable def kRv (a : A) (S : Sto) : R Src := match a with
  | .ref n => opt (lstAt S n) fun xs => .ok (rvSrc n xs.length) S
  | _ => .no
noncomputable def iRv (c : Ex) : Ic := fun τ S => (c τ S).bind fun a S1 => kRv a S1
theorem jr_rv {K : PySem.W.Frag} {ρ0 : List Addr} {H0 : Hp} {p : Addr} {n k : Nat} (hp : ρ0[n]? = some p) : JR K (rvSrc n k) (Itv K p k) ρ0 H0 where
  go := fun i S H ρ x e R g => by
    obtain ⟨xs, hn, g⟩ := Option.bind_eq_some_iff.mp g
    by_cases hi : i < k
    · rw [if_pos hi] at g
      obtain ⟨vs, h1, r1⟩ := R.lst (e.get hp) (lstAt_of hn)
      obtain ⟨v, ev, av⟩ := r1.get g
      refine ⟨⟨hi, vs, v, SqL.of h1, ev⟩, fun w H' z => ?_⟩
      obtain ⟨rfl, hz⟩ := z
      rw [hz vs v (SqL.of h1) ev]
      exact ⟨.refl, R, av⟩
    · rw [if_neg hi] at g; cases g
  stop := fun S H ρ e R hf => Nat.le_refl _
theorem ai_rev {p : Pos} {c : Ex} (hm : X.mg "reversed" = none) (ha : AE X a c) (hg : Gl X "reversed" := by rfl) (hs : starEach [a] X.env = [(false, eval a X.env)] := by rfl) : AI X tg (.Call (.Name "reversed" p) [a] [] pos) (iRv c) := fun pins s σ H Q I ⟨ρ, S, τ, R, r, h⟩ => by
  refine pi_rev hg hm (pa_cons ha pa_nil hs) hs pins s σ H Q I ⟨ρ, S, τ, R, r, post_ext (post_bind h) .refl fun x S1 h1 ρ1 H1 v e1 R1 v1 => ?_⟩
  cases v1 with
  | @ref p n hp =>
    obtain ⟨xs, hn, h1⟩ := opt_post h1
    obtain ⟨vs, g1, r1⟩ := R1.lst hp (lstAt_of hn)
    exact ⟨_, vs, rfl, SqL.of g1, h1 ρ1 H1 _ e1 R1 (by rw [<- r1.length]; exact jr_rv hp)⟩
  | _ => exact h1.elim
noncomputable def elSrc (n k : Nat) : Src := ⟨k, fun i S => (lstAt S n).bind fun xs => (xs[i]?).map fun x => .tup [.int i, x], fun S => match lstAt S n with
  | some ys => decide (ys.length = k)
  | none => false⟩
noncomputable def kEl (a : A) (S : Sto) : R Src := match a with
  | .ref n => opt (lstAt S n) fun xs => .ok (elSrc n xs.length) S
  | _ => .no
noncomputable def iEnL (c : Ex) : Ic := fun τ S => (c τ S).bind fun a S1 => kEl a S1
theorem jr_enL {K : PySem.W.Frag} {ρ0 : List Addr} {H0 : Hp} {p : Addr} {n k : Nat} (hp : ρ0[n]? = some p) : JR K (elSrc n k) (Itel K p) ρ0 H0 where
  go := fun i S H ρ x e R g => by
    obtain ⟨xs, hn, g⟩ := Option.bind_eq_some_iff.mp g
    obtain ⟨y, hy, rfl⟩ := Option.map_eq_some_iff.mp g
    obtain ⟨vs, h1, r1⟩ := R.lst (e.get hp) (lstAt_of hn)
    obtain ⟨v, ev, av⟩ := r1.get hy
    refine ⟨⟨vs, v, SqL.of h1, ev⟩, fun w H' q => ?_⟩
    obtain ⟨pp, hpp, rfl, hz⟩ := q
    have hz' := hz vs v (SqL.of h1) ev
    subst hz'
    obtain ⟨ex, R'⟩ := R.im (u := .tup [.int i, v]) hpp
    exact ⟨ex, R', .tup upd_same (.cons (.int _) (.cons (av.ext ex) .nil))⟩
  stop := fun S H ρ e R hf => by
    have hf : (match lstAt S n with
      | some ys => decide (ys.length = k)
      | none => false) = true := hf
    cases hn : lstAt S n with
    | none => rw [hn] at hf; cases hf
    | some xs =>
      rw [hn] at hf
      obtain ⟨vs, h1, r1⟩ := R.lst (e.get hp) (lstAt_of hn)
      exact ⟨vs, SqL.of h1, by rw [<- r1.length]; exact of_decide_eq_true hf⟩
theorem ai_enL {elts : List Expr} {x1 : Nat} {tpos p : Pos} {c : Ex} (hm : X.mg "enumerate" = none) (ha : AE X a c) (hg : Gl X "enumerate" := by rfl) (hs : starEach [a] X.env = [(false, eval a X.env)] := by rfl) : AI X (.Tuple elts x1 tpos) (.Call (.Name "enumerate" p) [a] [] pos) (iEnL c) := fun pins s σ H Q I ⟨ρ, S, τ, R, r, h⟩ => by
  refine pi_enumL hg hm (pa_cons ha pa_nil hs) hs pins s σ H Q I ⟨ρ, S, τ, R, r, post_ext (post_bind h) .refl fun x S1 h1 ρ1 H1 v e1 R1 v1 => ?_⟩
  cases v1 with
  | @ref p n hp =>
    obtain ⟨xs, hn, h1⟩ := opt_post h1
    obtain ⟨vs, g1, r1⟩ := R1.lst hp (lstAt_of hn)
    exact ⟨_, vs, rfl, SqL.of g1, h1 ρ1 H1 _ e1 R1 (jr_enL hp)⟩
  | _ => exact h1.elim
theorem iRv_ap {c : Ex} {τ : List A} {S S1 : Sto} {n : Nat} {xs : List A} (h : c τ S = .ok (.ref n) S1) (hn : lstAt S1 n = some xs) : iRv c τ S = .ok (rvSrc n xs.length) S1 := by
  unfold iRv
  rw [h]
  show opt (lstAt S1 n) _ = _
  rw [hn]; rfl
theorem iEnL_ap {c : Ex} {τ : List A} {S S1 : Sto} {n : Nat} {xs : List A} (h : c τ S = .ok (.ref n) S1) (hn : lstAt S1 n = some xs) : iEnL c τ S = .ok (elSrc n xs.length) S1 := by
  unfold iEnL
  rw [h]
  show opt (lstAt S1 n) _ = _
  rw [hn]; rfl
end
end Am
set_option Elab.async false
set_option linter.all false
set_option maxRecDepth 100000
set_option maxHeartbeats 4000000
namespace Am
open PySem PySem.Spec PyProof.Rows L2
structure Out (ρ1 : List Addr) (H1 : Hp) (D : Addr) (accV : List V) (ρ : List Addr) (H : Hp) : Prop where
  e0 : Ext0 ρ1 ρ H1 H
  fr : ∀ a u, a ≠ D -> H1 a = some u -> a ∉ ρ1 -> H a = some u
  nw : ∀ a ∈ ρ, a ∈ ρ1 \/ H1 a = none
  nD : D ∉ ρ
  hD : H D = some (.lst accV)
section
variable {X : Cx} {pos : Pos} {tg iter tg2 iter2 elt e : Expr} {ifs ifs2 : List Expr} {scope : Scope} {N : List Str} {cap : List (Option Nat)} {src src2 : Ic} {g g2 : Tg} {t t2 : Te} {c : Ex}
end
end Am
set_option Elab.async false
set_option linter.all false
set_option maxRecDepth 100000
set_option maxHeartbeats 4000000
namespace Am
open PySem PySem.Spec PyProof.Rows L2
noncomputable def spX (K : PySem.W.Frag) (n : Nat) (F : List A -> Sto -> R A) : Sp := fun vs H Q E => vs.length = n /\ ∃ ρ S as, Rel K ρ H S /\ AVs K ρ H as vs /\ (F as S).post (fun a S' => ∀ ρ' H' v, Ext ρ ρ' H H' -> Rel K ρ' H' S' -> AV K ρ' H' a v -> Q v H') (fun c S' => ∀ C ρ' H', ClN K c C -> Ext ρ ρ' H H' -> Rel K ρ' H' S' -> E (.ref C) none H')
section
variable {P : Program} {w : World} {K : PySem.W.Frag} {mg : Str -> Option Value} {base : Heap}
theorem Fun.okX {x qual : Str} {st : Stmt} {f : Addr} {fd : FuncData} {N ps : List Str} {k : Nat} {sp : Sp} (F : Fun K x qual st f fd) (S : FnScope N ps (defScope st)) (len : ∀ vs H Q E, sp vs H Q E -> vs.length = ps.length)
    (hb : ∀ (cdv : Value) (A : Around) (outer : List Env) (s : Shared) (H : Hp) (vs : List V) (Q : VK) (E : XK), Room k (A.deeper (envOfC qual (defScope st) s.heap.objs.size f cdv)) -> sp vs H Q E -> ∃ t, PSs (cxOf (CXA P w) P w K mg base N qual (defScope st) f cdv A outer s H E) (defBody st) t /\ t { nx := fun _ H' => Q .non H', rt := Q } (L2.start N vs) H) : FnOk P w K mg base (CXA P w) (k + 1) f fd ps sp := by
  obtain ⟨oc, od, kV, doc, pm, an, cdv, ct, osl, rfl, lk, hcd⟩ := F.ex
  exact fn_of lk hcd S len fun A outer s H vs Q E hr hsp => hb cdv A outer s H vs Q E hr hsp
theorem fnX {x qual : Str} {st : Stmt} {f : Addr} {fd : FuncData} {N ps : List Str} {k : Nat} {m : Sm} (F : Fun K x qual st f fd) (Sc : FnScope N ps (defScope st))
    (body : ∀ (cdv : Value) (A : Around) (outer : List Env) (s : Shared) (H : Hp) (E : XK), Room k (A.deeper (envOfC qual (defScope st) s.heap.objs.size f cdv)) -> ASs (cxOf (CXA P w) P w K mg base N qual (defScope st) f cdv A outer s H E) (defBody st) m) :
    FnOk P w K mg base (CXA P w) (k + 1) f fd ps (spX K ps.length (runF N m)) := by
  refine Fun.okX F Sc (fun vs H Q E h => h.1) fun cdv B outer s H vs Q E hr ⟨hl, ρ, S, as, R, va, q⟩ => ⟨_, body cdv B outer s H E hr, ρ, S, _, R, startSR va N, ?_⟩
  unfold runF at q
  cases hm : m (as ++ List.replicate (N.length - as.length) .unb) S with
  | rt b S2 => rw [hm] at q; exact q
  | nx τ S2 => rw [hm] at q; exact fun ρ' H' σ' e R' _ => q ρ' H' _ e R' .non
  | bk τ S2 => rw [hm] at q; exact q.elim
  | ct τ S2 => rw [hm] at q; exact q.elim
  | no => rw [hm] at q; exact q.elim
  | ex c S2 =>
    rw [hm] at q
    intro C ρ' H' n e R'
    exact ⟨rfl, fun pins σ' s' ea I Ra => cxa_leave I rfl Ra (q C ρ' H' n e R')⟩
end
noncomputable def KnX (P : Program) (w : World) (K : PySem.W.Frag) (mg : Str -> Option Value) (base : Heap) (k : Nat) (x : Str) (ps : List Str) (F : List A -> Sto -> R A) : Prop :=
  ∃ (f : Addr) (fd : FuncData), FnOk P w K mg base (CXA P w) k f fd ps (spX K ps.length F) /\ mg x = some (.ref f) /\ PySem.W.keepIn K (.ref f) = true /\ Binds K fd ps []
noncomputable def eFnX (F : List A -> Sto -> R A) (d : Exs) : Ex := fun τ S => (d τ S).bind fun as S1 => F as S1
section
variable {X : Cx} {pos p : Pos} {e : Expr} {es : List Expr} {x : Str} {ps : List Str} {k : Nat} {F : List A -> Sto -> R A} {d : Exs}
theorem ae_fnX (G : KnX X.prog X.w X.K X.mg X.base k x ps F) (hr : Room k X.A) (ha : AL X (e :: es) d) (hl : ∀ τ S as S', d τ S = .ok as S' -> as.length = ps.length) (hg : Gl X x := by rfl) (hdb : (x == ("__debug__" : Str)) = false := by decide)
    (hs : starEach (e :: es) X.env = (false, eval e X.env) :: starEach es X.env := by rfl) (hplain : (backTo pos (starEach es X.env)).any (·.1) = false := by rfl) : AE X (.Call (.Name x p) (e :: es) [] pos) (eFnX F d) := by
  obtain ⟨f, fd, Fo, hm, hk, hb⟩ := G
  refine PE.imp (pe_call Fo hr hg hm hk hb .nil (cxa_pass (X := X) rfl rfl) ha hdb hs hplain) fun σ H Q ⟨ρ, S, τ, R, r, h⟩ => ?_
  refine ⟨ρ, S, τ, R, r, ?_⟩
  have hq := post_bind h
  cases hd : d τ S with
  | no => rw [hd] at hq; exact hq
  | ex c S1 => rw [hd] at hq; exact hq
  | ok as S1 =>
    rw [hd] at hq
    intro ρ1 H1 vs e1 R1 v1
    rw [List.append_nil]
    refine ⟨by rw [<- v1.length]; exact hl τ S as S1 hd, ρ1, S1, as, R1, v1, post_mono hq (fun a S2 q ρ2 H2 v e2 => q ρ2 H2 v (e1.trans e2)) fun c S2 q C ρ2 H2 n e2 => q C ρ2 H2 n (e1.trans e2)⟩
end
noncomputable def bmV : List Value := [.type "ValueError", .type "Exception", .type "BaseException", .type "object"]
theorem own_K {K : PySem.W.Frag} {mg : Str -> Option Value} {base : Heap} {x : Str} {C : Addr} {bmB : List Value} {newId : String} (M : Mod K mg base) (e : ClN K x C) (q : PySem.W.excIn K C bmB newId = true) : OwnCls x C bmB newId mg base := by
  refine ⟨PySem.W.mg_of M.kin M.glob e, ?_⟩
  unfold PySem.W.excIn at q
  split at q
  · rename_i dd cd sl ho
    split at q
    · rename_i C' bm k0 k1 k2 k3 nw k5 hm hs
      rw [Bool.and_eq_true, Bool.and_eq_true, Bool.and_eq_true, Bool.and_eq_true, Bool.and_eq_true] at q
      obtain ⟨⟨⟨⟨⟨q1, q2⟩, q3⟩, q4⟩, q5⟩, q6⟩ := q
      have q1 := beq_iff_eq.mp q1
      have q2 := beq_iff_eq.mp q2
      have q3 : cd.hasDel = false := by simpa using q3
      have q6 := beq_iff_eq.mp q6
      subst q1 q2
      obtain ⟨nm, bs, mro, ns, qn, hd, sn, sub, ab, col, del⟩ := cd
      have hm : mro = _ := hm
      have q3 : del = false := q3
      subst hm q3
      obtain ⟨sl⟩ := sl
      have hs : sl = _ := hs
      subst hs
      exact ⟨bm, ns, nm, qn, bs, hd, sn, sub, ab, col, dd, k0, k1, k2, k3, k5, _, M.kin _ _ ho, .of_isNs (PySem.W.isNs_of_in M.kin q5), PySem.W.nsMap_none_of_in M.kin q5 q6, PySem.W.tail_of_in M.kin q4⟩
    · cases q
  · cases q
noncomputable def fsR : List (Str ⊕ Ex) -> List A -> Sto -> R Unit
  | [], _, S => .ok () S
  | .inl _ :: ps, τ, S => fsR ps τ S
  | .inr e :: ps, τ, S => (e τ S).bind fun v S1 => match v with
    | .int i => gd (i.natAbs.log2 < 64) (fsR ps τ S1)
    | _ => .no
noncomputable def fsOk : List (Str ⊕ Ex) -> Bool
  | [] => true
  | .inl x :: ps => decide (x.length <= 1000) && fsOk ps
  | .inr _ :: ps => fsOk ps
noncomputable def sRaise (c : Str) (ps : List (Str ⊕ Ex)) : Sm := fun τ S => .of (fsR ps τ S) fun _ S1 => .ex c S1
noncomputable def tPs (X : Cx) : List (Str ⊕ Ex) -> List (Str ⊕ TE)
  | [] => []
  | .inl x :: ps => .inl x :: tPs X ps
  | .inr e :: ps => .inr (tE X e) :: tPs X ps
section
variable {X : Cx} {pos np cpos fp : Pos} {x : Str} {C : Addr} {e1 e2 : Expr} {es : List Expr} {ps : List (Str ⊕ Ex)}
theorem parts_imp {ρ0 : List Addr} {H0 : Hp} {σ : L2.St} {τ : List A} {k : Hp -> Prop} (c : Str) (hk : ∀ ρ H S, Ext ρ0 ρ H0 H -> Rel X.K ρ H S -> XE X ρ0 H0 c S -> k H) : ∀ (ps : List (Str ⊕ Ex)) (ρ : List Addr) (H : Hp) (S : Sto), fsOk ps = true -> Ext ρ0 ρ H0 H -> Rel X.K ρ H S -> SR X.K ρ H τ σ ->
    (fsR ps τ S).post (fun _ S' => XE X ρ0 H0 c S') (XE X ρ0 H0) -> tParts (tPs X ps) σ H k
  | [], ρ, H, S, _, e, R, r, h => hk ρ H S e R h
  | .inl x :: ps, ρ, H, S, ok, e, R, r, h => by
    obtain ⟨hx, ok⟩ := Bool.and_eq_true_iff.mp ok
    exact ⟨of_decide_eq_true hx, parts_imp c hk ps ρ H S ok e R r h⟩
  | .inr a :: ps, ρ, H, S, ok, e, R, r, h => by
    refine ⟨ρ, S, τ, R, r, ?_⟩
    have h := post_bind h
    refine post_mono h (fun v S1 h1 ρ1 H1 u e1 R1 v1 => ?_) fun c' S' z => z.ext e
    cases v with
    | int i =>
      obtain ⟨hi, h1⟩ := gd_post h1
      cases v1
      exact ⟨i, rfl, hi, parts_imp c hk ps ρ1 H1 S1 ok (e.trans e1) R1 (r.ext e1) h1⟩
    | _ => exact h1.elim
theorem as_raiseF (hn : ClN X.K x C) (hq : PySem.W.excIn X.K C bmV "ValueError.__new__" = true) (hh : X.A.handled = none) (hp : FParts X (e1 :: e2 :: es) (tPs X ps)) (hfs : fsOk ps = true := by rfl) (hg : Gl X x := by rfl) (hl : 2000 * (e1 :: e2 :: es).length <= sizeLine := by decide)
    (hs : starEach [.JoinedStr (e1 :: e2 :: es) fp] X.env = (false, eval (.JoinedStr (e1 :: e2 :: es) fp) X.env) :: starEach [] X.env := by rfl) (hpl : (backTo cpos (starEach [] X.env)).any (·.1) = false := by rfl) (hd : (x == ("__debug__" : Str)) = false := by decide) :
    AS X (.Raise (some (.Call (.Name x np) [.JoinedStr (e1 :: e2 :: es) fp] [] cpos)) none pos) (sRaise x ps) := by
  intro pins s σ H D I ⟨ρ, S, τ, R, r, h⟩
  refine ps_raise (own_K I.mod hn hq) PySem.F.excBase_ValueError hh (pa_cons (pe_fs hp hl) pa_nil hs) hg hs hpl hd pins s σ H D I ?_
  refine parts_imp (X := X) (ρ0 := ρ) (H0 := H) x (fun ρ1 H1 S1 e1 R1 z y hy => ?_) ps ρ H S hfs .refl R r (of_post h)
  exact ⟨(show 1 <= sizeLine by decide), z C ρ1 H1 hn e1 R1⟩
end
noncomputable def unR (i : Nat) : RS -> RS
  | .nx τ S => .nx (τ.set i .unb) S
  | .bk τ S => .bk (τ.set i .unb) S
  | .ct τ S => .ct (τ.set i .unb) S
  | .rt a S => .rt a S
  | _ => .no
noncomputable def sTry (i n : Nat) (cs : List Str) (c d : Sm) : Sm := fun τ S => match c τ S with
  | .ex x S1 => if x ∈ cs then unR i (d ((List.replicate n .unb).set i (.exn x)) S1) else .no
  | r => r
theorem SR.unset {K : PySem.W.Frag} {ρ : List Addr} {H : Hp} {τ : List A} {σ : L2.St} {i : Nat} (s : SR K ρ H τ σ) : SR K ρ H (τ.set i .unb) (σ.set i none) := by
  refine ⟨by simp [s.len], fun j b e => ?_⟩
  by_cases hj : j = i
  · subst hj
    have hl : j < τ.length := by
      have := (List.getElem?_eq_some_iff.mp e).1
      simpa using this
    rw [List.getElem?_set_self hl] at e
    cases e
    exact .inl rfl
  · rw [List.getElem?_set_ne (Ne.symm hj)] at e
    rw [List.getElem?_set_ne (Ne.symm hj)]
    exact s.at j b e
section
variable {X : Cx} {pos np hp : Pos} {y n : Str} {Dc : Addr} {i : Nat} {body suite : List Stmt} {b0 : Stmt} {c d : Sm} {cs : List Str}
theorem as_try (hb : ∀ pn' xe', ASs (X.tryb pn' xe') body c) (hh : ∀ pn' e oe C, XO C oe -> ASs (X.hand pn' e oe) (b0 :: suite) d) (hN : X.N.Nodup) (hD : ClN X.K y Dc) (mD : L2.mroIn X.K Dc = some bmV) (hcs : ∀ x ∈ cs, ∃ C, ClN X.K x C /\ L2.mroIn X.K C = some (.ref Dc :: bmV))
    {ln : Nat} (hln : X.N.length = ln := by rfl) (hi : X.N[i]? = some n := by rfl) (hlo : X.env.scope.names.lookup n = some .local := by rfl) (hst : X.stack = X.env :: X.outer := by rfl) (hf : X.env.frame = some X.env.locals := by rfl) (hex : X.ex = [] := by rfl) (hg : Gl X y := by rfl) (hdb : (y == ("__debug__" : Str)) = false := by decide) :
    AS X (.Try body [.ExceptHandler (some (.Name y np)) (some n) (b0 :: suite) hp] [] [] pos) (sTry i ln cs c d) := by
  subst hln
  intro pins s σ H D I ⟨ρ, S, τ, R, r, h⟩
  refine wpAny_Try_except ?_
  have tl : τ.length = X.N.length := by rw [r.len]; exact I.len
  have hgo : ∀ xe', (∀ x S1, c τ S = .ex x S1 -> XE (X.tryb (X.pn ++ pins) xe') ρ H x S1) -> enP (X.tryb (X.pn ++ pins) xe') ρ H D (c τ S) := fun xe' hx => by
    have h : enP X ρ H D (sTry i X.N.length cs c d τ S) := h
    unfold sTry at h
    cases hc : c τ S with
    | nx τ' S' => rw [hc] at h; exact h
    | rt a S' => rw [hc] at h; exact h
    | bk τ' S' => rw [hc] at h; exact h
    | ct τ' S' => rw [hc] at h; exact h
    | no => rw [hc] at h; exact h
    | ex x S1 => exact hx x S1 hc
  refine wpAny_mono (hb (X.pn ++ pins) _ [] s σ H D (I.tryb _) ⟨ρ, S, τ, R, r, hgo _ fun x S1 hc C ρ1 H1 hn e1 R1 => ?_⟩) (fun f s1 hs => ?_) fun e s1 z => z
  · refine ⟨hex, fun pins' σ' s' e I' R' => ?_⟩
    have h : enP X ρ H D (sTry i X.N.length cs c d τ S) := h
    unfold sTry at h
    rw [hc] at h
    have h : enP X ρ H D (if x ∈ cs then unR i (d ((List.replicate X.N.length .unb).set i (.exn x)) S1) else .no) := h
    by_cases hx : x ∈ cs
    · rw [if_pos hx] at h
      obtain ⟨C', hn', mC⟩ := hcs x hx
      have : C' = C := by
        have z := hn'.symm.trans hn
        injection z with z
        injection z with z
        injection z
      subst this
      have hm : X.mg y = some (.ref Dc) := PySem.W.mg_of I.mod.kin I.mod.glob hD
      refine catch_ok hst hf hex hN hi hlo hg hm mD (by decide) I' R' mC (by simp) (fun oe s6 xo hn0 I6 => ?_) I.ok hdb
      obtain ⟨ex, Rn⟩ := R1.im (u := .frz oe xu) hn0
      refine hh (X.pn ++ pins) e oe C' xo [] s6 _ _ (unD i D) I6 ⟨ρ1, S1, (List.replicate X.N.length .unb).set i (.exn x), Rn, SR.set ⟨?_, fun j b z => ?_⟩ (.exn hn' upd_same xo), ?_⟩
      · rw [List.length_replicate]; exact I'.len.symm
      · rw [List.getElem?_replicate] at z
        split at z
        · exact .inl (Option.some.inj z).symm
        · cases z
      · have e2 := e1.trans ex
        cases hd : d ((List.replicate X.N.length .unb).set i (.exn x)) S1 with
        | nx τ' S' => rw [hd] at h; exact fun ρ' H' σ' e' R' r' => h ρ' H' _ (e2.trans e') R' r'.unset
        | bk τ' S' => rw [hd] at h; exact fun ρ' H' σ' e' R' r' => h ρ' H' _ (e2.trans e') R' r'.unset
        | ct τ' S' => rw [hd] at h; exact fun ρ' H' σ' e' R' r' => h ρ' H' _ (e2.trans e') R' r'.unset
        | rt a S' => rw [hd] at h; exact fun ρ' H' v e' R' r' => h ρ' H' v (e2.trans e') R' r'
        | ex _ _ => rw [hd] at h; exact h.elim
        | no => rw [hd] at h; exact h.elim
    · rw [if_neg hx] at h; exact h.elim
  · cases f with
    | next => obtain ⟨σ', H', J, q⟩ := hs; exact wpAny_execs_nil ⟨σ', H', J.untry, q⟩
    | brk => obtain ⟨σ', H', J, q⟩ := hs; exact ⟨σ', H', J.untry, q⟩
    | cont => obtain ⟨σ', H', J, q⟩ := hs; exact ⟨σ', H', J.untry, q⟩
    | ret u => obtain ⟨v, σ', H', J, rv, q⟩ := hs; exact ⟨v, σ', H', J.untry, rv, q⟩
end
noncomputable def eIsX (f : Str -> Option Bool) (c : Ex) : Ex := fun τ S => (c τ S).bind fun v S1 => match v with
  | .exn x => opt (f x) fun b => .ok (.bl b) S1
  | _ => .no
section
variable {X : Cx} {pos p py : Pos} {a : Expr} {y : Str} {vy : V} {cy : Value} {f : Str -> Option Bool} {c : Ex}
theorem call_isX (ry : ∀ u, RelV vy u -> u = cy) (hf : ∀ x b C, f x = some b -> ClN X.K x C -> XCls X.K C /\ (PySem.W.clsIn X.K C).isSome = true /\ PySem.W.kitOne X.K (.ref C) cy = some b) :
    CallR X (.builtin "isinstance") (fun xs H Q => ∃ ρ S x v b, Rel X.K ρ H S /\ xs = [v, vy] /\ AV X.K ρ H (.exn x) v /\ f x = some b /\ Q (.bl b) H) := by
  intro pins s σ H xs us Q I r ⟨ρ, S, x, v, b, R, exs, va, hb, q⟩
  subst exs
  obtain ⟨u, w', rfl, r1, r2⟩ := vals2 r
  have := ry _ r2
  subst this
  cases va with
  | exn n h xo =>
    obtain ⟨g1, g2, g3⟩ := hf _ _ _ hb n
    cases (show u = Value.ref _ from r1)
    exact isinst_exc g1 g2 I h xo g3 fun tk => ⟨.bl b, H, I.tok tk, rfl, q⟩
theorem ae_isX (hy : PE X (.Name y py) (tC vy)) (ry : ∀ u, RelV vy u -> u = cy) (hf : ∀ x b C, f x = some b -> ClN X.K x C -> XCls X.K C /\ (PySem.W.clsIn X.K C).isSome = true /\ PySem.W.kitOne X.K (.ref C) cy = some b) (ha : AE X a c) (hm : X.mg "isinstance" = none) (hg : Gl X "isinstance" := by rfl)
    (he : starEach [a, .Name y py] X.env = (false, eval a X.env) :: starEach [.Name y py] X.env := by rfl) (he2 : starEach [.Name y py] X.env = (false, eval (.Name y py) X.env) :: starEach [] X.env := by rfl) (hpl : (backTo pos (starEach [.Name y py] X.env)).any (·.1) = false := by rfl) :
    AE X (.Call (.Name "isinstance" p) [a, .Name y py] [] pos) (eIsX f c) :=
  PE.imp (pe_callB (call_isX ry hf) hg hm bt_isinstance (pa_cons ha (pa_cons hy pa_nil he2) he) (by decide) (by decide) he hpl) fun σ H Q ⟨ρ, S, τ, R, r, h⟩ => by
    refine ⟨ρ, S, τ, R, r, post_ext (post_bind h) .refl fun v S1 h1 ρ1 H1 x e1 R1 v1 => ?_⟩
    cases v with
    | exn n =>
      obtain ⟨b, hb, h1⟩ := opt_post h1
      exact ⟨ρ1, S1, n, x, b, R1, rfl, v1, hb, h1 ρ1 H1 _ e1 R1 (.bl b)⟩
    | _ => exact h1.elim
end
structure ExcK (K : PySem.W.Frag) (U : Addr) (c : Str) (C : Addr) : Prop where
  n : ClN K c C
  q : PySem.W.excIn K C bmV "ValueError.__new__" = true
  r : L2.mroIn K C = some (.ref U :: bmV)
  x : XCls K C
  cl : (PySem.W.clsIn K C).isSome = true
  v : PySem.W.kitOne K (.ref C) (.type "ValueError") = some true
theorem bt_ValueError : bootBuiltins "ValueError" = some (.type "ValueError") := by decide +kernel
noncomputable def tbX (tb : List (Str × Bool)) : Str -> Option Bool := fun x => tb.lookup x
theorem tb_of {K : PySem.W.Frag} {cy : Value} {tb : List (Str × Bool)} (h : ∀ p ∈ tb, ∃ C, ClN K p.1 C /\ XCls K C /\ (PySem.W.clsIn K C).isSome = true /\ PySem.W.kitOne K (.ref C) cy = some p.2) : ∀ x b C, tbX tb x = some b -> ClN K x C -> XCls K C /\ (PySem.W.clsIn K C).isSome = true /\ PySem.W.kitOne K (.ref C) cy = some b := fun x b C e n => by
  obtain ⟨C', n', g⟩ := h (x, b) (PySem.mem_of_lookup e)
  have : C' = C := by
    have z := n'.symm.trans n
    injection z with z
    injection z with z
    injection z
  subst this
  exact g
section
variable {X : Cx} {pos p py : Pos} {a : Expr} {y : Str} {Cy : Addr} {tb : List (Str × Bool)} {c : Ex}
theorem ae_isC (hm : X.mg y = some (.ref Cy)) (h : ∀ p ∈ tb, ∃ C, ClN X.K p.1 C /\ XCls X.K C /\ (PySem.W.clsIn X.K C).isSome = true /\ PySem.W.kitOne X.K (.ref C) (.ref Cy) = some p.2) (ha : AE X a c) (hi : X.mg "isinstance" = none) (hg : Gl X "isinstance" := by rfl) (hgy : Gl X y := by rfl) (hdb : (y == ("__debug__" : Str)) = false := by decide)
    (he : starEach [a, .Name y py] X.env = (false, eval a X.env) :: starEach [.Name y py] X.env := by rfl) (he2 : starEach [.Name y py] X.env = (false, eval (.Name y py) X.env) :: starEach [] X.env := by rfl) (hpl : (backTo pos (starEach [.Name y py] X.env)).any (·.1) = false := by rfl) :
    AE X (.Call (.Name "isinstance" p) [a, .Name y py] [] pos) (eIsX (tbX tb) c) := ae_isX (vy := .ref Cy) (cy := .ref Cy) (pe_glob hgy hm rfl hdb) (fun u r => r) (tb_of h) ha hi hg he he2 hpl
theorem ae_isV (hm : X.mg "ValueError" = none) (h : ∀ p ∈ tb, ∃ C, ClN X.K p.1 C /\ XCls X.K C /\ (PySem.W.clsIn X.K C).isSome = true /\ PySem.W.kitOne X.K (.ref C) (.type "ValueError") = some p.2) (ha : AE X a c) (hi : X.mg "isinstance" = none) (hg : Gl X "isinstance" := by rfl) (hgy : Gl X "ValueError" := by rfl)
    (he : starEach [a, .Name "ValueError" py] X.env = (false, eval a X.env) :: starEach [.Name "ValueError" py] X.env := by rfl) (he2 : starEach [.Name "ValueError" py] X.env = (false, eval (.Name "ValueError" py) X.env) :: starEach [] X.env := by rfl) (hpl : (backTo pos (starEach [.Name "ValueError" py] X.env)).any (·.1) = false := by rfl) :
    AE X (.Call (.Name "isinstance" p) [a, .Name "ValueError" py] [] pos) (eIsX (tbX tb) c) := ae_isX (vy := .ty "ValueError") (cy := .type "ValueError") (pe_bltn hgy hm bt_ValueError rfl (by decide) (by decide)) (fun u r => r) (tb_of h) ha hi hg he he2 hpl
end
section
variable {P : Program} {w : World} {K : PySem.W.Frag} {mg : Str -> Option Value} {base : Heap}
theorem fnH {x qual : Str} {st : Stmt} {f : Addr} {fd : FuncData} {N ps : List Str} {k : Nat} {m : Sm} (F : Fun K x qual st f fd) (Sc : FnScope N ps (defScope st))
    (body : ∀ (cdv : Value) (A : Around) (outer : List Env) (s : Shared) (H : Hp) (e : Addr) (oe : Obj) (C : Addr), RoomH k (A.deeper (envOfC qual (defScope st) s.heap.objs.size f cdv)) -> A.handled = some (.ref e) -> H e = some (.frz oe xu) -> XO C oe -> ASs (cxH P w K mg base N qual (defScope st) f cdv A outer s H) (defBody st) m) :
    FnOkH P w K mg base (k + 1) f fd ps (spA K ps.length (runF N m)) := by
  refine fn_ofH F Sc (fun vs H Q E h => h.1) fun cdv B outer s H vs Q e oe C hr hx ⟨hl, ρ, S, as, a, S', R, va, hF, q⟩ => ⟨_, body cdv B outer s H e oe C hr hx.hh hx.h0 hx.xo, ρ, S, _, R, startSR va N, ?_⟩
  unfold runF at hF
  cases hm : m (as ++ List.replicate (N.length - as.length) .unb) S with
  | rt b S2 => rw [hm] at hF; cases hF; exact q
  | nx τ S2 => rw [hm] at hF; cases hF; exact fun ρ' H' σ' e R' _ => q ρ' H' _ e R' .non
  | bk τ S2 => rw [hm] at hF; cases hF
  | ct τ S2 => rw [hm] at hF; cases hF
  | ex c S2 => rw [hm] at hF; cases hF
  | no => rw [hm] at hF; cases hF
end
noncomputable abbrev KnHA (P : Program) (w : World) (K : PySem.W.Frag) (mg : Str -> Option Value) (base : Heap) (k : Nat) (x : Str) (ps : List Str) (F : List A -> Sto -> R A) : Prop := KnH P w K mg base k x ps (spA K ps.length F)
theorem ae_fnH {X : Cx} {pos p : Pos} {a : Expr} {es : List Expr} {x : Str} {ps : List Str} {k : Nat} {F : List A -> Sto -> R A} {d : Exs} {e C : Addr} {oe : Obj} (G : KnHA X.prog X.w X.K X.mg X.base k x ps F) (hr : RoomH k X.A) (hh : X.A.handled = some (.ref e)) (h0 : X.H₀ e = some (.frz oe xu)) (xo : XO C oe) (ha : AL X (a :: es) d) (hl : ∀ τ S as S', d τ S = .ok as S' -> as.length = ps.length) (hg : Gl X x := by rfl) (hdb : (x == ("__debug__" : Str)) = false := by decide)
    (hs : starEach (a :: es) X.env = (false, eval a X.env) :: starEach es X.env := by rfl) (hplain : (backTo pos (starEach es X.env)).any (·.1) = false := by rfl) : AE X (.Call (.Name x p) (a :: es) [] pos) (eFn F d) :=
  PE.imp (pe_knH G hr hh h0 xo ha hg hdb hs hplain) fun σ H Q ⟨ρ, S, τ, R, r, h⟩ => by
    refine ⟨ρ, S, τ, R, r, ?_⟩
    have hq := post_bind h
    cases hd : d τ S with
    | no => rw [hd] at hq; exact hq
    | ex c S1 => rw [hd] at hq; exact hq
    | ok as S1 =>
      rw [hd] at hq
      intro ρ1 H1 vs e1 R1 v1
      rw [List.append_nil]
      refine ⟨by rw [<- v1.length]; exact hl τ S as S1 hd, ρ1, S1, as, ?_⟩
      have hq : Am.R.post (match F as S1 with
        | .ok a S2 => .ok a S2
        | _ => .no) (okP X ρ H Q) (XE X ρ H) := hq
      cases hF : F as S1 with
      | ok a S2 => rw [hF] at hq; exact ⟨a, S2, R1, v1, rfl, fun ρ2 H2 v e2 => hq ρ2 H2 v (e1.trans e2)⟩
      | ex c S2 => rw [hF] at hq; exact hq.elim
      | no => rw [hF] at hq; exact hq.elim
noncomputable def eFnK (F : List A -> Sto -> R A) (d : Exs) : Ex := fun τ S => match d τ S with
  | .ok as S1 => F as S1
  | _ => .no
section
variable {X : Cx} {pos p : Pos} {e : Expr} {es : List Expr} {x : Str} {ps : List Str} {k : Nat} {F : List A -> Sto -> R A} {d : Exs}
noncomputable def sIfK (t : Te) (c d : Sm) : Sm := fun τ S => match t τ S with
  | .ok true S1 => c τ S1
  | .ok false S1 => d τ S1
  | _ => .no
end
noncomputable def sTryL (i : Nat) (cs : List Str) (c d : Sm) : Sm := fun τ S => match c τ S with
  | .ex x S1 => if x ∈ cs then unR i (d (τ.set i (.exn x)) S1) else .no
  | r => r
section
variable {X : Cx} {pos np hp : Pos} {y n : Str} {Dc : Addr} {i : Nat} {suite : List Stmt} {b b0 : Stmt} {c d : Sm} {cs : List Str}
end
end Am
set_option Elab.async false
set_option linter.all false
set_option maxRecDepth 100000
set_option maxHeartbeats 4000000
namespace L2
open PySem PySem.Spec PyProof.Rows
noncomputable def HX (e : Addr) (oe : Obj) (Y : Cx) : Prop := Y.A.handled = some (.ref e) /\ Y.H₀ e = some (.frz oe xu)
theorem turn_listH {P : Program} {w : World} {K : PySem.W.Frag} {tg : Expr} {e C : Addr} {oe : Obj} (ho : XO C oe) (a it : Addr) : TurnG (HX e oe) P w K tg (Itl K a) [it] it (fun i h => h.IsListIter it a i) where
  obj := (turn_list (P := P) (w := w) (K := K) (tg := tg) a it).obj
  keep := (turn_list (P := P) (w := w) (K := K) (tg := tg) a it).keep
  item := by
    intro X hP hw hK hc i pins s σ H E I hf st hg
    subst hP hw hK
    obtain ⟨xs, x, hq, hx⟩ := hg
    obtain ⟨its, rv, p, hz⟩ := I.list hq
    obtain ⟨u, hu, ru⟩ := rv.get hx
    obtain ⟨f0, f1, f2, f3, f4, f5⟩ := hf it (by simp)
    refine wpAny_pyNext_list_item st p.isList (x := u) (by simpa using hu) fun h' st' sb => ?_
    have I1 : Inv X pins σ H { s with heap := h' } := I.turned (t' := s.toks) (fun b o hb e => (sb.2 b hb).trans e) f0 f1 f3 f4 f5
    obtain ⟨o, e, c, d⟩ := id st'
    exact ⟨u, rfl, go_of (s := { s with heap := h' }) e c d (by decide) ⟨x, H, I1, ru, ⟨rfl, fun ys hy => by rw [I.list_inj hy hq]; exact hx⟩, st', fun b hb => (hf b hb).1⟩⟩
  done := by
    intro X hP hw hK hc i pins s σ H E I hf st hg
    subst hP hw hK
    obtain ⟨xs, hq, hx⟩ := hg
    obtain ⟨its, rv, p, hz⟩ := I.list hq
    obtain ⟨f0, f1, f2, f3, f4, f5⟩ := hf it (by simp)
    obtain ⟨vs, d1, d2⟩ := ho.ctx
    have fe := I.base.frzs e oe xu hc.2
    obtain ⟨ge, _⟩ := I.hok e _ fe
    have hl := rv.length
    exact next_end_h hc.1 ge d1 d2 (fun z => by rw [z, f0] at fe; cases fe) st p.isList (by simp; omega) fun h' eb => ⟨rfl, I.turned (t' := s.toks) (fun b o hb e => eb b o hb e) f0 f1 f3 f4 f5⟩
  self := fun _ _ _ _ _ st h => wpAny_pyIter_listiter st h
theorem pi_listH {X : Cx} {tg : Expr} {e C : Addr} {oe : Obj} (ho : XO C oe) {l : Expr} {tl : TE} (hl : PE X l tl) : PIg (HX e oe) X tg l (iList X.K tl) := by
  intro pins s σ H R I h
  refine thn (hl pins s σ H _ I h) fun v s1 ⟨x, H1, I1, r1, q1⟩ => ?_
  obtain ⟨a, e, ⟨xs, hq⟩, q⟩ := q1
  subst e
  cases r1
  obtain ⟨its, rv, p, hz⟩ := I1.list hq
  refine wpAny_pyIter_list p.isList ?_
  refine ⟨s1.heap.objs.size, [s1.heap.objs.size], _, _, H1, rfl, I1.kept (t' := s1.toks) fun b o e => Heap.get?_push_of_some _ e, turn_listH ho a _, ⟨_, Heap.get?_push_size _ rfl, rfl, rfl⟩, fun b hb => ?_, q⟩
  have e : b = s1.heap.objs.size := by simpa using hb
  subst e
  exact I1.fpOk (Nat.le_refl _) (I1.hok.fresh (Nat.le_refl _))
end L2
namespace Am
open PySem PySem.Spec PyProof.Rows L2
noncomputable def iValL (c : Ex) : Ic := fun τ S => (c τ S).bind fun a S1 => match a with
  | .ref n => opt (lstAt S1 n) fun xs => .ok (lstSrc n xs.length) S1
  | _ => .no
theorem ai_valH {X : Cx} {tg l : Expr} {e C : Addr} {oe : Obj} (ho : XO C oe) {c : Ex} (he : AE X l c) : PIg (HX e oe) X tg l (tI X (iValL c)) := fun pins s σ H Q I ⟨ρ, S, τ, R, r, h⟩ => by
  have hb := post_bind h
  cases hc : c τ S with
  | no => rw [hc] at hb; exact hb.elim
  | ex x S1 =>
    rw [hc] at hb
    exact pi_listH ho he pins s σ H Q I ⟨ρ, S, τ, R, r, by rw [hc]; exact hb⟩
  | ok a S1 =>
    rw [hc] at hb
    cases a with
    | ref n =>
      obtain ⟨xs, hn, hb⟩ := opt_post hb
      refine pi_listH ho he pins s σ H Q I ⟨ρ, S, τ, R, r, ?_⟩
      rw [hc]
      intro ρ1 H1 x e1 R1 v1
      cases v1 with
      | ref hp =>
        obtain ⟨vs, h1, r1⟩ := R1.lst hp (lstAt_of hn)
        exact ⟨_, rfl, ⟨_, SqL.of h1⟩, hb ρ1 H1 _ e1 R1 (jr_lst hp)⟩
    | _ => exact hb.elim
theorem ae_compH {X : Cx} {tg iter elt : Expr} {ifs : List Expr} {scope : Scope} {pos : Pos} {N : List Str} {cap : List (Option Nat)} {g : Tg} {t : Te} {c ci : Ex} {e C : Addr} {oe : Obj} (hh : X.A.handled = some (.ref e)) (h0 : X.H₀ e = some (.frz oe xu)) (ho : XO C oe)
    (Sc : CpScope X scope N cap) (hi : AE X iter ci) (hg : ∀ C s₀ H₀ ex, AG (cpCx X scope N C s₀ H₀ ex) tg g) (ht : ∀ C s₀ H₀ ex, ATs (cpCx X scope N C s₀ H₀ ex) ifs t) (he : ∀ C s₀ H₀ ex, AE (cpCx X scope N C s₀ H₀ ex) elt c)
    (hs : ∀ x, foldedSetIterable iter X.env x = pure x := by intro _; rfl) : AE X (.ListComp elt [⟨tg, iter, ifs, 0⟩] scope pos) (eComp cap (iValL ci) g t c) :=
  PE.imp (pe_lcG Sc (fun _ _ _ _ hk => ⟨hh, hk e oe xu h0⟩) (ai_valH ho hi) (g := tG0 X.K g) (tc := tT0 X.K t) (te := tE0 X.K c) (fun C s₀ H₀ ex => (hg C s₀ H₀ ex).g0 rfl) (fun C s₀ H₀ ex => ht C s₀ H₀ ex) (fun C s₀ H₀ ex => (he C s₀ H₀ ex).e0 rfl) hs) comp_imp
end Am
set_option Elab.async false
set_option linter.all false
set_option maxRecDepth 100000
set_option maxHeartbeats 4000000
namespace Am
open PySem PySem.Spec PyProof.Rows L2
theorem law_start {K : PySem.W.Frag} {H : Hp} {a : Addr} {ns : List Int} {F : List A -> Sto -> R A} (hO : Only H) (hS : SqL K H a (ns.map V.int)) (h : ∃ S', F [.frz (ns.map .int)] [] = .ok (.bl true) S') : spA K 1 F [.ref a] H (fun v _ => v = .bl true) fun _ _ _ => False := by
  obtain ⟨S', h⟩ := h
  have fz : Fz K H a (ns.map V.int) := by
    rcases hS with (h | ⟨o, h⟩) | h
    · rcases hO a with z | ⟨ob, xs, z⟩
      · rw [h] at z; cases z
      · rw [h] at z; cases z
    · exact .inl ⟨o, h⟩
    · exact .inr h
  exact ⟨rfl, [], [], _, _, S', ⟨rfl, List.nodup_nil, fun n a o h => by simp at h⟩, .cons (.frz fz (avs_ints ns)) .nil, h, fun ρ' H' v _ _ hv => av_bl hv⟩
section
variable {P : Program} {w : World} {K : PySem.W.Frag} {mg : Str -> Option Value} {base : Heap} {f : Addr} {fd : FuncData} {ps : List Str} {k n : Nat}
end
theorem us1 {P : List Value -> Prop} (h : ∀ a0, P [a0]) : ∀ us : List Value, us.length = 1 -> P us
  | [_], _ => h _
theorem us2 {P : List Value -> Prop} (h : ∀ a0 a1, P [a0, a1]) : ∀ us : List Value, us.length = 2 -> P us
  | [_, _], _ => h _ _
theorem us3 {P : List Value -> Prop} (h : ∀ a0 a1 a2, P [a0, a1, a2]) : ∀ us : List Value, us.length = 3 -> P us
  | [_, _, _], _ => h _ _ _
end Am
set_option Elab.async false
set_option linter.all false
set_option maxRecDepth 100000
set_option maxHeartbeats 4000000
namespace Am
open PySem L2
section
variable {α β : Type} {a b : A} {S S1 S2 : Sto} {τ : List A} {x : α}
@[simp] theorem R.bind_ok {f : α -> Sto -> R β} : (R.ok x S).bind f = f x S := rfl
@[simp] theorem R.bind_ex {f : α -> Sto -> R β} {c : Str} : (R.ex c S : R α).bind f = .ex c S := rfl
@[simp] theorem R.bindN_ok' {f : α -> Sto -> R β} : (R.ok x S).bindN f = f x S := rfl
@[simp] theorem RS.of_ok {f : α -> Sto -> RS} : RS.of (R.ok x S) f = f x S := rfl
@[simp] theorem RS.of_ex {f : α -> Sto -> RS} {c : Str} : RS.of (R.ex c S : R α) f = .ex c S := rfl
@[simp] theorem opt_some {f : β -> R α} {y : β} : opt (some y) f = f y := rfl
@[simp] theorem gd_true {r : R α} : gd True r = r := if_pos trivial
theorem gd_of {c : Prop} [Decidable c] {r : R α} (h : c) : gd c r = r := if_pos h
@[simp] theorem eVar_ap {i : Nat} : eVar i τ S = bif (τ.getD i .unb).isUnb then .no else .ok (τ.getD i .unb) S := by unfold eVar; cases (τ.getD i .unb).isUnb <;> rfl
@[simp] theorem unb_tup {xs : List A} : A.isUnb (.tup xs) = false := rfl
@[simp] theorem unb_frz {xs : List A} : A.isUnb (.frz xs) = false := rfl
@[simp] theorem unb_int {i : Int} : A.isUnb (.int i) = false := rfl
@[simp] theorem unb_bl {i : Bool} : A.isUnb (.bl i) = false := rfl
@[simp] theorem unb_str {i : Str} : A.isUnb (.str i) = false := rfl
@[simp] theorem unb_ref {i : Nat} : A.isUnb (.ref i) = false := rfl
@[simp] theorem unb_non : A.isUnb .non = false := rfl
@[simp] theorem unb_rng {i j : Int} : A.isUnb (.rng i j) = false := rfl
@[simp] theorem unb_exn {c : Str} : A.isUnb (.exn c) = false := rfl
@[simp] theorem eC_ap : eC a τ S = .ok a S := rfl
noncomputable def kBin (f : A -> A -> Sto -> R A) (cb : Ex) (τ : List A) (a : A) (S : Sto) : R A := (cb τ S).bind (f a)
@[simp] theorem kBin_ap {f : A -> A -> Sto -> R A} {cb : Ex} : kBin f cb τ a S = (cb τ S).bind (f a) := rfl
@[simp] theorem eBin_ap {f : A -> A -> Sto -> R A} {ca cb : Ex} : eBin f ca cb τ S = (ca τ S).bind (kBin f cb τ) := rfl
@[simp] theorem eUn_ap {f : A -> Sto -> R A} {ca : Ex} : eUn f ca τ S = (ca τ S).bind f := rfl
@[simp] theorem eTru_ap {c : Ex} : eTru c τ S = (c τ S).bind fun a S1 => opt (a.tru S1) fun b => .ok b S1 := rfl
noncomputable def aB (a : A) (S : Sto) : R Bool := match a with
  | .bl b => .ok b S
  | _ => .no
@[simp] theorem aB_bl {b : Bool} : aB (.bl b) S = .ok b S := rfl
@[simp] theorem toB_ap {c : Ex} : toB c τ S = (c τ S).bind aB := rfl
@[simp] theorem bNot_ap {c : Te} : bNot c τ S = (c τ S).bind fun b S1 => .ok (!b) S1 := rfl
noncomputable def kAnd (d : Te) (τ : List A) (b : Bool) (S : Sto) : R Bool := match b with | true => d τ S | false => .ok false S
noncomputable def kOr (d : Te) (τ : List A) (b : Bool) (S : Sto) : R Bool := match b with | true => .ok true S | false => d τ S
@[simp] theorem kAnd_t {d : Te} : kAnd d τ true S = d τ S := rfl
@[simp] theorem kAnd_f {d : Te} : kAnd d τ false S = .ok false S := rfl
@[simp] theorem kOr_t {d : Te} : kOr d τ true S = .ok true S := rfl
@[simp] theorem kOr_f {d : Te} : kOr d τ false S = d τ S := rfl
@[simp] theorem bAnd_ap {c d : Te} : bAnd c d τ S = (c τ S).bind (kAnd d τ) := rfl
@[simp] theorem bOr_ap {c d : Te} : bOr c d τ S = (c τ S).bind (kOr d τ) := rfl
@[simp] theorem bYes_ap : bYes τ S = .ok true S := rfl
noncomputable def aAndB (d : Ex) (τ : List A) (a : A) (S : Sto) : R A := match a with | .bl true => d τ S | .bl false => .ok (.bl false) S | _ => .no
noncomputable def aOrB (d : Ex) (τ : List A) (a : A) (S : Sto) : R A := match a with | .bl true => .ok (.bl true) S | .bl false => d τ S | _ => .no
@[simp] theorem aAndB_t {d : Ex} : aAndB d τ (.bl true) S = d τ S := rfl
@[simp] theorem aAndB_f {d : Ex} : aAndB d τ (.bl false) S = .ok (.bl false) S := rfl
@[simp] theorem aOrB_t {d : Ex} : aOrB d τ (.bl true) S = .ok (.bl true) S := rfl
@[simp] theorem aOrB_f {d : Ex} : aOrB d τ (.bl false) S = d τ S := rfl
@[simp] theorem eAnd_ap {c d : Ex} : eAnd c d τ S = (c τ S).bind (aAndB d τ) := by
  unfold eAnd
  cases c τ S with
  | ok a S1 => cases a <;> first | rfl | (rename_i b; cases b <;> rfl)
  | _ => rfl
@[simp] theorem eOr_ap {c d : Ex} : eOr c d τ S = (c τ S).bind (aOrB d τ) := by
  unfold eOr
  cases c τ S with
  | ok a S1 => cases a <;> first | rfl | (rename_i b; cases b <;> rfl)
  | _ => rfl
noncomputable def aNotB (a : A) (S : Sto) : R A := match a with | .bl b => .ok (.bl !b) S | _ => .no
@[simp] theorem aNotB_bl {b : Bool} : aNotB (.bl b) S = .ok (.bl !b) S := rfl
@[simp] theorem eNot_ap {c : Ex} : eNot c τ S = (c τ S).bind aNotB := rfl
noncomputable def kIfE (c d : Ex) (τ : List A) (b : Bool) (S : Sto) : R A := match b with | true => c τ S | false => d τ S
@[simp] theorem kIfE_t {c d : Ex} : kIfE c d τ true S = c τ S := rfl
@[simp] theorem kIfE_f {c d : Ex} : kIfE c d τ false S = d τ S := rfl
@[simp] theorem eIf_ap {t : Te} {c d : Ex} : eIf t c d τ S = (t τ S).bind (kIfE c d τ) := rfl
@[simp] theorem lNil_ap : lNil τ S = .ok [] S := rfl
noncomputable def kCons2 (a : A) (as : List A) (S : Sto) : R (List A) := .ok (a :: as) S
noncomputable def kCons (d : Exs) (τ : List A) (a : A) (S : Sto) : R (List A) := (d τ S).bind (kCons2 a)
@[simp] theorem kCons2_ap {as : List A} : kCons2 a as S = .ok (a :: as) S := rfl
@[simp] theorem kCons_ap {d : Exs} : kCons d τ a S = (d τ S).bind (kCons2 a) := rfl
@[simp] theorem lCons_ap {c : Ex} {d : Exs} : lCons c d τ S = (c τ S).bind (kCons d τ) := rfl
@[simp] theorem eTup_ap {d : Exs} : eTup d τ S = (d τ S).bind fun as S1 => gd (as.length <= sizeLine) (.ok (.tup as) S1) := rfl
@[simp] theorem eLst_ap {d : Exs} : eLst d τ S = (d τ S).bind newL := rfl
theorem newL_ok {as : List A} (h : as.length <= 16777216) : newL as S = .ok (.ref S.length) (S ++ [.lst as]) := gd_of (by rw [sizeLine_eq]; exact h)
@[simp] theorem eCall_ap {f : List A -> Sto -> R A} {d : Exs} : eCall f d τ S = (d τ S).bind f := rfl
noncomputable def okR (r : R A) : R A := match r with
  | .ok a S => .ok a S
  | _ => .no
@[simp] theorem okR_ok : okR (.ok a S) = .ok a S := rfl
noncomputable def kFn (f : List A -> Sto -> R A) (as : List A) (S : Sto) : R A := okR (f as S)
@[simp] theorem kFn_ap {f : List A -> Sto -> R A} {as : List A} : kFn f as S = okR (f as S) := rfl
@[simp] theorem eFn_ap {f : List A -> Sto -> R A} {d : Exs} : eFn f d τ S = (d τ S).bind (kFn f) := rfl
@[simp] theorem f1_ap {g : A -> Sto -> R A} : f1 g [a] S = g a S := rfl
@[simp] theorem f2_ap {g : A -> A -> Sto -> R A} : f2 g [a, b] S = g a b S := rfl
noncomputable def kSl2 (h : Pt) (τ : List A) (a : A) (l : Option Int) (S : Sto) : R A := (h τ S).bind (aSl a l)
noncomputable def kSl (l h : Pt) (τ : List A) (a : A) (S : Sto) : R A := (l τ S).bind (kSl2 h τ a)
@[simp] theorem kSl2_ap {h : Pt} {l : Option Int} : kSl2 h τ a l S = (h τ S).bind (aSl a l) := rfl
@[simp] theorem kSl_ap {l h : Pt} : kSl l h τ a S = (l τ S).bind (kSl2 h τ a) := rfl
@[simp] theorem eSl_ap {c : Ex} {l h : Pt} : eSl c l h τ S = (c τ S).bind (kSl l h τ) := rfl
@[simp] theorem pNone_ap : pNone τ S = .ok none S := rfl
noncomputable def aPt (a : A) (S : Sto) : R (Option Int) := match a with
  | .int i => .ok (some i) S
  | _ => .no
@[simp] theorem aPt_int {i : Int} : aPt (.int i) S = .ok (some i) S := rfl
@[simp] theorem pSome_ap {c : Ex} : pSome c τ S = (c τ S).bind aPt := rfl
noncomputable def kMe2 (f : A -> List A -> Sto -> R A) (d : Exs) (τ : List A) (o : A) (S : Sto) (_ : List A) : R A := (d τ S).bind (f o)
noncomputable def kMe (f : A -> List A -> Sto -> R A) (d : Exs) (τ : List A) (o : A) (S : Sto) : R A := opt (o.lst? S) (kMe2 f d τ o S)
@[simp] theorem kMe2_ap {f : A -> List A -> Sto -> R A} {d : Exs} {xs : List A} : kMe2 f d τ a S xs = (d τ S).bind (f a) := rfl
@[simp] theorem kMe_ap {f : A -> List A -> Sto -> R A} {d : Exs} : kMe f d τ a S = opt (a.lst? S) (kMe2 f d τ a S) := rfl
@[simp] theorem eMe_ap {f : A -> List A -> Sto -> R A} {c : Ex} {d : Exs} : eMe f c d τ S = (c τ S).bind (kMe f d τ) := rfl
@[simp] theorem eMe0_ap {f : A -> List A -> Sto -> R A} {c : Ex} : eMe0 f c τ S = (c τ S).bind fun o S1 => opt (o.lst? S1) fun _ => f o [] S1 := rfl
@[simp] theorem lst?_ref {n : Nat} : A.lst? S (.ref n) = lstAt S n := rfl
noncomputable def RS.seq (r : RS) (d : Sm) : RS := match r with
  | .nx τ S => d τ S
  | r => r
@[simp] theorem RS.seq_nx {d : Sm} : RS.seq (.nx τ S) d = d τ S := rfl
@[simp] theorem RS.seq_rt {d : Sm} : RS.seq (.rt a S) d = .rt a S := rfl
@[simp] theorem RS.seq_ex {d : Sm} {c : Str} : RS.seq (.ex c S) d = .ex c S := rfl
@[simp] theorem RS.seq_bk {d : Sm} : RS.seq (.bk τ S) d = .bk τ S := rfl
@[simp] theorem RS.seq_ct {d : Sm} : RS.seq (.ct τ S) d = .ct τ S := rfl
@[simp] theorem sSeq_ap {c d : Sm} : sSeq c d τ S = RS.seq (c τ S) d := by unfold sSeq RS.seq; cases c τ S <;> rfl
@[simp] theorem sNil_ap : sNil τ S = .nx τ S := rfl
@[simp] theorem sBreak_ap : sBreak τ S = .bk τ S := rfl
@[simp] theorem sCont_ap : sCont τ S = .ct τ S := rfl
@[simp] theorem sExpr_ap {e : Ex} : sExpr e τ S = RS.of (e τ S) fun _ S1 => .nx τ S1 := rfl
@[simp] theorem sRet_ap {e : Ex} : sRet e τ S = RS.of (e τ S) .rt := rfl
@[simp] theorem sRetN_ap : sRetN τ S = .rt .non S := rfl
noncomputable def kIf (c d : Sm) (τ : List A) (b : Bool) (S : Sto) : RS := match b with | true => c τ S | false => d τ S
@[simp] theorem kIf_t {c d : Sm} : kIf c d τ true S = c τ S := rfl
@[simp] theorem kIf_f {c d : Sm} : kIf c d τ false S = d τ S := rfl
@[simp] theorem sIf_ap {t : Te} {c d : Sm} : sIf t c d τ S = RS.of (t τ S) (kIf c d τ) := rfl
noncomputable def kAsg (g : Tg) (τ : List A) (a : A) (S : Sto) : RS := RS.of (g a τ S) .nx
@[simp] theorem kAsg_ap {g : Tg} : kAsg g τ a S = RS.of (g a τ S) .nx := rfl
@[simp] theorem sAsg_ap {e : Ex} {g : Tg} : sAsg e g τ S = RS.of (e τ S) (kAsg g τ) := rfl
@[simp] theorem gNm_ap {i : Nat} : gNm i a τ S = .ok (τ.set i a) S := rfl
noncomputable def kSb2 (a o : A) (τ : List A) (i : A) (S : Sto) : R (List A) := (aSet o i a S).bind fun _ S3 => .ok τ S3
noncomputable def kSb (ci : Ex) (τ : List A) (a o : A) (S : Sto) : R (List A) := (ci τ S).bind (kSb2 a o τ)
@[simp] theorem kSb2_ap {o i : A} : kSb2 a o τ i S = (aSet o i a S).bind fun _ S3 => .ok τ S3 := rfl
@[simp] theorem kSb_ap {ci : Ex} {o : A} : kSb ci τ a o S = (ci τ S).bind (kSb2 a o τ) := rfl
@[simp] theorem gSb_ap {co ci : Ex} : gSb co ci a τ S = (co τ S).bind (kSb ci τ a) := rfl
@[simp] theorem gTp_ap {n : Nat} {gs : Tgs} {xs : List A} : gTp n gs (.tup xs) τ S = gd (xs.length = n) (gs xs τ S) := rfl
@[simp] theorem gNl_ap : gNl [] τ S = .ok τ S := rfl
@[simp] theorem gCn_ap {g : Tg} {gs : Tgs} {as : List A} : gCn g gs (a :: as) τ S = (g a τ S).bind (gs as) := rfl
noncomputable def sPr (i j : Nat) (τ : List A) (as : List A) (S : Sto) : RS := match as with
  | [a, b] => .nx ((τ.set i a).set j b) S
  | _ => .no
@[simp] theorem sPr_ap {i j : Nat} : sPr i j τ [a, b] S = .nx ((τ.set i a).set j b) S := rfl
@[simp] theorem sPar_ap {i j : Nat} {c : Exs} : sPar i j c τ S = RS.of (c τ S) (sPr i j τ) := rfl
noncomputable def kAug2 (i : Nat) (τ : List A) (c : A) (S : Sto) : RS := .nx (τ.set i c) S
noncomputable def kAug (i : Nat) (f : A -> A -> Sto -> R A) (τ : List A) (b : A) (S : Sto) : RS := .of (f (τ.getD i .unb) b S) (kAug2 i τ)
@[simp] theorem kAug2_ap {i : Nat} : kAug2 i τ a S = .nx (τ.set i a) S := rfl
@[simp] theorem kAug_ap {i : Nat} {f : A -> A -> Sto -> R A} : kAug i f τ a S = .of (f (τ.getD i .unb) a S) (kAug2 i τ) := rfl
@[simp] theorem sAug_ap {i : Nat} {f : A -> A -> Sto -> R A} {e : Ex} : sAug i f e τ S = bif (τ.getD i .unb).isUnb then .no else .of (e τ S) (kAug i f τ) := by
  unfold sAug; cases (τ.getD i .unb).isUnb <;> rfl
noncomputable def kS5 (o i : A) (τ : List A) (z : A) (S : Sto) : RS := .of (aSet o i z S) fun _ S6 => .nx τ S6
noncomputable def kS4 (f : A -> A -> Sto -> R A) (o i x : A) (τ : List A) (y : A) (S : Sto) : RS := .of (f x y S) (kS5 o i τ)
noncomputable def kS3 (ce : Ex) (f : A -> A -> Sto -> R A) (o i : A) (τ : List A) (x : A) (S : Sto) : RS := .of (ce τ S) (kS4 f o i x τ)
noncomputable def kS2 (ce : Ex) (f : A -> A -> Sto -> R A) (o : A) (τ : List A) (i : A) (S : Sto) : RS := .of (aGet o i S) (kS3 ce f o i τ)
noncomputable def kS1 (ci ce : Ex) (f : A -> A -> Sto -> R A) (τ : List A) (o : A) (S : Sto) : RS := .of (ci τ S) (kS2 ce f o τ)
@[simp] theorem kS5_ap {o i : A} : kS5 o i τ a S = .of (aSet o i a S) fun _ S6 => .nx τ S6 := rfl
@[simp] theorem kS4_ap {f : A -> A -> Sto -> R A} {o i x : A} : kS4 f o i x τ a S = .of (f x a S) (kS5 o i τ) := rfl
@[simp] theorem kS3_ap {ce : Ex} {f : A -> A -> Sto -> R A} {o i : A} : kS3 ce f o i τ a S = .of (ce τ S) (kS4 f o i a τ) := rfl
@[simp] theorem kS2_ap {ce : Ex} {f : A -> A -> Sto -> R A} {o : A} : kS2 ce f o τ a S = .of (aGet o a S) (kS3 ce f o a τ) := rfl
@[simp] theorem kS1_ap {ci ce : Ex} {f : A -> A -> Sto -> R A} : kS1 ci ce f τ a S = .of (ci τ S) (kS2 ce f a τ) := rfl
@[simp] theorem sAugS_ap {co ci ce : Ex} {f : A -> A -> Sto -> R A} : sAugS co ci ce f τ S = RS.of (co τ S) (kS1 ci ce f τ) := rfl
noncomputable def RS.end (r : RS) : R A := match r with
  | .rt a S' => .ok a S'
  | .nx _ S' => .ok .non S'
  | .ex c S' => .ex c S'
  | _ => .no
@[simp] theorem RS.end_rt : RS.end (.rt a S) = .ok a S := rfl
@[simp] theorem RS.end_nx : RS.end (.nx τ S) = .ok .non S := rfl
@[simp] theorem RS.end_ex {c : Str} : RS.end (.ex c S) = .ex c S := rfl
theorem runF_ap {N : List Str} {m : Sm} {as : List A} : runF N m as S = RS.end (m (as ++ List.replicate (N.length - as.length) .unb) S) := by
  unfold runF RS.end; cases m (as ++ List.replicate (N.length - as.length) .unb) S <;> rfl
@[simp] theorem aAdd_i {i j : Int} : aAdd (.int i) (.int j) S = .ok (.int (i + j)) S := rfl
@[simp] theorem aSub_i {i j : Int} : aSub (.int i) (.int j) S = .ok (.int (i - j)) S := rfl
@[simp] theorem iAdd_i {i j : Int} : iAdd (.int i) (.int j) S = .ok (.int (i + j)) S := rfl
theorem mul_l {i j : Int} (h : -18446744073709551616 < i) (h' : i < 18446744073709551616) : aMul (.int i) (.int j) S = .ok (.int (i * j)) S := gd_of (by unfold mulOk; simp; left; exact ⟨by omega, by omega⟩)
theorem fdiv_i {i j : Int} (h : 0 < j) (h' : j < 1073741824) : aFdiv (.int i) (.int j) S = .ok (.int (i / j)) S := gd_of ⟨h, by omega⟩
theorem mod_i {i j : Int} (h : 0 < j) : aMod (.int i) (.int j) S = .ok (.int (i % j)) S := gd_of h
@[simp] theorem aLt_i {i j : Int} : aLt (.int i) (.int j) S = .ok (.bl (decide (i < j))) S := rfl
@[simp] theorem aLe_i {i j : Int} : aLe (.int i) (.int j) S = .ok (.bl (decide (i <= j))) S := rfl
@[simp] theorem aGt_i {i j : Int} : aGt (.int i) (.int j) S = .ok (.bl (decide (j < i))) S := rfl
@[simp] theorem aGe_i {i j : Int} : aGe (.int i) (.int j) S = .ok (.bl (decide (j <= i))) S := rfl
@[simp] theorem aIs_b {i j : Bool} : aIs false (.bl i) (.bl j) S = .ok (.bl (i == j)) S := rfl
@[simp] theorem aIs_nb {i j : Bool} : aIs true (.bl i) (.bl j) S = .ok (.bl (i != j)) S := rfl
@[simp] theorem aNeg_i {i : Int} : aNeg (.int i) S = .ok (.int (-i)) S := rfl
@[simp] theorem aLen_t {xs : List A} : aLen (.tup xs) S = .ok (.int xs.length) S := rfl
@[simp] theorem aLen_f {xs : List A} : aLen (.frz xs) S = .ok (.int xs.length) S := rfl
@[simp] theorem aLen_r {n : Nat} : aLen (.ref n) S = opt (lstAt S n) fun xs => .ok (.int xs.length) S := rfl
@[simp] theorem aAbs_i {i : Int} : aAbs (.int i) S = .ok (.int (if i < 0 then -i else i)) S := rfl
@[simp] theorem aMax2_i {i j : Int} : aMax2 (.int i) (.int j) S = .ok (.int (if j > i then j else i)) S := rfl
@[simp] theorem aMin2_i {i j : Int} : aMin2 (.int i) (.int j) S = .ok (.int (if j < i then j else i)) S := rfl
@[simp] theorem aInt1_i {i : Int} : aInt1 (.int i) S = .ok (.int i) S := rfl
@[simp] theorem aInt1_b {i : Bool} : aInt1 (.bl i) S = .ok (.int (if i then 1 else 0)) S := rfl
@[simp] theorem aRange2_i {i j : Int} : aRange2 (.int i) (.int j) S = .ok (.rng i j) S := rfl
@[simp] theorem aIx_t {xs : List A} {i : Int} : aIx (.tup xs) (.int i) S = opt (atI xs i) fun x => .ok x S := rfl
@[simp] theorem aIx_f {xs : List A} {i : Int} : aIx (.frz xs) (.int i) S = opt (atI xs i) fun x => .ok x S := rfl
@[simp] theorem aIx_r {n : Nat} {i : Int} : aIx (.ref n) (.int i) S = opt (lstAt S n) fun xs => opt (atI xs i) fun x => .ok x S := rfl
@[simp] theorem aSet_r {n : Nat} {k : Int} : aSet (.ref n) (.int k) a S = opt (lstAt S n) fun xs => opt (ixN xs.length k) fun j => .ok () (S.set n (.lst (xs.set j a))) := rfl
@[simp] theorem aGet_r {n : Nat} {i : Int} : aGet (.ref n) (.int i) S = opt (lstAt S n) fun xs => gd (0 <= i) (opt (xs[i.toNat]?) fun x => .ok x S) := rfl
@[simp] theorem aList_t {xs : List A} : aList (.tup xs) S = .ok (.ref S.length) (S ++ [.lst xs]) := rfl
@[simp] theorem aList_f {xs : List A} : aList (.frz xs) S = .ok (.ref S.length) (S ++ [.lst xs]) := rfl
@[simp] theorem aList_r {n : Nat} : aList (.ref n) S = opt (lstAt S n) fun xs => .ok (.ref S.length) (S ++ [.lst xs]) := rfl
@[simp] theorem aTuple_t {xs : List A} : aTuple (.tup xs) S = .ok (.tup xs) S := rfl
@[simp] theorem aTuple_r {n : Nat} : aTuple (.ref n) S = opt (lstAt S n) fun xs => .ok (.tup xs) S := rfl
@[simp] theorem aRev_t {xs : List A} : aRev (.tup xs) S = .ok (.tup xs.reverse) S := rfl
@[simp] theorem aRev_r {n : Nat} : aRev (.ref n) S = opt (lstAt S n) fun xs => .ok (.ref S.length) (S ++ [.lst xs.reverse]) := rfl
@[simp] theorem aSl_r {n : Nat} {l u : Option Int} : aSl (.ref n) l u S = opt (lstAt S n) fun xs => .ok (.ref S.length) (S ++ [.lst (cutA xs l u)]) := rfl
@[simp] theorem mAppend_ap {n : Nat} : mAppend (.ref n) [a] S = opt (lstAt S n) fun xs => gd (xs.length < sizeLine) (.ok .non (S.set n (.lst (xs ++ [a])))) := rfl
@[simp] theorem tru_bl {b : Bool} : A.tru (.bl b) S = some b := rfl
@[simp] theorem tru_int {i : Int} : A.tru (.int i) S = some (i != 0) := rfl
theorem at_lay {o : O} : (S ++ [o])[S.length]? = some o := by simp
@[simp] theorem lst_lay {xs : List A} : lstAt (S ++ [.lst xs]) S.length = some xs := lstAt_eq at_lay
theorem lst_app {o : O} {n : Nat} {xs : List A} (h : lstAt S n = some xs) : lstAt (S ++ [o]) n = some xs := by
  have h' := lstAt_of h
  exact lstAt_eq (by rw [List.getElem?_append_left (List.getElem?_eq_some_iff.mp h').1]; exact h')
theorem lst_lt {n : Nat} {xs : List A} (h : lstAt S n = some xs) : n < S.length := (List.getElem?_eq_some_iff.mp (lstAt_of h)).1
theorem lst_set {n : Nat} {ys : List A} (h : n < S.length) : lstAt (S.set n (.lst ys)) n = some ys := lstAt_eq (List.getElem?_set_self h)
theorem lst_set_ne {n m : Nat} {ys : List A} (h : n ≠ m) : lstAt (S.set n (.lst ys)) m = lstAt S m := by unfold lstAt; rw [List.getElem?_set_ne h]
theorem atI_at {xs : List A} {i : Int} {k : Nat} {x : A} (h : i = k) (hx : xs[k]? = some x) : atI xs i = some x := by rw [h]; exact atI_nat hx
theorem ixN_at {n : Nat} {i : Int} {k : Nat} (h : i = k) (hk : k < n) : ixN n i = some k := by
  subst h
  unfold ixN
  rw [if_pos (by omega), if_pos (by omega)]
  simp
end
end Am
set_option Elab.async false
set_option linter.all false
set_option maxRecDepth 100000
set_option maxHeartbeats 4000000
namespace Am
open PySem L2
structure Kp (b : Nat -> Prop) (S S' : Sto) : Prop where
  len : S.length <= S'.length
  lst : ∀ n xs, ¬ b n -> lstAt S n = some xs -> lstAt S' n = some xs
noncomputable abbrev Kp0 := Kp fun _ => False
theorem Kp.refl {b : Nat -> Prop} {S : Sto} : Kp b S S := ⟨Nat.le_refl _, fun _ _ _ h => h⟩
theorem Kp.trans {b : Nat -> Prop} {S S1 S2 : Sto} (h : Kp b S S1) (h' : Kp b S1 S2) : Kp b S S2 := ⟨Nat.le_trans h.len h'.len, fun n xs hb e => h'.lst n xs hb (h.lst n xs hb e)⟩
theorem Kp.lay {b : Nat -> Prop} {S S1 : Sto} {o : O} (h : Kp b S S1) : Kp b S (S1 ++ [o]) := ⟨Nat.le_trans h.len (by simp), fun n xs hb e => lst_app (h.lst n xs hb e)⟩
theorem Kp.set {b : Nat -> Prop} {S S1 : Sto} {m : Nat} {ys : List A} (h : Kp b S S1) (hm : b m \/ S.length <= m) : Kp b S (S1.set m (.lst ys)) := ⟨by rw [List.length_set]; exact h.len, fun n xs hb e => by
  have : m ≠ n := fun z => by
    subst z
    rcases hm with z | z
    · exact hb z
    · exact absurd (lst_lt e) (by omega)
  rw [lst_set_ne this]
  exact h.lst n xs hb e⟩
theorem Kp.mono {b c : Nat -> Prop} {S S1 : Sto} (h : Kp b S S1) (hb : ∀ n, n < S.length -> b n -> c n) : Kp c S S1 := ⟨h.len, fun n xs hc e => h.lst n xs (fun z => hc (hb n (lst_lt e) z)) e⟩
theorem Kp.of0 {b : Nat -> Prop} {S S1 : Sto} (h : Kp0 S S1) : Kp b S S1 := h.mono fun _ _ z => z.elim
theorem while_by {t : Te} {c : Sm} (Inv : List A -> Sto -> Prop) (μ : List A -> Sto -> Nat) (Post : RS -> Prop)
    (h : ∀ τ S, Inv τ S -> (∃ S1, t τ S = .ok false S1 /\ Post (.nx τ S1)) \/ (∃ S1, t τ S = .ok true S1 /\ ((∃ τ' S', c τ S1 = .nx τ' S' /\ Inv τ' S' /\ μ τ' S' < μ τ S) \/ (∃ a S', c τ S1 = .rt a S' /\ Post (.rt a S'))))) :
    ∀ n τ S, Inv τ S -> μ τ S < n -> Post (sWhile t c n τ S)
  | 0, _, _, _, hn => absurd hn (Nat.not_lt_zero _)
  | n + 1, τ, S, hi, hn => by
    unfold sWhile
    rcases h τ S hi with ⟨S1, e, q⟩ | ⟨S1, e, ⟨τ', S', e2, hi', hm⟩ | ⟨a, S', e2, q⟩⟩
    · rw [e]; exact q
    · rw [e]
      show Post (match c τ S1 with
        | .nx τ' S' => sWhile t c n τ' S'
        | .ct τ' S' => sWhile t c n τ' S'
        | .bk τ' S' => .nx τ' S'
        | r => r)
      rw [e2]
      exact while_by Inv μ Post h n τ' S' hi' (by omega)
    · rw [e]
      show Post (match c τ S1 with
        | .nx τ' S' => sWhile t c n τ' S'
        | .ct τ' S' => sWhile t c n τ' S'
        | .bk τ' S' => .nx τ' S'
        | r => r)
      rw [e2]
      exact q
theorem for_go {s : Src} {g : Tg} {c : Sm} (Inv : Nat -> List A -> Sto -> Prop) (Post : RS -> Prop)
    (step : ∀ i τ S, i < s.k -> Inv i τ S -> ∃ x τ1 S1, s.get i S = some x /\ g x τ S = .ok τ1 S1 /\ ((∃ τ' S', c τ1 S1 = .nx τ' S' /\ Inv (i + 1) τ' S') \/ (∃ a S', c τ1 S1 = .rt a S' /\ Post (.rt a S'))))
    (fin : ∀ τ S, Inv s.k τ S -> s.fin S = true /\ Post (.nx τ S)) : ∀ k i τ S, k + i = s.k -> Inv i τ S -> Post (forGo s g c k i τ S)
  | 0, i, τ, S, hk, hi => by
    have : i = s.k := by omega
    subst this
    obtain ⟨hf, q⟩ := fin τ S hi
    unfold forGo
    rw [if_pos hf]
    exact q
  | k + 1, i, τ, S, hk, hi => by
    obtain ⟨x, τ1, S1, hx, hg, h⟩ := step i τ S (by omega) hi
    unfold forGo
    rw [hx]
    show Post (RS.of (g x τ S) fun τ1 S1 => match c τ1 S1 with
      | .nx τ' S' => forGo s g c k (i + 1) τ' S'
      | .ct τ' S' => forGo s g c k (i + 1) τ' S'
      | .bk τ' S' => .nx τ' S'
      | r => r)
    rw [hg]
    show Post (match c τ1 S1 with
      | .nx τ' S' => forGo s g c k (i + 1) τ' S'
      | .ct τ' S' => forGo s g c k (i + 1) τ' S'
      | .bk τ' S' => .nx τ' S'
      | r => r)
    rcases h with ⟨τ', S', e, hi'⟩ | ⟨a, S', e, q⟩
    · rw [e]; exact for_go Inv Post step fin k (i + 1) τ' S' (by omega) hi'
    · rw [e]; exact q
theorem for_rng {lo hi : Int} {j : Nat} {c : Sm} {src : Ic} {τ : List A} {S S1 : Sto} (hs : src τ S = .ok (rngSrc lo hi) S1) (Inv : Nat -> List A -> Sto -> Prop) (Post : RS -> Prop) (h0 : Inv 0 τ S1)
    (step : ∀ (i : Nat) τ S, (i : Int) < hi - lo -> Inv i τ S -> (∃ τ' S', c (τ.set j (.int (lo + i))) S = .nx τ' S' /\ Inv (i + 1) τ' S') \/ (∃ a S', c (τ.set j (.int (lo + i))) S = .rt a S' /\ Post (.rt a S')))
    (fin : ∀ τ S, Inv (hi - lo).toNat τ S -> Post (.nx τ S)) : Post (sFor src (gNm j) c τ S) := by
  unfold sFor
  rw [hs]
  refine for_go (s := rngSrc lo hi) Inv Post (fun i τ S hi' h => ?_) (fun τ S h => ⟨rfl, fin τ S h⟩) _ 0 τ S1 rfl h0
  have hi' : i < (hi - lo).toNat := hi'
  exact ⟨.int (lo + i), _, S, if_pos hi', rfl, step i τ S (by omega) h⟩
theorem for_lst {n : Nat} {xs : List A} {g : Tg} {c : Sm} {src : Ic} {τ : List A} {S S1 : Sto} (hs : src τ S = .ok (lstSrc n xs.length) S1) (Inv : Nat -> List A -> Sto -> Prop) (Post : RS -> Prop) (h0 : Inv 0 τ S1) (hl : ∀ i τ S, Inv i τ S -> lstAt S n = some xs)
    (step : ∀ (i : Nat) x τ S, xs[i]? = some x -> Inv i τ S -> ∃ τ1 S1, g x τ S = .ok τ1 S1 /\ ((∃ τ' S', c τ1 S1 = .nx τ' S' /\ Inv (i + 1) τ' S') \/ (∃ a S', c τ1 S1 = .rt a S' /\ Post (.rt a S'))))
    (fin : ∀ τ S, Inv xs.length τ S -> Post (.nx τ S)) : Post (sFor src g c τ S) := by
  unfold sFor
  rw [hs]
  refine for_go (s := lstSrc n xs.length) Inv Post (fun i τ S hi' h => ?_) (fun τ S h => ⟨?_, fin τ S h⟩) _ 0 τ S1 rfl h0
  · have hi' : i < xs.length := hi'
    obtain ⟨τ1, S1, e, q⟩ := step i xs[i] τ S (List.getElem?_eq_getElem hi') h
    exact ⟨xs[i], τ1, S1, by show (lstAt S n).bind _ = _; rw [hl i τ S h]; exact List.getElem?_eq_getElem hi', e, q⟩
  · show (match lstAt S n with
      | some ys => decide (ys.length <= xs.length)
      | none => false) = true
    rw [hl _ τ S h]
    exact decide_eq_true (Nat.le_refl _)
@[simp] theorem iRng1_ap {c : Ex} {τ : List A} {S S1 : Sto} {j : Int} (h : c τ S = .ok (.int j) S1) (hb : bnd j) : iRng1 c τ S = .ok (rngSrc 0 j) S1 := by
  unfold iRng1; rw [h]; exact gd_of hb
theorem iVal_r {c : Ex} {τ : List A} {S S1 : Sto} {n : Nat} {xs : List A} (h : c τ S = .ok (.ref n) S1) (hl : lstAt S1 n = some xs) : iVal c τ S = .ok (lstSrc n xs.length) S1 := by
  unfold iVal; rw [h]; show opt (lstAt S1 n) _ = _; rw [hl]; rfl
theorem comp_go {s : Src} {g : Tg} {t : Te} {e : Ex} {P : Sto -> Prop} {T : List A -> Prop} (it : Nat -> A) (p : Nat -> Bool) (f : Nat -> A)
    (hget : ∀ i S, i < s.k -> P S -> s.get i S = some (it i)) (hfin : ∀ S, P S -> s.fin S = true)
    (step : ∀ i τ S, i < s.k -> T τ -> P S -> ∃ τ1 S1 S2, g (it i) τ S = .ok τ1 S1 /\ t τ1 S1 = .ok (p i) S2 /\ T τ1 /\ (p i = false -> P S2) /\ (p i = true -> ∃ S3, e τ1 S2 = .ok (f i) S3 /\ P S3)) :
    ∀ k i τ S, k + i = s.k -> T τ -> P S -> ∃ S', compGo s g t e k i τ S = .ok (((List.range' i k).filter p).map f) S' /\ P S'
  | 0, i, τ, S, hk, hT, hP => ⟨S, by unfold compGo; rw [if_pos (hfin S hP)]; rfl, hP⟩
  | k + 1, i, τ, S, hk, hT, hP => by
    obtain ⟨τ1, S1, S2, hg, ht, hT1, hF, hTr⟩ := step i τ S (by omega) hT hP
    unfold compGo
    rw [hget i S (by omega) hP, opt_some, hg, R.bindN_ok', ht, R.bindN_ok', List.range'_succ, List.filter_cons]
    cases hp : p i with
    | false =>
      obtain ⟨S', h1, h2⟩ := comp_go it p f hget hfin step k (i + 1) τ1 S2 (by omega) hT1 (hF hp)
      exact ⟨S', by simpa using h1, h2⟩
    | true =>
      obtain ⟨S3, he, hP3⟩ := hTr hp
      obtain ⟨S', h1, h2⟩ := comp_go it p f hget hfin step k (i + 1) τ1 S3 (by omega) hT1 hP3
      refine ⟨S', ?_, h2⟩
      show (e τ1 S2).bindN _ = _
      rw [he, R.bindN_ok', h1]
      rfl
theorem comp_pure {s : Src} {cap : List (Option Nat)} {src : Ic} {t : Te} {e : Ex} {τ : List A} {S S1 : Sto} (hs : src τ S = .ok s S1) (it : Nat -> A) (p : Nat -> Bool) (f : Nat -> A) (hget : ∀ i, i < s.k -> s.get i S1 = some (it i)) (hfin : s.fin S1 = true)
    (ht : ∀ i, i < s.k -> t (it i :: capA cap τ) S1 = .ok (p i) S1) (he : ∀ i, i < s.k -> p i = true -> e (it i :: capA cap τ) S1 = .ok (f i) S1) (hl : s.k <= 16777216) :
    eComp (none :: cap) src (gNm 0) t e τ S = .ok (.ref S1.length) (S1 ++ [.lst (((List.range s.k).filter p).map f)]) := by
  unfold eComp
  rw [hs, R.bind_ok]
  obtain ⟨S', h1, h2⟩ := comp_go (s := s) (g := gNm 0) (t := t) (e := e) (P := fun S => S = S1) (T := fun τ' => ∃ y, τ' = y :: capA cap τ) it p f (fun i S hi h => by subst h; exact hget i hi) (fun S h => by subst h; exact hfin)
    (fun i τ' S hi ⟨y, hy⟩ h => by
      subst h hy
      exact ⟨it i :: capA cap τ, S, S, rfl, ht i hi, ⟨_, rfl⟩, fun _ => rfl, fun hp => ⟨S, he i hi hp, rfl⟩⟩) s.k 0 (capA (none :: cap) τ) S1 rfl ⟨_, rfl⟩ rfl
  subst h2
  rw [h1, R.bindN_ok', List.range_eq_range']
  refine newL_ok ?_
  rw [List.length_map]
  refine Nat.le_trans (List.length_filter_le _ _) ?_
  rw [List.length_range']
  exact hl
theorem filter_range_map {α β : Type} (xs : List α) (p : α -> Bool) (f : α -> β) : ∀ (d : α) , (((List.range xs.length).filter fun i => p (xs.getD i d)).map fun i => f (xs.getD i d)) = (xs.filter p).map f := by
  intro d
  induction xs with
  | nil => rfl
  | cons x xs ih =>
    rw [List.length_cons, List.range_succ_eq_map, List.filter_cons, List.filter_cons]
    have e : ((List.filter (fun i => p ((x :: xs).getD i d)) (List.map Nat.succ (List.range xs.length))).map fun i => f ((x :: xs).getD i d)) = (xs.filter p).map f := by
      rw [List.filter_map, List.map_map]
      rw [<- ih]
      rfl
    show List.map _ (if p x = true then _ else _) = List.map f (if p x = true then _ else _)
    by_cases hp : p x = true
    · rw [if_pos hp, if_pos hp, List.map_cons, List.map_cons, e]; rfl
    · rw [if_neg hp, if_neg hp, e]
theorem comp_rng {lo hi : Int} {cap : List (Option Nat)} {src : Ic} {t : Te} {e : Ex} {τ : List A} {S S1 : Sto} (hs : src τ S = .ok (rngSrc lo hi) S1) (p : Int -> Bool) (f : Int -> A)
    (ht : ∀ k, lo <= k -> k < hi -> t (.int k :: capA cap τ) S1 = .ok (p k) S1) (he : ∀ k, lo <= k -> k < hi -> p k = true -> e (.int k :: capA cap τ) S1 = .ok (f k) S1) (hl : (hi - lo).toNat <= 16777216) :
    eComp (none :: cap) src (gNm 0) t e τ S = .ok (.ref S1.length) (S1 ++ [.lst (((rngL lo hi).filter p).map f)]) := by
  rw [comp_pure hs (fun i => .int (lo + i)) (fun i => p (lo + i)) (fun i => f (lo + i)) (fun i hi' => if_pos hi') rfl (fun i hi' => ht _ (by omega) (by have : i < (hi - lo).toNat := hi'; omega)) (fun i hi' => he _ (by omega) (by have : i < (hi - lo).toNat := hi'; omega)) hl]
  unfold rngL
  rw [List.filter_map, List.map_map]
  rfl
@[simp] theorem capA_n {cap : List (Option Nat)} {τ : List A} : capA (none :: cap) τ = .unb :: capA cap τ := rfl
@[simp] theorem capA_s {cap : List (Option Nat)} {τ : List A} {j : Nat} : capA (some j :: cap) τ = τ.getD j .unb :: capA cap τ := rfl
@[simp] theorem capA_nil {τ : List A} : capA [] τ = [] := rfl
theorem atI_0 {x : A} {xs : List A} : atI (x :: xs) 0 = some x := atI_at (k := 0) rfl rfl
theorem atI_1 {x y : A} {xs : List A} : atI (x :: y :: xs) 1 = some y := atI_at (k := 1) rfl rfl
theorem atI_map {ns : List Int} {i : Int} {k : Nat} {x : Int} (h : i = k) (hx : ns[k]? = some x) : atI (ns.map A.int) i = some (.int x) := atI_at h (by rw [List.getElem?_map, hx]; rfl)
theorem bnd_of {j : Int} (h : -4611686018427387904 <= j) (h' : j < 4611686018427387904) : bnd j := ⟨by omega, by omega⟩
theorem eqLs_ints {S : Sto} {n : Nat} : ∀ (xs ys : List Int), eqLs (eqA S (n + 1)) (xs.map .int) (ys.map .int) = some (decide (xs = ys))
  | [], [] => rfl
  | [], _ :: _ => rfl
  | _ :: _, [] => rfl
  | x :: xs, y :: ys => by
    show (eqA S (n + 1) (.int x) (.int y)).bind _ = _
    show Option.bind (some (x == y)) _ = _
    show Option.map _ (eqLs (eqA S (n + 1)) (xs.map .int) (ys.map .int)) = _
    rw [eqLs_ints xs ys]
    show some (x == y && decide (xs = ys)) = _
    by_cases h1 : x = y <;> by_cases h2 : xs = ys <;> simp [h1, h2]
@[simp] theorem aEq_b {S : Sto} {x y : Bool} : aEq false (.bl x) (.bl y) S = .ok (.bl (x == y)) S := rfl
@[simp] theorem aNe_b {S : Sto} {x y : Bool} : aEq true (.bl x) (.bl y) S = .ok (.bl (!(x == y))) S := rfl
@[simp] theorem aEq_i {S : Sto} {x y : Int} : aEq false (.int x) (.int y) S = .ok (.bl (x == y)) S := rfl
@[simp] theorem aNe_i {S : Sto} {x y : Int} : aEq true (.int x) (.int y) S = .ok (.bl (!(x == y))) S := rfl
@[simp] theorem aIs_non {S : Sto} : aIs false .non .non S = .ok (.bl true) S := rfl
@[simp] theorem aIs_tup {S : Sto} {xs : List A} : aIs false (.tup xs) .non S = .ok (.bl false) S := rfl
@[simp] theorem aIs_ref {S : Sto} {n : Nat} : aIs false (.ref n) .non S = .ok (.bl false) S := rfl
@[simp] theorem aIsn_non {S : Sto} : aIs true .non .non S = .ok (.bl false) S := rfl
@[simp] theorem aIsn_tup {S : Sto} {xs : List A} : aIs true (.tup xs) .non S = .ok (.bl true) S := rfl
@[simp] theorem aIsn_ref {S : Sto} {n : Nat} : aIs true (.ref n) .non S = .ok (.bl true) S := rfl
@[simp] theorem aIsi_ap {S : Sto} {x : A} {c : String} : aIsi x (.ty c) S = opt (x.kd S) fun k => opt (isKd k c) fun b => .ok (.bl b) S := rfl
@[simp] theorem kd_bl {S : Sto} {b : Bool} : A.kd (.bl b) S = some .bl := rfl
@[simp] theorem kd_int {S : Sto} {b : Int} : A.kd (.int b) S = some .int := rfl
@[simp] theorem kd_tup {S : Sto} {b : List A} : A.kd (.tup b) S = some .tup := rfl
@[simp] theorem kd_non {S : Sto} : A.kd .non S = some .non := rfl
@[simp] theorem kd_str {S : Sto} {b : Str} : A.kd (.str b) S = some .str := rfl
@[simp] theorem kd_ref {S : Sto} {n : Nat} : A.kd (.ref n) S = (lstAt S n).map fun _ => .lst := rfl
@[simp] theorem newL_0 {S : Sto} : newL [] S = .ok (.ref S.length) (S ++ [.lst []]) := newL_ok (by simp)
@[simp] theorem newL_1 {S : Sto} {x0 : A} : newL [x0] S = .ok (.ref S.length) (S ++ [.lst [x0]]) := newL_ok (by simp)
@[simp] theorem newL_2 {S : Sto} {x0 x1 : A} : newL [x0, x1] S = .ok (.ref S.length) (S ++ [.lst [x0, x1]]) := newL_ok (by simp)
@[simp] theorem newL_3 {S : Sto} {x0 x1 x2 : A} : newL [x0, x1, x2] S = .ok (.ref S.length) (S ++ [.lst [x0, x1, x2]]) := newL_ok (by simp)
@[simp] theorem newL_4 {S : Sto} {x0 x1 x2 x3 : A} : newL [x0, x1, x2, x3] S = .ok (.ref S.length) (S ++ [.lst [x0, x1, x2, x3]]) := newL_ok (by simp)
@[simp] theorem newL_5 {S : Sto} {x0 x1 x2 x3 x4 : A} : newL [x0, x1, x2, x3, x4] S = .ok (.ref S.length) (S ++ [.lst [x0, x1, x2, x3, x4]]) := newL_ok (by simp)
@[simp] theorem newL_6 {S : Sto} {x0 x1 x2 x3 x4 x5 : A} : newL [x0, x1, x2, x3, x4, x5] S = .ok (.ref S.length) (S ++ [.lst [x0, x1, x2, x3, x4, x5]]) := newL_ok (by simp)
@[simp] theorem newL_7 {S : Sto} {x0 x1 x2 x3 x4 x5 x6 : A} : newL [x0, x1, x2, x3, x4, x5, x6] S = .ok (.ref S.length) (S ++ [.lst [x0, x1, x2, x3, x4, x5, x6]]) := newL_ok (by simp)
@[simp] theorem newL_8 {S : Sto} {x0 x1 x2 x3 x4 x5 x6 x7 : A} : newL [x0, x1, x2, x3, x4, x5, x6, x7] S = .ok (.ref S.length) (S ++ [.lst [x0, x1, x2, x3, x4, x5, x6, x7]]) := newL_ok (by simp)
@[simp] theorem newL_9 {S : Sto} {x0 x1 x2 x3 x4 x5 x6 x7 x8 : A} : newL [x0, x1, x2, x3, x4, x5, x6, x7, x8] S = .ok (.ref S.length) (S ++ [.lst [x0, x1, x2, x3, x4, x5, x6, x7, x8]]) := newL_ok (by simp)
@[simp] theorem newL_10 {S : Sto} {x0 x1 x2 x3 x4 x5 x6 x7 x8 x9 : A} : newL [x0, x1, x2, x3, x4, x5, x6, x7, x8, x9] S = .ok (.ref S.length) (S ++ [.lst [x0, x1, x2, x3, x4, x5, x6, x7, x8, x9]]) := newL_ok (by simp)
theorem gd_len {α : Type} {n : Nat} {r : R α} (h : n <= 16777216) : gd (n <= sizeLine) r = r := gd_of (by rw [sizeLine_eq]; exact h)
theorem gd_lt {α : Type} {n : Nat} {r : R α} (h : n < 16777216) : gd (n < sizeLine) r = r := gd_of (by rw [sizeLine_eq]; exact h)
end Am
set_option Elab.async false
set_option linter.all false
set_option maxRecDepth 100000
set_option maxHeartbeats 4000000
namespace Am
open PySem L2
theorem getD0 {x : A} {xs : List A} : (x :: xs).getD 0 .unb = x := rfl
theorem getDs {x : A} {xs : List A} {n : Nat} : (x :: xs).getD (n + 1) .unb = xs.getD n .unb := rfl
theorem set0 {x y : A} {xs : List A} : (x :: xs).set 0 y = y :: xs := rfl
theorem sets {x y : A} {xs : List A} {n : Nat} : (x :: xs).set (n + 1) y = x :: xs.set n y := rfl
theorem rep0 {x : A} : List.replicate 0 x = [] := rfl
theorem reps {x : A} {n : Nat} : List.replicate (n + 1) x = x :: List.replicate n x := rfl
theorem capp {x : A} {xs ys : List A} : (x :: xs) ++ ys = x :: (xs ++ ys) := rfl
theorem napp {ys : List A} : [] ++ ys = ys := rfl
theorem cat_r {S : Sto} {n m : Nat} {xs ys : List A} (h : lstAt S n = some xs) (h' : lstAt S m = some ys) (hl : xs.length + ys.length <= 16777216) : aAdd (.ref n) (.ref m) S = .ok (.ref S.length) (S ++ [.lst (xs ++ ys)]) := by
  show opt (lstAt S n) _ = _
  rw [h, opt_some, h', opt_some]
  exact gd_of (by rw [sizeLine_eq]; exact hl)
theorem ams : type_of% (And.intro @R.bind_ok (And.intro @R.bind_ex (And.intro @R.bindN_ok' (And.intro @RS.of_ok (And.intro @RS.of_ex (And.intro @opt_some (And.intro @gd_true (And.intro @eVar_ap (And.intro @unb_tup (And.intro @unb_frz (And.intro @unb_int (And.intro @unb_bl (And.intro @unb_str (And.intro @unb_ref (And.intro @unb_non (And.intro @unb_rng (And.intro @unb_exn (And.intro @eC_ap (And.intro @eBin_ap (And.intro @eUn_ap (And.intro @eTru_ap (And.intro @aB_bl (And.intro @toB_ap (And.intro @bNot_ap (And.intro @bAnd_ap (And.intro @bOr_ap (And.intro @bYes_ap (And.intro @aAndB_t (And.intro @aAndB_f (And.intro @aOrB_t (And.intro @aOrB_f (And.intro @eAnd_ap (And.intro @eOr_ap (And.intro @aNotB_bl (And.intro @eNot_ap (And.intro @eIf_ap (And.intro @lNil_ap (And.intro @lCons_ap (And.intro @eTup_ap (And.intro @eLst_ap (And.intro @eCall_ap (And.intro @okR_ok (And.intro @eFn_ap (And.intro @f1_ap (And.intro @f2_ap (And.intro @eSl_ap (And.intro @pNone_ap (And.intro @aPt_int (And.intro @pSome_ap (And.intro @eMe_ap (And.intro @eMe0_ap (And.intro @lst?_ref (And.intro @RS.seq_nx (And.intro @RS.seq_rt (And.intro @RS.seq_ex (And.intro @RS.seq_bk (And.intro @RS.seq_ct (And.intro @sSeq_ap (And.intro @sNil_ap (And.intro @sBreak_ap (And.intro @sCont_ap (And.intro @sExpr_ap (And.intro @sRet_ap (And.intro @sRetN_ap (And.intro @sIf_ap (And.intro @sAsg_ap (And.intro @gNm_ap (And.intro @gSb_ap (And.intro @gTp_ap (And.intro @gNl_ap (And.intro @gCn_ap (And.intro @sPr_ap (And.intro @sPar_ap (And.intro @sAug_ap (And.intro @sAugS_ap (And.intro @RS.end_rt (And.intro @RS.end_nx (And.intro @RS.end_ex (And.intro @aAdd_i (And.intro @aSub_i (And.intro @iAdd_i (And.intro @aLt_i (And.intro @aLe_i (And.intro @aGt_i (And.intro @aGe_i (And.intro @aIs_b (And.intro @aIs_nb (And.intro @aNeg_i (And.intro @aLen_t (And.intro @aLen_f (And.intro @aLen_r (And.intro @aAbs_i (And.intro @aMax2_i (And.intro @aMin2_i (And.intro @aInt1_i (And.intro @aInt1_b (And.intro @aRange2_i (And.intro @aIx_t (And.intro @aIx_f (And.intro @aIx_r (And.intro @aSet_r (And.intro @aGet_r (And.intro @aList_t (And.intro @aList_f (And.intro @aList_r (And.intro @aTuple_t (And.intro @aTuple_r (And.intro @aRev_t (And.intro @aRev_r (And.intro @aSl_r (And.intro @mAppend_ap (And.intro @tru_bl (And.intro @tru_int (And.intro @lst_lay (And.intro @capA_n (And.intro @capA_s (And.intro @capA_nil (And.intro @aEq_b (And.intro @aNe_b (And.intro @aEq_i (And.intro @aNe_i (And.intro @aIs_non (And.intro @aIs_tup (And.intro @aIs_ref (And.intro @aIsn_non (And.intro @aIsn_tup (And.intro @aIsn_ref (And.intro @aIsi_ap (And.intro @kd_bl (And.intro @kd_int (And.intro @kd_tup (And.intro @kd_non (And.intro @kd_str (And.intro @kd_ref (And.intro @newL_0 (And.intro @newL_1 (And.intro @newL_2 (And.intro @newL_3 (And.intro @newL_4 (And.intro @newL_5 (And.intro @newL_6 (And.intro @newL_7 (And.intro @newL_8 (And.intro @newL_9 (And.intro @newL_10 (And.intro @getD0 (And.intro @getDs (And.intro @set0 (And.intro @sets (And.intro @rep0 (And.intro @reps (And.intro @capp (And.intro @napp (And.intro @runF_ap (And.intro @kBin_ap (And.intro @kAnd_t (And.intro @kAnd_f (And.intro @kOr_t (And.intro @kOr_f (And.intro @kIfE_t (And.intro @kIfE_f (And.intro @kCons2_ap (And.intro @kCons_ap (And.intro @kFn_ap (And.intro @kSl2_ap (And.intro @kSl_ap (And.intro @kMe2_ap (And.intro @kMe_ap (And.intro @kIf_t (And.intro @kIf_f (And.intro @kAsg_ap (And.intro @kSb2_ap (And.intro @kSb_ap (And.intro @kAug2_ap (And.intro @kAug_ap (And.intro @kS1_ap (And.intro @kS2_ap (And.intro @kS3_ap (And.intro @kS4_ap (@kS5_ap)))))))))))))))))))))))))))))))))))))))))))))))))))))))))))))))))))))))))))))))))))))))))))))))))))))))))))))))))))))))))))))))))))))))))))))))))))))))))))))))))))))))))))))))))))) := And.intro @R.bind_ok (And.intro @R.bind_ex (And.intro @R.bindN_ok' (And.intro @RS.of_ok (And.intro @RS.of_ex (And.intro @opt_some (And.intro @gd_true (And.intro @eVar_ap (And.intro @unb_tup (And.intro @unb_frz (And.intro @unb_int (And.intro @unb_bl (And.intro @unb_str (And.intro @unb_ref (And.intro @unb_non (And.intro @unb_rng (And.intro @unb_exn (And.intro @eC_ap (And.intro @eBin_ap (And.intro @eUn_ap (And.intro @eTru_ap (And.intro @aB_bl (And.intro @toB_ap (And.intro @bNot_ap (And.intro @bAnd_ap (And.intro @bOr_ap (And.intro @bYes_ap (And.intro @aAndB_t (And.intro @aAndB_f (And.intro @aOrB_t (And.intro @aOrB_f (And.intro @eAnd_ap (And.intro @eOr_ap (And.intro @aNotB_bl (And.intro @eNot_ap (And.intro @eIf_ap (And.intro @lNil_ap (And.intro @lCons_ap (And.intro @eTup_ap (And.intro @eLst_ap (And.intro @eCall_ap (And.intro @okR_ok (And.intro @eFn_ap (And.intro @f1_ap (And.intro @f2_ap (And.intro @eSl_ap (And.intro @pNone_ap (And.intro @aPt_int (And.intro @pSome_ap (And.intro @eMe_ap (And.intro @eMe0_ap (And.intro @lst?_ref (And.intro @RS.seq_nx (And.intro @RS.seq_rt (And.intro @RS.seq_ex (And.intro @RS.seq_bk (And.intro @RS.seq_ct (And.intro @sSeq_ap (And.intro @sNil_ap (And.intro @sBreak_ap (And.intro @sCont_ap (And.intro @sExpr_ap (And.intro @sRet_ap (And.intro @sRetN_ap (And.intro @sIf_ap (And.intro @sAsg_ap (And.intro @gNm_ap (And.intro @gSb_ap (And.intro @gTp_ap (And.intro @gNl_ap (And.intro @gCn_ap (And.intro @sPr_ap (And.intro @sPar_ap (And.intro @sAug_ap (And.intro @sAugS_ap (And.intro @RS.end_rt (And.intro @RS.end_nx (And.intro @RS.end_ex (And.intro @aAdd_i (And.intro @aSub_i (And.intro @iAdd_i (And.intro @aLt_i (And.intro @aLe_i (And.intro @aGt_i (And.intro @aGe_i (And.intro @aIs_b (And.intro @aIs_nb (And.intro @aNeg_i (And.intro @aLen_t (And.intro @aLen_f (And.intro @aLen_r (And.intro @aAbs_i (And.intro @aMax2_i (And.intro @aMin2_i (And.intro @aInt1_i (And.intro @aInt1_b (And.intro @aRange2_i (And.intro @aIx_t (And.intro @aIx_f (And.intro @aIx_r (And.intro @aSet_r (And.intro @aGet_r (And.intro @aList_t (And.intro @aList_f (And.intro @aList_r (And.intro @aTuple_t (And.intro @aTuple_r (And.intro @aRev_t (And.intro @aRev_r (And.intro @aSl_r (And.intro @mAppend_ap (And.intro @tru_bl (And.intro @tru_int (And.intro @lst_lay (And.intro @capA_n (And.intro @capA_s (And.intro @capA_nil (And.intro @aEq_b (And.intro @aNe_b (And.intro @aEq_i (And.intro @aNe_i (And.intro @aIs_non (And.intro @aIs_tup (And.intro @aIs_ref (And.intro @aIsn_non (And.intro @aIsn_tup (And.intro @aIsn_ref (And.intro @aIsi_ap (And.intro @kd_bl (And.intro @kd_int (And.intro @kd_tup (And.intro @kd_non (And.intro @kd_str (And.intro @kd_ref (And.intro @newL_0 (And.intro @newL_1 (And.intro @newL_2 (And.intro @newL_3 (And.intro @newL_4 (And.intro @newL_5 (And.intro @newL_6 (And.intro @newL_7 (And.intro @newL_8 (And.intro @newL_9 (And.intro @newL_10 (And.intro @getD0 (And.intro @getDs (And.intro @set0 (And.intro @sets (And.intro @rep0 (And.intro @reps (And.intro @capp (And.intro @napp (And.intro @runF_ap (And.intro @kBin_ap (And.intro @kAnd_t (And.intro @kAnd_f (And.intro @kOr_t (And.intro @kOr_f (And.intro @kIfE_t (And.intro @kIfE_f (And.intro @kCons2_ap (And.intro @kCons_ap (And.intro @kFn_ap (And.intro @kSl2_ap (And.intro @kSl_ap (And.intro @kMe2_ap (And.intro @kMe_ap (And.intro @kIf_t (And.intro @kIf_f (And.intro @kAsg_ap (And.intro @kSb2_ap (And.intro @kSb_ap (And.intro @kAug2_ap (And.intro @kAug_ap (And.intro @kS1_ap (And.intro @kS2_ap (And.intro @kS3_ap (And.intro @kS4_ap (@kS5_ap)))))))))))))))))))))))))))))))))))))))))))))))))))))))))))))))))))))))))))))))))))))))))))))))))))))))))))))))))))))))))))))))))))))))))))))))))))))))))))))))))))))))))))))))))))
theorem bools : (∀ b : Bool, cond false b b = b) /\ (∀ (α : Type) (x y : α), cond false x y = y) /\ (∀ (α : Type) (x y : α), cond true x y = x) := ⟨fun _ => rfl, fun _ _ _ => rfl, fun _ _ _ => rfl⟩
theorem nlen : (∀ (x : Str) (xs : List Str), (x :: xs).length = xs.length + 1) /\ ([] : List Str).length = 0 /\ (∀ (x : A) (xs : List A), (x :: xs).length = xs.length + 1) /\ ([] : List A).length = 0 := ⟨fun _ _ => rfl, rfl, fun _ _ => rfl, rfl⟩
end Am
set_option Elab.async false
set_option linter.all false
set_option maxRecDepth 100000
set_option maxHeartbeats 4000000
namespace Am
open PySem L2
section
variable {τ : List A} {S : Sto}
theorem eFnX_ap {f : List A -> Sto -> R A} {d : Exs} : eFnX f d τ S = (d τ S).bind f := rfl
noncomputable def kRz (c : Str) : Unit -> Sto -> RS := fun _ S1 => .ex c S1
theorem kRz_ap {c : Str} {u : Unit} : kRz c u S = .ex c S := rfl
theorem sRaise_ap {c : Str} {ps : List (Str ⊕ Ex)} : sRaise c ps τ S = RS.of (fsR ps τ S) (kRz c) := rfl
theorem fsR_nil : fsR [] τ S = .ok () S := rfl
theorem fsR_txt {x : Str} {ps : List (Str ⊕ Ex)} : fsR (.inl x :: ps) τ S = fsR ps τ S := rfl
noncomputable def kFs (ps : List (Str ⊕ Ex)) (τ : List A) : A -> Sto -> R Unit := fun v S1 => match v with
  | .int i => gd (i.natAbs.log2 < 64) (fsR ps τ S1)
  | _ => .no
theorem fsR_val {e : Ex} {ps : List (Str ⊕ Ex)} : fsR (.inr e :: ps) τ S = (e τ S).bind (kFs ps τ) := rfl
theorem kFs_n {n : Nat} {ps : List (Str ⊕ Ex)} (h : n < 18446744073709551616) : kFs ps τ (.int (n : Int)) S = fsR ps τ S := by
  show gd ((n : Int).natAbs.log2 < 64) _ = _
  refine gd_t ?_
  rw [Int.natAbs_natCast]
  by_cases z : n = 0
  · subst z; decide
  · exact (Nat.log2_lt z).mpr h
noncomputable def RS.try (i n : Nat) (cs : List Str) (d : Sm) : RS -> RS
  | .ex x S1 => if x ∈ cs then unR i (d ((List.replicate n .unb).set i (.exn x)) S1) else .no
  | r => r
theorem sTry_ap {i n : Nat} {cs : List Str} {c d : Sm} : sTry i n cs c d τ S = RS.try i n cs d (c τ S) := by
  unfold sTry RS.try; cases c τ S <;> rfl
theorem try_nx {i n : Nat} {cs : List Str} {d : Sm} : RS.try i n cs d (.nx τ S) = .nx τ S := rfl
theorem try_rt {i n : Nat} {cs : List Str} {d : Sm} {a : A} : RS.try i n cs d (.rt a S) = .rt a S := rfl
theorem try_ex {i n : Nat} {x : Str} {cs : List Str} {d : Sm} : RS.try i n (x :: cs) d (.ex x S) = unR i (d ((List.replicate n .unb).set i (.exn x)) S) := if_pos (.head _)
theorem unR_rt {i : Nat} {a : A} : unR i (.rt a S) = .rt a S := rfl
theorem unR_nx {i : Nat} : unR i (.nx τ S) = .nx (τ.set i .unb) S := rfl
noncomputable def kIsX (f : Str -> Option Bool) : A -> Sto -> R A := fun v S1 => match v with
  | .exn x => opt (f x) fun b => .ok (.bl b) S1
  | _ => .no
theorem eIsX_ap {f : Str -> Option Bool} {c : Ex} : eIsX f c τ S = (c τ S).bind (kIsX f) := rfl
theorem kIsX_h {x : Str} {b : Bool} {tb : List (Str × Bool)} : kIsX (tbX ((x, b) :: tb)) (.exn x) S = .ok (.bl b) S := by
  show opt (List.lookup x ((x, b) :: tb)) _ = _
  rw [List.lookup_cons, beq_self_eq_true]; rfl
noncomputable def R.bindK {α β : Type} (r : R α) (f : α -> Sto -> R β) : R β := match r with
  | .ok a S => f a S
  | _ => .no
theorem bindK_ok {α β : Type} {a : α} {f : α -> Sto -> R β} : R.bindK (.ok a S) f = f a S := rfl
theorem eFnK_ap {f : List A -> Sto -> R A} {d : Exs} : eFnK f d τ S = R.bindK (d τ S) f := by unfold eFnK R.bindK; cases d τ S <;> rfl
noncomputable def RS.ofK {α : Type} (r : R α) (f : α -> Sto -> RS) : RS := match r with
  | .ok a S => f a S
  | _ => .no
theorem ofK_ok {α : Type} {a : α} {f : α -> Sto -> RS} : RS.ofK (.ok a S) f = f a S := rfl
theorem sIfK_ap {t : Te} {c d : Sm} : sIfK t c d τ S = RS.ofK (t τ S) (kIf c d τ) := by
  unfold sIfK RS.ofK
  cases t τ S with
  | ok b S1 => cases b <;> rfl
  | ex _ _ => rfl
  | no => rfl
noncomputable def RS.tryL (i : Nat) (cs : List Str) (d : Sm) (τ : List A) : RS -> RS
  | .ex x S1 => if x ∈ cs then unR i (d (τ.set i (.exn x)) S1) else .no
  | r => r
theorem sTryL_ap {i : Nat} {cs : List Str} {c d : Sm} : sTryL i cs c d τ S = RS.tryL i cs d τ (c τ S) := by
  unfold sTryL RS.tryL; cases c τ S <;> rfl
theorem tryL_nx {i : Nat} {cs : List Str} {d : Sm} {τ' : List A} : RS.tryL i cs d τ (.nx τ' S) = .nx τ' S := rfl
theorem tryL_rt {i : Nat} {cs : List Str} {d : Sm} {a : A} : RS.tryL i cs d τ (.rt a S) = .rt a S := rfl
theorem tryL_ex {i : Nat} {x : Str} {cs : List Str} {d : Sm} : RS.tryL i (x :: cs) d τ (.ex x S) = unR i (d (τ.set i (.exn x)) S) := if_pos (.head _)
theorem bls_nil' : A.bls [] = some [] := rfl
theorem bls_cons' {b : Bool} {xs : List A} : A.bls (.bl b :: xs) = (A.bls xs).map (b :: ·) := rfl
end
theorem amx : type_of% (And.intro @eFnX_ap (And.intro @sRaise_ap (And.intro @kRz_ap (And.intro @fsR_nil (And.intro @fsR_txt (And.intro @fsR_val (And.intro @sTry_ap (And.intro @try_nx (And.intro @try_rt (And.intro @try_ex (And.intro @unR_rt (And.intro @unR_nx (And.intro @eIsX_ap (And.intro @kIsX_h (And.intro @bls_nil' (And.intro @bls_cons' (And.intro @bindK_ok (And.intro @eFnK_ap (And.intro @ofK_ok (And.intro @sIfK_ap (And.intro @sTryL_ap (And.intro @tryL_nx (And.intro @tryL_rt (And.intro @tryL_ex (trivial))))))))))))))))))))))))) := And.intro @eFnX_ap (And.intro @sRaise_ap (And.intro @kRz_ap (And.intro @fsR_nil (And.intro @fsR_txt (And.intro @fsR_val (And.intro @sTry_ap (And.intro @try_nx (And.intro @try_rt (And.intro @try_ex (And.intro @unR_rt (And.intro @unR_nx (And.intro @eIsX_ap (And.intro @kIsX_h (And.intro @bls_nil' (And.intro @bls_cons' (And.intro @bindK_ok (And.intro @eFnK_ap (And.intro @ofK_ok (And.intro @sIfK_ap (And.intro @sTryL_ap (And.intro @tryL_nx (And.intro @tryL_rt (And.intro @tryL_ex (trivial))))))))))))))))))))))))
end Am
set_option Elab.async false
set_option linter.all false
set_option maxRecDepth 100000
set_option maxHeartbeats 4000000
namespace Bl
open L2
end Bl
set_option Elab.async false
set_option linter.all false
set_option maxRecDepth 100000
set_option maxHeartbeats 4000000
namespace Am
open PySem L2 Bl
end Am
set_option Elab.async false
set_option linter.all false
namespace Tb
noncomputable def fg (r : List Int) (x : Int) : Nat := r.findIdx fun y => decide (x < y)
theorem fg_le (r : List Int) (x : Int) : fg r x <= r.length := List.findIdx_le_length
theorem fg_lt {r : List Int} {x : Int} (h : fg r x ≠ r.length) : fg r x < r.length := Nat.lt_of_le_of_ne (fg_le r x) h
noncomputable def put : List (List Int) -> Int -> List (List Int)
  | [], x => [[x]]
  | r :: rs, x => if fg r x = r.length then (r ++ [x]) :: rs else r.set (fg r x) x :: put rs (r.getD (fg r x) 0)
noncomputable def row : List (List Int) -> Int -> Nat
  | [], _ => 0
  | r :: rs, x => if fg r x = r.length then 0 else row rs (r.getD (fg r x) 0) + 1
theorem put_end {r : List Int} {rs : List (List Int)} {x : Int} (h : fg r x = r.length) : put (r :: rs) x = (r ++ [x]) :: rs := if_pos h
theorem put_on {r : List Int} {rs : List (List Int)} {x : Int} (h : fg r x ≠ r.length) : put (r :: rs) x = r.set (fg r x) x :: put rs (r.getD (fg r x) 0) := if_neg h
theorem row_end {r : List Int} {rs : List (List Int)} {x : Int} (h : fg r x = r.length) : row (r :: rs) x = 0 := if_pos h
theorem row_on {r : List Int} {rs : List (List Int)} {x : Int} (h : fg r x ≠ r.length) : row (r :: rs) x = row rs (r.getD (fg r x) 0) + 1 := if_neg h
theorem row_le : ∀ (T : List (List Int)) (x : Int), row T x <= T.length
  | [], _ => Nat.le_refl _
  | r :: rs, x => by
    by_cases h : fg r x = r.length
    · rw [row_end h]; exact Nat.zero_le _
    · rw [row_on h, List.length_cons]; exact Nat.succ_le_succ (row_le rs _)
noncomputable def bump : List Nat -> Nat -> List Nat
  | [], _ => [1]
  | n :: ns, 0 => (n + 1) :: ns
  | n :: ns, i + 1 => n :: bump ns i
theorem put_shape : ∀ (T : List (List Int)) (x : Int), (put T x).map List.length = bump (T.map List.length) (row T x)
  | [], _ => rfl
  | r :: rs, x => by
    by_cases h : fg r x = r.length
    · rw [put_end h, row_end h, List.map_cons, List.map_cons, List.length_append]; rfl
    · rw [put_on h, row_on h, List.map_cons, List.map_cons, List.length_set, put_shape rs]; rfl
theorem bump_len : ∀ (ns : List Nat) (i : Nat), i <= ns.length -> (bump ns i).length = if i = ns.length then ns.length + 1 else ns.length
  | [], i, h => by
    have : i = 0 := by simpa using h
    subst this; rfl
  | n :: ns, 0, _ => by rw [if_neg (by simp)]; rfl
  | n :: ns, i + 1, h => by
    have h' : i <= ns.length := Nat.le_of_succ_le_succ h
    show (bump ns i).length + 1 = _
    rw [bump_len ns i h']
    by_cases e : i = ns.length
    · rw [if_pos e, if_pos (by rw [List.length_cons, e])]; rfl
    · rw [if_neg e, if_neg (by rw [List.length_cons]; omega)]; rfl
theorem bump_at : ∀ (ns : List Nat) (i j : Nat), i <= ns.length -> (bump ns i).getD j 0 = ns.getD j 0 + if j = i then 1 else 0
  | [], i, j, h => by
    have : i = 0 := by simpa using h
    subst this
    cases j with
    | zero => rfl
    | succ j => simp [bump]
  | n :: ns, 0, j, _ => by cases j <;> simp [bump]
  | n :: ns, i + 1, j, h => by
    cases j with
    | zero => simp [bump]
    | succ j =>
      have := bump_at ns i j (Nat.le_of_succ_le_succ h)
      simpa [bump] using this
theorem bump_sum : ∀ (ns : List Nat) (i : Nat), (bump ns i).sum = ns.sum + 1
  | [], _ => rfl
  | n :: ns, 0 => by simp [bump]; omega
  | n :: ns, i + 1 => by simp [bump, bump_sum ns i]; omega
theorem put_len (T : List (List Int)) (x : Int) : (put T x).length = if row T x = T.length then T.length + 1 else T.length := by
  have := congrArg List.length (put_shape T x)
  rw [List.length_map, bump_len _ _ (by rw [List.length_map]; exact row_le T x), List.length_map] at this
  exact this
theorem getD_len (T : List (List Int)) (j : Nat) : (T.map List.length).getD j 0 = (T.getD j []).length := by
  rw [List.getD_eq_getElem?_getD, List.getD_eq_getElem?_getD, List.getElem?_map]
  cases T[j]? <;> rfl
theorem put_at (T : List (List Int)) (x : Int) (j : Nat) : ((put T x).getD j []).length = (T.getD j []).length + if j = row T x then 1 else 0 := by
  rw [<- getD_len, put_shape, bump_at _ _ _ (by rw [List.length_map]; exact row_le T x), getD_len]
theorem put_sum (T : List (List Int)) (x : Int) : ((put T x).map List.length).sum = (T.map List.length).sum + 1 := by
  rw [put_shape, bump_sum]
noncomputable def add : List (List Int) -> Nat -> Int -> List (List Int)
  | [], _, k => [[k]]
  | q :: qs, 0, k => (q ++ [k]) :: qs
  | q :: qs, i + 1, k => q :: add qs i k
theorem add_shape : ∀ (Q : List (List Int)) (i : Nat) (k : Int), (add Q i k).map List.length = bump (Q.map List.length) i
  | [], _, _ => rfl
  | q :: qs, 0, k => by simp [add, bump]
  | q :: qs, i + 1, k => by simp [add, bump, add_shape qs i k]
theorem add_end : ∀ (Q : List (List Int)) (k : Int), add Q Q.length k = Q ++ [[k]]
  | [], _ => rfl
  | q :: qs, k => by show q :: add qs qs.length k = _; rw [add_end qs k]; rfl
theorem add_in : ∀ (Q : List (List Int)) (i : Nat) (k : Int), i < Q.length -> add Q i k = Q.set i (Q.getD i [] ++ [k])
  | [], _, _, h => absurd h (Nat.not_lt_zero _)
  | q :: qs, 0, k, _ => rfl
  | q :: qs, i + 1, k, h => by show q :: add qs i k = _; rw [add_in qs i k (Nat.lt_of_succ_lt_succ h)]; rfl
noncomputable def tabs (xs : List Int) : Nat -> List (List Int) × List (List Int)
  | 0 => ([], [])
  | i + 1 => (put (tabs xs i).1 (xs.getD i 0), add (tabs xs i).2 (row (tabs xs i).1 (xs.getD i 0)) ((i : Int) + 1))
theorem tabs_shape (xs : List Int) : ∀ i, (tabs xs i).2.map List.length = (tabs xs i).1.map List.length
  | 0 => rfl
  | i + 1 => by
    show (add _ _ _).map List.length = (put _ _).map List.length
    rw [add_shape, put_shape, tabs_shape xs i]
theorem tabs_len (xs : List Int) (i : Nat) : (tabs xs i).2.length = (tabs xs i).1.length := by
  have := congrArg List.length (tabs_shape xs i)
  simpa using this
theorem tabs_sum (xs : List Int) : ∀ i, ((tabs xs i).1.map List.length).sum = i
  | 0 => rfl
  | i + 1 => by
    show ((put _ _).map List.length).sum = _
    rw [put_sum, tabs_sum xs i]
theorem len_le_sum : ∀ {ns : List Nat}, (∀ n ∈ ns, 0 < n) -> ns.length <= ns.sum
  | [], _ => Nat.le_refl _
  | n :: ns, h => by
    have h1 := h n (List.mem_cons_self ..)
    have h2 := len_le_sum fun m hm => h m (List.mem_cons_of_mem _ hm)
    rw [List.length_cons, List.sum_cons]; omega
theorem at_le_sum : ∀ (ns : List Nat) (j : Nat), ns.getD j 0 <= ns.sum
  | [], j => by simp
  | n :: ns, 0 => by simp
  | n :: ns, j + 1 => by have := at_le_sum ns j; rw [List.sum_cons]; simp only [List.getD_cons_succ]; omega
theorem bump_pos : ∀ {ns : List Nat} {i : Nat}, (∀ n ∈ ns, 0 < n) -> ∀ n ∈ bump ns i, 0 < n
  | [], _, _, n, h => by simp [bump] at h; omega
  | m :: ns, 0, hp, n, h => by
    rcases List.mem_cons.mp h with z | z
    · omega
    · exact hp n (List.mem_cons_of_mem _ z)
  | m :: ns, i + 1, hp, n, h => by
    rcases List.mem_cons.mp h with z | z
    · rw [z]; exact hp m (List.mem_cons_self ..)
    · exact bump_pos (fun k hk => hp k (List.mem_cons_of_mem _ hk)) n z
theorem tabs_pos (xs : List Int) : ∀ i, ∀ n ∈ (tabs xs i).1.map List.length, 0 < n
  | 0 => fun n h => by cases h
  | i + 1 => by
    show ∀ n ∈ (put _ _).map List.length, 0 < n
    rw [put_shape]
    exact bump_pos (tabs_pos xs i)
theorem tabs_small (xs : List Int) (i : Nat) : (tabs xs i).1.length <= i /\ ∀ j, ((tabs xs i).1.getD j []).length <= i := by
  refine ⟨?_, fun j => ?_⟩
  · have := len_le_sum (tabs_pos xs i)
    rw [tabs_sum, List.length_map] at this; exact this
  · have := at_le_sum ((tabs xs i).1.map List.length) j
    rw [getD_len, tabs_sum] at this; exact this
noncomputable def gs (r : List Int) (x : Int) : List Nat := (List.range r.length).filter fun k => decide (x < r.getD k 0)
theorem gs_head : ∀ (r : List Int) (x : Int), (fg r x = r.length -> gs r x = []) /\ (fg r x ≠ r.length -> ∃ t, gs r x = fg r x :: t)
  | [], x => ⟨fun _ => rfl, fun h => absurd rfl h⟩
  | y :: r, x => by
    have ih := gs_head r x
    have e : gs (y :: r) x = if x < y then 0 :: (gs r x).map Nat.succ else (gs r x).map Nat.succ := by
      unfold gs
      rw [List.length_cons, List.range_succ_eq_map, List.filter_cons, List.filter_map]
      by_cases h : x < y <;> simp [h] <;> rfl
    have e2 : fg (y :: r) x = if x < y then 0 else fg r x + 1 := by
      unfold fg
      rw [List.findIdx_cons]
      by_cases h : x < y <;> simp [h]
    rw [e, e2]
    by_cases h : x < y
    · rw [if_pos h, if_pos h]
      exact ⟨fun z => by simp at z, fun _ => ⟨_, rfl⟩⟩
    · rw [if_neg h, if_neg h]
      refine ⟨fun z => ?_, fun z => ?_⟩
      · rw [ih.1 (by simpa using z)]; rfl
      · obtain ⟨t, ht⟩ := ih.2 (by simpa using z)
        exact ⟨t.map Nat.succ, by rw [ht]; rfl⟩
end Tb
set_option Elab.async false
set_option linter.all false
set_option maxRecDepth 100000
set_option maxHeartbeats 4000000
namespace Am
open PySem L2
noncomputable def Rows (S : Sto) : List Nat -> List (List Int) -> Prop
  | [], [] => True
  | r :: rs, x :: T => lstAt S r = some (x.map .int) /\ Rows S rs T
  | _, _ => False
theorem Rows.len {S : Sto} : ∀ {rs : List Nat} {T : List (List Int)}, Rows S rs T -> rs.length = T.length
  | [], [], _ => rfl
  | _ :: _, _ :: _, h => congrArg (· + 1) (Rows.len h.2)
  | [], _ :: _, h => h.elim
  | _ :: _, [], h => h.elim
theorem Rows.get {S : Sto} : ∀ {rs : List Nat} {T : List (List Int)} {i : Nat} {r : Nat}, Rows S rs T -> rs[i]? = some r -> i < T.length /\ lstAt S r = some ((T.getD i []).map .int)
  | [], [], _, _, _, e => by simp at e
  | r :: rs, x :: T, 0, _, h, e => by simp at e; subst e; exact ⟨Nat.zero_lt_succ _, h.1⟩
  | r :: rs, x :: T, i + 1, q, h, e => by
    obtain ⟨h1, h2⟩ := Rows.get (i := i) (r := q) h.2 (by simpa using e)
    exact ⟨Nat.succ_lt_succ h1, by simpa using h2⟩
  | [], _ :: _, _, _, h, _ => h.elim
  | _ :: _, [], _, _, h, _ => h.elim
theorem Rows.mono {S S' : Sto} : ∀ {rs : List Nat} {T : List (List Int)}, Rows S rs T -> (∀ r ∈ rs, ∀ xs, lstAt S r = some xs -> lstAt S' r = some xs) -> Rows S' rs T
  | [], [], _, _ => trivial
  | r :: rs, x :: T, h, k => ⟨k r (List.mem_cons_self ..) _ h.1, Rows.mono h.2 fun q hq => k q (List.mem_cons_of_mem _ hq)⟩
  | [], _ :: _, h, _ => h.elim
  | _ :: _, [], h, _ => h.elim
theorem Rows.mk {S : Sto} : ∀ {rs : List Nat} {T : List (List Int)}, rs.length = T.length -> (∀ i, i < T.length -> lstAt S (rs.getD i 0) = some ((T.getD i []).map .int)) -> Rows S rs T
  | [], [], _, _ => trivial
  | r :: rs, x :: T, hl, h => ⟨h 0 (Nat.zero_lt_succ _), Rows.mk (by simpa using hl) fun i hi => by have := h (i + 1) (Nat.succ_lt_succ hi); simpa using this⟩
  | [], _ :: _, h, _ => by simp at h
  | _ :: _, [], h, _ => by simp at h
theorem Rows.set {S : Sto} {ys : List Int} : ∀ {rs : List Nat} {T : List (List Int)} {i : Nat} {r : Nat}, Rows S rs T -> rs.Nodup -> rs[i]? = some r -> Rows (S.set r (.lst (ys.map .int))) rs (T.set i ys)
  | [], [], _, _, _, _, e => by simp at e
  | r :: rs, x :: T, 0, q, h, nd, e => by
    simp at e; subst e
    refine ⟨lst_set (lst_lt h.1), Rows.mono h.2 fun q hq xs e => ?_⟩
    rw [lst_set_ne (show r ≠ q from fun z => (List.nodup_cons.mp nd).1 (by rw [z]; exact hq))]; exact e
  | r :: rs, x :: T, i + 1, q, h, nd, e => by
    have e' : rs[i]? = some q := by simpa using e
    refine ⟨?_, Rows.set h.2 (List.nodup_cons.mp nd).2 e'⟩
    rw [lst_set_ne (show q ≠ r from fun z => (List.nodup_cons.mp nd).1 (by rw [<- z]; exact List.mem_of_getElem? e'))]; exact h.1
  | [], _ :: _, _, _, h, _, _ => h.elim
  | _ :: _, [], _, _, h, _, _ => h.elim
theorem Rows.app {S : Sto} : ∀ {rs rs' : List Nat} {T T' : List (List Int)}, Rows S rs T -> Rows S rs' T' -> Rows S (rs ++ rs') (T ++ T')
  | [], _, [], _, _, h => h
  | r :: rs, _, x :: T, _, h, h' => ⟨h.1, Rows.app h.2 h'⟩
  | [], _, _ :: _, _, h, _ => h.elim
  | _ :: _, _, [], _, h, _ => h.elim
structure Tab (S : Sto) (n : Nat) (rs : List Nat) (T : List (List Int)) : Prop where
  top : lstAt S n = some (rs.map .ref)
  rows : Rows S rs T
  nd : (n :: rs).Nodup
theorem Tab.len {S : Sto} {n : Nat} {rs : List Nat} {T : List (List Int)} (h : Tab S n rs T) : rs.length = T.length := h.rows.len
theorem Tab.kp {S S' : Sto} {n : Nat} {rs : List Nat} {T : List (List Int)} {c : Nat -> Prop} (h : Tab S n rs T) (k : Kp c S S') (hc : ∀ r ∈ n :: rs, ¬ c r) : Tab S' n rs T :=
  ⟨k.lst _ _ (hc n (List.mem_cons_self ..)) h.top, h.rows.mono fun r hr xs e => k.lst r xs (hc r (List.mem_cons_of_mem _ hr)) e, h.nd⟩
theorem Tab.kp0 {S S' : Sto} {n : Nat} {rs : List Nat} {T : List (List Int)} (h : Tab S n rs T) (k : Kp0 S S') : Tab S' n rs T := h.kp k fun _ _ z => z
theorem Rows.lt {S : Sto} {rs : List Nat} {T : List (List Int)} (h : Rows S rs T) : ∀ r ∈ rs, r < S.length := fun r hr => by
  obtain ⟨i, hi, e⟩ := List.mem_iff_getElem.mp hr
  exact lst_lt (h.get (by rw [List.getElem?_eq_getElem hi, e])).2
theorem Tab.lt {S : Sto} {n : Nat} {rs : List Nat} {T : List (List Int)} (h : Tab S n rs T) : ∀ r ∈ n :: rs, r < S.length := fun r hr => by
  rcases List.mem_cons.mp hr with z | z
  · rw [z]; exact lst_lt h.top
  · exact h.rows.lt r z
theorem Tab.set {S : Sto} {n : Nat} {rs : List Nat} {T : List (List Int)} {i r : Nat} {ys : List Int} (h : Tab S n rs T) (hi : rs[i]? = some r) : Tab (S.set r (.lst (ys.map .int))) n rs (T.set i ys) :=
  ⟨by rw [lst_set_ne (show r ≠ n from fun z => (List.nodup_cons.mp h.nd).1 (by rw [<- z]; exact List.mem_of_getElem? hi))]; exact h.top, h.rows.set (List.nodup_cons.mp h.nd).2 hi, h.nd⟩
theorem Tab.push {S : Sto} {n : Nat} {rs : List Nat} {T : List (List Int)} {ys : List Int} (h : Tab S n rs T) : Tab ((S ++ [O.lst (ys.map .int)]).set n (.lst ((rs ++ [S.length]).map .ref))) n (rs ++ [S.length]) (T ++ [ys]) := by
  have hn : n < S.length := h.lt n (List.mem_cons_self ..)
  have nn : ∀ r ∈ rs, n ≠ r := fun r hr z => (List.nodup_cons.mp h.nd).1 (z ▸ hr)
  refine ⟨lst_set (by rw [List.length_append]; simp; omega), Rows.app (h.rows.mono fun r hr xs e => ?_) ⟨?_, trivial⟩, ?_⟩
  · rw [lst_set_ne (nn r hr)]; exact lst_app e
  · rw [lst_set_ne (by omega)]; exact lst_lay
  · rw [List.nodup_cons, List.nodup_append]
    refine ⟨fun z => ?_, (List.nodup_cons.mp h.nd).2, by simp, fun a ha b hb z => ?_⟩
    · rcases List.mem_append.mp z with z | z
      · exact nn n z rfl
      · have : n = S.length := by simpa using z
        omega
    · have hb' : b = S.length := by simpa using hb
      have := h.rows.lt a ha
      omega
theorem Tab.nil {S : Sto} {n : Nat} (h : lstAt S n = some []) : Tab S n [] [] := ⟨h, trivial, by simp⟩
theorem comp_ix {s : Src} {g : Tg} {e : Ex} {T : List A -> Prop} (P : Nat -> Sto -> Prop) (it : Nat -> A) (f : Nat -> A)
    (hget : ∀ i S, i < s.k -> P i S -> s.get i S = some (it i)) (hfin : ∀ S, P s.k S -> s.fin S = true)
    (step : ∀ i τ S, i < s.k -> T τ -> P i S -> ∃ τ1 S1 S3, g (it i) τ S = .ok τ1 S1 /\ T τ1 /\ e τ1 S1 = .ok (f i) S3 /\ P (i + 1) S3) :
    ∀ k i τ S, k + i = s.k -> T τ -> P i S -> ∃ S', compGo s g bYes e k i τ S = .ok ((List.range' i k).map f) S' /\ P s.k S'
  | 0, i, τ, S, hk, hT, hP => by
    have : i = s.k := by omega
    subst this
    exact ⟨S, by unfold compGo; rw [if_pos (hfin S hP)]; rfl, hP⟩
  | k + 1, i, τ, S, hk, hT, hP => by
    obtain ⟨τ1, S1, S3, hg, hT1, he, hP3⟩ := step i τ S (by omega) hT hP
    obtain ⟨S', h1, h2⟩ := comp_ix P it f hget hfin step k (i + 1) τ1 S3 (by omega) hT1 hP3
    refine ⟨S', ?_, h2⟩
    unfold compGo
    rw [hget i S (by omega) hP, opt_some, hg, R.bindN_ok']
    show (e τ1 S1).bindN _ = _
    rw [he, R.bindN_ok', h1]
    rfl
theorem comp_acc {s : Src} {g : Tg} {e : Ex} {T : List A -> Prop} (P : Nat -> List A -> Sto -> Prop)
    (step : ∀ i acc τ S, i < s.k -> T τ -> P i acc S -> ∃ x τ1 S1 y S3, s.get i S = some x /\ g x τ S = .ok τ1 S1 /\ T τ1 /\ e τ1 S1 = .ok y S3 /\ P (i + 1) (acc ++ [y]) S3) (hfin : ∀ acc S, P s.k acc S -> s.fin S = true) :
    ∀ k i acc τ S, k + i = s.k -> T τ -> P i acc S -> ∃ ys S', compGo s g bYes e k i τ S = .ok ys S' /\ P s.k (acc ++ ys) S'
  | 0, i, acc, τ, S, hk, hT, hP => by
    have : i = s.k := by omega
    subst this
    exact ⟨[], S, by unfold compGo; rw [if_pos (hfin acc S hP)], by rw [List.append_nil]; exact hP⟩
  | k + 1, i, acc, τ, S, hk, hT, hP => by
    obtain ⟨x, τ1, S1, y, S3, hx, hg, hT1, he, hP3⟩ := step i acc τ S (by omega) hT hP
    obtain ⟨ys, S', h1, h2⟩ := comp_acc P step hfin k (i + 1) (acc ++ [y]) τ1 S3 (by omega) hT1 hP3
    refine ⟨y :: ys, S', ?_, by rw [List.append_assoc] at h2; exact h2⟩
    unfold compGo
    rw [hx, opt_some, hg, R.bindN_ok']
    show (e τ1 S1).bindN _ = _
    rw [he, R.bindN_ok', h1]
    rfl
theorem comp_copy {cap : List (Option Nat)} {src : Ic} {τ : List A} {S : Sto} {n : Nat} {rs : List Nat} {T : List (List Int)} (h : Tab S n rs T) (hs : src τ S = .ok (lstSrc n (rs.map A.ref).length) S) (hl : T.length <= 16777216) :
    ∃ (qs : List Nat) (m : Nat) (S' : Sto), eComp (none :: cap) src (gNm 0) bYes (eCall (f1 aList) (lCons (eVar 0) lNil)) τ S = .ok (.ref m) S' /\ Tab S' m qs T /\ Kp0 S S' /\ ∀ r ∈ m :: qs, S.length <= r := by
  have hlen := h.len
  rw [List.length_map] at hs
  obtain ⟨S', h1, h2, h3, h4⟩ := comp_ix (s := lstSrc n rs.length) (g := gNm 0) (e := eCall (f1 aList) (lCons (eVar 0) lNil)) (T := fun τ' => ∃ y, τ' = y :: capA cap τ)
    (fun i S1 => Kp0 S S1 /\ S1.length = S.length + i /\ ∀ j, j < i -> lstAt S1 (S.length + j) = some ((T.getD j []).map .int)) (fun i => .ref (rs.getD i 0)) (fun i => .ref (S.length + i))
    (fun i S1 hi ⟨k, _, _⟩ => by
      have hi : i < rs.length := hi
      show (lstAt S1 n).bind _ = _
      rw [k.lst n _ (fun z => z) h.top, Option.bind_some, List.getElem?_map, List.getElem?_eq_getElem hi, List.getD_eq_getElem?_getD, List.getElem?_eq_getElem hi]; rfl)
    (fun S1 ⟨k, _, _⟩ => by
      show (match lstAt S1 n with
        | some ys => decide (ys.length <= rs.length)
        | none => false) = true
      rw [k.lst n _ (fun z => z) h.top]
      simp)
    (fun i τ' S1 hi ⟨y, hy⟩ ⟨k, hl1, hr⟩ => by
      have hi : i < rs.length := hi
      subst hy
      have e1 : lstAt S1 (rs.getD i 0) = some ((T.getD i []).map .int) := k.lst _ _ (fun z => z) (h.rows.get (by rw [List.getD_eq_getElem?_getD, List.getElem?_eq_getElem hi]; rfl)).2
      refine ⟨.ref (rs.getD i 0) :: capA cap τ, S1, S1 ++ [.lst ((T.getD i []).map .int)], rfl, ⟨_, rfl⟩, ?_, k.lay, by rw [List.length_append, hl1]; rfl, fun j hj => ?_⟩
      · simp only [ams, bools, e1, <- hl1]
      · by_cases z : j < i
        · exact lst_app (hr j z)
        · have : j = i := by omega
          subst this
          rw [<- hl1]; exact lst_lay)
    rs.length 0 (capA (none :: cap) τ) S rfl ⟨_, rfl⟩ ⟨Kp.refl, rfl, fun j hj => absurd hj (Nat.not_lt_zero _)⟩
  have h3 : S'.length = S.length + rs.length := h3
  have h4 : ∀ j, j < rs.length -> lstAt S' (S.length + j) = some ((T.getD j []).map .int) := h4
  refine ⟨(List.range' 0 rs.length).map (S.length + ·), S'.length, S' ++ [.lst (((List.range' 0 rs.length).map (S.length + ·)).map .ref)], ?_, ⟨lst_lay, Rows.mk (by simp [hlen]) fun i hi => ?_, ?_⟩, h2.lay, fun r hr => ?_⟩
  · unfold eComp
    rw [hs, R.bind_ok]
    show R.bindN (compGo (lstSrc n rs.length) (gNm 0) bYes _ rs.length 0 (capA (none :: cap) τ) S) _ = _
    rw [h1, R.bindN_ok', newL_ok (by simp; omega), List.map_map]; rfl
  · refine lst_app ?_
    have : ((List.range' 0 rs.length).map (S.length + ·)).getD i 0 = S.length + i := by
      rw [List.getD_eq_getElem?_getD, List.getElem?_map, List.getElem?_range' (by omega)]; simp
    rw [this]
    exact h4 i (by omega)
  · rw [List.nodup_cons]
    refine ⟨fun z => ?_, ?_⟩
    · obtain ⟨j, hj, e⟩ := List.mem_map.mp z
      have := List.mem_range'.mp hj
      omega
    · rw [List.nodup_iff_pairwise_ne, List.pairwise_map]
      exact (List.nodup_range' (step := 1)).imp fun h z => h (by omega)
  · rcases List.mem_cons.mp hr with z | z
    · rw [z]; omega
    · obtain ⟨j, hj, e⟩ := List.mem_map.mp z
      omega
theorem Tab.cat {S : Sto} {m : Nat} {qs : List Nat} {U : List (List Int)} {ys : List Int} (h : Tab S m qs U) :
    Tab (S ++ [O.lst (ys.map .int)] ++ [O.lst [.ref S.length]] ++ [O.lst (qs.map .ref ++ [.ref S.length])]) (S ++ [O.lst (ys.map .int)] ++ [O.lst [.ref S.length]]).length (qs ++ [S.length]) (U ++ [ys]) := by
  refine ⟨by rw [lst_lay, List.map_append]; rfl, Rows.app (h.rows.mono fun r _ xs e => lst_app (lst_app (lst_app e))) ⟨lst_app (lst_app lst_lay), trivial⟩, ?_⟩
  have hlt := h.rows.lt
  rw [List.nodup_cons, List.nodup_append]
  refine ⟨fun z => ?_, (List.nodup_cons.mp h.nd).2, by simp, fun a ha b hb z => ?_⟩
  · simp only [List.length_append, List.length_cons, List.length_nil] at z
    rcases List.mem_append.mp z with z | z
    · have := hlt _ z; omega
    · have := List.mem_singleton.mp z; omega
  · have hb' : b = S.length := by simpa using hb
    have := hlt a ha
    omega
theorem eq_nil {S : Sto} {a b : Nat} {xs : List A} (h : lstAt S a = some xs) (h' : lstAt S b = some []) : eqA S 12 (.ref a) (.ref b) = some xs.isEmpty := by
  show (lstAt S a).bind (fun xs => (lstAt S b).bind fun ys => eqLs (eqA S 11) xs ys) = _
  rw [h, Option.bind_some, h', Option.bind_some]
  cases xs <;> rfl
theorem eq_il {S : Sto} {a b : Nat} {xs ys : List Int} (h : lstAt S a = some (xs.map .int)) (h' : lstAt S b = some (ys.map .int)) : eqA S 12 (.ref a) (.ref b) = some (decide (xs = ys)) := by
  show (lstAt S a).bind (fun xs => (lstAt S b).bind fun ys => eqLs (eqA S 11) xs ys) = _
  rw [h, Option.bind_some, h', Option.bind_some]
  exact eqLs_ints xs ys
theorem aEq_of {S : Sto} {a b : A} {k : Bool} (h : eqA S 12 a b = some k) : aEq false a b S = .ok (.bl k) S := by unfold aEq; rw [h]; rfl
theorem aNe_of {S : Sto} {a b : A} {k : Bool} (h : eqA S 12 a b = some k) : aEq true a b S = .ok (.bl (!k)) S := by unfold aEq; rw [h]; rfl
theorem comp_lst {xs : List A} {n : Nat} {cap : List (Option Nat)} {src : Ic} {t : Te} {e : Ex} {τ : List A} {S : Sto} (hs : src τ S = .ok (lstSrc n xs.length) S) (hx : lstAt S n = some xs) (p : A -> Bool) (f : A -> A)
    (ht : ∀ x ∈ xs, t (x :: capA cap τ) S = .ok (p x) S) (he : ∀ x ∈ xs, p x = true -> e (x :: capA cap τ) S = .ok (f x) S) (hl : xs.length <= 16777216) :
    eComp (none :: cap) src (gNm 0) t e τ S = .ok (.ref S.length) (S ++ [.lst ((xs.filter p).map f)]) := by
  have hm : ∀ i, i < xs.length -> xs.getD i .unb ∈ xs := fun i hi => by
    rw [List.getD_eq_getElem?_getD, List.getElem?_eq_getElem hi]; exact List.getElem_mem hi
  rw [comp_pure hs (fun i => xs.getD i .unb) (fun i => p (xs.getD i .unb)) (fun i => f (xs.getD i .unb)) (fun i hi => by
    have hi : i < xs.length := hi
    show (lstAt S n).bind _ = _
    rw [hx, Option.bind_some, List.getD_eq_getElem?_getD, List.getElem?_eq_getElem hi]; rfl) (by
      show (match lstAt S n with
        | some ys => decide (ys.length <= xs.length)
        | none => false) = true
      rw [hx]
      simp) (fun i hi => ht _ (hm i hi)) (fun i hi => he _ (hm i hi)) hl]
  have := filter_range_map xs p f .unb
  show R.ok _ (S ++ [O.lst (((List.range xs.length).filter _).map _)]) = _
  rw [this]
theorem range_one {r : Nat} : ∀ {N : Nat}, r < N -> (List.range N).filter (fun j => decide (j = r)) = [r]
  | 0, h => absurd h (Nat.not_lt_zero _)
  | N + 1, h => by
    rw [List.range_succ, List.filter_append]
    by_cases e : r = N
    · subst e
      have : (List.range r).filter (fun j => decide (j = r)) = [] := List.filter_eq_nil_iff.mpr fun a ha => by have := List.mem_range.mp ha; simp; omega
      rw [this]; simp
    · rw [range_one (show r < N by omega)]
      have : ([N] : List Nat).filter (fun j => decide (j = r)) = [] := List.filter_eq_nil_iff.mpr fun a ha => by rw [List.mem_singleton.mp ha]; simp; omega
      rw [this]; rfl
theorem rng_one {r N : Nat} (h : r < N) : ((rngL 0 (N : Int)).filter fun k => decide (k = (r : Int))).map A.int = [.int r] := by
  unfold rngL
  rw [List.filter_map, List.map_map]
  have e : ((N : Int) - 0).toNat = N := by omega
  rw [e]
  have e2 : ((fun k : Int => decide (k = (r : Int))) ∘ fun k : Nat => (0 : Int) + (k : Int)) = fun k : Nat => decide (k = r) := by
    funext k
    show decide ((0 : Int) + (k : Int) = (r : Int)) = decide (k = r)
    by_cases z : k = r
    · rw [decide_eq_true z, decide_eq_true (by omega)]
    · rw [decide_eq_false z, decide_eq_false (by omega)]
  rw [e2, range_one h]
  simp
theorem rng_gs (r : List Int) (x : Int) : ((rngL 0 (r.length : Int)).filter fun k => decide (x < r.getD k.toNat 0)).map A.int = (Tb.gs r x).map fun k : Nat => A.int (k : Int) := by
  unfold rngL Tb.gs
  rw [List.filter_map, List.map_map]
  have e : ((r.length : Int) - 0).toNat = r.length := by omega
  rw [e]
  have e2 : ((fun k : Int => decide (x < r.getD k.toNat 0)) ∘ fun k : Nat => (0 : Int) + (k : Int)) = fun k : Nat => decide (x < r.getD k 0) := by
    funext k; simp
  rw [e2]
  refine List.map_congr_left fun k _ => ?_
  simp
theorem getD_at {r : List Int} {k : Nat} (h : k < r.length) : r[k]? = some (r.getD k 0) := by rw [List.getD_eq_getElem?_getD, List.getElem?_eq_getElem h]; rfl
theorem at_int {r : List Int} {i : Int} {k : Nat} (h : i = k) (hk : k < r.length) : atI (r.map A.int) i = some (.int (r.getD k 0)) := atI_map h (getD_at hk)
theorem bls_map : ∀ (bs : List Bool), A.bls (bs.map .bl) = some bs
  | [] => rfl
  | b :: bs => by show (A.bls (bs.map .bl)).map (b :: ·) = _; rw [bls_map bs]; rfl
end Am
set_option Elab.async false
set_option linter.all false
namespace Sy
open Tb
theorem tabs_fold (xs : List Int) : ∀ i, i <= xs.length -> (tabs xs i).1 = (xs.take i).foldl put []
  | 0, _ => rfl
  | i + 1, h => by
    show put (tabs xs i).1 (xs.getD i 0) = _
    rw [tabs_fold xs i (by omega), List.take_succ_eq_append_getElem (by omega), List.foldl_append, List.getD_eq_getElem?_getD, List.getElem?_eq_getElem (by omega)]
    rfl
noncomputable def plain (T : List (List Int)) : List Int := T.reverse.flatten
theorem plain_cons (r : List Int) (T : List (List Int)) : plain (r :: T) = plain T ++ r := by unfold plain; simp
theorem plain_len : ∀ (T : List (List Int)), (plain T).length = (T.map List.length).sum
  | [] => rfl
  | r :: T => by rw [plain_cons, List.length_append, plain_len T, List.map_cons, List.sum_cons]; omega
end Sy
set_option Elab.async false
set_option linter.all false
namespace Wd
open Bl L2
end Wd
set_option Elab.async false
set_option linter.all false
set_option maxRecDepth 100000
set_option maxHeartbeats 4000000
namespace Iv
open L2 Bl
noncomputable def sw (a : List Int) (i j : Nat) : List Int := (a.set i (a.getD j 0)).set j (a.getD i 0)
theorem sw_len (a : List Int) (i j : Nat) : (sw a i j).length = a.length := by unfold sw; rw [List.length_set, List.length_set]
theorem getD_of {a : List Int} {i : Nat} (h : i < a.length) : a[i]? = some (a.getD i 0) := by rw [List.getD_eq_getElem?_getD, List.getElem?_eq_getElem h]; rfl
theorem sw_get {a : List Int} {i j : Nat} (hij : i < j) (hj : j < a.length) (p : Nat) : (sw a i j).getD p 0 = if p = j then a.getD i 0 else if p = i then a.getD j 0 else a.getD p 0 := by
  unfold sw
  rw [List.getD_eq_getElem?_getD]
  by_cases c : p = j
  · subst c
    rw [if_pos rfl, List.getElem?_set_self (by rw [List.length_set]; exact hj)]; rfl
  · rw [if_neg c, List.getElem?_set_ne (Ne.symm c)]
    by_cases d : p = i
    · subst d
      rw [if_pos rfl, List.getElem?_set_self (by omega)]; rfl
    · rw [if_neg d, List.getElem?_set_ne (Ne.symm d), <- List.getD_eq_getElem?_getD]
end Iv
set_option Elab.async false
set_option linter.all false
set_option maxRecDepth 100000
set_option maxHeartbeats 4000000
namespace Stp
open PySem L2 Iv
noncomputable def mm (a : List Int) (i j : Nat) : List Int := (a.drop (i + 1)).take (j - i - 1)
theorem parts {a : List Int} {i j : Nat} (hij : i < j) (hj : j < a.length) : a = a.take i ++ ([a.getD i 0] ++ mm a i j ++ [a.getD j 0]) ++ a.drop (j + 1) := by
  have gi : a.getD i 0 = a[i] := by rw [List.getD_eq_getElem?_getD, List.getElem?_eq_getElem (by omega)]; rfl
  have gj : a.getD j 0 = a[j] := by rw [List.getD_eq_getElem?_getD, List.getElem?_eq_getElem hj]; rfl
  have h1 : a.drop i = a[i] :: a.drop (i + 1) := List.drop_eq_getElem_cons (by omega)
  have h2 : a.drop (i + 1) = mm a i j ++ a.drop j := by
    have := List.take_append_drop (j - i - 1) (a.drop (i + 1))
    rw [List.drop_drop, show i + 1 + (j - i - 1) = j by omega] at this
    exact this.symm
  have h3 : a.drop j = a[j] :: a.drop (j + 1) := List.drop_eq_getElem_cons hj
  conv => lhs; rw [<- List.take_append_drop i a, h1, h2, h3]
  rw [gi, gj]; simp
theorem swpl {a : List Int} {i j : Nat} (hij : i < j) (hj : j < a.length) : sw a i j = a.take i ++ ([a.getD j 0] ++ mm a i j ++ [a.getD i 0]) ++ a.drop (j + 1) := by
  have lM : (mm a i j).length = j - i - 1 := by unfold mm; rw [List.length_take, List.length_drop]; omega
  have key : ∀ (P R : List Int) (x y x' y' : Int), P.length = i -> ((P ++ ([x] ++ mm a i j ++ [y]) ++ R).set i y').set j x' = P ++ ([y'] ++ mm a i j ++ [x']) ++ R := fun P R x y x' y' lP => by
    rw [List.append_assoc, List.set_append_right _ _ (by omega), lP, Nat.sub_self]
    show (P ++ (y' :: ((mm a i j ++ [y]) ++ R))).set j x' = _
    rw [List.set_append_right _ _ (by omega), lP, show j - i = (j - i - 1) + 1 by omega, List.set_cons_succ, List.append_assoc, List.set_append_right _ _ (by omega), lM, Nat.sub_self]
    simp
  have := key (a.take i) (a.drop (j + 1)) (a.getD i 0) (a.getD j 0) (a.getD i 0) (a.getD j 0) (by rw [List.length_take]; omega)
  rw [<- parts hij hj] at this
  exact this
theorem sw_i {a : List Int} {i j : Nat} (hij : i < j) (hj : j < a.length) : (sw a i j).getD i 0 = a.getD j 0 := by
  unfold sw
  rw [List.getD_eq_getElem?_getD, List.getElem?_set_ne (by omega), List.getElem?_set_self (by omega)]; rfl
theorem sw_j {a : List Int} {i j : Nat} (hij : i < j) (hj : j < a.length) : (sw a i j).getD j 0 = a.getD i 0 := by
  unfold sw
  rw [List.getD_eq_getElem?_getD, List.getElem?_set_self (by rw [List.length_set]; exact hj)]; rfl
theorem sw_sw {a : List Int} {i j : Nat} (hij : i < j) (hj : j < a.length) : sw (sw a i j) i j = a := by
  have h1 := sw_i hij hj
  have h2 := sw_j hij hj
  unfold sw at h1 h2 ⊢
  rw [h1, h2]
  apply List.ext_getElem?
  intro k
  by_cases c : k = j
  · subst c
    rw [List.getElem?_set_self (by simp only [List.length_set]; exact hj), Iv.getD_of hj]
  · rw [List.getElem?_set_ne (by omega)]
    by_cases c2 : k = i
    · subst c2
      rw [List.getElem?_set_self (by simp only [List.length_set]; omega), Iv.getD_of (by omega)]
    · rw [List.getElem?_set_ne (by omega), List.getElem?_set_ne (by omega), List.getElem?_set_ne (by omega)]
end Stp
set_option Elab.async false
set_option linter.all false
set_option maxRecDepth 100000
set_option maxHeartbeats 4000000
namespace Kn
open Tb (fg put)
theorem fg_seg : ∀ {A B : List Int} {x : Int}, (∀ a ∈ A, a <= x) -> (∀ b ∈ B, x < b) -> fg (A ++ B) x = A.length
  | [], [], _, _, _ => rfl
  | [], b :: B, x, _, hB => by
    have := hB b (List.mem_cons_self ..)
    unfold Tb.fg
    simp [List.findIdx_cons, this]
  | a :: A, B, x, hA, hB => by
    have h := hA a (List.mem_cons_self ..)
    have ih := fg_seg (A := A) (B := B) (x := x) (fun c hc => hA c (List.mem_cons_of_mem _ hc)) hB
    unfold Tb.fg at ih ⊢
    rw [List.cons_append, List.findIdx_cons, decide_eq_false (by omega)]
    simp [ih]
theorem put_e {A : List Int} {T : List (List Int)} {x : Int} (hA : ∀ a ∈ A, a <= x) : put (A :: T) x = (A ++ [x]) :: T := by
  refine Tb.put_end ?_
  have := fg_seg (A := A) (B := []) (x := x) hA (fun b hb => absurd hb (by simp))
  rwa [List.append_nil] at this
theorem put_b {A B : List Int} {T : List (List Int)} {x b : Int} (hA : ∀ a ∈ A, a <= x) (hb : x < b) (hB : ∀ c ∈ B, x < c) : put ((A ++ b :: B) :: T) x = (A ++ x :: B) :: put T b := by
  have e := fg_seg (A := A) (B := b :: B) (x := x) hA (fun c hc => by
    rcases List.mem_cons.mp hc with rfl | z
    · exact hb
    · exact hB c z)
  rw [Tb.put_on (by rw [e]; simp), e]
  simp [List.getD_eq_getElem?_getD]
theorem cut (x : Int) : ∀ {R : List Int}, R.Pairwise (· <= ·) -> ∃ A B, R = A ++ B /\ (∀ a ∈ A, a <= x) /\ ∀ b ∈ B, x < b
  | [], _ => ⟨[], [], rfl, fun a ha => absurd ha (by simp), fun a ha => absurd ha (by simp)⟩
  | r :: R, h => by
    rw [List.pairwise_cons] at h
    by_cases c : r <= x
    · obtain ⟨A, B, rfl, hA, hB⟩ := cut x h.2
      refine ⟨r :: A, B, rfl, fun a ha => ?_, hB⟩
      rcases List.mem_cons.mp ha with rfl | z
      · exact c
      · exact hA a z
    · refine ⟨[], r :: R, rfl, fun a ha => absurd ha (by simp), fun b hb => ?_⟩
      rcases List.mem_cons.mp hb with rfl | z
      · omega
      · have := h.1 b z; omega
inductive Mv : List Int -> List Int -> Prop
  | one (x y z : Int) (h : x <= y) (h' : y < z) : Mv [x, z, y] [z, x, y]
  | two (x y z : Int) (h : x < y) (h' : y <= z) : Mv [y, x, z] [y, z, x]
noncomputable def Srt (T : List (List Int)) : Prop := ∀ R ∈ T, R.Pairwise (· <= ·)
end Kn
set_option Elab.async false
set_option linter.all false
set_option maxRecDepth 100000
set_option maxHeartbeats 4000000
namespace Mo
open PySem L2 Am Tb
noncomputable def chg (r : List Int) (k : Nat) : List Int := Iv.sw r k (k + 1)
noncomputable def lo (r : List Int) (k : Nat) : Int := if r.getD (k + 1) 0 < r.getD k 0 then r.getD (k + 1) 0 else r.getD k 0
noncomputable def hi (r : List Int) (k : Nat) : Int := if r.getD (k + 1) 0 > r.getD k 0 then r.getD (k + 1) 0 else r.getD k 0
noncomputable def c1 (r : List Int) (k : Nat) : Bool := decide (k + 2 < r.length) && (decide (lo r k <= r.getD (k + 2) 0) && decide (r.getD (k + 2) 0 < hi r k))
noncomputable def c2 (r : List Int) (k : Nat) : Bool := decide (0 < k) && (decide (lo r k < r.getD (k - 1) 0) && decide (r.getD (k - 1) 0 <= hi r k))
noncomputable def may (r : List Int) (k : Nat) : Bool := c1 r k || c2 r k
noncomputable def mvs (r : List Int) : List (List Int) := ((List.range (r.length - 1)).filter (may r)).map (chg r)
noncomputable def lA (r : List Int) (k : Nat) : Bool := (decide (r.getD k 0 <= r.getD (k + 2) 0) && decide (r.getD (k + 2) 0 < r.getD (k + 1) 0)) || (decide (r.getD (k + 1) 0 <= r.getD (k + 2) 0) && decide (r.getD (k + 2) 0 < r.getD k 0))
noncomputable def lB (r : List Int) (k : Nat) : Bool := (decide (r.getD (k + 1) 0 < r.getD k 0) && decide (r.getD k 0 <= r.getD (k + 2) 0)) || (decide (r.getD (k + 2) 0 < r.getD k 0) && decide (r.getD k 0 <= r.getD (k + 1) 0))
noncomputable def lrow (r : List Int) (k : Nat) : List (List Int) := (if lA r k = true then [chg r k] else []) ++ (if lB r k = true then [chg r (k + 1)] else [])
noncomputable def lms (r : List Int) : List (List Int) := (List.range (r.length - 2)).flatMap (lrow r)
theorem chg_eq {r : List Int} {k : Nat} (h : k + 1 < r.length) : chg r k = r.take k ++ [r.getD (k + 1) 0, r.getD k 0] ++ r.drop (k + 2) := by
  unfold chg
  rw [Stp.swpl (by omega) h]
  unfold Stp.mm
  rw [show k + 1 - k - 1 = 0 by omega, List.take_zero]; rfl
theorem chg_len (r : List Int) (k : Nat) : (chg r k).length = r.length := Iv.sw_len ..
theorem chg_at {r : List Int} {k : Nat} (h : k + 1 < r.length) (p : Nat) : (chg r k).getD p 0 = if p = k + 1 then r.getD k 0 else if p = k then r.getD (k + 1) 0 else r.getD p 0 := Iv.sw_get (by omega) h p
theorem chg_chg {r : List Int} {k : Nat} (h : k + 1 < r.length) : chg (chg r k) k = r := Stp.sw_sw (by omega) h
theorem lohi {r : List Int} {k : Nat} (h : k + 1 < r.length) : lo (chg r k) k = lo r k /\ hi (chg r k) k = hi r k := by
  have e1 : (chg r k).getD (k + 1) 0 = r.getD k 0 := by rw [chg_at h, if_pos rfl]
  have e2 : (chg r k).getD k 0 = r.getD (k + 1) 0 := by rw [chg_at h, if_neg (by omega), if_pos rfl]
  unfold lo hi
  rw [e1, e2]
  constructor
  · by_cases a : r.getD (k + 1) 0 < r.getD k 0
    · rw [if_pos a, if_neg (by omega)]
    · rw [if_neg a]; split <;> omega
  · by_cases a : r.getD (k + 1) 0 > r.getD k 0
    · rw [if_pos a, if_neg (by omega)]
    · rw [if_neg a]; split <;> omega
theorem may_chg {r : List Int} {k : Nat} (h : k + 1 < r.length) : may (chg r k) k = may r k := by
  obtain ⟨e1, e2⟩ := lohi h
  unfold may c1 c2
  rw [e1, e2, chg_len, chg_at h (k + 2), if_neg (by omega), if_neg (by omega)]
  by_cases c : 0 < k
  · rw [chg_at h (k - 1), if_neg (by omega), if_neg (by omega)]
  · rw [decide_eq_false c]; simp
theorem c1_lA {r : List Int} {k : Nat} (h : k + 2 < r.length) : c1 r k = lA r k := by
  unfold c1 lA lo hi
  rw [decide_eq_true h, Bool.true_and, Bool.eq_iff_iff]
  simp only [Bool.and_eq_true, Bool.or_eq_true, decide_eq_true_iff]
  by_cases a : r.getD (k + 1) 0 < r.getD k 0
  · rw [if_pos a, if_neg (by omega)]; omega
  · rw [if_neg a]; split <;> omega
theorem c2_lB {r : List Int} {k : Nat} : c2 r (k + 1) = lB r k := by
  unfold c2 lB lo hi
  rw [decide_eq_true (by omega), Bool.true_and, Bool.eq_iff_iff, show k + 1 - 1 = k by omega, show k + 1 + 1 = k + 2 by omega]
  simp only [Bool.and_eq_true, Bool.or_eq_true, decide_eq_true_iff]
  by_cases a : r.getD (k + 2) 0 < r.getD (k + 1) 0
  · rw [if_pos a, if_neg (by omega)]; omega
  · rw [if_neg a]; split <;> omega
theorem mvs_mem {r x : List Int} : x ∈ mvs r ↔ ∃ k, k + 1 < r.length /\ may r k = true /\ x = chg r k := by
  unfold mvs
  rw [List.mem_map]
  constructor
  · rintro ⟨k, hk, rfl⟩
    obtain ⟨h1, h2⟩ := List.mem_filter.mp hk
    have := List.mem_range.mp h1
    exact ⟨k, by omega, h2, rfl⟩
  · rintro ⟨k, h1, h2, rfl⟩
    exact ⟨k, List.mem_filter.mpr ⟨List.mem_range.mpr (by omega), h2⟩, rfl⟩
theorem both {r x : List Int} : x ∈ mvs r ↔ x ∈ lms r := by
  rw [mvs_mem]
  unfold lms
  rw [List.mem_flatMap]
  constructor
  · rintro ⟨k, h1, h2, rfl⟩
    rcases Bool.or_eq_true _ _ ▸ (show (c1 r k || c2 r k) = true from h2) with z | z
    · have hk : k + 2 < r.length := by
        unfold c1 at z
        exact of_decide_eq_true (Bool.and_eq_true _ _ ▸ z).1
      refine ⟨k, List.mem_range.mpr (by omega), ?_⟩
      unfold lrow
      rw [<- c1_lA hk, z]
      exact List.mem_append_left _ (by simp)
    · have hk : 0 < k := by
        unfold c2 at z
        exact of_decide_eq_true (Bool.and_eq_true _ _ ▸ z).1
      obtain ⟨m, rfl⟩ : ∃ m, k = m + 1 := ⟨k - 1, by omega⟩
      refine ⟨m, List.mem_range.mpr (by omega), ?_⟩
      unfold lrow
      rw [<- c2_lB, z]
      exact List.mem_append_right _ (by simp)
  · rintro ⟨k, h1, h2⟩
    have hk := List.mem_range.mp h1
    unfold lrow at h2
    rcases List.mem_append.mp h2 with z | z
    · by_cases c : lA r k = true
      · rw [if_pos c] at z
        exact ⟨k, by omega, by unfold may; rw [c1_lA (by omega), c]; rfl, List.mem_singleton.mp z⟩
      · rw [if_neg c] at z; cases z
    · by_cases c : lB r k = true
      · rw [if_pos c] at z
        exact ⟨k + 1, by omega, by unfold may; rw [c2_lB, c, Bool.or_true], List.mem_singleton.mp z⟩
      · rw [if_neg c] at z; cases z
theorem back {r x : List Int} (h : x ∈ mvs r) : x.length = r.length /\ r ∈ mvs x := by
  obtain ⟨k, h1, h2, rfl⟩ := mvs_mem.mp h
  refine ⟨chg_len r k, mvs_mem.mpr ⟨k, by rw [chg_len]; exact h1, by rw [may_chg h1]; exact h2, (chg_chg h1).symm⟩⟩
theorem srt_put : ∀ {T : List (List Int)} {x : Int}, Kn.Srt T -> Kn.Srt (put T x)
  | [], x, _ => fun R hR => by
    have : R = [x] := List.mem_singleton.mp hR
    rw [this]; exact List.pairwise_singleton ..
  | R :: T, x, h => by
    have hR := h R (List.mem_cons_self ..)
    have hT : Kn.Srt T := fun Q hQ => h Q (List.mem_cons_of_mem _ hQ)
    obtain ⟨L, B, e, hL, hB⟩ := Kn.cut x hR
    cases B with
    | nil =>
      rw [List.append_nil] at e
      subst e
      rw [Kn.put_e hL]
      intro Q hQ
      rcases List.mem_cons.mp hQ with rfl | z
      · rw [List.pairwise_append]
        exact ⟨hR, List.pairwise_singleton .., fun a ha b hb => by rw [List.mem_singleton.mp hb]; exact hL a ha⟩
      · exact hT Q z
    | cons b B =>
      subst e
      rw [Kn.put_b hL (hB b (List.mem_cons_self ..)) fun c hc => hB c (List.mem_cons_of_mem _ hc)]
      intro Q hQ
      rcases List.mem_cons.mp hQ with rfl | z
      · have p := List.pairwise_append.mp hR
        rw [List.pairwise_append]
        refine ⟨p.1, List.pairwise_cons.mpr ⟨fun c hc => ?_, (List.pairwise_cons.mp p.2.1).2⟩, fun a ha c hc => ?_⟩
        · have := hB c (List.mem_cons_of_mem _ hc); omega
        · rcases List.mem_cons.mp hc with rfl | z
          · exact hL a ha
          · exact p.2.2 a ha c (List.mem_cons_of_mem _ z)
      · exact srt_put hT Q z
theorem srt_fold : ∀ {w : List Int} {T : List (List Int)}, Kn.Srt T -> Kn.Srt (w.foldl put T)
  | [], _, h => h
  | x :: w, _, h => srt_fold (w := w) (srt_put h)
theorem tabs_fold (xs : List Int) : ∀ i, i <= xs.length -> (tabs xs i).1 = (xs.take i).foldl put []
  | 0, _ => rfl
  | i + 1, h => by
    have ih := tabs_fold xs i (by omega)
    rw [List.take_succ_eq_append_getElem (show i < xs.length by omega), List.foldl_append, <- ih]
    show put (tabs xs i).1 (xs.getD i 0) = put (tabs xs i).1 xs[i]
    rw [List.getD_eq_getElem?_getD, List.getElem?_eq_getElem (show i < xs.length by omega)]; rfl
end Mo
set_option Elab.async false
set_option linter.all false
set_option maxRecDepth 100000
set_option maxHeartbeats 4000000
namespace Ld
open Tb Mo
section
variable {r0 c : List Int} {R : List (List Int)}
theorem gl {x : List Int} {i : Nat} (h : i < R.length) : (R ++ [x]).getD i [] = R.getD i [] := by
  rw [List.getD_eq_getElem?_getD, List.getElem?_append_left h, <- List.getD_eq_getElem?_getD]
theorem gr {x : List Int} : (R ++ [x]).getD R.length [] = x := by
  rw [List.getD_eq_getElem?_getD, List.getElem?_append_right (Nat.le_refl _), Nat.sub_self]; rfl
theorem gk {i j : Nat} (h : i < j) : (R.take j).getD i [] = R.getD i [] := by
  rw [List.getD_eq_getElem?_getD, List.getElem?_take, if_pos h, <- List.getD_eq_getElem?_getD]
structure Road (r0 c : List Int) (R : List (List Int)) : Prop where
  ne : 0 < R.length
  first : R.getD 0 [] = r0
  last : R.getD (R.length - 1) [] = c
  ch : ∀ i, i + 1 < R.length -> R.getD (i + 1) [] ∈ mvs (R.getD i [])
theorem Road.one (r : List Int) : Road r r [r] := ⟨Nat.zero_lt_one, rfl, rfl, fun i h => by simp at h⟩
theorem Road.app (h : Road r0 c R) {k : Nat} (h1 : k + 1 < c.length) (h2 : may c k = true) : Road r0 (chg c k) (R ++ [chg c k]) := by
  have ne := h.ne
  refine ⟨by rw [List.length_append]; simp, by rw [gl h.ne]; exact h.first, by rw [List.length_append]; exact gr, fun i hi => ?_⟩
  rw [List.length_append] at hi
  have hi : i + 1 < R.length + 1 := hi
  by_cases e : i + 1 = R.length
  · rw [e, gr, gl (by omega), show i = R.length - 1 by omega, h.last]
    exact mvs_mem.mpr ⟨k, h1, h2, rfl⟩
  · rw [gl (by omega), gl (by omega)]
    exact h.ch i (by omega)
theorem Road.cut (h : Road r0 c R) {j : Nat} (hj : j < R.length) : Road r0 (R.getD j []) (R.take (j + 1)) := by
  have l : (R.take (j + 1)).length = j + 1 := by rw [List.length_take]; omega
  refine ⟨by omega, by rw [gk (by omega)]; exact h.first, by rw [l, Nat.add_sub_cancel, gk (by omega)], fun i hi => ?_⟩
  rw [gk (by omega), gk (by omega)]
  exact h.ch i (by omega)
theorem Road.len (h : Road r0 c R) : ∀ i, i < R.length -> (R.getD i []).length = r0.length
  | 0, _ => by rw [h.first]
  | i + 1, hi => by rw [(Mo.back (h.ch i hi)).1]; exact h.len i (by omega)
theorem Road.clen (h : Road r0 c R) : c.length = r0.length := by
  have := h.ne
  rw [<- h.last]; exact h.len _ (by omega)
end
theorem at_mid {A B : List Int} {y : Int} : (A ++ y :: B).getD A.length 0 = y := by
  rw [List.getD_eq_getElem?_getD, List.getElem?_append_right (Nat.le_refl _), Nat.sub_self]; rfl
theorem at_mid' {A B : List Int} {x y : Int} : (A ++ x :: y :: B).getD (A.length + 1) 0 = y := by
  rw [List.getD_eq_getElem?_getD, List.getElem?_append_right (by omega), Nat.add_sub_cancel_left]; rfl
theorem at_mid2 {A B : List Int} {x y z : Int} : (A ++ x :: y :: z :: B).getD (A.length + 2) 0 = z := by
  rw [List.getD_eq_getElem?_getD, List.getElem?_append_right (by omega), Nat.add_sub_cancel_left]; rfl
theorem chg_mid {A B : List Int} {y z : Int} : chg (A ++ y :: z :: B) A.length = A ++ z :: y :: B := by
  rw [chg_eq (by simp), at_mid, at_mid', List.take_left' rfl, List.drop_append, List.drop_of_length_le (by omega), Nat.add_sub_cancel_left]
  simp
theorem may_b {A B : List Int} {q y x : Int} (h1 : x < q) (h2 : q <= y) : may (A ++ q :: y :: x :: B) (A.length + 1) = true := by
  unfold may
  rw [c2_lB, Bool.or_eq_true]
  right
  unfold lB
  rw [at_mid, at_mid', at_mid2]
  simp [h1, h2]
theorem may_a {A B : List Int} {y b q : Int} (h1 : y <= q) (h2 : q < b) : may (A ++ y :: b :: q :: B) A.length = true := by
  unfold may
  rw [c1_lA (by simp), Bool.or_eq_true]
  left
  unfold lA
  rw [at_mid, at_mid', at_mid2]
  simp [h1, h2]
section
variable (U L M Z : List Int) (b x : Int)
noncomputable def cA (i : Nat) : List Int := U ++ L ++ b :: (M.take (M.length - i)) ++ x :: (M.drop (M.length - i)) ++ Z
noncomputable def cB (i : Nat) : List Int := U ++ L.take (L.length - i) ++ b :: L.drop (L.length - i) ++ x :: M ++ Z
theorem cA_0 : cA U L M Z b x 0 = U ++ (L ++ b :: M) ++ x :: Z := by
  unfold cA
  rw [Nat.sub_zero, List.take_length, List.drop_length]; simp
theorem cA_end : cA U L M Z b x M.length = cB U L M Z b x 0 := by
  unfold cA cB
  rw [Nat.sub_self, Nat.sub_zero, List.take_length, List.drop_length]; simp
theorem cB_end : cB U L M Z b x L.length = U ++ b :: ((L ++ x :: M) ++ Z) := by
  unfold cB
  rw [Nat.sub_self]; simp
end
theorem stepA {U L M Z : List Int} {b x : Int} {i : Nat} (hi : i < M.length) (hs : (b :: M).Pairwise (· <= ·)) (hx : x < b) :
    may (cA U L M Z b x i) (U.length + L.length + (M.length - i)) = true /\ chg (cA U L M Z b x i) (U.length + L.length + (M.length - i)) = cA U L M Z b x (i + 1) := by
  obtain ⟨j, hj⟩ : ∃ j, M.length - i = j + 1 := ⟨M.length - i - 1, by omega⟩
  have hjl : j < M.length := by omega
  have e1 : M.take (j + 1) = M.take j ++ [M[j]] := by rw [List.take_succ_eq_append_getElem hjl]
  have e2 : M.drop j = M[j] :: M.drop (j + 1) := List.drop_eq_getElem_cons hjl
  have ec : cA U L M Z b x i = (U ++ L ++ b :: M.take j) ++ M[j] :: x :: (M.drop (j + 1) ++ Z) := by
    unfold cA
    rw [hj, e1]; simp only [List.append_assoc, List.cons_append, List.nil_append]
  have en : cA U L M Z b x (i + 1) = (U ++ L ++ b :: M.take j) ++ x :: M[j] :: (M.drop (j + 1) ++ Z) := by
    unfold cA
    rw [show M.length - (i + 1) = j by omega, e2]; simp only [List.append_assoc, List.cons_append, List.nil_append]
  have el : (U ++ L ++ b :: M.take j).length = U.length + L.length + (M.length - i) := by
    simp only [List.length_append, List.length_cons, List.length_take]; omega
  rw [ec, en, <- el]
  refine ⟨?_, chg_mid⟩
  obtain ⟨Q, q, hq⟩ : ∃ Q q, b :: M.take j = Q ++ [q] := ⟨(b :: M.take j).dropLast, (b :: M.take j).getLast (by simp), (List.dropLast_concat_getLast _).symm⟩
  have hM : b :: M = (Q ++ [q]) ++ M[j] :: M.drop (j + 1) := by
    rw [<- hq, List.cons_append, <- e2, List.take_append_drop]
  have p := hs
  rw [hM, List.pairwise_append] at p
  have q2 : q <= M[j] := p.2.2 q (by simp) _ (List.mem_cons_self ..)
  have q1 : x < q := by
    have : q ∈ b :: M := by rw [hM]; simp
    rcases List.mem_cons.mp this with z | z
    · rw [z]; exact hx
    · have := (List.pairwise_cons.mp hs).1 q z; omega
  have := may_b (A := U ++ L ++ Q) (B := M.drop (j + 1) ++ Z) q1 q2
  rw [hq]
  have e5 : U ++ L ++ (Q ++ [q]) ++ M[j] :: x :: (M.drop (j + 1) ++ Z) = (U ++ L ++ Q) ++ q :: M[j] :: x :: (M.drop (j + 1) ++ Z) := by simp
  rw [e5, show (U ++ L ++ (Q ++ [q])).length = (U ++ L ++ Q).length + 1 by simp; omega]
  exact this
theorem stepB {U L M Z : List Int} {b x : Int} {i : Nat} (hi : i < L.length) (hs : L.Pairwise (· <= ·)) (hL : ∀ a ∈ L, a <= x) (hx : x < b) :
    may (cB U L M Z b x i) (U.length + (L.length - i) - 1) = true /\ chg (cB U L M Z b x i) (U.length + (L.length - i) - 1) = cB U L M Z b x (i + 1) := by
  obtain ⟨j, hj⟩ : ∃ j, L.length - i = j + 1 := ⟨L.length - i - 1, by omega⟩
  have hjl : j < L.length := by omega
  have e1 : L.take (j + 1) = L.take j ++ [L[j]] := by rw [List.take_succ_eq_append_getElem hjl]
  have e2 : L.drop j = L[j] :: L.drop (j + 1) := List.drop_eq_getElem_cons hjl
  have ec : cB U L M Z b x i = (U ++ L.take j) ++ L[j] :: b :: (L.drop (j + 1) ++ x :: M ++ Z) := by
    unfold cB
    rw [hj, e1]; simp only [List.append_assoc, List.cons_append, List.nil_append]
  have en : cB U L M Z b x (i + 1) = (U ++ L.take j) ++ b :: L[j] :: (L.drop (j + 1) ++ x :: M ++ Z) := by
    unfold cB
    rw [show L.length - (i + 1) = j by omega, e2]; simp only [List.append_assoc, List.cons_append, List.nil_append]
  have el : (U ++ L.take j).length = U.length + (L.length - i) - 1 := by
    simp only [List.length_append, List.length_take]; omega
  rw [ec, en, <- el]
  refine ⟨?_, chg_mid⟩
  have my : L[j] <= x := hL _ (List.getElem_mem hjl)
  cases hd : L.drop (j + 1) with
  | nil => exact may_a (B := M ++ Z) my hx
  | cons q D =>
    have mq : q ∈ L := List.mem_of_mem_drop (by rw [hd]; exact List.mem_cons_self ..)
    have yq : L[j] <= q := by
      have p : (L.drop j).Pairwise (· <= ·) := hs.sublist (List.drop_sublist ..)
      rw [e2, hd] at p
      exact (List.pairwise_cons.mp p).1 q (List.mem_cons_self ..)
    have := hL q mq
    exact may_a (B := D ++ x :: M ++ Z) yq (by omega)
theorem split {R : List Int} {x : Int} (hs : R.Pairwise (· <= ·)) (h : fg R x ≠ R.length) : ∃ L b M, R = L ++ b :: M /\ (∀ a ∈ L, a <= x) /\ x < b /\ (b :: M).Pairwise (· <= ·) /\ L.Pairwise (· <= ·) /\ fg R x = L.length /\ R.getD (fg R x) 0 = b /\ R.set (fg R x) x = L ++ x :: M := by
  obtain ⟨L, B, e, hL, hB⟩ := Kn.cut x hs
  cases B with
  | nil =>
    rw [List.append_nil] at e
    have : fg (L ++ []) x = L.length := Kn.fg_seg hL (fun _ h => absurd h (by simp))
    rw [List.append_nil] at this
    rw [e] at h
    exact absurd this h
  | cons b M =>
    have ef : fg R x = L.length := by rw [e]; exact Kn.fg_seg hL hB
    have p := hs
    rw [e, List.pairwise_append] at p
    refine ⟨L, b, M, e, hL, hB b (List.mem_cons_self ..), p.2.1, p.1, ef, ?_, ?_⟩
    · rw [ef, e]; exact at_mid
    · rw [ef, e, List.set_append_right _ _ (Nat.le_refl _), Nat.sub_self]; rfl
end Ld
set_option Elab.async false
set_option linter.all false
set_option maxRecDepth 100000
set_option maxHeartbeats 4000000
namespace K62
open PySem L2 Am
noncomputable def top (i : Nat) : Stmt := PySem.Challenge.pw_undercells_k62_roads_of_moves.main.body.getD i (.Pass ⟨0, 0, 0, 0⟩)
noncomputable abbrev s_first_greater : Stmt := top 11
noncomputable def N_first_greater : List Str := ["row", "letter", "place"]
noncomputable def t_first_greater_1 : Te :=
 bAnd (toB (eBin aLt (eVar 2) (eCall (f1 aLen) (lCons (eVar 0) (lNil))))) (toB (eBin aLe (eBin aIx (eVar 0) (eVar 2)) (eVar 1)))
noncomputable def b_first_greater_1 : Sm :=
 sAug 2 iAdd (eC (.int 1))
noncomputable def m_first_greater : Sm :=
 sSeq (sAsg (eC (.int 0)) (gNm 2))
 (sSeq (sWhile (t_first_greater_1)
 (b_first_greater_1) 1000000)
 (sRet (eVar 2)))
noncomputable def F_first_greater : List A -> Sto -> R A := runF N_first_greater m_first_greater
noncomputable abbrev s_put_into_rows : Stmt := top 12
noncomputable def N_put_into_rows : List Str := ["rows", "letter", "at", "place"]
noncomputable def t_put_into_rows_1 : Te :=
 toB (eBin aLt (eVar 2) (eCall (f1 aLen) (lCons (eVar 0) (lNil))))
noncomputable def b_put_into_rows_1 : Sm :=
 sSeq (sAsg (eFn F_first_greater (lCons (eBin aIx (eVar 0) (eVar 2)) (lCons (eVar 1) (lNil)))) (gNm 3))
 (sSeq (sIf (toB (eBin (aEq false) (eVar 3) (eCall (f1 aLen) (lCons (eBin aIx (eVar 0) (eVar 2)) (lNil)))))
 (sSeq (sExpr (eMe mAppend (eBin aIx (eVar 0) (eVar 2)) (lCons (eVar 1) (lNil))))
 (sRet (eVar 2)))
 (sNil))
 (sSeq (sAsg (eTup (lCons (eVar 1) (lCons (eBin aIx (eBin aIx (eVar 0) (eVar 2)) (eVar 3)) (lNil)))) (gTp 2 (gCn (gSb (eBin aIx (eVar 0) (eVar 2)) (eVar 3)) (gCn (gNm 1) (gNl)))))
 (sAug 2 iAdd (eC (.int 1)))))
noncomputable def m_put_into_rows : Sm :=
 sSeq (sAsg (eC (.int 0)) (gNm 2))
 (sSeq (sWhile (t_put_into_rows_1)
 (b_put_into_rows_1) 1000000)
 (sSeq (sExpr (eMe mAppend (eVar 0) (lCons (eLst (lCons (eVar 1) (lNil))) (lNil))))
 (sRet (eVar 2))))
noncomputable def F_put_into_rows : List A -> Sto -> R A := runF N_put_into_rows m_put_into_rows
noncomputable abbrev s_copied : Stmt := top 13
noncomputable def N_copied : List Str := ["table"]
noncomputable def m_copied : Sm :=
 sRet (eComp [none] (iVal (eVar 0)) (gNm 0) (bYes) (eCall (f1 aList) (lCons (eVar 0) (lNil))))
noncomputable def F_copied : List A -> Sto -> R A := runF N_copied m_copied
noncomputable abbrev s_put_in : Stmt := top 14
noncomputable def N_put_in : List Str := ["table", "letter", "told"]
noncomputable def m_put_in : Sm :=
 sSeq (sAsg (eFn F_copied (lCons (eVar 0) (lNil))) (gNm 2))
 (sSeq (sExpr (eFn F_put_into_rows (lCons (eVar 2) (lCons (eVar 1) (lNil)))))
 (sRet (eVar 2)))
noncomputable def F_put_in : List A -> Sto -> R A := runF N_put_in m_put_in
noncomputable abbrev s_changed : Stmt := top 17
noncomputable def N_changed : List Str := ["row", "at"]
noncomputable def m_changed : Sm :=
 sRet (eBin aAdd (eBin aAdd (eSl (eVar 0) pNone (pSome (eVar 1))) (eLst (lCons (eBin aIx (eVar 0) (eBin aAdd (eVar 1) (eC (.int 1)))) (lCons (eBin aIx (eVar 0) (eVar 1)) (lNil))))) (eSl (eVar 0) (pSome (eBin aAdd (eVar 1) (eC (.int 2)))) pNone))
noncomputable def F_changed : List A -> Sto -> R A := runF N_changed m_changed
noncomputable abbrev s_go_on : Stmt := top 18
noncomputable def N_go_on : List Str := ["road", "at", "here"]
noncomputable def m_go_on : Sm :=
 sSeq (sAsg (eFn F_changed (lCons (eBin aIx (eVar 0) (eUn aNeg (eC (.int 1)))) (lCons (eVar 1) (lNil)))) (gNm 2))
 (sIf (toB (eBin (aIn false) (eVar 2) (eVar 0)))
 (sDel (eVar 0) (eBin aAdd (eMe mIdxL (eVar 0) (lCons (eVar 2) (lNil))) (eC (.int 1))))
 (sExpr (eMe mAppend (eVar 0) (lCons (eVar 2) (lNil)))))
noncomputable def F_go_on : List A -> Sto -> R A := runF N_go_on m_go_on
noncomputable abbrev s_lead_in : Stmt := top 19
noncomputable def N_lead_in : List Str := ["road", "table", "end", "row", "letter", "start", "place", "at"]
noncomputable def i_lead_in_2 : Ic :=
 iRngD (eBin aSub (eVar 2) (eC (.int 1))) (eVar 6) (eUn aNeg (eC (.int 1)))
noncomputable def b_lead_in_2 : Sm :=
 sExpr (eFn F_go_on (lCons (eVar 0) (lCons (eVar 7) (lNil))))
noncomputable def i_lead_in_3 : Ic :=
 iRngD (eBin aSub (eVar 6) (eC (.int 1))) (eBin aSub (eVar 5) (eC (.int 1))) (eUn aNeg (eC (.int 1)))
noncomputable def b_lead_in_3 : Sm :=
 sExpr (eFn F_go_on (lCons (eVar 0) (lCons (eVar 7) (lNil))))
noncomputable def i_lead_in_1 : Ic :=
 iVal (eVar 1)
noncomputable def b_lead_in_1 : Sm :=
 sSeq (sAsg (eBin aIx (eBin aIx (eVar 0) (eUn aNeg (eC (.int 1)))) (eVar 2)) (gNm 4))
 (sSeq (sAsg (eBin aSub (eVar 2) (eCall (f1 aLen) (lCons (eVar 3) (lNil)))) (gNm 5))
 (sSeq (sAsg (eBin aAdd (eVar 5) (eFn F_first_greater (lCons (eVar 3) (lCons (eVar 4) (lNil))))) (gNm 6))
 (sSeq (sIf (toB (eBin (aEq false) (eVar 6) (eVar 2)))
 (sRetN)
 (sNil))
 (sSeq (sFor (i_lead_in_2) (gNm 7)
 (b_lead_in_2))
 (sSeq (sFor (i_lead_in_3) (gNm 7)
 (b_lead_in_3))
 (sAsg (eVar 5) (gNm 2)))))))
noncomputable def m_lead_in : Sm :=
 sFor (i_lead_in_1) (gNm 3)
 (b_lead_in_1)
noncomputable def F_lead_in : List A -> Sto -> R A := runF N_lead_in m_lead_in
noncomputable abbrev s_road_of_moves : Stmt := top 20
noncomputable def N_road_of_moves : List Str := ["row", "road", "table", "at", "letter"]
noncomputable def i_road_of_moves_1 : Ic :=
 iEnL (eVar 0)
noncomputable def b_road_of_moves_1 : Sm :=
 sSeq (sExpr (eFn F_lead_in (lCons (eVar 1) (lCons (eVar 2) (lCons (eVar 3) (lNil))))))
 (sAsg (eFn F_put_in (lCons (eVar 2) (lCons (eVar 4) (lNil)))) (gNm 2))
noncomputable def m_road_of_moves : Sm :=
 sSeq (sIf (toB (eBin aGt (eCall (f1 aLen) (lCons (eVar 0) (lNil))) (eC (.int 12))))
 (sRaise "TooMany" [.inl "no road of moves is told for ", .inr (eCall (f1 aLen) (lCons (eVar 0) (lNil))), .inl " letters"])
 (sNil))
 (sSeq (sAsg (eLst (lCons (eCall (f1 aList) (lCons (eVar 0) (lNil))) (lNil))) (gNm 1))
 (sSeq (sAsg (eLst (lNil)) (gNm 2))
 (sSeq (sFor (i_road_of_moves_1) (gTp 2 (gCn (gNm 3) (gCn (gNm 4) (gNl))))
 (b_road_of_moves_1))
 (sRet (eVar 1)))))
noncomputable def F_road_of_moves : List A -> Sto -> R A := runF N_road_of_moves m_road_of_moves
noncomputable abbrev s_law_bag : Stmt := top 22
noncomputable def N_law_bag : List Str := ["_law_script", "_law_at", "_law_cell", "_law_great"]
noncomputable def m_law_bag : Sm :=
 sSeq (sAsg (eC (.int 0)) (gNm 2))
 (sSeq (sIf (toB (eBin aLt (eVar 1) (eCall (f1 aLen) (lCons (eVar 0) (lNil)))))
 (sAsg (eBin aIx (eVar 0) (eVar 1)) (gNm 2))
 (sNil))
 (sSeq (sAsg (eC (.int 0)) (gNm 3))
 (sSeq (sIf (toB (eBin aGe (eVar 2) (eBin aPow (eC (.int 10)) (eC (.int 18)))))
 (sAsg (eVar 2) (gNm 3))
 (sNil))
 (sRet (eLst (lCons (eVar 3) (lCons (eBin aMod (eBin aAdd (eBin aAdd (eVar 2) (eBin aMul (eC (.int 7919)) (eVar 1))) (eC (.int 13))) (eC (.int 2147483647))) (lNil))))))))
noncomputable def F_law_bag : List A -> Sto -> R A := runF N_law_bag m_law_bag
noncomputable abbrev s_law_digit : Stmt := top 23
noncomputable def N_law_digit : List Str := ["_law_bag_here", "_law_many", "_law_found"]
noncomputable def m_law_digit : Sm :=
 sSeq (sIf (toB (eBin aGt (eBin aIx (eVar 0) (eC (.int 0))) (eC (.int 0))))
 (sSeq (sAsg (eBin aMod (eBin aIx (eVar 0) (eC (.int 0))) (eVar 1)) (gNm 2))
 (sSeq (sAsg (eBin aFdiv (eBin aIx (eVar 0) (eC (.int 0))) (eVar 1)) (gSb (eVar 0) (eC (.int 0))))
 (sRet (eVar 2))))
 (sNil))
 (sSeq (sAsg (eBin aMod (eBin aAdd (eBin aMul (eBin aIx (eVar 0) (eC (.int 1))) (eC (.int 48271))) (eC (.int 11))) (eC (.int 2147483647))) (gSb (eVar 0) (eC (.int 1))))
 (sRet (eBin aMod (eBin aMod (eBin aMul (eBin aFdiv (eBin aIx (eVar 0) (eC (.int 1))) (eC (.int 8))) (eC (.int 69621))) (eC (.int 2147483629))) (eVar 1))))
noncomputable def F_law_digit : List A -> Sto -> R A := runF N_law_digit m_law_digit
noncomputable abbrev s_law_letters : Stmt := top 24
noncomputable def N_law_letters : List Str := ["_law_bag_here", "_law_most", "_law_many", "_law_way", "_law_base", "_law_made", "_law_k", "_law_letter"]
noncomputable def i_law_letters_1 : Ic :=
 iRng1 (eVar 2)
noncomputable def b_law_letters_1 : Sm :=
 sSeq (sAsg (eBin aAdd (eC (.int 1)) (eFn F_law_digit (lCons (eVar 0) (lCons (eVar 4) (lNil))))) (gNm 7))
 (sSeq (sIf (bAnd (toB (eBin (aEq false) (eVar 3) (eC (.int 3)))) (toB (eBin (aIn false) (eVar 7) (eVar 5))))
 (sAsg (eBin aAdd (eC (.int 41)) (eVar 6)) (gNm 7))
 (sNil))
 (sExpr (eMe mAppend (eVar 5) (lCons (eVar 7) (lNil)))))
noncomputable def m_law_letters : Sm :=
 sSeq (sAsg (eFn F_law_digit (lCons (eVar 0) (lCons (eBin aAdd (eVar 1) (eC (.int 1))) (lNil)))) (gNm 2))
 (sSeq (sAsg (eFn F_law_digit (lCons (eVar 0) (lCons (eC (.int 4)) (lNil)))) (gNm 3))
 (sSeq (sAsg (eBin aIx (eLst (lCons (eC (.int 3)) (lCons (eC (.int 6)) (lCons (eBin aPow (eC (.int 10)) (eC (.int 9))) (lCons (eC (.int 40)) (lNil)))))) (eVar 3)) (gNm 4))
 (sSeq (sAsg (eLst (lNil)) (gNm 5))
 (sSeq (sFor (i_law_letters_1) (gNm 6)
 (b_law_letters_1))
 (sRet (eVar 5))))))
noncomputable def F_law_letters : List A -> Sto -> R A := runF N_law_letters m_law_letters
noncomputable abbrev s_law_put : Stmt := top 25
noncomputable def N_law_put : List Str := ["_law_rows", "_law_letter", "_law_made", "_law_row", "_law_greater"]
noncomputable def i_law_put_1 : Ic :=
 iVal (eVar 2)
noncomputable def b_law_put_1 : Sm :=
 sSeq (sAsg (eComp [none, some 1, some 3] (iRng1 (eCall (f1 aLen) (lCons (eVar 3) (lNil)))) (gNm 0) (toB (eBin aGt (eBin aIx (eVar 2) (eVar 0)) (eVar 1))) (eVar 0)) (gNm 4))
 (sSeq (sIf (toB (eBin (aEq false) (eVar 4) (eLst (lNil))))
 (sSeq (sExpr (eMe mAppend (eVar 3) (lCons (eVar 1) (lNil))))
 (sRet (eVar 2)))
 (sNil))
 (sAsg (eTup (lCons (eVar 1) (lCons (eBin aIx (eVar 3) (eBin aIx (eVar 4) (eC (.int 0)))) (lNil)))) (gTp 2 (gCn (gSb (eVar 3) (eBin aIx (eVar 4) (eC (.int 0)))) (gCn (gNm 1) (gNl))))))
noncomputable def m_law_put : Sm :=
 sSeq (sAsg (eComp [none] (iVal (eVar 0)) (gNm 0) (bYes) (eCall (f1 aList) (lCons (eVar 0) (lNil)))) (gNm 2))
 (sSeq (sFor (i_law_put_1) (gNm 3)
 (b_law_put_1))
 (sRet (eBin aAdd (eVar 2) (eLst (lCons (eLst (lCons (eVar 1) (lNil))) (lNil))))))
noncomputable def F_law_put : List A -> Sto -> R A := runF N_law_put m_law_put
noncomputable abbrev s_law_tables : Stmt := top 26
noncomputable def N_law_tables : List Str := ["_law_letters_here", "_law_first", "_law_second", "_law_k", "_law_more", "_law_at"]
noncomputable def i_law_tables_1 : Ic :=
 iRng1 (eCall (f1 aLen) (lCons (eVar 0) (lNil)))
noncomputable def b_law_tables_1 : Sm :=
 sSeq (sAsg (eFn F_law_put (lCons (eVar 1) (lCons (eBin aIx (eVar 0) (eVar 3)) (lNil)))) (gNm 4))
 (sSeq (sAsg (eBin aIx (eComp [none, some 1, some 4] (iRng1 (eCall (f1 aLen) (lCons (eVar 4) (lNil)))) (gNm 0) (bOr (toB (eBin (aEq false) (eVar 0) (eCall (f1 aLen) (lCons (eVar 1) (lNil))))) (toB (eBin aLt (eCall (f1 aLen) (lCons (eBin aIx (eVar 1) (eVar 0)) (lNil))) (eCall (f1 aLen) (lCons (eBin aIx (eVar 2) (eVar 0)) (lNil)))))) (eVar 0)) (eC (.int 0))) (gNm 5))
 (sSeq (sIf (toB (eBin (aEq false) (eVar 5) (eCall (f1 aLen) (lCons (eVar 2) (lNil)))))
 (sExpr (eMe mAppend (eVar 2) (lCons (eLst (lNil)) (lNil))))
 (sNil))
 (sSeq (sExpr (eMe mAppend (eBin aIx (eVar 2) (eVar 5)) (lCons (eBin aAdd (eVar 3) (eC (.int 1))) (lNil))))
 (sAsg (eVar 4) (gNm 1)))))
noncomputable def m_law_tables : Sm :=
 sSeq (sAsg (eLst (lNil)) (gNm 1))
 (sSeq (sAsg (eLst (lNil)) (gNm 2))
 (sSeq (sFor (i_law_tables_1) (gNm 3)
 (b_law_tables_1))
 (sRet (eTup (lCons (eVar 1) (lCons (eVar 2) (lNil)))))))
noncomputable def F_law_tables : List A -> Sto -> R A := runF N_law_tables m_law_tables
noncomputable abbrev s_law_moved : Stmt := top 27
noncomputable def N_law_moved : List Str := ["_law_letters_here", "_law_found", "_law_k", "_law_a", "_law_b", "_law_c"]
noncomputable def i_law_moved_1 : Ic :=
 iRng1 (eBin aSub (eCall (f1 aLen) (lCons (eVar 0) (lNil))) (eC (.int 2)))
noncomputable def b_law_moved_1 : Sm :=
 sSeq (sPar3 3 4 5 (lCons (eBin aIx (eVar 0) (eVar 2)) (lCons (eBin aIx (eVar 0) (eBin aAdd (eVar 2) (eC (.int 1)))) (lCons (eBin aIx (eVar 0) (eBin aAdd (eVar 2) (eC (.int 2)))) (lNil)))))
 (sSeq (sIf (bOr (toB (eCh aLe aLt (eVar 3) (eVar 5) (eVar 4))) (toB (eCh aLe aLt (eVar 4) (eVar 5) (eVar 3))))
 (sExpr (eMe mAppend (eVar 1) (lCons (eBin aAdd (eBin aAdd (eSl (eVar 0) pNone (pSome (eVar 2))) (eLst (lCons (eVar 4) (lCons (eVar 3) (lCons (eVar 5) (lNil)))))) (eSl (eVar 0) (pSome (eBin aAdd (eVar 2) (eC (.int 3)))) pNone)) (lNil))))
 (sNil))
 (sIf (bOr (toB (eCh aLt aLe (eVar 4) (eVar 3) (eVar 5))) (toB (eCh aLt aLe (eVar 5) (eVar 3) (eVar 4))))
 (sExpr (eMe mAppend (eVar 1) (lCons (eBin aAdd (eBin aAdd (eSl (eVar 0) pNone (pSome (eVar 2))) (eLst (lCons (eVar 3) (lCons (eVar 5) (lCons (eVar 4) (lNil)))))) (eSl (eVar 0) (pSome (eBin aAdd (eVar 2) (eC (.int 3)))) pNone)) (lNil))))
 (sNil)))
noncomputable def m_law_moved : Sm :=
 sSeq (sAsg (eLst (lNil)) (gNm 1))
 (sSeq (sFor (i_law_moved_1) (gNm 2)
 (b_law_moved_1))
 (sRet (eVar 1)))
noncomputable def F_law_moved : List A -> Sto -> R A := runF N_law_moved m_law_moved
noncomputable abbrev s_law_is : Stmt := top 28
noncomputable def N_law_is : List Str := ["_law_e", "_law_due", "_law_found", "_law_names"]
noncomputable def m_law_is : Sm :=
 sSeq (sAsg (eLst (lCons (eIsX (tbX [("TooMany", false)]) (eVar 0)) (lCons (eIsX (tbX [("TooMany", false)]) (eVar 0)) (lCons (eIsX (tbX [("TooMany", false)]) (eVar 0)) (lCons (eIsX (tbX [("TooMany", true)]) (eVar 0)) (lNil)))))) (gNm 2))
 (sSeq (sAsg (eBin aAdd (eVar 2) (eLst (lCons (eIsX (tbX [("TooMany", false)]) (eVar 0)) (lCons (eIsX (tbX [("TooMany", false)]) (eVar 0)) (lCons (eIsX (tbX [("TooMany", false)]) (eVar 0)) (lCons (eIsX (tbX [("TooMany", false)]) (eVar 0)) (lNil))))))) (gNm 2))
 (sSeq (sAsg (eLst (lCons (eC (.str (PySem.Str.ofString "word"))) (lCons (eC (.str (PySem.Str.ofString "number"))) (lCons (eC (.str (PySem.Str.ofString "pair"))) (lCons (eC (.str (PySem.Str.ofString "many"))) (lCons (eC (.str (PySem.Str.ofString "tables"))) (lCons (eC (.str (PySem.Str.ofString "text"))) (lCons (eC (.str (PySem.Str.ofString "row"))) (lCons (eC (.str (PySem.Str.ofString "name"))) (lNil)))))))))) (gNm 3))
 (sRet (eAnd (eIsX (tbX [("TooMany", true)]) (eVar 0)) (eBin (aEq false) (eVar 2) (eComp [none, some 1] (iValL (eVar 3)) (gNm 0) (bYes) (eBin (aEq false) (eVar 0) (eVar 1))))))))
noncomputable def F_law_is : List A -> Sto -> R A := runF N_law_is m_law_is
noncomputable abbrev s_law_is_road : Stmt := top 29
noncomputable def N_law_is_road : List Str := ["_law_found", "_law_letters_here", "_law_one", "_law_at", "_law_due", "_law_row"]
noncomputable def i_law_is_road_1 : Ic :=
 iVal (eVar 0)
noncomputable def b_law_is_road_1 : Sm :=
 sSeq (sIf (bNot (eTru (eCall (f2 aIsi) (lCons (eVar 2) (lCons (eC (.ty "list")) (lNil))))))
 (sRet (eC (.bl false)))
 (sNil))
 (sIf (bNot (eTru (eCall (f1 aAll) (lCons (eComp [none] (iVal (eVar 2)) (gNm 0) (bYes) (eAnd (eCall (f2 aIsi) (lCons (eVar 0) (lCons (eC (.ty "int")) (lNil)))) (eNot (eCall (f2 aIsi) (lCons (eVar 0) (lCons (eC (.ty "bool")) (lNil))))))) (lNil)))))
 (sRet (eC (.bl false)))
 (sNil))
noncomputable def i_law_is_road_2 : Ic :=
 iRng1 (eBin aSub (eCall (f1 aLen) (lCons (eVar 0) (lNil))) (eC (.int 1)))
noncomputable def b_law_is_road_2 : Sm :=
 sIf (toB (eBin (aIn true) (eBin aIx (eVar 0) (eBin aAdd (eVar 3) (eC (.int 1)))) (eFn F_law_moved (lCons (eBin aIx (eVar 0) (eVar 3)) (lNil)))))
 (sRet (eC (.bl false)))
 (sNil)
noncomputable def i_law_is_road_3 : Ic :=
 iRv (eBin aIx (eFn F_law_tables (lCons (eVar 1) (lNil))) (eC (.int 0)))
noncomputable def b_law_is_road_3 : Sm :=
 sAsg (eBin aAdd (eVar 4) (eVar 5)) (gNm 4)
noncomputable def m_law_is_road : Sm :=
 sSeq (sIf (bOr (bNot (eTru (eCall (f2 aIsi) (lCons (eVar 0) (lCons (eC (.ty "list")) (lNil)))))) (bOr (toB (eBin (aEq false) (eCall (f1 aLen) (lCons (eVar 0) (lNil))) (eC (.int 0)))) (toB (eBin (aEq true) (eBin aIx (eVar 0) (eC (.int 0))) (eVar 1)))))
 (sRet (eC (.bl false)))
 (sNil))
 (sSeq (sFor (i_law_is_road_1) (gNm 2)
 (b_law_is_road_1))
 (sSeq (sFor (i_law_is_road_2) (gNm 3)
 (b_law_is_road_2))
 (sSeq (sAsg (eLst (lNil)) (gNm 4))
 (sSeq (sFor (i_law_is_road_3) (gNm 5)
 (b_law_is_road_3))
 (sRet (eBin (aEq false) (eBin aIx (eVar 0) (eUn aNeg (eC (.int 1)))) (eVar 4)))))))
noncomputable def F_law_is_road : List A -> Sto -> R A := runF N_law_is_road m_law_is_road
noncomputable abbrev s_law_refused : Stmt := top 30
noncomputable def N_law_refused : List Str := ["_law_letters_here", "_law_e"]
noncomputable def m_law_refused : Sm :=
 sSeq (sTry 1 2 ["TooMany"] (sExpr (eFnX F_road_of_moves (lCons (eVar 0) (lNil))))
 (sRet (eFn F_law_is (lCons (eVar 1) (lCons (eC (.str (PySem.Str.ofString "many"))) (lNil))))))
 (sRet (eC (.bl false)))
noncomputable def F_law_refused : List A -> Sto -> R A := runF N_law_refused m_law_refused
noncomputable abbrev s_law : Stmt := top 31
noncomputable def N_law : List Str := ["_law_script", "_law_k", "_law_bag_here", "_law_letters_here", "_law_handed", "_law_turn", "_law_found", "_law_one", "_law_many"]
noncomputable def i_law_3 : Ic :=
 iVal (eVar 6)
noncomputable def b_law_3 : Sm :=
 sExpr (eMe mAppend (eVar 7) (lCons (eC (.int 1)) (lNil)))
noncomputable def i_law_2 : Ic :=
 iRng1 (eC (.int 2))
noncomputable def b_law_2 : Sm :=
 sSeq (sAsg (eFnX F_road_of_moves (lCons (eVar 4) (lNil))) (gNm 6))
 (sSeq (sIf (bOr (bNot (eTru (eFn F_law_is_road (lCons (eVar 6) (lCons (eVar 3) (lNil)))))) (toB (eBin (aEq true) (eVar 4) (eVar 3))))
 (sRet (eC (.bl false)))
 (sNil))
 (sSeq (sFor (i_law_3) (gNm 7)
 (b_law_3))
 (sExpr (eMe mAppend (eVar 6) (lCons (eLst (lNil)) (lNil))))))
noncomputable def i_law_1 : Ic :=
 iRng1 (eCall (f2 aMax2) (lCons (eC (.int 2)) (lCons (eCall (f2 aMin2) (lCons (eCall (f1 aLen) (lCons (eVar 0) (lNil))) (lCons (eC (.int 6)) (lNil)))) (lNil))))
noncomputable def b_law_1 : Sm :=
 sSeq (sAsg (eFn F_law_bag (lCons (eVar 0) (lCons (eVar 1) (lNil)))) (gNm 2))
 (sSeq (sAsg (eFn F_law_letters (lCons (eVar 2) (lCons (eC (.int 12)) (lNil)))) (gNm 3))
 (sSeq (sIf (toB (eBin (aEq false) (eFn F_law_digit (lCons (eVar 2) (lCons (eC (.int 4)) (lNil)))) (eC (.int 1))))
 (sAsg (eSl (eBin aAdd (eVar 3) (eComp [none, some 2] (iRng1 (eC (.int 12))) (gNm 0) (bYes) (eBin aAdd (eC (.int 1)) (eFn F_law_digit (lCons (eVar 1) (lCons (eC (.int 9)) (lNil))))))) pNone (pSome (eC (.int 12)))) (gNm 3))
 (sNil))
 (sSeq (sAsg (eCall (f1 aList) (lCons (eVar 3) (lNil))) (gNm 4))
 (sSeq (sFor (i_law_2) (gNm 5)
 (b_law_2))
 (sSeq (sAsg (eBin aAdd (eC (.int 13)) (eFn F_law_digit (lCons (eVar 2) (lCons (eC (.int 28)) (lNil))))) (gNm 8))
 (sIf (bNot (eTru (eFn F_law_refused (lCons (eComp [none, some 2] (iRng1 (eVar 8)) (gNm 0) (bYes) (eBin aAdd (eC (.int 1)) (eFn F_law_digit (lCons (eVar 1) (lCons (eC (.int 9)) (lNil)))))) (lNil)))))
 (sRet (eC (.bl false)))
 (sNil)))))))
noncomputable def m_law : Sm :=
 sSeq (sFor (i_law_1) (gNm 1)
 (b_law_1))
 (sRet (eC (.bl true)))
noncomputable def F_law : List A -> Sto -> R A := runF N_law m_law
section
variable {P : Program} {w : World} {K : PySem.W.Frag} {mg : Str -> Option Value} {base : Heap}
theorem sc_first_greater : FnScope ["row", "letter", "place"] ["row", "letter"] (defScope s_first_greater) := ⟨rfl, rfl, rfl, by decide +kernel, rfl, by decide +kernel, by decide +kernel⟩
theorem ok_first_greater {f : Addr} {fd : FuncData} (F : Fun K "first_greater" "first_greater" s_first_greater f fd) (b_len : mg "len" = none) : FnOk P w K mg base CX0 1 f fd ["row", "letter"] (spA K 2 F_first_greater) := fnA (m := m_first_greater) F sc_first_greater fun cdv B outer s H E hr =>
 ass_cons (as_set (i := 2) sc_first_greater.nd (ae_int))
 (ass_cons (as_while 1000000 PassesOwn.never (AW.at (aw_and (at_cmp (o_lt hr.units) (ae_var 2) (ae_callB c_len b_len bt_len (al_cons (ae_var 0) (al_nil)))) (aw_and1 (at_cmp o_le (ae_ix (ae_var 0) (ae_var 2)) (ae_var 1)))))
 (ass_one (as_aug (i := 2) sc_first_greater.nd (ae_int) ip_addA)))
 (ass_one (as_ret (ae_var 2))))
theorem sc_put_into_rows : FnScope ["rows", "letter", "at", "place"] ["rows", "letter"] (defScope s_put_into_rows) := ⟨rfl, rfl, rfl, by decide +kernel, rfl, by decide +kernel, by decide +kernel⟩
theorem ok_put_into_rows {f : Addr} {fd : FuncData} (F : Fun K "put_into_rows" "put_into_rows" s_put_into_rows f fd) (b_len : mg "len" = none) (G_first_greater : KnA P w K mg base 1 "first_greater" ["row", "letter"] F_first_greater) : FnOk P w K mg base CX0 2 f fd ["rows", "letter"] (spA K 2 F_put_into_rows) := fnA (m := m_put_into_rows) F sc_put_into_rows fun cdv B outer s H E hr =>
 ass_cons (as_set (i := 2) sc_put_into_rows.nd (ae_int))
 (ass_cons (as_while 1000000 PassesOwn.never (at_cmp (o_lt hr.units) (ae_var 2) (ae_callB c_len b_len bt_len (al_cons (ae_var 0) (al_nil))))
 (ass_cons (as_set (i := 3) sc_put_into_rows.nd (ae_fn G_first_greater (hr.mono (by decide)) (al_cons (ae_ix (ae_var 0) (ae_var 2)) (al_cons (ae_var 1) (al_nil))) (len_cons (len_cons len_nil))))
 (ass_cons (as_if (at_cmp (o_eq hr.units) (ae_var 3) (ae_callB c_len b_len bt_len (al_cons (ae_ix (ae_var 0) (ae_var 2)) (al_nil))))
 (ass_cons (as_expr (ae_me PySem.F.slot_list_append PySem.F.type_list_append m_append (ae_ix (ae_var 0) (ae_var 2)) (al_cons (ae_var 1) (al_nil))))
 (ass_one (as_ret (ae_var 2))))
 (ass_nil))
 (ass_cons (as_asg (ae_tup (al_cons (ae_var 1) (al_cons (ae_ix (ae_ix (ae_var 0) (ae_var 2)) (ae_var 3)) (al_nil)))) (ag_tup rfl (ags_cons (ag_sub (ae_ix (ae_var 0) (ae_var 2)) (ae_var 3)) (ags_cons (ag_name (i := 1) sc_put_into_rows.nd) (ags_nil)))))
 (ass_one (as_aug (i := 2) sc_put_into_rows.nd (ae_int) ip_addA))))))
 (ass_cons (as_expr (ae_me PySem.F.slot_list_append PySem.F.type_list_append m_append (ae_var 0) (al_cons (ae_lst (al_cons (ae_var 1) (al_nil))) (al_nil))))
 (ass_one (as_ret (ae_var 2)))))
theorem sc_copied : FnScope ["table"] ["table"] (defScope s_copied) := ⟨rfl, rfl, rfl, by decide +kernel, rfl, by decide +kernel, by decide +kernel⟩
theorem ok_copied {f : Addr} {fd : FuncData} (F : Fun K "copied" "copied" s_copied f fd) (b_list : mg "list" = none) : FnOk P w K mg base CX0 1 f fd ["table"] (spA K 1 F_copied) := fnA (m := m_copied) F sc_copied fun cdv B outer s H E hr =>
 ass_one (as_ret (ae_comp (N := ["row"]) (cap := [none]) rfl (cp_mk [] rfl (by decide +kernel) (by decide +kernel) (by decide +kernel) (by decide +kernel) (by decide +kernel) (fun _ h => nomatch h) trivial) (ai_val (ae_var 0)) (fun _ _ _ _ => ag_name (i := 0) (show (["row"] : List Str).Nodup by decide +kernel) rfl (Or.inl rfl) (.inr rfl)) (fun _ _ _ _ => ats_nil) (fun _ _ _ _ => ae_callT (c_list rfl) b_list bt_list (al_cons (ae_var 0) (al_nil)))))
theorem sc_put_in : FnScope ["table", "letter", "told"] ["table", "letter"] (defScope s_put_in) := ⟨rfl, rfl, rfl, by decide +kernel, rfl, by decide +kernel, by decide +kernel⟩
theorem ok_put_in {f : Addr} {fd : FuncData} (F : Fun K "put_in" "put_in" s_put_in f fd) (G_copied : KnA P w K mg base 1 "copied" ["table"] F_copied) (G_put_into_rows : KnA P w K mg base 2 "put_into_rows" ["rows", "letter"] F_put_into_rows) : FnOk P w K mg base CX0 3 f fd ["table", "letter"] (spA K 2 F_put_in) := fnA (m := m_put_in) F sc_put_in fun cdv B outer s H E hr =>
 ass_cons (as_set (i := 2) sc_put_in.nd (ae_fn G_copied (hr.mono (by decide)) (al_cons (ae_var 0) (al_nil)) (len_cons len_nil)))
 (ass_cons (as_expr (ae_fn G_put_into_rows (hr.mono (by decide)) (al_cons (ae_var 2) (al_cons (ae_var 1) (al_nil))) (len_cons (len_cons len_nil))))
 (ass_one (as_ret (ae_var 2))))
theorem sc_changed : FnScope ["row", "at"] ["row", "at"] (defScope s_changed) := ⟨rfl, rfl, rfl, by decide +kernel, rfl, by decide +kernel, by decide +kernel⟩
theorem ok_changed {f : Addr} {fd : FuncData} (F : Fun K "changed" "changed" s_changed f fd) : FnOk P w K mg base CX0 1 f fd ["row", "at"] (spA K 2 F_changed) := fnA (m := m_changed) F sc_changed fun cdv B outer s H E hr =>
 ass_one (as_ret (ae_bin o_add (ae_bin o_add (ae_sl (ae_var 0) ao_none (ao_some (ae_var 1))) (ae_lst (al_cons (ae_ix (ae_var 0) (ae_bin o_add (ae_var 1) (ae_int))) (al_cons (ae_ix (ae_var 0) (ae_var 1)) (al_nil))))) (ae_sl (ae_var 0) (ao_some (ae_bin o_add (ae_var 1) (ae_int))) ao_none)))
theorem sc_go_on : FnScope ["road", "at", "here"] ["road", "at"] (defScope s_go_on) := ⟨rfl, rfl, rfl, by decide +kernel, rfl, by decide +kernel, by decide +kernel⟩
theorem ok_go_on {f : Addr} {fd : FuncData} (F : Fun K "go_on" "go_on" s_go_on f fd) (G_changed : KnA P w K mg base 1 "changed" ["row", "at"] F_changed) : FnOk P w K mg base CX0 2 f fd ["road", "at"] (spA K 2 F_go_on) := fnA (m := m_go_on) F sc_go_on fun cdv B outer s H E hr =>
 ass_cons (as_set (i := 2) sc_go_on.nd (ae_fn G_changed (hr.mono (by decide)) (al_cons (ae_ix (ae_var 0) (ae_neg (ae_int))) (al_cons (ae_var 1) (al_nil))) (len_cons (len_cons len_nil))))
 (ass_one (as_if (at_cmp (o_in hr.units) (ae_var 2) (ae_var 0))
 (ass_one (as_del (ae_var 0) (ae_bin o_add (ae_me PySem.F.slot_list_index PySem.F.type_list_index (m_idxL hr.units) (ae_var 0) (al_cons (ae_var 2) (al_nil))) (ae_int))))
 (ass_one (as_expr (ae_me PySem.F.slot_list_append PySem.F.type_list_append m_append (ae_var 0) (al_cons (ae_var 2) (al_nil)))))))
theorem sc_lead_in : FnScope ["road", "table", "end", "row", "letter", "start", "place", "at"] ["road", "table", "end"] (defScope s_lead_in) := ⟨rfl, rfl, rfl, by decide +kernel, rfl, by decide +kernel, by decide +kernel⟩
theorem ok_lead_in {f : Addr} {fd : FuncData} (F : Fun K "lead_in" "lead_in" s_lead_in f fd) (b_len : mg "len" = none) (b_range : mg "range" = none) (G_first_greater : KnA P w K mg base 1 "first_greater" ["row", "letter"] F_first_greater) (G_go_on : KnA P w K mg base 2 "go_on" ["road", "at"] F_go_on) : FnOk P w K mg base CX0 3 f fd ["road", "table", "end"] (spA K 3 F_lead_in) := fnA (m := m_lead_in) F sc_lead_in fun cdv B outer s H E hr =>
 ass_one (as_for PassesOwn.never rfl (ai_val (ae_var 1)) (ag_name (i := 3) sc_lead_in.nd)
 (ass_cons (as_set (i := 4) sc_lead_in.nd (ae_ix (ae_ix (ae_var 0) (ae_neg (ae_int))) (ae_var 2)))
 (ass_cons (as_set (i := 5) sc_lead_in.nd (ae_bin o_sub (ae_var 2) (ae_callB c_len b_len bt_len (al_cons (ae_var 3) (al_nil)))))
 (ass_cons (as_set (i := 6) sc_lead_in.nd (ae_bin o_add (ae_var 5) (ae_fn G_first_greater (hr.mono (by decide)) (al_cons (ae_var 3) (al_cons (ae_var 4) (al_nil))) (len_cons (len_cons len_nil)))))
 (ass_cons (as_if (at_cmp (o_eq hr.units) (ae_var 6) (ae_var 2))
 (ass_one (as_retN))
 (ass_nil))
 (ass_cons (as_for PassesOwn.never rfl (ai_range3 b_range (ae_bin o_sub (ae_var 2) (ae_int)) (ae_var 6) (ae_neg (ae_int))) (ag_name (i := 7) sc_lead_in.nd)
 (ass_one (as_expr (ae_fn G_go_on (hr.mono (by decide)) (al_cons (ae_var 0) (al_cons (ae_var 7) (al_nil))) (len_cons (len_cons len_nil))))))
 (ass_cons (as_for PassesOwn.never rfl (ai_range3 b_range (ae_bin o_sub (ae_var 6) (ae_int)) (ae_bin o_sub (ae_var 5) (ae_int)) (ae_neg (ae_int))) (ag_name (i := 7) sc_lead_in.nd)
 (ass_one (as_expr (ae_fn G_go_on (hr.mono (by decide)) (al_cons (ae_var 0) (al_cons (ae_var 7) (al_nil))) (len_cons (len_cons len_nil))))))
 (ass_one (as_set (i := 2) sc_lead_in.nd (ae_var 5))))))))))
theorem sc_road_of_moves : FnScope ["row", "road", "table", "at", "letter"] ["row"] (defScope s_road_of_moves) := ⟨rfl, rfl, rfl, by decide +kernel, rfl, by decide +kernel, by decide +kernel⟩
theorem ok_road_of_moves {f : Addr} {fd : FuncData} (F : Fun K "road_of_moves" "road_of_moves" s_road_of_moves f fd) {U : Addr} {C_TooMany : Addr} (e_TooMany : ExcK K U "TooMany" C_TooMany) (b_len : mg "len" = none) (b_list : mg "list" = none) (b_enumerate : mg "enumerate" = none) (g_MOST_LED_LETTERS : ∃ t, mg "MOST_LED_LETTERS" = some (.int 12 t)) (G_lead_in : KnA P w K mg base 3 "lead_in" ["road", "table", "end"] F_lead_in) (G_put_in : KnA P w K mg base 3 "put_in" ["table", "letter"] F_put_in) : FnOk P w K mg base (CXA P w) 4 f fd ["row"] (spX K 1 F_road_of_moves) := fnX (m := m_road_of_moves) F sc_road_of_moves fun cdv B outer s H E hr =>
 ass_cons (as_if (at_cmp (o_gt hr.units) (ae_callB c_len b_len bt_len (al_cons (ae_var 0) (al_nil))) (ae_globI g_MOST_LED_LETTERS.choose_spec))
 (ass_one (as_raiseF (ps := [.inl "no road of moves is told for ", .inr (eCall (f1 aLen) (lCons (eVar 0) (lNil))), .inl " letters"]) e_TooMany.n e_TooMany.q hr.hd (.txt (.val (ae_callB c_len b_len bt_len (al_cons (ae_var 0) (al_nil))) (.txt .nil)))))
 (ass_nil))
 (ass_cons (as_set (i := 1) sc_road_of_moves.nd (ae_lst (al_cons (ae_callT (c_list rfl) b_list bt_list (al_cons (ae_var 0) (al_nil))) (al_nil))))
 (ass_cons (as_set (i := 2) sc_road_of_moves.nd (ae_lst (al_nil)))
 (ass_cons (as_for PassesOwn.leaving rfl (ai_enL b_enumerate (ae_var 0)) (ag_tup rfl (ags_cons (ag_name (i := 3) sc_road_of_moves.nd) (ags_cons (ag_name (i := 4) sc_road_of_moves.nd) (ags_nil))))
 (ass_cons (as_expr (ae_fn G_lead_in (hr.mono (by decide)) (al_cons (ae_var 1) (al_cons (ae_var 2) (al_cons (ae_var 3) (al_nil)))) (len_cons (len_cons (len_cons len_nil)))))
 (ass_one (as_set (i := 2) sc_road_of_moves.nd (ae_fn G_put_in (hr.mono (by decide)) (al_cons (ae_var 2) (al_cons (ae_var 4) (al_nil))) (len_cons (len_cons len_nil)))))))
 (ass_one (as_ret (ae_var 1))))))
theorem sc_law_bag : FnScope ["_law_script", "_law_at", "_law_cell", "_law_great"] ["_law_script", "_law_at"] (defScope s_law_bag) := ⟨rfl, rfl, rfl, by decide +kernel, rfl, by decide +kernel, by decide +kernel⟩
theorem ok_law_bag {f : Addr} {fd : FuncData} (F : Fun K "_law_bag" "_law_bag" s_law_bag f fd) (b_len : mg "len" = none) : FnOk P w K mg base CX0 1 f fd ["_law_script", "_law_at"] (spA K 2 F_law_bag) := fnA (m := m_law_bag) F sc_law_bag fun cdv B outer s H E hr =>
 ass_cons (as_set (i := 2) sc_law_bag.nd (ae_int))
 (ass_cons (as_if (at_cmp (o_lt hr.units) (ae_var 1) (ae_callB c_len b_len bt_len (al_cons (ae_var 0) (al_nil))))
 (ass_one (as_set (i := 2) sc_law_bag.nd (ae_ix (ae_var 0) (ae_var 1))))
 (ass_nil))
 (ass_cons (as_set (i := 3) sc_law_bag.nd (ae_int))
 (ass_cons (as_if (at_cmp o_ge (ae_var 2) (ae_bin o_pow (ae_int) (ae_int)))
 (ass_one (as_set (i := 3) sc_law_bag.nd (ae_var 2)))
 (ass_nil))
 (ass_one (as_ret (ae_lst (al_cons (ae_var 3) (al_cons (ae_bin o_mod (ae_bin o_add (ae_bin o_add (ae_var 2) (ae_bin o_mul (ae_int) (ae_var 1))) (ae_int)) (ae_int)) (al_nil)))))))))
theorem sc_law_digit : FnScope ["_law_bag_here", "_law_many", "_law_found"] ["_law_bag_here", "_law_many"] (defScope s_law_digit) := ⟨rfl, rfl, rfl, by decide +kernel, rfl, by decide +kernel, by decide +kernel⟩
theorem ok_law_digit {f : Addr} {fd : FuncData} (F : Fun K "_law_digit" "_law_digit" s_law_digit f fd) : FnOk P w K mg base CX0 1 f fd ["_law_bag_here", "_law_many"] (spA K 2 F_law_digit) := fnA (m := m_law_digit) F sc_law_digit fun cdv B outer s H E hr =>
 ass_cons (as_if (at_cmp (o_gt hr.units) (ae_ix (ae_var 0) (ae_int)) (ae_int))
 (ass_cons (as_set (i := 2) sc_law_digit.nd (ae_bin o_mod (ae_ix (ae_var 0) (ae_int)) (ae_var 1)))
 (ass_cons (as_asg (ae_bin o_fdiv (ae_ix (ae_var 0) (ae_int)) (ae_var 1)) (ag_sub (ae_var 0) (ae_int)))
 (ass_one (as_ret (ae_var 2)))))
 (ass_nil))
 (ass_cons (as_asg (ae_bin o_mod (ae_bin o_add (ae_bin o_mul (ae_ix (ae_var 0) (ae_int)) (ae_int)) (ae_int)) (ae_int)) (ag_sub (ae_var 0) (ae_int)))
 (ass_one (as_ret (ae_bin o_mod (ae_bin o_mod (ae_bin o_mul (ae_bin o_fdiv (ae_ix (ae_var 0) (ae_int)) (ae_int)) (ae_int)) (ae_int)) (ae_var 1)))))
theorem sc_law_letters : FnScope ["_law_bag_here", "_law_most", "_law_many", "_law_way", "_law_base", "_law_made", "_law_k", "_law_letter"] ["_law_bag_here", "_law_most"] (defScope s_law_letters) := ⟨rfl, rfl, rfl, by decide +kernel, rfl, by decide +kernel, by decide +kernel⟩
theorem ok_law_letters {f : Addr} {fd : FuncData} (F : Fun K "_law_letters" "_law_letters" s_law_letters f fd) (b_range : mg "range" = none) (G_law_digit : KnA P w K mg base 1 "_law_digit" ["_law_bag_here", "_law_many"] F_law_digit) : FnOk P w K mg base CX0 2 f fd ["_law_bag_here", "_law_most"] (spA K 2 F_law_letters) := fnA (m := m_law_letters) F sc_law_letters fun cdv B outer s H E hr =>
 ass_cons (as_set (i := 2) sc_law_letters.nd (ae_fn G_law_digit (hr.mono (by decide)) (al_cons (ae_var 0) (al_cons (ae_bin o_add (ae_var 1) (ae_int)) (al_nil))) (len_cons (len_cons len_nil))))
 (ass_cons (as_set (i := 3) sc_law_letters.nd (ae_fn G_law_digit (hr.mono (by decide)) (al_cons (ae_var 0) (al_cons (ae_int) (al_nil))) (len_cons (len_cons len_nil))))
 (ass_cons (as_set (i := 4) sc_law_letters.nd (ae_ix (ae_lst (al_cons (ae_int) (al_cons (ae_int) (al_cons (ae_bin o_pow (ae_int) (ae_int)) (al_cons (ae_int) (al_nil)))))) (ae_var 3)))
 (ass_cons (as_set (i := 5) sc_law_letters.nd (ae_lst (al_nil)))
 (ass_cons (as_for PassesOwn.never rfl (ai_range1 b_range (ae_var 2)) (ag_name (i := 6) sc_law_letters.nd)
 (ass_cons (as_set (i := 7) sc_law_letters.nd (ae_bin o_add (ae_int) (ae_fn G_law_digit (hr.mono (by decide)) (al_cons (ae_var 0) (al_cons (ae_var 4) (al_nil))) (len_cons (len_cons len_nil)))))
 (ass_cons (as_if (AW.at (aw_and (at_cmp (o_eq hr.units) (ae_var 3) (ae_int)) (aw_and1 (at_cmp (o_in hr.units) (ae_var 7) (ae_var 5)))))
 (ass_one (as_set (i := 7) sc_law_letters.nd (ae_bin o_add (ae_int) (ae_var 6))))
 (ass_nil))
 (ass_one (as_expr (ae_me PySem.F.slot_list_append PySem.F.type_list_append m_append (ae_var 5) (al_cons (ae_var 7) (al_nil))))))))
 (ass_one (as_ret (ae_var 5)))))))
theorem sc_law_put : FnScope ["_law_rows", "_law_letter", "_law_made", "_law_row", "_law_greater"] ["_law_rows", "_law_letter"] (defScope s_law_put) := ⟨rfl, rfl, rfl, by decide +kernel, rfl, by decide +kernel, by decide +kernel⟩
theorem ok_law_put {f : Addr} {fd : FuncData} (F : Fun K "_law_put" "_law_put" s_law_put f fd) (b_list : mg "list" = none) (b_range : mg "range" = none) (b_len : mg "len" = none) : FnOk P w K mg base CX0 1 f fd ["_law_rows", "_law_letter"] (spA K 2 F_law_put) := fnA (m := m_law_put) F sc_law_put fun cdv B outer s H E hr =>
 ass_cons (as_setC (i := 2) (N := ["_law_row"]) (cap := [none]) sc_law_put.nd rfl (cp_mk [] rfl (by decide +kernel) (by decide +kernel) (by decide +kernel) (by decide +kernel) (by decide +kernel) (fun _ h => nomatch h) trivial) (ai_val (ae_var 0)) (fun _ _ _ _ => ag_name (i := 0) (show (["_law_row"] : List Str).Nodup by decide +kernel) rfl (Or.inl rfl) (.inr rfl)) (fun _ _ _ _ => ats_nil) (fun _ _ _ _ => ae_callT (c_list rfl) b_list bt_list (al_cons (ae_var 0) (al_nil))) )
 (ass_cons (as_for PassesOwn.never rfl (ai_val (ae_var 2)) (ag_name (i := 3) sc_law_put.nd)
 (ass_cons (as_setC (i := 4) (N := ["_law_k", "_law_letter", "_law_row"]) (cap := [none, some 1, some 3]) sc_law_put.nd rfl (cp_mk ["_law_letter", "_law_row"] rfl (by decide +kernel) (by decide +kernel) (by decide +kernel) (by decide +kernel) (by decide +kernel) (List.forall_mem_cons.mpr ⟨by first | exact Or.inl rfl | exact Or.inr rfl, (List.forall_mem_cons.mpr ⟨by first | exact Or.inl rfl | exact Or.inr rfl, (fun _ h => nomatch h)⟩)⟩) ⟨rfl, by decide +kernel, ⟨rfl, by decide +kernel, trivial⟩⟩) (ai_range1 b_range (ae_callB c_len b_len bt_len (al_cons (ae_var 3) (al_nil)))) (fun _ _ _ _ => ag_name (i := 0) (show (["_law_k", "_law_letter", "_law_row"] : List Str).Nodup by decide +kernel) rfl (Or.inl rfl) (.inr rfl)) (fun _ _ _ _ => ats_one (at_cmp (o_gt hr.units) (ae_ix (ae_var 2) (ae_var 0)) (ae_var 1))) (fun _ _ _ _ => ae_var 0) )
 (ass_cons (as_if (at_cmp (o_eq hr.units) (ae_var 4) (ae_lst (al_nil)))
 (ass_cons (as_expr (ae_me PySem.F.slot_list_append PySem.F.type_list_append m_append (ae_var 3) (al_cons (ae_var 1) (al_nil))))
 (ass_one (as_ret (ae_var 2))))
 (ass_nil))
 (ass_one (as_asg (ae_tup (al_cons (ae_var 1) (al_cons (ae_ix (ae_var 3) (ae_ix (ae_var 4) (ae_int))) (al_nil)))) (ag_tup rfl (ags_cons (ag_sub (ae_var 3) (ae_ix (ae_var 4) (ae_int))) (ags_cons (ag_name (i := 1) sc_law_put.nd) (ags_nil)))))))))
 (ass_one (as_ret (ae_bin o_add (ae_var 2) (ae_lst (al_cons (ae_lst (al_cons (ae_var 1) (al_nil))) (al_nil)))))))
theorem sc_law_tables : FnScope ["_law_letters_here", "_law_first", "_law_second", "_law_k", "_law_more", "_law_at"] ["_law_letters_here"] (defScope s_law_tables) := ⟨rfl, rfl, rfl, by decide +kernel, rfl, by decide +kernel, by decide +kernel⟩
theorem ok_law_tables {f : Addr} {fd : FuncData} (F : Fun K "_law_tables" "_law_tables" s_law_tables f fd) (b_range : mg "range" = none) (b_len : mg "len" = none) (G_law_put : KnA P w K mg base 1 "_law_put" ["_law_rows", "_law_letter"] F_law_put) : FnOk P w K mg base CX0 2 f fd ["_law_letters_here"] (spA K 1 F_law_tables) := fnA (m := m_law_tables) F sc_law_tables fun cdv B outer s H E hr =>
 ass_cons (as_set (i := 1) sc_law_tables.nd (ae_lst (al_nil)))
 (ass_cons (as_set (i := 2) sc_law_tables.nd (ae_lst (al_nil)))
 (ass_cons (as_for PassesOwn.never rfl (ai_range1 b_range (ae_callB c_len b_len bt_len (al_cons (ae_var 0) (al_nil)))) (ag_name (i := 3) sc_law_tables.nd)
 (ass_cons (as_set (i := 4) sc_law_tables.nd (ae_fn G_law_put (hr.mono (by decide)) (al_cons (ae_var 1) (al_cons (ae_ix (ae_var 0) (ae_var 3)) (al_nil))) (len_cons (len_cons len_nil))))
 (ass_cons (as_set (i := 5) sc_law_tables.nd (ae_ix (ae_comp (N := ["_law_j", "_law_first", "_law_more"]) (cap := [none, some 1, some 4]) rfl (cp_mk ["_law_first", "_law_more"] rfl (by decide +kernel) (by decide +kernel) (by decide +kernel) (by decide +kernel) (by decide +kernel) (List.forall_mem_cons.mpr ⟨by first | exact Or.inl rfl | exact Or.inr rfl, (List.forall_mem_cons.mpr ⟨by first | exact Or.inl rfl | exact Or.inr rfl, (fun _ h => nomatch h)⟩)⟩) ⟨rfl, by decide +kernel, ⟨rfl, by decide +kernel, trivial⟩⟩) (ai_range1 b_range (ae_callB c_len b_len bt_len (al_cons (ae_var 4) (al_nil)))) (fun _ _ _ _ => ag_name (i := 0) (show (["_law_j", "_law_first", "_law_more"] : List Str).Nodup by decide +kernel) rfl (Or.inl rfl) (.inr rfl)) (fun _ _ _ _ => ats_one (AW.at (aw_or (at_cmp (o_eq hr.units) (ae_var 0) (ae_callB c_len b_len bt_len (al_cons (ae_var 1) (al_nil)))) (aw_or1 (at_cmp (o_lt hr.units) (ae_callB c_len b_len bt_len (al_cons (ae_ix (ae_var 1) (ae_var 0)) (al_nil))) (ae_callB c_len b_len bt_len (al_cons (ae_ix (ae_var 2) (ae_var 0)) (al_nil)))))))) (fun _ _ _ _ => ae_var 0)) (ae_int)))
 (ass_cons (as_if (at_cmp (o_eq hr.units) (ae_var 5) (ae_callB c_len b_len bt_len (al_cons (ae_var 2) (al_nil))))
 (ass_one (as_expr (ae_me PySem.F.slot_list_append PySem.F.type_list_append m_append (ae_var 2) (al_cons (ae_lst (al_nil)) (al_nil)))))
 (ass_nil))
 (ass_cons (as_expr (ae_me PySem.F.slot_list_append PySem.F.type_list_append m_append (ae_ix (ae_var 2) (ae_var 5)) (al_cons (ae_bin o_add (ae_var 3) (ae_int)) (al_nil))))
 (ass_one (as_set (i := 1) sc_law_tables.nd (ae_var 4))))))))
 (ass_one (as_ret (ae_tup (al_cons (ae_var 1) (al_cons (ae_var 2) (al_nil))))))))
theorem sc_law_moved : FnScope ["_law_letters_here", "_law_found", "_law_k", "_law_a", "_law_b", "_law_c"] ["_law_letters_here"] (defScope s_law_moved) := ⟨rfl, rfl, rfl, by decide +kernel, rfl, by decide +kernel, by decide +kernel⟩
theorem ok_law_moved {f : Addr} {fd : FuncData} (F : Fun K "_law_moved" "_law_moved" s_law_moved f fd) (b_range : mg "range" = none) (b_len : mg "len" = none) : FnOk P w K mg base CX0 1 f fd ["_law_letters_here"] (spA K 1 F_law_moved) := fnA (m := m_law_moved) F sc_law_moved fun cdv B outer s H E hr =>
 ass_cons (as_set (i := 1) sc_law_moved.nd (ae_lst (al_nil)))
 (ass_cons (as_for PassesOwn.never rfl (ai_range1 b_range (ae_bin o_sub (ae_callB c_len b_len bt_len (al_cons (ae_var 0) (al_nil))) (ae_int))) (ag_name (i := 2) sc_law_moved.nd)
 (ass_cons (as_par3 (i := 3) (j := 4) (k := 5) rfl sc_law_moved.nd (al_cons (ae_ix (ae_var 0) (ae_var 2)) (al_cons (ae_ix (ae_var 0) (ae_bin o_add (ae_var 2) (ae_int))) (al_cons (ae_ix (ae_var 0) (ae_bin o_add (ae_var 2) (ae_int))) (al_nil)))))
 (ass_cons (as_if (AW.at (aw_or (at_ch o_le (o_lt hr.units) (ae_var 3) (ae_var 5) (ae_var 4)) (aw_or1 (at_ch o_le (o_lt hr.units) (ae_var 4) (ae_var 5) (ae_var 3)))))
 (ass_one (as_expr (ae_me PySem.F.slot_list_append PySem.F.type_list_append m_append (ae_var 1) (al_cons (ae_bin o_add (ae_bin o_add (ae_sl (ae_var 0) ao_none (ao_some (ae_var 2))) (ae_lst (al_cons (ae_var 4) (al_cons (ae_var 3) (al_cons (ae_var 5) (al_nil)))))) (ae_sl (ae_var 0) (ao_some (ae_bin o_add (ae_var 2) (ae_int))) ao_none)) (al_nil)))))
 (ass_nil))
 (ass_one (as_if (AW.at (aw_or (at_ch (o_lt hr.units) o_le (ae_var 4) (ae_var 3) (ae_var 5)) (aw_or1 (at_ch (o_lt hr.units) o_le (ae_var 5) (ae_var 3) (ae_var 4)))))
 (ass_one (as_expr (ae_me PySem.F.slot_list_append PySem.F.type_list_append m_append (ae_var 1) (al_cons (ae_bin o_add (ae_bin o_add (ae_sl (ae_var 0) ao_none (ao_some (ae_var 2))) (ae_lst (al_cons (ae_var 3) (al_cons (ae_var 5) (al_cons (ae_var 4) (al_nil)))))) (ae_sl (ae_var 0) (ao_some (ae_bin o_add (ae_var 2) (ae_int))) ao_none)) (al_nil)))))
 (ass_nil))))))
 (ass_one (as_ret (ae_var 1))))
theorem sc_law_is : FnScope ["_law_e", "_law_due", "_law_found", "_law_names"] ["_law_e", "_law_due"] (defScope s_law_is) := ⟨rfl, rfl, rfl, by decide +kernel, rfl, by decide +kernel, by decide +kernel⟩
theorem ok_law_is {f : Addr} {fd : FuncData} (F : Fun K "_law_is" "_law_is" s_law_is f fd) {U : Addr} {C_TooMany : Addr} {C_NoPair : Addr} {C_NoNumber : Addr} {C_NoWord : Addr} {C_NoName : Addr} {C_NoRow : Addr} {C_NoText : Addr} {C_NoTables : Addr} (e_TooMany : ExcK K U "TooMany" C_TooMany) (m_TooMany : mg "TooMany" = some (.ref C_TooMany)) (m_NoPair : mg "NoPair" = some (.ref C_NoPair)) (m_NoNumber : mg "NoNumber" = some (.ref C_NoNumber)) (m_NoWord : mg "NoWord" = some (.ref C_NoWord)) (m_NoName : mg "NoName" = some (.ref C_NoName)) (m_NoRow : mg "NoRow" = some (.ref C_NoRow)) (m_NoText : mg "NoText" = some (.ref C_NoText)) (m_NoTables : mg "NoTables" = some (.ref C_NoTables)) (k_TooMany_TooMany : PySem.W.kitOne K (.ref C_TooMany) (.ref C_TooMany) = some true) (k_TooMany_NoPair : PySem.W.kitOne K (.ref C_TooMany) (.ref C_NoPair) = some false) (k_TooMany_NoNumber : PySem.W.kitOne K (.ref C_TooMany) (.ref C_NoNumber) = some false) (k_TooMany_NoWord : PySem.W.kitOne K (.ref C_TooMany) (.ref C_NoWord) = some false) (k_TooMany_NoName : PySem.W.kitOne K (.ref C_TooMany) (.ref C_NoName) = some false) (k_TooMany_NoRow : PySem.W.kitOne K (.ref C_TooMany) (.ref C_NoRow) = some false) (k_TooMany_NoText : PySem.W.kitOne K (.ref C_TooMany) (.ref C_NoText) = some false) (k_TooMany_NoTables : PySem.W.kitOne K (.ref C_TooMany) (.ref C_NoTables) = some false) (b_isinstance : mg "isinstance" = none) (b_ValueError : mg "ValueError" = none) : FnOkH P w K mg base 1 f fd ["_law_e", "_law_due"] (spA K 2 F_law_is) := fnH (m := m_law_is) F sc_law_is fun cdv B outer s H e oe C hr hh h0 xo =>
 ass_cons (as_set (i := 2) sc_law_is.nd (ae_lst (al_cons (ae_isC m_NoWord (tb := [("TooMany", false)]) (List.forall_mem_cons.mpr ⟨⟨_, e_TooMany.n, e_TooMany.x, e_TooMany.cl, k_TooMany_NoWord⟩, (fun _ h => nomatch h)⟩) (ae_var 0) b_isinstance) (al_cons (ae_isC m_NoNumber (tb := [("TooMany", false)]) (List.forall_mem_cons.mpr ⟨⟨_, e_TooMany.n, e_TooMany.x, e_TooMany.cl, k_TooMany_NoNumber⟩, (fun _ h => nomatch h)⟩) (ae_var 0) b_isinstance) (al_cons (ae_isC m_NoPair (tb := [("TooMany", false)]) (List.forall_mem_cons.mpr ⟨⟨_, e_TooMany.n, e_TooMany.x, e_TooMany.cl, k_TooMany_NoPair⟩, (fun _ h => nomatch h)⟩) (ae_var 0) b_isinstance) (al_cons (ae_isC m_TooMany (tb := [("TooMany", true)]) (List.forall_mem_cons.mpr ⟨⟨_, e_TooMany.n, e_TooMany.x, e_TooMany.cl, k_TooMany_TooMany⟩, (fun _ h => nomatch h)⟩) (ae_var 0) b_isinstance) (al_nil)))))))
 (ass_cons (as_set (i := 2) sc_law_is.nd (ae_bin o_add (ae_var 2) (ae_lst (al_cons (ae_isC m_NoTables (tb := [("TooMany", false)]) (List.forall_mem_cons.mpr ⟨⟨_, e_TooMany.n, e_TooMany.x, e_TooMany.cl, k_TooMany_NoTables⟩, (fun _ h => nomatch h)⟩) (ae_var 0) b_isinstance) (al_cons (ae_isC m_NoText (tb := [("TooMany", false)]) (List.forall_mem_cons.mpr ⟨⟨_, e_TooMany.n, e_TooMany.x, e_TooMany.cl, k_TooMany_NoText⟩, (fun _ h => nomatch h)⟩) (ae_var 0) b_isinstance) (al_cons (ae_isC m_NoRow (tb := [("TooMany", false)]) (List.forall_mem_cons.mpr ⟨⟨_, e_TooMany.n, e_TooMany.x, e_TooMany.cl, k_TooMany_NoRow⟩, (fun _ h => nomatch h)⟩) (ae_var 0) b_isinstance) (al_cons (ae_isC m_NoName (tb := [("TooMany", false)]) (List.forall_mem_cons.mpr ⟨⟨_, e_TooMany.n, e_TooMany.x, e_TooMany.cl, k_TooMany_NoName⟩, (fun _ h => nomatch h)⟩) (ae_var 0) b_isinstance) (al_nil))))))))
 (ass_cons (as_set (i := 3) sc_law_is.nd (ae_lst (al_cons (ae_str) (al_cons (ae_str) (al_cons (ae_str) (al_cons (ae_str) (al_cons (ae_str) (al_cons (ae_str) (al_cons (ae_str) (al_cons (ae_str) (al_nil)))))))))))
 (ass_one (as_ret (ae_and (ae_isV b_ValueError (tb := [("TooMany", true)]) (List.forall_mem_cons.mpr ⟨⟨_, e_TooMany.n, e_TooMany.x, e_TooMany.cl, e_TooMany.v⟩, (fun _ h => nomatch h)⟩) (ae_var 0) b_isinstance) (ae_one (ae_cmp (o_eq hr.units) (ae_var 2) (ae_compH (N := ["_law_name", "_law_due"]) (cap := [none, some 1]) hh h0 xo (cp_mk ["_law_due"] rfl (by decide +kernel) (by decide +kernel) (by decide +kernel) (by decide +kernel) (by decide +kernel) (List.forall_mem_cons.mpr ⟨by first | exact Or.inl rfl | exact Or.inr rfl, (fun _ h => nomatch h)⟩) ⟨rfl, by decide +kernel, trivial⟩) (ae_var 3) (fun _ _ _ _ => ag_name (i := 0) (show (["_law_name", "_law_due"] : List Str).Nodup by decide +kernel) rfl (Or.inl rfl) (.inr rfl)) (fun _ _ _ _ => ats_nil) (fun _ _ _ _ => ae_cmp (o_eq hr.units) (ae_var 0) (ae_var 1))))))))))
theorem sc_law_is_road : FnScope ["_law_found", "_law_letters_here", "_law_one", "_law_at", "_law_due", "_law_row"] ["_law_found", "_law_letters_here"] (defScope s_law_is_road) := ⟨rfl, rfl, rfl, by decide +kernel, rfl, by decide +kernel, by decide +kernel⟩
theorem ok_law_is_road {f : Addr} {fd : FuncData} (F : Fun K "_law_is_road" "_law_is_road" s_law_is_road f fd) (b_len : mg "len" = none) (b_isinstance : mg "isinstance" = none) (b_list : mg "list" = none) (b_all : mg "all" = none) (b_bool : mg "bool" = none) (b_int : mg "int" = none) (b_range : mg "range" = none) (b_reversed : mg "reversed" = none) (G_law_moved : KnA P w K mg base 1 "_law_moved" ["_law_letters_here"] F_law_moved) (G_law_tables : KnA P w K mg base 2 "_law_tables" ["_law_letters_here"] F_law_tables) : FnOk P w K mg base CX0 3 f fd ["_law_found", "_law_letters_here"] (spA K 2 F_law_is_road) := fnA (m := m_law_is_road) F sc_law_is_road fun cdv B outer s H E hr =>
 ass_cons (as_if (AW.at (aw_or (at_not (at_val (ae_callB c_isi b_isinstance bt_isinstance (al_cons (ae_var 0) (al_cons (ae_ty b_list bt_list) (al_nil)))))) (aw_or (at_cmp (o_eq hr.units) (ae_callB c_len b_len bt_len (al_cons (ae_var 0) (al_nil))) (ae_int)) (aw_or1 (at_cmp (o_ne hr.units) (ae_ix (ae_var 0) (ae_int)) (ae_var 1))))))
 (ass_one (as_ret (ae_bl)))
 (ass_nil))
 (ass_cons (as_for PassesOwn.never rfl (ai_val (ae_var 0)) (ag_name (i := 2) sc_law_is_road.nd)
 (ass_cons (as_if (at_not (at_val (ae_callB c_isi b_isinstance bt_isinstance (al_cons (ae_var 2) (al_cons (ae_ty b_list bt_list) (al_nil))))))
 (ass_one (as_ret (ae_bl)))
 (ass_nil))
 (ass_one (as_if (at_not (at_val (ae_callB (c_all rfl) b_all bt_all (al_cons (ae_comp (N := ["_law_letter"]) (cap := [none]) rfl (cp_mk [] rfl (by decide +kernel) (by decide +kernel) (by decide +kernel) (by decide +kernel) (by decide +kernel) (fun _ h => nomatch h) trivial) (ai_val (ae_var 2)) (fun _ _ _ _ => ag_name (i := 0) (show (["_law_letter"] : List Str).Nodup by decide +kernel) rfl (Or.inl rfl) (.inr rfl)) (fun _ _ _ _ => ats_nil) (fun _ _ _ _ => ae_and (ae_callB c_isi b_isinstance bt_isinstance (al_cons (ae_var 0) (al_cons (ae_ty b_int bt_int) (al_nil)))) (ae_one (ae_not (ae_callB c_isi b_isinstance bt_isinstance (al_cons (ae_var 0) (al_cons (ae_ty b_bool bt_bool) (al_nil)))))))) (al_nil)))))
 (ass_one (as_ret (ae_bl)))
 (ass_nil)))))
 (ass_cons (as_for PassesOwn.never rfl (ai_range1 b_range (ae_bin o_sub (ae_callB c_len b_len bt_len (al_cons (ae_var 0) (al_nil))) (ae_int))) (ag_name (i := 3) sc_law_is_road.nd)
 (ass_one (as_if (at_cmp (o_notin hr.units) (ae_ix (ae_var 0) (ae_bin o_add (ae_var 3) (ae_int))) (ae_fn G_law_moved (hr.mono (by decide)) (al_cons (ae_ix (ae_var 0) (ae_var 3)) (al_nil)) (len_cons len_nil)))
 (ass_one (as_ret (ae_bl)))
 (ass_nil))))
 (ass_cons (as_set (i := 4) sc_law_is_road.nd (ae_lst (al_nil)))
 (ass_cons (as_for PassesOwn.never rfl (ai_rev b_reversed (ae_ix (ae_fn G_law_tables (hr.mono (by decide)) (al_cons (ae_var 1) (al_nil)) (len_cons len_nil)) (ae_int))) (ag_name (i := 5) sc_law_is_road.nd)
 (ass_one (as_set (i := 4) sc_law_is_road.nd (ae_bin o_add (ae_var 4) (ae_var 5)))))
 (ass_one (as_ret (ae_cmp (o_eq hr.units) (ae_ix (ae_var 0) (ae_neg (ae_int))) (ae_var 4))))))))
theorem sc_law_refused : FnScope ["_law_letters_here", "_law_e"] ["_law_letters_here"] (defScope s_law_refused) := ⟨rfl, rfl, rfl, by decide +kernel, rfl, by decide +kernel, by decide +kernel⟩
theorem ok_law_refused {f : Addr} {fd : FuncData} (F : Fun K "_law_refused" "_law_refused" s_law_refused f fd) {U : Addr} {C_TooMany : Addr} (hU : ClN K "UnderError" U) (mU : L2.mroIn K U = some bmV) (e_TooMany : ExcK K U "TooMany" C_TooMany) (G_road_of_moves : KnX P w K mg base 4 "road_of_moves" ["row"] F_road_of_moves) (G_law_is : KnHA P w K mg base 1 "_law_is" ["_law_e", "_law_due"] F_law_is) : FnOk P w K mg base CX0 5 f fd ["_law_letters_here"] (spA K 1 F_law_refused) := fnA (m := m_law_refused) F sc_law_refused fun cdv B outer s H E hr =>
 ass_cons (by (refine as_try (i := 1) (cs := ["TooMany"]) ?hb ?hh sc_law_refused.nd hU mU (List.forall_mem_cons.mpr ⟨⟨_, e_TooMany.n, e_TooMany.r⟩, (fun _ h => nomatch h)⟩); (case hb => exact (fun _ _ => ass_one (as_expr (ae_fnX G_road_of_moves (hr.mono (by decide)) (al_cons (ae_var 0) (al_nil)) (len_cons len_nil))))); (case hh => exact (fun _ _ _ _ xo => ass_one (as_ret (ae_fnH G_law_is (room_hand hr (by decide)) rfl upd_same xo (al_cons (ae_var 1) (al_cons (ae_str) (al_nil))) (len_cons (len_cons len_nil))))))))
 (ass_one (as_ret (ae_bl)))
theorem sc_law : FnScope ["_law_script", "_law_k", "_law_bag_here", "_law_letters_here", "_law_handed", "_law_turn", "_law_found", "_law_one", "_law_many"] ["_law_script"] (defScope s_law) := ⟨rfl, rfl, rfl, by decide +kernel, rfl, by decide +kernel, by decide +kernel⟩
theorem ok_law {f : Addr} {fd : FuncData} (F : Fun K "law" "law" s_law f fd) (b_range : mg "range" = none) (b_max : mg "max" = none) (b_min : mg "min" = none) (b_len : mg "len" = none) (b_list : mg "list" = none) (G_law_bag : KnA P w K mg base 1 "_law_bag" ["_law_script", "_law_at"] F_law_bag) (G_law_letters : KnA P w K mg base 2 "_law_letters" ["_law_bag_here", "_law_most"] F_law_letters) (G_law_digit : KnA P w K mg base 1 "_law_digit" ["_law_bag_here", "_law_many"] F_law_digit) (G_road_of_moves : KnX P w K mg base 4 "road_of_moves" ["row"] F_road_of_moves) (G_law_is_road : KnA P w K mg base 3 "_law_is_road" ["_law_found", "_law_letters_here"] F_law_is_road) (G_law_refused : KnA P w K mg base 5 "_law_refused" ["_law_letters_here"] F_law_refused) : FnOk P w K mg base CX0 6 f fd ["_law_script"] (spA K 1 F_law) := fnA (m := m_law) F sc_law fun cdv B outer s H E hr =>
 ass_cons (as_for PassesOwn.never rfl (ai_range1 b_range (ae_callB (c_max2 rfl) b_max bt_max (al_cons (ae_int) (al_cons (ae_callB (c_min2 rfl) b_min bt_min (al_cons (ae_callB c_len b_len bt_len (al_cons (ae_var 0) (al_nil))) (al_cons (ae_int) (al_nil)))) (al_nil))))) (ag_name (i := 1) sc_law.nd)
 (ass_cons (as_set (i := 2) sc_law.nd (ae_fn G_law_bag (hr.mono (by decide)) (al_cons (ae_var 0) (al_cons (ae_var 1) (al_nil))) (len_cons (len_cons len_nil))))
 (ass_cons (as_set (i := 3) sc_law.nd (ae_fn G_law_letters (hr.mono (by decide)) (al_cons (ae_var 2) (al_cons (ae_int) (al_nil))) (len_cons (len_cons len_nil))))
 (ass_cons (as_if (at_cmp (o_eq hr.units) (ae_fn G_law_digit (hr.mono (by decide)) (al_cons (ae_var 2) (al_cons (ae_int) (al_nil))) (len_cons (len_cons len_nil))) (ae_int))
 (ass_one (as_set (i := 3) sc_law.nd (ae_sl (ae_bin o_add (ae_var 3) (ae_comp (N := ["_law_j", "_law_bag_here"]) (cap := [none, some 2]) rfl (cp_mk ["_law_bag_here"] rfl (by decide +kernel) (by decide +kernel) (by decide +kernel) (by decide +kernel) (by decide +kernel) (List.forall_mem_cons.mpr ⟨by first | exact Or.inl rfl | exact Or.inr rfl, (fun _ h => nomatch h)⟩) ⟨rfl, by decide +kernel, trivial⟩) (ai_range1 b_range (ae_int)) (fun _ _ _ _ => ag_name (i := 0) (show (["_law_j", "_law_bag_here"] : List Str).Nodup by decide +kernel) rfl (Or.inl rfl) (.inr rfl)) (fun _ _ _ _ => ats_nil) (fun _ _ _ _ => ae_bin o_add (ae_int) (ae_fn G_law_digit (hr.mono (by decide)) (al_cons (ae_var 1) (al_cons (ae_int) (al_nil))) (len_cons (len_cons len_nil)))))) ao_none (ao_some (ae_int)))))
 (ass_nil))
 (ass_cons (as_set (i := 4) sc_law.nd (ae_callT (c_list rfl) b_list bt_list (al_cons (ae_var 3) (al_nil))))
 (ass_cons (as_for PassesOwn.never rfl (ai_range1 b_range (ae_int)) (ag_name (i := 5) sc_law.nd)
 (ass_cons (as_set (i := 6) sc_law.nd (ae_fnX G_road_of_moves (hr.mono (by decide)) (al_cons (ae_var 4) (al_nil)) (len_cons len_nil)))
 (ass_cons (as_if (AW.at (aw_or (at_not (at_val (ae_fn G_law_is_road (hr.mono (by decide)) (al_cons (ae_var 6) (al_cons (ae_var 3) (al_nil))) (len_cons (len_cons len_nil))))) (aw_or1 (at_cmp (o_ne hr.units) (ae_var 4) (ae_var 3)))))
 (ass_one (as_ret (ae_bl)))
 (ass_nil))
 (ass_cons (as_for PassesOwn.never rfl (ai_val (ae_var 6)) (ag_name (i := 7) sc_law.nd)
 (ass_one (as_expr (ae_me PySem.F.slot_list_append PySem.F.type_list_append m_append (ae_var 7) (al_cons (ae_int) (al_nil))))))
 (ass_one (as_expr (ae_me PySem.F.slot_list_append PySem.F.type_list_append m_append (ae_var 6) (al_cons (ae_lst (al_nil)) (al_nil)))))))))
 (ass_cons (as_set (i := 8) sc_law.nd (ae_bin o_add (ae_int) (ae_fn G_law_digit (hr.mono (by decide)) (al_cons (ae_var 2) (al_cons (ae_int) (al_nil))) (len_cons (len_cons len_nil)))))
 (ass_one (as_if (at_not (at_val (ae_fn G_law_refused (hr.mono (by decide)) (al_cons (ae_comp (N := ["_law_j", "_law_bag_here"]) (cap := [none, some 2]) rfl (cp_mk ["_law_bag_here"] rfl (by decide +kernel) (by decide +kernel) (by decide +kernel) (by decide +kernel) (by decide +kernel) (List.forall_mem_cons.mpr ⟨by first | exact Or.inl rfl | exact Or.inr rfl, (fun _ h => nomatch h)⟩) ⟨rfl, by decide +kernel, trivial⟩) (ai_range1 b_range (ae_var 8)) (fun _ _ _ _ => ag_name (i := 0) (show (["_law_j", "_law_bag_here"] : List Str).Nodup by decide +kernel) rfl (Or.inl rfl) (.inr rfl)) (fun _ _ _ _ => ats_nil) (fun _ _ _ _ => ae_bin o_add (ae_int) (ae_fn G_law_digit (hr.mono (by decide)) (al_cons (ae_var 1) (al_cons (ae_int) (al_nil))) (len_cons (len_cons len_nil))))) (al_nil)) (len_cons len_nil))))
 (ass_one (as_ret (ae_bl)))
 (ass_nil))))))))))
 (ass_one (as_ret (ae_bl)))
end
end K62
set_option Elab.async false
set_option linter.all false
set_option maxRecDepth 100000
set_option maxHeartbeats 4000000
namespace K62
open PySem L2 Am
noncomputable def Bag (S : Sto) (b : Nat) : Prop := ∃ g st : Int, lstAt S b = some [.int g, .int st] /\ 0 <= g /\ 0 <= st /\ st < 4294967296
theorem Bag.kp {S S' : Sto} {b : Nat} {c : Nat -> Prop} (h : Bag S b) (k : Kp c S S') (hb : ¬ c b) : Bag S' b := by
  obtain ⟨g, st, e, q⟩ := h
  exact ⟨g, st, k.lst b _ hb e, q⟩
theorem Bag.lt {S : Sto} {b : Nat} (h : Bag S b) : b < S.length := by obtain ⟨_, _, e, _⟩ := h; exact lst_lt e
theorem bag_new {S : Sto} {ns : List Int} {k : Int} (h0 : 0 <= k) (h1 : k <= 100) : ∃ S', F_law_bag [.frz (ns.map .int), .int k] S = .ok (.ref S.length) S' /\ Bag S' S.length /\ Kp0 S S' := by
  have e3 : aPow (.int 10) (.int 18) = fun S => R.ok (.int 1000000000000000000) S := by
    funext S; exact gd_of ⟨by decide, by decide, by decide⟩
  have m1 : ∀ x : Int, aMod (.int x) (.int 2147483647) = fun S => R.ok (.int (x % 2147483647)) S := fun x => by funext S; exact mod_i (by decide)
  have m3 : ∀ x : Int, aMul (.int 7919) (.int x) = fun S => R.ok (.int (7919 * x)) S := fun x => by funext S; exact mul_l (by decide) (by decide)
  have s0 : ∀ x : Int, 0 <= x % 2147483647 := fun x => Int.emod_nonneg _ (by decide)
  have s1 : ∀ x : Int, x % 2147483647 < 4294967296 := fun x => by have := Int.emod_lt_of_pos x (show (0 : Int) < 2147483647 by decide); omega
  have go : ∀ cell : Int, ∃ S', ((RS.seq (.nx [A.frz (ns.map .int), .int k, .int cell, .unb] S) (sSeq (sAsg (eC (.int 0)) (gNm 3))
    (sSeq (sIf (toB (eBin aGe (eVar 2) (eBin aPow (eC (.int 10)) (eC (.int 18))))) (sAsg (eVar 2) (gNm 3)) (sNil))
    (sRet (eLst (lCons (eVar 3) (lCons (eBin aMod (eBin aAdd (eBin aAdd (eVar 2) (eBin aMul (eC (.int 7919)) (eVar 1))) (eC (.int 13))) (eC (.int 2147483647))) (lNil)))))))).end = .ok (.ref S.length) S') /\ Bag S' S.length /\ Kp0 S S' := by
    intro cell
    by_cases hc : 1000000000000000000 <= cell
    · simp only [ams, bools, e3, m1, m3, decide_eq_true hc]
      exact ⟨_, rfl, ⟨_, _, lst_lay, by omega, s0 _, s1 _⟩, Kp.refl.lay⟩
    · simp only [ams, bools, e3, m1, m3, decide_eq_false hc]
      exact ⟨_, rfl, ⟨_, _, lst_lay, Int.le_refl 0, s0 _, s1 _⟩, Kp.refl.lay⟩
  unfold F_law_bag m_law_bag N_law_bag
  simp only [ams, bools, nlen, Nat.reduceAdd, Nat.reduceSub, List.length_map]
  by_cases hk : k < (ns.length : Int)
  · have hn : k.toNat < ns.length := by omega
    have ha : atI (ns.map A.int) k = some (.int ns[k.toNat]) := atI_map (k := k.toNat) (by omega) (List.getElem?_eq_getElem hn)
    rw [decide_eq_true hk]
    simp only [ams, bools, ha]
    have := go ns[k.toNat]
    simpa only [ams, bools] using this
  · rw [decide_eq_false hk]
    simp only [ams, bools]
    have := go 0
    simpa only [ams, bools] using this
theorem digit {S : Sto} {b : Nat} {m : Int} (h : Bag S b) (h1 : 1 <= m) (h2 : m < 1073741824) : ∃ d S', F_law_digit [.ref b, .int m] S = .ok (.int d) S' /\ 0 <= d /\ d < m /\ Bag S' b /\ Kp (· = b) S S' := by
  obtain ⟨g, st, hl, hg, hs, hs2⟩ := h
  have hb := lst_lt hl
  have i0 : ixN 2 0 = some 0 := ixN_at rfl (by decide)
  have i1 : ixN 2 1 = some 1 := ixN_at rfl (by decide)
  have fin : ∀ d g' st' : Int, 0 <= d -> d < m -> 0 <= g' -> 0 <= st' -> st' < 4294967296 -> F_law_digit [.ref b, .int m] S = .ok (.int d) (S.set b (.lst [.int g', .int st'])) -> ∃ d S', F_law_digit [.ref b, .int m] S = .ok (.int d) S' /\ 0 <= d /\ d < m /\ Bag S' b /\ Kp (· = b) S S' :=
    fun d g' st' a1 a2 a3 a4 a5 e => ⟨d, _, e, a1, a2, ⟨g', st', lst_set hb, a3, a4, a5⟩, Kp.refl.set (.inl rfl)⟩
  by_cases hg0 : 0 < g
  · refine fin (g % m) (g / m) st (Int.emod_nonneg _ (by omega)) (Int.emod_lt_of_pos _ (by omega)) (Int.ediv_nonneg hg (by omega)) hs hs2 ?_
    unfold F_law_digit m_law_digit N_law_digit
    rw [runF_ap]
    simp [hl, atI_0, atI_1, hg0, mod_i (show 0 < m by omega), fdiv_i (show 0 < m by omega) h2, i0]
  · have e1 : 0 <= (st * 48271 + 11) % 2147483647 := Int.emod_nonneg _ (by decide)
    have e2 : (st * 48271 + 11) % 2147483647 < 2147483647 := Int.emod_lt_of_pos _ (by decide)
    have e3 : 0 <= (st * 48271 + 11) % 2147483647 / 8 := by omega
    refine fin ((st * 48271 + 11) % 2147483647 / 8 * 69621 % 2147483629 % m) g ((st * 48271 + 11) % 2147483647) (Int.emod_nonneg _ (by omega)) (Int.emod_lt_of_pos _ (by omega)) hg e1 (by omega) ?_
    unfold F_law_digit m_law_digit N_law_digit
    rw [runF_ap]
    simp [hl, atI_0, atI_1, hg0, i1, mul_l (show -18446744073709551616 < st by omega) (by omega), mod_i (show (0 : Int) < 2147483647 by decide), lst_set hb, fdiv_i (show (0 : Int) < 8 by decide) (by decide), mul_l (show -18446744073709551616 < (st * 48271 + 11) % 2147483647 / 8 by omega) (by omega), mod_i (show (0 : Int) < 2147483629 by decide), mod_i (show 0 < m by omega)]
theorem inA_some {S : Sto} {v : Int} : ∀ (xs : List Int), ∃ b, inA S (.int v) (xs.map .int) = some b
  | [] => ⟨_, rfl⟩
  | x :: xs => by
    obtain ⟨b, e⟩ := inA_some (S := S) (v := v) xs
    refine ⟨(x == v) || b, ?_⟩
    show (eqA S 12 (.int x) (.int v)).bind _ = _
    show Option.bind (some (x == v)) _ = _
    show Option.map _ (inA S (.int v) (xs.map .int)) = _
    rw [e]; rfl
theorem pow9 : aPow (.int 10) (.int 9) = fun S => R.ok (.int 1000000000) S := by funext S; exact gd_of ⟨by decide, by decide, by decide⟩
theorem letters_ok {S : Sto} {b : Nat} {most : Int} (h : Bag S b) (h0 : 0 <= most) (h1 : most <= 100) :
    ∃ (xs : List Int) (L : Nat) (S' : Sto), F_law_letters [.ref b, .int most] S = .ok (.ref L) S' /\ lstAt S' L = some (xs.map .int) /\ (xs.length : Int) <= most /\ (∀ x ∈ xs, 1 <= x /\ x <= 1000000000) /\ Bag S' b /\ Kp (· = b) S S' /\ S.length <= L := by
  obtain ⟨d, S1, e1, d0, d1, hb1, k1⟩ := digit (m := most + 1) h (by omega) (by omega)
  obtain ⟨w, S2, e2, w0, w1, hb2, k2⟩ := digit (m := 4) hb1 (by decide) (by decide)
  obtain ⟨base, hbase, b0, b1⟩ : ∃ base : Int, atI ([.int 3, .int 6, .int 1000000000, .int 40] : List A) w = some (.int base) /\ 1 <= base /\ base <= 1000000000 := by
    rcases (by omega : w = 0 \/ w = 1 \/ w = 2 \/ w = 3) with z | z | z | z <;> subst z
    · exact ⟨3, rfl, by decide, by decide⟩
    · exact ⟨6, rfl, by decide, by decide⟩
    · exact ⟨1000000000, rfl, by decide, by decide⟩
    · exact ⟨40, rfl, by decide, by decide⟩
  have hbS := h.lt
  have l1 := k1.len
  have l2 := k2.len
  unfold F_law_letters m_law_letters N_law_letters
  simp only [ams, bools, nlen, Nat.reduceAdd, Nat.reduceSub, e1, e2, pow9, hbase]
  generalize hS3 : S2 ++ [O.lst [.int 3, .int 6, .int 1000000000, .int 40]] = S3
  have k3 : Kp (· = b) S S3 := by rw [<- hS3]; exact (k1.trans k2).lay
  have hb3 : Bag S3 b := by rw [<- hS3]; exact hb2.kp (c := fun _ => False) Kp.refl.lay fun z => z
  have l3 : S.length <= S3.length := k3.len
  have nb : S3.length ≠ b := by omega
  refine for_rng (lo := 0) (hi := d) (S1 := S3 ++ [.lst []]) (iRng1_ap (by simp only [ams, bools]) (bnd_of (by omega) (by omega)))
    (fun i τ S4 => ∃ (xs : List Int) (a6 a7 : A), τ = [.ref b, .int most, .int d, .int w, .int base, .ref S3.length, a6, a7] /\ lstAt S4 S3.length = some (xs.map .int) /\ xs.length = i /\ (∀ x ∈ xs, 1 <= x /\ x <= 1000000000) /\ Bag S4 b /\ Kp (· = b) S S4)
    (fun r => ∃ (xs : List Int) (L : Nat) (S' : Sto), RS.end (RS.seq r _) = .ok (.ref L) S' /\ lstAt S' L = some (xs.map .int) /\ (xs.length : Int) <= most /\ (∀ x ∈ xs, 1 <= x /\ x <= 1000000000) /\ Bag S' b /\ Kp (· = b) S S' /\ S.length <= L)
    ⟨[], _, _, rfl, lst_lay, rfl, (fun _ h => by cases h), hb3.kp (c := fun _ => False) Kp.refl.lay fun z => z, k3.lay⟩ ?_ ?_
  · rintro i τ S4 hi ⟨xs, a6, a7, rfl, hL, hlen, hx, hb4, k4⟩
    left
    obtain ⟨e, S5, e5, f0, f1', hb5, k5⟩ := digit (m := base) hb4 b0 (by omega)
    have hL5 := k5.lst _ _ nb hL
    have lL := lst_lt hL5
    have fin : ∀ l : Int, 1 <= l -> l <= 1000000000 -> ∃ (ys : List Int) (a6 a7 : A), [A.ref b, .int most, .int d, .int w, .int base, .ref S3.length, .int (0 + (i : Int)), .int l] = [.ref b, .int most, .int d, .int w, .int base, .ref S3.length, a6, a7] /\ lstAt (S5.set S3.length (.lst (xs.map A.int ++ [.int l]))) S3.length = some (ys.map .int) /\ ys.length = i + 1 /\ (∀ x ∈ ys, 1 <= x /\ x <= 1000000000) /\ Bag (S5.set S3.length (.lst (xs.map A.int ++ [.int l]))) b /\ Kp (· = b) S (S5.set S3.length (.lst (xs.map A.int ++ [.int l]))) := fun l hl0 hl1 => by
      refine ⟨xs ++ [l], _, _, rfl, by rw [lst_set lL, List.map_append]; rfl, by rw [List.length_append, hlen]; rfl, fun x hx' => ?_, ?_, (k4.trans k5).set (.inr l3)⟩
      · rcases List.mem_append.mp hx' with z | z
        · exact hx x z
        · rw [List.mem_singleton.mp z]; exact ⟨hl0, hl1⟩
      · obtain ⟨g, st, e, q⟩ := hb5
        exact ⟨g, st, by rw [lst_set_ne nb]; exact e, q⟩
    have gd1 : gd (xs.length < sizeLine) = fun r : Am.R A => r := by funext r; exact gd_lt (show xs.length < 16777216 by omega)
    unfold b_law_letters_1
    simp only [ams, bools, e5]
    by_cases hw : w = 3
    · rw [show (w == 3) = true by simpa using hw]
      obtain ⟨bb, hin⟩ := inA_some (S := S5) (v := 1 + e) xs
      have ein : aIn false (.int (1 + e)) (.ref S3.length) S5 = .ok (.bl bb) S5 := by
        show opt (lstAt S5 S3.length) _ = _
        rw [hL5, opt_some, hin]; rfl
      simp only [ams, bools, ein]
      cases bb with
      | true =>
        simp only [ams, bools, hL5, List.length_map, gd1]
        exact ⟨_, _, rfl, fin _ (by omega) (by omega)⟩
      | false =>
        simp only [ams, bools, hL5, List.length_map, gd1]
        exact ⟨_, _, rfl, fin _ (by omega) (by omega)⟩
    · rw [show (w == 3) = false by simpa using hw]
      simp only [ams, bools, hL5, List.length_map, gd1]
      exact ⟨_, _, rfl, fin _ (by omega) (by omega)⟩
  · rintro τ S4 ⟨xs, a6, a7, rfl, hL, hlen, hx, hb4, k4⟩
    simp only [ams, bools]
    exact ⟨xs, _, _, rfl, hL, by omega, hx, hb4, k4, l3⟩
theorem fg_ok {S : Sto} {r : Nat} {R : List Int} {x : Int} (h : lstAt S r = some (R.map .int)) (hl : R.length <= 1000) : F_first_greater [.ref r, .int x] S = .ok (.int (Tb.fg R x : Nat)) S := by
  unfold F_first_greater m_first_greater N_first_greater
  simp only [ams, bools, nlen, Nat.reduceAdd, Nat.reduceSub]
  have hfl := Tb.fg_le R x
  have key := while_by (t := t_first_greater_1) (c := b_first_greater_1)
    (fun τ S1 => S1 = S /\ ∃ k : Nat, τ = [.ref r, .int x, .int k] /\ k <= Tb.fg R x)
    (fun τ S1 => match τ with
      | [_, _, .int k] => R.length - k.toNat
      | _ => 0)
    (fun q => RS.end (RS.seq q (sRet (eVar 2))) = .ok (.int (Tb.fg R x : Nat)) S) ?_ 1000000
  · refine key _ _ ⟨rfl, 0, rfl, Nat.zero_le _⟩ ?_
    show R.length - _ < _
    omega
  · rintro τ S1 ⟨rfl, k, rfl, hk⟩
    unfold t_first_greater_1 b_first_greater_1
    simp only [ams, bools, h, List.length_map]
    by_cases h1 : k < R.length
    · have ea : atI (R.map A.int) (k : Int) = some (.int (R.getD k 0)) := at_int rfl h1
      rw [decide_eq_true (show (k : Int) < R.length by omega)]
      simp only [ams, bools, h, ea]
      by_cases h2 : k = Tb.fg R x
      · have hg : x < R.getD k 0 := by
          have := List.findIdx_getElem (xs := R) (p := fun y => decide (x < y)) (w := by subst h2; exact h1)
          have e : R.findIdx (fun y => decide (x < y)) = k := h2.symm
          simp only [e] at this
          rw [List.getD_eq_getElem?_getD, List.getElem?_eq_getElem h1]
          simpa using this
        left
        refine ⟨S1, by rw [decide_eq_false (by omega)], ?_⟩
        simp only [ams, bools, h2]
      · have hg : R.getD k 0 <= x := by
          have := List.not_of_lt_findIdx (xs := R) (p := fun y => decide (x < y)) (i := k) (show k < Tb.fg R x by omega)
          rw [List.getD_eq_getElem?_getD, List.getElem?_eq_getElem h1]
          simpa using this
        right
        refine ⟨S1, by rw [decide_eq_true hg], .inl ⟨_, _, rfl, ⟨rfl, k + 1, rfl, by omega⟩, ?_⟩⟩
        show R.length - ((k : Int) + 1).toNat < R.length - (k : Int).toNat
        omega
    · left
      rw [decide_eq_false (show ¬ (k : Int) < R.length by omega)]
      have : k = Tb.fg R x := by omega
      refine ⟨S1, by simp only [ams, bools], ?_⟩
      simp only [ams, bools, this]
theorem pir_ok {S : Sto} {m : Nat} {qs : List Nat} {T : List (List Int)} {x : Int} (h : Tab S m qs T) (hl : T.length <= 1000) (hr : ∀ i, (T.getD i []).length <= 1000) :
    ∃ (qs' : List Nat) (S' : Sto), F_put_into_rows [.ref m, .int x] S = .ok (.int (Tb.row T x : Nat)) S' /\ Tab S' m qs' (Tb.put T x) /\ Kp (· ∈ m :: qs) S S' /\ ∀ r ∈ qs', r ∈ qs \/ S.length <= r := by
  unfold F_put_into_rows m_put_into_rows N_put_into_rows
  simp only [ams, bools, nlen, Nat.reduceAdd, Nat.reduceSub]
  have hq1 := h.len
  have hm : m ∈ m :: qs := List.mem_cons_self ..
  have key := while_by (t := t_put_into_rows_1) (c := b_put_into_rows_1)
    (fun τ S2 => ∃ (i : Nat) (U : List (List Int)) (y : Int) (a3 : A), τ = [.ref m, .int y, .int i, a3] /\ i <= T.length /\ Tab S2 m qs U /\ Kp (· ∈ m :: qs) S S2 /\ U.length = T.length /\ (∀ j, (U.getD j []).length <= 1000) /\ Tb.put T x = U.take i ++ Tb.put (U.drop i) y /\ Tb.row T x = i + Tb.row (U.drop i) y)
    (fun τ S1 => match τ with
      | [_, _, .int k, _] => T.length - k.toNat
      | _ => 0)
    (fun q => ∃ (qs' : List Nat) (S' : Sto), RS.end (RS.seq q (sSeq (sExpr (eMe mAppend (eVar 0) (lCons (eLst (lCons (eVar 1) lNil)) lNil))) (sRet (eVar 2)))) = .ok (.int (Tb.row T x : Nat)) S' /\ Tab S' m qs' (Tb.put T x) /\ Kp (· ∈ m :: qs) S S' /\ ∀ r ∈ qs', r ∈ qs \/ S.length <= r) ?_ 1000000
  · refine key _ _ ⟨0, T, x, _, rfl, Nat.zero_le _, h, Kp.refl, rfl, hr, rfl, by rw [Nat.zero_add]; rfl⟩ ?_
    show T.length - _ < _
    omega
  · rintro τ S2 ⟨i, U, y, a3, rfl, hi0, h2, k2, hU, hUr, hput, hrow0⟩
    unfold t_put_into_rows_1
    simp only [ams, bools, h2.top, List.length_map, hq1]
    by_cases hi' : i < T.length
    · right
      refine ⟨S2, by rw [decide_eq_true (by omega)], ?_⟩
      have hiq : i < qs.length := by omega
      have hi : i < U.length := by omega
      generalize hr0 : qs.getD i 0 = r
      have hr' : qs[i]? = some r := by rw [<- hr0, List.getD_eq_getElem?_getD, List.getElem?_eq_getElem hiq]; rfl
      obtain ⟨_, hrow⟩ := h2.rows.get hr'
      generalize hR : U.getD i [] = R at hrow
      have hRl : R.length <= 1000 := by rw [<- hR]; exact hUr i
      have hdrop : U.drop i = R :: U.drop (i + 1) := by
        rw [List.drop_eq_getElem_cons hi, <- hR, List.getD_eq_getElem?_getD, List.getElem?_eq_getElem hi]; rfl
      have hmem : r ∈ m :: qs := List.mem_cons_of_mem _ (List.mem_of_getElem? hr')
      have hnm : r ≠ m := fun z => (List.nodup_cons.mp h2.nd).1 (by rw [<- z]; exact List.mem_of_getElem? hr')
      have ea : atI (qs.map A.ref) (i : Int) = some (.ref r) := atI_at rfl (by rw [List.getElem?_map, hr']; rfl)
      have e6 : ∀ R', U.set i R' = U.take i ++ R' :: U.drop (i + 1) := fun R' => by rw [List.set_eq_take_append_cons_drop, if_pos hi]
      unfold b_put_into_rows_1
      simp only [ams, bools, h2.top, ea, fg_ok hrow hRl, hrow, List.length_map]
      by_cases hfg : Tb.fg R y = R.length
      · right
        rw [show (((Tb.fg R y : Nat) : Int) == (R.length : Int)) = true by rw [hfg]; simp]
        simp only [ams, bools, h2.top, ea, hrow, List.length_map, gd_lt (show R.length < 16777216 by omega)]
        have h4 := h2.set (i := i) (r := r) (ys := R ++ [y]) hr'
        rw [List.map_append] at h4
        rw [hdrop, Tb.row_end hfg] at hrow0
        refine ⟨_, _, rfl, qs, _, by rw [hrow0]; rfl, ?_, k2.set (.inl hmem), fun r hr => .inl hr⟩
        rw [hput, hdrop, Tb.put_end hfg, <- e6]; exact h4
      · left
        have hlt := Tb.fg_lt hfg
        have e1 : atI (R.map A.int) (Tb.fg R y : Int) = some (.int (R.getD (Tb.fg R y) 0)) := at_int rfl hlt
        have e2 : ixN R.length (Tb.fg R y : Int) = some (Tb.fg R y) := ixN_at rfl hlt
        rw [show (((Tb.fg R y : Nat) : Int) == (R.length : Int)) = false by rw [beq_eq_false_iff_ne]; omega]
        simp only [ams, bools, h2.top, ea, hrow, e1, List.length_map, e2, gd_len (show ([_, _] : List A).length <= 16777216 by simp), gd_of (show ([_, _] : List A).length = 2 from rfl)]
        have h4 := h2.set (i := i) (r := r) (ys := R.set (Tb.fg R y) y) hr'
        rw [List.map_set] at h4
        have l1 : (U.take i).length = i := by rw [List.length_take]; omega
        have d1 : (U.set i (R.set (Tb.fg R y) y)).drop (i + 1) = U.drop (i + 1) := by
          rw [e6, List.drop_append, l1, Nat.add_sub_cancel_left, List.drop_of_length_le (by omega : (U.take i).length <= i + 1)]
          simp
        have t1 : (U.set i (R.set (Tb.fg R y) y)).take (i + 1) = U.take i ++ [R.set (Tb.fg R y) y] := by
          rw [e6, List.take_append, l1, Nat.add_sub_cancel_left, List.take_of_length_le (by omega : (U.take i).length <= i + 1)]
          simp
        refine ⟨_, _, rfl, ⟨i + 1, U.set i (R.set (Tb.fg R y) y), _, _, rfl, by omega, h4, k2.set (.inl hmem), by rw [List.length_set]; exact hU, fun j => ?_, ?_, ?_⟩, ?_⟩
        · rw [List.getD_eq_getElem?_getD, List.getElem?_set]
          by_cases hj : i = j
          · rw [if_pos hj, if_pos hi]; simpa using hRl
          · rw [if_neg hj, <- List.getD_eq_getElem?_getD]; exact hUr j
        · rw [hput, hdrop, Tb.put_on hfg, t1, d1]
          simp
        · rw [hrow0, hdrop, Tb.row_on hfg, d1]; omega
        · show T.length - ((i : Int) + 1).toNat < T.length - (i : Int).toNat
          omega
    · left
      have hie : i = U.length := by omega
      refine ⟨S2, by rw [decide_eq_false (by omega)], ?_⟩
      rw [hie, List.take_length, List.drop_length] at hput
      rw [hie, List.drop_length] at hrow0
      have lm : lstAt (S2 ++ [O.lst [.int y]]) m = some (qs.map .ref) := lst_app h2.top
      simp only [ams, bools, h2.top, lm, List.length_map, gd_lt (show qs.length < 16777216 by omega)]
      have h4 := h2.push (ys := [y])
      rw [List.map_append] at h4
      refine ⟨qs ++ [S2.length], _, by rw [hrow0, hie]; rfl, ?_, k2.lay.set (.inl hm), fun r hr => ?_⟩
      · rw [hput]; exact h4
      · rcases List.mem_append.mp hr with z | z
        · exact .inl z
        · right; rw [List.mem_singleton.mp z]; exact k2.len
theorem put_in_ok {S : Sto} {n : Nat} {rs : List Nat} {T : List (List Int)} {x : Int} (h : Tab S n rs T) (hl : T.length <= 1000) (hr : ∀ i, (T.getD i []).length <= 1000) :
    ∃ (qs : List Nat) (m : Nat) (S' : Sto), F_put_in [.ref n, .int x] S = .ok (.ref m) S' /\ Tab S' m qs (Tb.put T x) /\ Kp0 S S' /\ ∀ r ∈ m :: qs, S.length <= r := by
  obtain ⟨qs, m, S1, e1, h1, k1, fr1⟩ := comp_copy (cap := []) (τ := [.ref n]) (src := iVal (eVar 0)) h (iVal_r (by simp only [ams, bools]) h.top) (by omega)
  have e1' : F_copied [.ref n] S = .ok (.ref m) S1 := by
    unfold F_copied m_copied N_copied
    simp only [ams, bools, nlen, Nat.reduceAdd, Nat.reduceSub, e1]
  obtain ⟨qs', S2, e2, h2, k2, fr2⟩ := pir_ok (x := x) h1 hl hr
  unfold F_put_in m_put_in N_put_in
  simp only [ams, bools, nlen, Nat.reduceAdd, Nat.reduceSub, e1', e2]
  refine ⟨qs', m, S2, rfl, h2, ⟨Nat.le_trans k1.len k2.len, fun a xs _ e => k2.lst a xs (fun z => absurd (fr1 a z) (by have := lst_lt e; omega)) (k1.lst a xs (fun z => z) e)⟩, fun r hr => ?_⟩
  rcases List.mem_cons.mp hr with z | z
  · rw [z]; exact fr1 m (List.mem_cons_self ..)
  · rcases fr2 r z with z | z
    · exact fr1 r (List.mem_cons_of_mem _ z)
    · exact Nat.le_trans k1.len z
theorem lput_ok {S : Sto} {n : Nat} {rs : List Nat} {T : List (List Int)} {x : Int} (h : Tab S n rs T) (hl : T.length <= 1000) (hr : ∀ i, (T.getD i []).length <= 1000) :
    ∃ (qs : List Nat) (m : Nat) (S' : Sto), F_law_put [.ref n, .int x] S = .ok (.ref m) S' /\ Tab S' m qs (Tb.put T x) /\ Kp0 S S' /\ ∀ r ∈ m :: qs, S.length <= r := by
  obtain ⟨qs, m, S1, e1, h1, k1, fr1⟩ := comp_copy (cap := []) (τ := [.ref n, .int x, .unb, .unb, .unb]) (src := iVal (eVar 0)) h (iVal_r (by simp only [ams, bools]) h.top) (by omega)
  have hq1 := h1.len
  unfold F_law_put m_law_put N_law_put
  simp only [ams, bools, nlen, Nat.reduceAdd, Nat.reduceSub, e1]
  refine for_lst (n := m) (xs := qs.map .ref) (S1 := S1) (iVal_r (by simp only [ams, bools]) h1.top)
    (fun i τ S2 => ∃ (U : List (List Int)) (y : Int) (a3 a4 : A), τ = [.ref n, .int y, .ref m, a3, a4] /\ Tab S2 m qs U /\ Kp0 S S2 /\ U.length = T.length /\ (∀ j, (U.getD j []).length <= 1000) /\ Tb.put T x = U.take i ++ Tb.put (U.drop i) y)
    (fun r => ∃ qs' m' S', RS.end (RS.seq r _) = .ok (.ref m') S' /\ Tab S' m' qs' (Tb.put T x) /\ Kp0 S S' /\ ∀ r ∈ m' :: qs', S.length <= r) ⟨T, x, _, _, rfl, h1, k1, rfl, hr, rfl⟩ (fun i τ S2 ⟨U, y, a3, a4, _, h2, _⟩ => h2.top) ?_ ?_
  · rintro i z τ S2 hz ⟨U, y, a3, a4, rfl, h2, k2, hU, hUr, hput⟩
    rw [List.getElem?_map] at hz
    obtain ⟨r, hr', rfl⟩ := Option.map_eq_some_iff.mp hz
    obtain ⟨hi, hrow⟩ := h2.rows.get hr'
    generalize hR : U.getD i [] = R at hrow
    have hRl : R.length <= 1000 := by rw [<- hR]; exact hUr i
    have hdrop : U.drop i = R :: U.drop (i + 1) := by
      rw [List.drop_eq_getElem_cons hi, <- hR, List.getD_eq_getElem?_getD, List.getElem?_eq_getElem hi]; rfl
    have fr : S.length <= r := fr1 r (List.mem_cons_of_mem _ (List.mem_of_getElem? hr'))
    refine ⟨[.ref n, .int y, .ref m, .ref r, a4], S2, rfl, ?_⟩
    have ec := comp_rng (cap := [some 1, some 3]) (t := toB (eBin aGt (eBin aIx (eVar 2) (eVar 0)) (eVar 1))) (e := eVar 0) (τ := [.ref n, .int y, .ref m, .ref r, a4]) (src := iRng1 (eCall (f1 aLen) (lCons (eVar 3) (lNil)))) (S := S2) (S1 := S2) (lo := 0) (hi := (R.length : Int))
      (iRng1_ap (by simp only [ams, bools, hrow, List.length_map]) (bnd_of (by omega) (by omega))) (fun k => decide (y < R.getD k.toNat 0)) A.int
      (fun k k0 k1 => by
        have := at_int (r := R) (i := k) (k := k.toNat) (by omega) (by omega)
        simp only [ams, bools, hrow, this]) (fun k _ _ _ => by simp only [ams, bools]) (by omega)
    rw [rng_gs] at ec
    unfold b_law_put_1
    simp only [ams, bools, ec]
    have lg : lstAt (S2 ++ [O.lst ((Tb.gs R y).map fun k : Nat => A.int (k : Int))] ++ [O.lst []]) S2.length = some ((Tb.gs R y).map fun k : Nat => A.int (k : Int)) := lst_app lst_lay
    have le : lstAt (S2 ++ [O.lst ((Tb.gs R y).map fun k : Nat => A.int (k : Int))] ++ [O.lst []]) (S2 ++ [O.lst ((Tb.gs R y).map fun k : Nat => A.int (k : Int))]).length = some [] := lst_lay
    have lr : lstAt (S2 ++ [O.lst ((Tb.gs R y).map fun k : Nat => A.int (k : Int))] ++ [O.lst []]) r = some (R.map .int) := lst_app (lst_app hrow)
    have h3 : Tab (S2 ++ [O.lst ((Tb.gs R y).map fun k : Nat => A.int (k : Int))] ++ [O.lst []]) m qs U := h2.kp0 Kp.refl.lay.lay
    have k3 : Kp0 S (S2 ++ [O.lst ((Tb.gs R y).map fun k : Nat => A.int (k : Int))] ++ [O.lst []]) := k2.lay.lay
    have eE := aEq_of (eq_nil lg le)
    simp only [ams, bools, eE]
    obtain ⟨g1, g2⟩ := Tb.gs_head R y
    by_cases hfg : Tb.fg R y = R.length
    · right
      rw [g1 hfg]
      rw [g1 hfg, List.map_nil] at lr h3 k3
      simp only [ams, bools, List.map_nil, List.isEmpty_nil, if_neg Bool.false_ne_true, lr, List.length_map, gd_lt (show R.length < 16777216 by omega)]
      have h4 := h3.set (i := i) (r := r) (ys := R ++ [y]) hr'
      rw [List.map_append] at h4
      refine ⟨_, _, rfl, qs, m, _, rfl, ?_, k3.set (.inr fr), fr1⟩
      have e5 : Tb.put T x = U.set i (R ++ [y]) := by
        rw [hput, hdrop, Tb.put_end hfg, List.set_eq_take_append_cons_drop, if_pos hi]
      rw [e5]; exact h4
    · left
      obtain ⟨t, ht⟩ := g2 hfg
      have hlt := Tb.fg_lt hfg
      rw [ht]
      rw [ht] at lr h3 k3 lg
      have e0 : atI (((Tb.fg R y :: t).map fun k : Nat => A.int (k : Int))) 0 = some (.int (Tb.fg R y : Int)) := atI_0
      have e1 : atI (R.map A.int) (Tb.fg R y : Int) = some (.int (R.getD (Tb.fg R y) 0)) := at_int rfl hlt
      have e2 : ixN R.length (Tb.fg R y : Int) = some (Tb.fg R y) := ixN_at rfl hlt
      simp only [ams, bools, List.map_cons, List.isEmpty_cons, if_neg Bool.false_ne_true]
      rw [List.map_cons] at lr h3 k3 lg e0
      simp only [ams, bools, lr, lg, e0, e1, List.length_map, e2, gd_len (show ([_, _] : List A).length <= 16777216 by simp), gd_of (show ([_, _] : List A).length = 2 from rfl)]
      have h4 := h3.set (i := i) (r := r) (ys := R.set (Tb.fg R y) y) hr'
      rw [List.map_set] at h4
      refine ⟨_, _, rfl, U.set i (R.set (Tb.fg R y) y), _, _, _, rfl, h4, k3.set (.inr fr), by rw [List.length_set]; exact hU, fun j => ?_, ?_⟩
      · rw [List.getD_eq_getElem?_getD, List.getElem?_set]
        by_cases hj : i = j
        · rw [if_pos hj, if_pos hi]; simpa using hRl
        · rw [if_neg hj, <- List.getD_eq_getElem?_getD]; exact hUr j
      · have e6 : ∀ R', U.set i R' = U.take i ++ R' :: U.drop (i + 1) := fun R' => by rw [List.set_eq_take_append_cons_drop, if_pos hi]
        rw [hput, hdrop, Tb.put_on hfg, e6]
        have l1 : (U.take i).length = i := by rw [List.length_take]; omega
        rw [List.take_append, List.drop_append, l1, Nat.add_sub_cancel_left, List.take_of_length_le (by omega : (U.take i).length <= i + 1), List.drop_of_length_le (by omega : (U.take i).length <= i + 1)]
        simp
  · rintro τ S2 ⟨U, y, a3, a4, rfl, h2, k2, hU, hUr, hput⟩
    rw [List.length_map, hq1, <- hU, List.take_length, List.drop_length] at hput
    have hc := h2.cat (ys := [y])
    have hql := h2.len
    simp only [ams, bools]
    rw [cat_r (xs := qs.map .ref) (ys := [.ref S2.length]) (lst_app (lst_app h2.top)) lst_lay (by simp; omega)]
    refine ⟨qs ++ [S2.length], _, _, rfl, ?_, k2.lay.lay.lay, fun r hr'' => ?_⟩
    · rw [hput]; exact hc
    · have l2 := k2.len
      rcases List.mem_cons.mp hr'' with z | z
      · rw [z]; simp only [List.length_append]; omega
      · rcases List.mem_append.mp z with z | z
        · exact fr1 r (List.mem_cons_of_mem _ z)
        · rw [List.mem_singleton.mp z]; omega
theorem ltabs_ok {S : Sto} {L : Nat} {xs : List Int} (h : lstAt S L = some (xs.map .int)) (hl : xs.length <= 100) :
    ∃ (rs qs : List Nat) (n m : Nat) (S' : Sto), F_law_tables [.ref L] S = .ok (.tup [.ref n, .ref m]) S' /\ Tab S' n rs (Tb.tabs xs xs.length).1 /\ Tab S' m qs (Tb.tabs xs xs.length).2 /\ Kp0 S S' /\ (∀ r ∈ n :: rs, S.length <= r) /\ (∀ r ∈ m :: qs, S.length <= r) /\ ∀ r ∈ n :: rs, r ∉ m :: qs := by
  unfold F_law_tables m_law_tables N_law_tables
  simp only [ams, bools, nlen, Nat.reduceAdd, Nat.reduceSub]
  have lb : (S ++ [O.lst []]).length = S.length + 1 := by rw [List.length_append]; rfl
  refine for_rng (lo := 0) (hi := (xs.length : Int)) (S1 := S ++ [.lst []] ++ [.lst []]) (iRng1_ap (by simp only [ams, bools, lst_app (lst_app h), List.length_map]) (bnd_of (by omega) (by omega)))
    (fun i τ S1 => ∃ (rs qs : List Nat) (n : Nat) (a3 a4 a5 : A), τ = [.ref L, .ref n, .ref (S ++ [O.lst []]).length, a3, a4, a5] /\ Tab S1 n rs (Tb.tabs xs i).1 /\ Tab S1 (S ++ [O.lst []]).length qs (Tb.tabs xs i).2 /\ Kp0 S S1 /\ (∀ r ∈ n :: rs, S.length <= r) /\ (∀ r ∈ (S ++ [O.lst []]).length :: qs, S.length <= r) /\ ∀ r ∈ n :: rs, r ∉ (S ++ [O.lst []]).length :: qs)
    (fun q => ∃ (rs qs : List Nat) (n m : Nat) (S' : Sto), RS.end (RS.seq q _) = .ok (.tup [.ref n, .ref m]) S' /\ Tab S' n rs (Tb.tabs xs xs.length).1 /\ Tab S' m qs (Tb.tabs xs xs.length).2 /\ Kp0 S S' /\ (∀ r ∈ n :: rs, S.length <= r) /\ (∀ r ∈ m :: qs, S.length <= r) /\ ∀ r ∈ n :: rs, r ∉ m :: qs)
    ⟨[], [], S.length, _, _, _, rfl, Tab.nil (lst_app lst_lay), Tab.nil lst_lay, Kp.refl.lay.lay, (fun r hr => by rw [List.mem_singleton.mp hr]; exact Nat.le_refl _), (fun r hr => by rw [List.mem_singleton.mp hr, lb]; omega), fun r hr hq => by rw [List.mem_singleton.mp hr] at hq; have := List.mem_singleton.mp hq; omega⟩ ?_ ?_
  · rintro i τ S1 hi ⟨rs, qs, n, a3, a4, a5, rfl, hT, hQ, k1, fr, fq, dj⟩
    left
    generalize hm : (S ++ [O.lst []]).length = m at hQ fq dj
    have hi' : i < xs.length := by omega
    obtain ⟨z1, z2⟩ := Tb.tabs_small xs i
    have hx : atI (xs.map A.int) (0 + (i : Int)) = some (.int (xs.getD i 0)) := at_int (by omega) hi'
    obtain ⟨ms, mo, S2, e2, hM, k2, fm⟩ := lput_ok (x := xs.getD i 0) hT (by omega) (fun j => by have := z2 j; omega)
    have hT2 := hT.kp0 k2
    have hQ2 := hQ.kp0 k2
    have hl2 := (k1.trans k2).lst _ _ (fun z => z) h
    generalize hX : xs.getD i 0 = x at hx e2 hM
    generalize hTT : (Tb.tabs xs i).1 = T at hT hT2 hM z1 z2
    generalize hQQ : (Tb.tabs xs i).2 = Q at hQ hQ2
    have hQl : Q.length = T.length := by rw [<- hQQ, <- hTT]; exact Tb.tabs_len xs i
    have hpl := Tb.put_len T x
    have hrl := Tb.row_le T x
    have hrN : Tb.row T x < (Tb.put T x).length := by rw [hpl]; split <;> omega
    have lT := hT2.len
    have lM := hM.len
    have lQ := hQ2.len
    have hN : (Tb.put T x).length <= 101 := by rw [hpl]; split <;> omega
    have ec := comp_rng (cap := [some 1, some 4]) (t := bOr (toB (eBin (aEq false) (eVar 0) (eCall (f1 aLen) (lCons (eVar 1) (lNil))))) (toB (eBin aLt (eCall (f1 aLen) (lCons (eBin aIx (eVar 1) (eVar 0)) (lNil))) (eCall (f1 aLen) (lCons (eBin aIx (eVar 2) (eVar 0)) (lNil)))))) (e := eVar 0)
      (τ := [.ref L, .ref n, .ref m, .int (0 + (i : Int)), .ref mo, a5]) (src := iRng1 (eCall (f1 aLen) (lCons (eVar 4) (lNil)))) (S := S2) (S1 := S2) (lo := 0) (hi := ((Tb.put T x).length : Int))
      (iRng1_ap (by simp only [ams, bools, hM.top, List.length_map, lM]) (bnd_of (by omega) (by omega))) (fun k => decide (k = (Tb.row T x : Int))) A.int
      (fun k c0 c1 => by
        simp only [ams, bools, hT2.top, List.length_map, lT]
        by_cases hk : k = (T.length : Int)
        · rw [show (k == (T.length : Int)) = true by simpa using hk]
          simp only [ams, bools]
          have : Tb.row T x = T.length := by
            rw [hpl] at c1
            by_cases z : Tb.row T x = T.length
            · exact z
            · rw [if_neg z] at c1; omega
          rw [decide_eq_true (by omega)]
        · rw [show (k == (T.length : Int)) = false by simpa using hk]
          have hkT : k.toNat < T.length := by
            rw [hpl] at c1
            by_cases z : Tb.row T x = T.length
            · rw [if_pos z] at c1; omega
            · rw [if_neg z] at c1; omega
          have a1 : atI (rs.map A.ref) k = some (.ref (rs.getD k.toNat 0)) := atI_at (k := k.toNat) (by omega) (by rw [List.getElem?_map, List.getD_eq_getElem?_getD, List.getElem?_eq_getElem (show k.toNat < rs.length by omega)]; rfl)
          have a2 : atI (ms.map A.ref) k = some (.ref (ms.getD k.toNat 0)) := atI_at (k := k.toNat) (by omega) (by rw [List.getElem?_map, List.getD_eq_getElem?_getD, List.getElem?_eq_getElem (show k.toNat < ms.length by omega)]; rfl)
          have b1 := (hT2.rows.get (i := k.toNat) (r := rs.getD k.toNat 0) (by rw [List.getD_eq_getElem?_getD, List.getElem?_eq_getElem (show k.toNat < rs.length by omega)]; rfl)).2
          have b2 := (hM.rows.get (i := k.toNat) (r := ms.getD k.toNat 0) (by rw [List.getD_eq_getElem?_getD, List.getElem?_eq_getElem (show k.toNat < ms.length by omega)]; rfl)).2
          have b3 := Tb.put_at T x k.toNat
          simp only [ams, bools, hT2.top, hM.top, a1, a2, b1, b2, List.length_map]
          by_cases z : k.toNat = Tb.row T x
          · rw [if_pos z] at b3
            rw [decide_eq_true (by omega), decide_eq_true (by omega)]
          · rw [if_neg z] at b3
            rw [decide_eq_false (by omega), decide_eq_false (by omega)]) (fun k _ _ _ => by simp only [ams, bools]) (by omega)
    rw [rng_one hrN] at ec
    have e0 : atI ([.int (Tb.row T x : Nat)] : List A) 0 = some (.int (Tb.row T x : Nat)) := atI_0
    generalize hS3 : S2 ++ [O.lst [.int (Tb.row T x : Nat)]] = S3 at ec
    have g3 : lstAt S3 S2.length = some [.int (Tb.row T x : Nat)] := by rw [<- hS3]; exact lst_lay
    have k23 : Kp0 S2 S3 := by rw [<- hS3]; exact Kp.refl.lay
    have hQ3 := hQ2.kp0 k23
    have hM3 := hM.kp0 k23
    have k3 : Kp0 S S3 := (k1.trans k2).trans k23
    unfold b_law_tables_1
    simp only [ams, bools, k1.lst _ _ (fun z => z) h, hx, e2, ec, g3, e0, hQ3.top, List.length_map, lQ, hQl]
    have l3 : S.length <= S3.length := k3.len
    have l23 := k23.len
    have l12 := k2.len
    have nx : Tb.tabs xs (i + 1) = (Tb.put T x, Tb.add Q (Tb.row T x) ((i : Int) + 1)) := by rw [<- hTT, <- hQQ, <- hX]; rfl
    have frM : ∀ r ∈ mo :: ms, S1.length <= r := fm
    have ltQ := hQ.lt
    have hmm : m ∈ m :: qs := List.mem_cons_self ..
    by_cases hr : Tb.row T x = T.length
    · rw [show (((Tb.row T x : Nat) : Int) == (T.length : Int)) = true by rw [hr]; simp]
      have lm : lstAt (S3 ++ [O.lst []]) m = some (qs.map .ref) := lst_app hQ3.top
      have hP := hQ3.push (ys := [])
      rw [List.map_nil] at hP
      have hPq := hP.rows.get (i := qs.length) (r := S3.length) (by simp)
      have g4 := hPq.2
      have e4 : (Q ++ [([] : List Int)]).getD qs.length [] = [] := by rw [List.getD_eq_getElem?_getD, lQ]; simp
      rw [e4, List.map_nil] at g4
      have a4' : atI ((qs ++ [S3.length]).map A.ref) (Tb.row T x : Int) = some (.ref S3.length) := atI_at (k := qs.length) (by omega) (by simp)
      have top4 := hP.top
      rw [List.map_append] at top4 a4' g4
      simp only [ams, bools, hQ3.top, lm, List.length_map, gd_lt (show qs.length < 16777216 by omega)]
      simp only [List.map_cons, List.map_nil] at top4 a4' g4
      simp only [ams, bools, top4, a4', g4, List.length_nil, gd_lt (show 0 < 16777216 by decide)]
      have h5 := hP.set (i := qs.length) (r := S3.length) (ys := [(i : Int) + 1]) (by simp)
      have s5 : (Q ++ [[]]).set qs.length [(i : Int) + 1] = Tb.add Q (Tb.row T x) ((i : Int) + 1) := by
        rw [show Tb.row T x = Q.length by omega, Tb.add_end, lQ]; simp
      rw [s5, List.map_append] at h5
      simp only [List.map_cons, List.map_nil, List.nil_append] at h5
      have kk : Kp (fun a => a ∈ m :: qs \/ S3.length <= a) S3 (((S3 ++ [O.lst []]).set m (O.lst (List.map A.ref qs ++ [A.ref S3.length]))).set S3.length (O.lst ([] ++ [A.int ((i : Int) + 1)]))) := (Kp.refl.lay.set (.inl (.inl hmm))).set (.inr (Nat.le_refl _))
      refine ⟨_, _, rfl, ms, qs ++ [S3.length], mo, _, _, _, rfl, ?_, ?_, ?_, fun r hr => Nat.le_trans k1.len (fm r hr), fun r hr => ?_, fun r hr hq => ?_⟩
      · rw [nx]
        refine hM3.kp (c := fun a => a ∈ m :: qs \/ S3.length <= a) ?_ fun r hr z => ?_
        · simpa [Int.zero_add] using kk
        · rcases z with z | z
          · exact absurd (ltQ r z) (by have := fm r hr; omega)
          · exact absurd (hM3.lt r hr) (by omega)
      · rw [nx]; simpa [Int.zero_add] using h5
      · have : Kp0 S (((S3 ++ [O.lst []]).set m (O.lst (List.map A.ref qs ++ [A.ref S3.length]))).set S3.length (O.lst ([] ++ [A.int ((i : Int) + 1)]))) := (k3.lay.set (.inr (fq m hmm))).set (.inr l3)
        simpa [Int.zero_add] using this
      · rcases List.mem_cons.mp hr with z | z
        · rw [z]; exact fq m hmm
        · rcases List.mem_append.mp z with z | z
          · exact fq r (List.mem_cons_of_mem _ z)
          · rw [List.mem_singleton.mp z]; exact l3
      · have hrf := fm r hr
        have hrl := hM3.lt r hr
        rcases List.mem_cons.mp hq with z | z
        · have := ltQ m hmm; omega
        · rcases List.mem_append.mp z with z | z
          · have := ltQ r (List.mem_cons_of_mem _ z); omega
          · have := List.mem_singleton.mp z; omega
    · rw [show (((Tb.row T x : Nat) : Int) == (T.length : Int)) = false by rw [beq_eq_false_iff_ne]; omega]
      have hrq : Tb.row T x < qs.length := by omega
      generalize hq0 : qs.getD (Tb.row T x) 0 = q
      have hq' : qs[Tb.row T x]? = some q := by rw [<- hq0, List.getD_eq_getElem?_getD, List.getElem?_eq_getElem hrq]; rfl
      have g4 := (hQ3.rows.get hq').2
      have a4' : atI (qs.map A.ref) (Tb.row T x : Int) = some (.ref q) := atI_at rfl (by rw [List.getElem?_map, hq']; rfl)
      have hbq : (Q.getD (Tb.row T x) []).length <= 100 := by
        have e := Tb.getD_len Q (Tb.row T x)
        have := Tb.tabs_shape xs i
        rw [hTT, hQQ] at this
        rw [<- e, this, Tb.getD_len]
        have := z2 (Tb.row T x); omega
      have hmq : q ∈ m :: qs := List.mem_cons_of_mem _ (List.mem_of_getElem? hq')
      simp only [ams, bools, hQ3.top, a4', g4, List.length_map, gd_lt (show (Q.getD (Tb.row T x) []).length < 16777216 by omega)]
      have h5 := hQ3.set (i := Tb.row T x) (r := q) (ys := Q.getD (Tb.row T x) [] ++ [(i : Int) + 1]) hq'
      rw [<- Tb.add_in Q (Tb.row T x) _ (by omega), List.map_append] at h5
      have kk : Kp (· ∈ m :: qs) S3 (S3.set q (O.lst ((Q.getD (Tb.row T x) []).map A.int ++ [A.int ((i : Int) + 1)]))) := Kp.refl.set (.inl hmq)
      refine ⟨_, _, rfl, ms, qs, mo, _, _, _, rfl, ?_, ?_, ?_, fun r hr => Nat.le_trans k1.len (fm r hr), fun r hr => ?_, fun r hr hq => ?_⟩
      · rw [nx]
        refine hM3.kp (c := (· ∈ m :: qs)) ?_ fun r hr z => ?_
        · simpa [Int.zero_add] using kk
        · exact absurd (ltQ r z) (by have := fm r hr; omega)
      · rw [nx]; simpa [Int.zero_add] using h5
      · have : Kp0 S (S3.set q (O.lst ((Q.getD (Tb.row T x) []).map A.int ++ [A.int ((i : Int) + 1)]))) := k3.set (.inr (fq q hmq))
        simpa [Int.zero_add] using this
      · exact fq r hr
      · have := fm r hr
        have := ltQ r hq
        omega
  · rintro τ S1 ⟨rs, qs, n, a3, a4, a5, rfl, hT, hQ, k1, fr, fq, dj⟩
    rw [show ((xs.length : Int) - 0).toNat = xs.length by omega] at hT hQ
    simp only [ams, bools, gd_len (show ([_, _] : List A).length <= 16777216 by simp)]
    exact ⟨rs, qs, n, _, _, rfl, hT, hQ, k1, fr, fq, dj⟩
open Mo
theorem ixD {l : List Int} {k : Nat} {i : Int} (h : i = k) (hk : k < l.length) : atI (l.map A.int) i = some (.int (l.getD k 0)) := atI_map h (by rw [List.getD_eq_getElem?_getD, List.getElem?_eq_getElem hk]; rfl)
theorem ch_b {f g : A -> A -> Sto -> R A} {ca cb cc : Ex} {τ : List A} {S : Sto} {a b c : A} {x y : Bool} (h1 : ca τ S = .ok a S) (h2 : cb τ S = .ok b S) (h3 : f a b S = .ok (.bl x) S) (h4 : cc τ S = .ok c S) (h5 : g b c S = .ok (.bl y) S) : eCh f g ca cb cc τ S = .ok (.bl (x && y)) S := by
  unfold eCh; rw [h1, R.bind_ok, h2, R.bind_ok, h3, R.bind_ok]
  cases x with
  | true => unfold kCh; show (cc τ S).bind _ = _; rw [h4]; exact h5
  | false => rfl
theorem add_ll {S : Sto} {n m : Nat} {xs ys : List A} (h1 : lstAt S n = some xs) (h2 : lstAt S m = some ys) (h3 : xs.length + ys.length <= 16777216) : aAdd (.ref n) (.ref m) S = .ok (.ref S.length) (S ++ [.lst (xs ++ ys)]) := by
  show opt (lstAt S n) _ = _
  rw [h1]
  show opt (lstAt S m) _ = _
  rw [h2]
  exact gd_t h3
theorem cut_tk (xs : List A) (j : Nat) : cutA xs none (some (j : Int)) = xs.take j := by
  unfold cutA
  rw [HT.sIx_nat, HT.sIx_none, List.drop_zero, Nat.sub_zero]
  by_cases h : j <= xs.length
  · rw [Nat.min_eq_left h]
  · rw [Nat.min_eq_right (by omega), List.take_of_length_le (Nat.le_refl _), List.take_of_length_le (by omega)]
theorem cut_dr (xs : List A) (j : Nat) : cutA xs (some (j : Int)) none = xs.drop j := by
  unfold cutA
  rw [HT.sIx_nat, HT.sIx_none]
  by_cases h : j <= xs.length
  · rw [Nat.min_eq_left h, List.take_of_length_le (by rw [List.length_drop]; omega)]
  · rw [Nat.min_eq_right (by omega), List.drop_of_length_le (Nat.le_refl _), List.drop_of_length_le (by omega)]; simp
theorem cat3 {S : Sto} {L i j : Nat} {r : List Int} {mid : List Int} {ρ : List A} {ci cj : Ex} {cm : Ex} (h : lstAt S L = some (r.map .int)) (hl : r.length <= 100) (hmid : mid.length <= 3)
    (hi : ∀ T, ci (.ref L :: ρ) T = .ok (.int i) T) (hj : ∀ T, cj (.ref L :: ρ) T = .ok (.int j) T) (hm : ∀ T, Kp0 S T -> cm (.ref L :: ρ) T = .ok (.ref T.length) (T ++ [.lst (mid.map .int)])) :
    ∃ S', (eBin aAdd (eBin aAdd (eSl (eVar 0) pNone (pSome ci)) cm) (eSl (eVar 0) (pSome cj) pNone)) (.ref L :: ρ) S = .ok (.ref (S.length + 4)) S' /\ lstAt S' (S.length + 4) = some ((r.take i ++ mid ++ r.drop j).map .int) /\ Kp0 S S' /\ S'.length = S.length + 5 := by
  obtain ⟨S1, hS1⟩ : ∃ S1, S1 = S ++ [O.lst ((r.take i).map .int)] := ⟨_, rfl⟩
  have k1 : Kp0 S S1 := by rw [hS1]; exact Kp.refl.lay
  have e1 : (eSl (eVar 0) pNone (pSome ci)) (.ref L :: ρ) S = .ok (.ref S.length) S1 := by
    simp only [ams, bools, hi, h, cut_tk]
    rw [hS1, List.map_take]
  have e2 := hm S1 k1
  obtain ⟨S2, hS2⟩ : ∃ S2, S2 = S1 ++ [O.lst (mid.map .int)] := ⟨_, rfl⟩
  rw [<- hS2] at e2
  have k2 : Kp0 S1 S2 := by rw [hS2]; exact Kp.refl.lay
  have g1 : lstAt S2 S.length = some ((r.take i).map .int) := k2.lst _ _ (fun z => z) (by rw [hS1]; exact lst_lay)
  have g2 : lstAt S2 S1.length = some (mid.map .int) := by rw [hS2]; exact lst_lay
  have l1 : (r.take i).length <= 100 := by rw [List.length_take]; omega
  have l2 : (r.drop j).length <= 100 := by rw [List.length_drop]; omega
  have e3 := add_ll g1 g2 (by rw [List.length_map, List.length_map]; omega)
  obtain ⟨S3, hS3⟩ : ∃ S3, S3 = S2 ++ [O.lst ((r.take i).map .int ++ mid.map .int)] := ⟨_, rfl⟩
  rw [<- hS3] at e3
  have k3 : Kp0 S2 S3 := by rw [hS3]; exact Kp.refl.lay
  have kk : Kp0 S S3 := (k1.trans k2).trans k3
  have hL3 := kk.lst _ _ (fun z => z) h
  have g3 : lstAt S3 S2.length = some ((r.take i).map .int ++ mid.map .int) := by rw [hS3]; exact lst_lay
  obtain ⟨S4, hS4⟩ : ∃ S4, S4 = S3 ++ [O.lst ((r.drop j).map .int)] := ⟨_, rfl⟩
  have k4 : Kp0 S3 S4 := by rw [hS4]; exact Kp.refl.lay
  have e4 : (eSl (eVar 0) (pSome cj) pNone) (.ref L :: ρ) S3 = .ok (.ref S3.length) S4 := by
    simp only [ams, bools, hj, hL3, cut_dr]
    rw [hS4, List.map_drop]
  have g4 : lstAt S4 S3.length = some ((r.drop j).map .int) := by rw [hS4]; exact lst_lay
  have g34 := k4.lst _ _ (fun z => z) g3
  have e5 := add_ll g34 g4 (by rw [List.length_append, List.length_map, List.length_map, List.length_map]; omega)
  have n1 : S1.length = S.length + 1 := by rw [hS1, List.length_append]; rfl
  have n2 : S2.length = S.length + 2 := by rw [hS2, List.length_append, n1]; rfl
  have n3 : S3.length = S.length + 3 := by rw [hS3, List.length_append, n2]; rfl
  have n4 : S4.length = S.length + 4 := by rw [hS4, List.length_append, n3]; rfl
  refine ⟨S4 ++ [O.lst ((r.take i).map .int ++ mid.map .int ++ (r.drop j).map .int)], ?_, ?_, (kk.trans k4).lay, by rw [List.length_append, n4]; rfl⟩
  · show (((((eSl (eVar 0) pNone (pSome ci)) (.ref L :: ρ) S).bind fun a S1 => (cm (.ref L :: ρ) S1).bind fun b S2 => aAdd a b S2)).bind fun a S1 => ((eSl (eVar 0) (pSome cj) pNone) (.ref L :: ρ) S1).bind fun b S2 => aAdd a b S2) = _
    rw [e1, R.bind_ok, e2, R.bind_ok, e3, R.bind_ok, e4, R.bind_ok, e5, n4]
  · rw [<- n4, lst_lay, List.map_append, List.map_append]
theorem changed_ok {S : Sto} {L k : Nat} {r : List Int} (h : lstAt S L = some (r.map .int)) (hk : k + 1 < r.length) (hl : r.length <= 100) : ∃ S', F_changed [.ref L, .int k] S = .ok (.ref (S.length + 4)) S' /\ lstAt S' (S.length + 4) = some ((chg r k).map .int) /\ Kp0 S S' /\ S'.length = S.length + 5 := by
  have a0 : atI (r.map A.int) (k : Int) = some (.int (r.getD k 0)) := ixD rfl (by omega)
  have a1 : atI (r.map A.int) ((k : Int) + 1) = some (.int (r.getD (k + 1) 0)) := ixD (k := k + 1) (by omega) hk
  obtain ⟨S', e, g, kp, n⟩ := cat3 (S := S) (L := L) (i := k) (j := k + 2) (r := r) (mid := [r.getD (k + 1) 0, r.getD k 0]) (ρ := [.int k]) (ci := eVar 1) (cj := eBin aAdd (eVar 1) (eC (.int 2))) (cm := eLst (lCons (eBin aIx (eVar 0) (eBin aAdd (eVar 1) (eC (.int 1)))) (lCons (eBin aIx (eVar 0) (eVar 1)) (lNil)))) h hl (Nat.le_succ 2) (fun T => rfl) (fun T => by simp only [ams, bools]; rfl) fun T kT => by
    have hT := kT.lst _ _ (fun z => z) h
    simp only [ams, bools, hT, a0, a1]
    rfl
  refine ⟨S', ?_, by rw [chg_eq hk]; exact g, kp, n⟩
  unfold F_changed m_changed N_changed
  have e' : RS.end (sRet _ _ S) = _ := congrArg RS.end (show sRet _ [.ref L, .int k] S = _ from congrArg (fun q => RS.of q fun a S1 => RS.rt a S1) e)
  exact e'
end K62
set_option Elab.async false
set_option linter.all false
set_option maxRecDepth 100000
set_option maxHeartbeats 4000000
namespace K62
open PySem L2 Am
theorem in_rows {S : Sto} {o : Nat} {x : List Int} (ho : lstAt S o = some (x.map .int)) : ∀ {rs : List Nat} {T : List (List Int)}, Rows S rs T -> inA S (.ref o) (rs.map .ref) = some (decide (x ∈ T))
  | [], [], _ => rfl
  | r :: rs, y :: T, h => by
    show (eqA S 12 (.ref r) (.ref o)).bind _ = _
    rw [eq_il h.1 ho, Option.bind_some, in_rows ho h.2]
    show some (decide (y = x) || decide (x ∈ T)) = _
    congr 1
    rw [Bool.eq_iff_iff, Bool.or_eq_true, decide_eq_true_iff, decide_eq_true_iff, decide_eq_true_iff, List.mem_cons]
    constructor
    · rintro (z | z)
      · exact .inl z.symm
      · exact .inr z
    · rintro (z | z)
      · exact .inl z.symm
      · exact .inr z
  | [], x :: T, h => h.elim
  | r :: rs, [], h => h.elim
open Mo Ld
theorem last_ix {S : Sto} {n : Nat} {rs : List Nat} {T : List (List Int)} (h : Tab S n rs T) (hn : 0 < T.length) : ∃ q, atI (rs.map A.ref) (-1) = some (.ref q) /\ rs[T.length - 1]? = some q /\ lstAt S q = some ((T.getD (T.length - 1) []).map .int) := by
  have l := h.len
  have hq : rs[T.length - 1]? = some rs[T.length - 1] := List.getElem?_eq_getElem (by omega)
  refine ⟨rs[T.length - 1], ?_, hq, (h.rows.get hq).2⟩
  unfold L2.atI L2.ixN
  rw [List.length_map, if_neg (by decide), if_pos (by omega), Option.bind_some, show ((-1 : Int) + (rs.length : Int)).toNat = T.length - 1 by omega, List.getElem?_map, hq]; rfl
theorem tab_put {S : Sto} {n q : Nat} {rs : List Nat} {T : List (List Int)} {ys : List Int} (h : Tab S n rs T) (hq : lstAt S q = some (ys.map .int)) (hn : q ∉ n :: rs) : Tab (S.set n (.lst ((rs ++ [q]).map .ref))) n (rs ++ [q]) (T ++ [ys]) := by
  have hl := h.lt n (List.mem_cons_self ..)
  refine ⟨lst_set hl, Rows.app (h.rows.mono fun r hr xs e => ?_) ⟨?_, trivial⟩, ?_⟩
  · rw [lst_set_ne (fun z => (List.nodup_cons.mp h.nd).1 (by rw [z]; exact hr))]; exact e
  · rw [lst_set_ne (fun z => hn (by rw [z]; exact List.mem_cons_self ..))]; exact hq
  · rw [<- List.cons_append, List.nodup_append]
    refine ⟨h.nd, by simp, fun a ha b hb z => hn ?_⟩
    have hb' : b = q := by simpa using hb
    rw [<- hb', <- z]; exact ha
theorem rows_take {S : Sto} : ∀ {rs : List Nat} {T : List (List Int)} (k : Nat), Rows S rs T -> Rows S (rs.take k) (T.take k)
  | [], [], k, _ => by rw [List.take_nil, List.take_nil]; trivial
  | r :: rs, y :: T, 0, _ => trivial
  | r :: rs, y :: T, k + 1, h => ⟨h.1, rows_take k h.2⟩
  | [], _ :: _, _, h => h.elim
  | _ :: _, [], _, h => h.elim
theorem tab_cut {S : Sto} {n : Nat} {rs : List Nat} {T : List (List Int)} (h : Tab S n rs T) (k : Nat) : Tab (S.set n (.lst ((rs.map .ref).take k))) n (rs.take k) (T.take k) := by
  have hl := h.lt n (List.mem_cons_self ..)
  refine ⟨by rw [lst_set hl, List.map_take], (rows_take k h.rows).mono fun r hr xs e => ?_, ?_⟩
  · rw [lst_set_ne (fun z => (List.nodup_cons.mp h.nd).1 (by rw [z]; exact List.mem_of_mem_take hr))]; exact e
  · exact h.nd.sublist ((List.take_sublist k rs).cons_cons n)
theorem idx_rows {S : Sto} {o : Nat} {x : List Int} (ho : lstAt S o = some (x.map .int)) : ∀ {rs : List Nat} {T : List (List Int)}, Rows S rs T -> x ∈ T -> ∃ j, ((rs.map A.ref).findIdx? fun z => decide (eqA S 12 z (.ref o) = some true)) = some j /\ j < T.length /\ T.getD j [] = x
  | [], [], _, hx => absurd hx (by simp)
  | r :: rs, y :: T, h, hx => by
    rw [List.map_cons, List.findIdx?_cons, eq_il h.1 ho]
    by_cases c : y = x
    · rw [decide_eq_true c, if_pos (by decide)]
      exact ⟨0, rfl, Nat.zero_lt_succ _, c⟩
    · rw [decide_eq_false c, if_neg (by decide)]
      have hx' : x ∈ T := (List.mem_cons.mp hx).resolve_left fun z => c z.symm
      obtain ⟨j, e, l, g⟩ := idx_rows ho h.2 hx'
      exact ⟨j + 1, by rw [e]; rfl, Nat.succ_lt_succ l, g⟩
  | [], _ :: _, h, _ => h.elim
  | _ :: _, [], h, _ => h.elim
theorem all_refs (rs : List Nat) : (rs.map A.ref).all A.isRef = true := by
  rw [List.all_eq_true]
  intro z hz
  obtain ⟨q, _, rfl⟩ := List.mem_map.mp hz
  rfl
theorem go_ok {S : Sto} {road k : Nat} {rs : List Nat} {R : List (List Int)} {r0 c : List Int} (h : Tab S road rs R) (hr : Road r0 c R) (h1 : k + 1 < c.length) (h2 : may c k = true) (hl : R.length <= 1000) (hc : c.length <= 100) :
    ∃ (rs' : List Nat) (R' : List (List Int)) (S' : Sto), F_go_on [.ref road, .int k] S = .ok .non S' /\ Tab S' road rs' R' /\ Road r0 (chg c k) R' /\ R'.length <= R.length + 1 /\ Kp (· = road) S S' /\ ∀ q ∈ rs', q ∈ rs \/ S.length <= q := by
  obtain ⟨q, e1, _, hq⟩ := last_ix h hr.ne
  rw [hr.last] at hq
  obtain ⟨S1, e2, g2, k2, l2⟩ := changed_ok hq h1 hc
  have t2 := h.kp0 k2
  have ein : aIn false (.ref (S.length + 4)) (.ref road) S1 = .ok (.bl (decide (chg c k ∈ R))) S1 := by
    show opt (lstAt S1 road) _ = _
    rw [t2.top, opt_some, in_rows g2 t2.rows, opt_some]; rfl
  have lr := h.lt road (List.mem_cons_self ..)
  have ln := h.len
  by_cases hin : chg c k ∈ R
  · obtain ⟨j, f1, f2, f3⟩ := idx_rows g2 t2.rows hin
    have ei : mIdxL (.ref road) [.ref (S.length + 4)] S1 = .ok (.int j) S1 := by
      show opt (lstAt S1 road) _ = _
      rw [t2.top, opt_some]
      refine (gd_of ⟨all_refs rs, fun z hz => ?_⟩).trans ?_
      · rw [f1, opt_some]
      · obtain ⟨p, hp, rfl⟩ := List.mem_map.mp hz
        obtain ⟨i, hi, rfl⟩ := List.mem_iff_getElem.mp hp
        have := (t2.rows.get (List.getElem?_eq_getElem hi)).2
        rw [eq_il this g2]; rfl
    have ed : sDel (eVar 0) (eBin aAdd (eMe mIdxL (eVar 0) (lCons (eVar 2) (lNil))) (eC (.int 1))) [.ref road, .int k, .ref (S.length + 4)] S1 = .nx [.ref road, .int k, .ref (S.length + 4)] (S1.set road (.lst ((rs.map .ref).take (j + 1)))) := by
      have := sDel_ap (co := eVar 0) (ci := eBin aAdd (eMe mIdxL (eVar 0) (lCons (eVar 2) (lNil))) (eC (.int 1))) (τ := [.ref road, .int k, .ref (S.length + 4)]) (S := S1) (S1 := S1) (S2 := S1) (n := road) (k := (j : Int) + 1) (xs := rs.map .ref) (by simp only [ams, bools]) (by simp only [ams, bools, t2.top, ei]) t2.top (by omega)
      rw [show ((j : Int) + 1).toNat = j + 1 by omega] at this
      exact this
    have t3 := tab_cut t2 (j + 1)
    refine ⟨rs.take (j + 1), R.take (j + 1), _, ?_, t3, by rw [<- f3]; exact hr.cut f2, by rw [List.length_take]; omega, (k2.of0).set (.inl rfl), fun p hp => .inl (List.mem_of_mem_take hp)⟩
    unfold F_go_on m_go_on N_go_on
    simp only [ams, bools, nlen, Nat.reduceAdd, Nat.reduceSub, h.top, e1, e2, ein, decide_eq_true hin, ed]
  · have nq : S.length + 4 ∉ road :: rs := fun z => absurd (h.lt _ z) (by omega)
    refine ⟨rs ++ [S.length + 4], R ++ [chg c k], S1.set road (.lst ((rs ++ [S.length + 4]).map .ref)), ?_, tab_put t2 g2 nq, hr.app h1 h2, by rw [List.length_append]; exact Nat.le_refl _, (k2.of0).set (.inl rfl), fun p hp => ?_⟩
    · unfold F_go_on m_go_on N_go_on
      simp only [ams, bools, nlen, Nat.reduceAdd, Nat.reduceSub, h.top, e1, e2, ein, decide_eq_false hin, t2.top, List.length_map, gd_lt (show rs.length < 16777216 by omega), List.map_append, List.map_cons, List.map_nil]
    · rcases List.mem_append.mp hp with z | z
      · exact .inl z
      · have : p = S.length + 4 := by simpa using z
        exact .inr (by omega)
end K62
set_option Elab.async false
set_option linter.all false
set_option maxRecDepth 100000
set_option maxHeartbeats 4000000
namespace K62
open PySem L2 Am
open Mo Ld
theorem for_dn {lo hi : Int} {j : Nat} {c : Sm} {src : Ic} {τ : List A} {S S1 : Sto} (hs : src τ S = .ok (dnSrc lo hi) S1) (Inv : Nat -> List A -> Sto -> Prop) (Post : RS -> Prop) (h0 : Inv 0 τ S1)
    (step : ∀ (i : Nat) τ S, i < (lo - hi).toNat -> Inv i τ S -> (∃ τ' S', c (τ.set j (.int (lo - i))) S = .nx τ' S' /\ Inv (i + 1) τ' S') \/ (∃ a S', c (τ.set j (.int (lo - i))) S = .rt a S' /\ Post (.rt a S')))
    (fin : ∀ τ S, Inv (lo - hi).toNat τ S -> Post (.nx τ S)) : Post (sFor src (gNm j) c τ S) := by
  unfold sFor
  rw [hs]
  refine for_go (s := dnSrc lo hi) Inv Post (fun i τ S hi' h => ?_) (fun τ S h => ⟨rfl, fin τ S h⟩) _ 0 τ S1 rfl h0
  have hi' : i < (lo - hi).toNat := hi'
  exact ⟨.int (lo - i), _, S, if_pos hi', rfl, step i τ S hi' h⟩
theorem dn_loop {S : Sto} {road : Nat} {rs : List Nat} {R : List (List Int)} {r0 : List Int} {t1 t2 t3 t4 t5 t6 t7 : A} {ic : Ic} {lo hi : Int} {n : Nat} (hs : ic [.ref road, t1, t2, t3, t4, t5, t6, t7] S = .ok (dnSrc lo hi) S) (hn : (lo - hi).toNat = n) (f : Nat -> List Int)
    (h : Tab S road rs R) (hr : Road r0 (f 0) R) (hc : r0.length <= 100) (hl : R.length + n <= 1000) (step : ∀ i, i < n -> ∃ k : Nat, lo - i = k /\ k + 1 < r0.length /\ may (f i) k = true /\ chg (f i) k = f (i + 1)) :
    ∃ (rs' : List Nat) (R' : List (List Int)) (S' : Sto) (a7 : A), sFor ic (gNm 7) (sExpr (eFn F_go_on (lCons (eVar 0) (lCons (eVar 7) (lNil))))) [.ref road, t1, t2, t3, t4, t5, t6, t7] S = .nx [.ref road, t1, t2, t3, t4, t5, t6, a7] S' /\ Tab S' road rs' R' /\ Road r0 (f n) R' /\ R'.length <= R.length + n /\ Kp (· = road) S S' /\ ∀ q ∈ rs', q ∈ rs \/ S.length <= q := by
  subst hn
  refine for_dn hs
    (fun i τ S1 => ∃ (rs1 : List Nat) (R1 : List (List Int)) (a7 : A), τ = [.ref road, t1, t2, t3, t4, t5, t6, a7] /\ Tab S1 road rs1 R1 /\ Road r0 (f i) R1 /\ R1.length <= R.length + i /\ Kp (· = road) S S1 /\ ∀ q ∈ rs1, q ∈ rs \/ S.length <= q)
    (fun z => ∃ (rs' : List Nat) (R' : List (List Int)) (S' : Sto) (a7 : A), z = .nx [.ref road, t1, t2, t3, t4, t5, t6, a7] S' /\ Tab S' road rs' R' /\ Road r0 (f (lo - hi).toNat) R' /\ R'.length <= R.length + (lo - hi).toNat /\ Kp (· = road) S S' /\ ∀ q ∈ rs', q ∈ rs \/ S.length <= q)
    ⟨rs, R, t7, rfl, h, hr, Nat.le_refl _, Kp.refl, fun q hq => .inl hq⟩ ?_ ?_
  · rintro i τ S1 hi' ⟨rs1, R1, a7, rfl, g1, g2, g3, g4, g5⟩
    left
    obtain ⟨k, e1, e2, e3, e4⟩ := step i hi'
    have lc := g2.clen
    obtain ⟨rs2, R2, S2, f1, f2, f3, f4, f5, f6⟩ := go_ok g1 g2 (by omega) e3 (by omega) (by omega)
    refine ⟨_, S2, ?_, rs2, R2, .int k, rfl, f2, by rw [<- e4]; exact f3, by omega, g4.trans f5, fun q hq => ?_⟩
    · rw [e1]
      simp only [ams, bools, f1]
    · rcases f6 q hq with z | z
      · exact g5 q z
      · exact .inr (Nat.le_trans g4.len z)
  · rintro τ S1 ⟨rs1, R1, a7, rfl, g1, g2, g3, g4, g5⟩
    exact ⟨rs1, R1, S1, a7, rfl, g1, g2, g3, g4, g5⟩
theorem two_loops {S : Sto} {road : Nat} {rs : List Nat} {R : List (List Int)} {r0 U L M Zi : List Int} {b y e p u : Int} {t1 t3 t4 t7 : A} (h : Tab S road rs R) (hr : Road r0 (cA U L M Zi b y 0) R) (hc : r0.length <= 100) (hl : R.length <= 900) (lw : U.length + (L.length + 1 + M.length) + Zi.length + 1 = r0.length)
    (he : e = ((U.length + (L.length + 1 + M.length) : Nat) : Int)) (hp : p = ((U.length + L.length : Nat) : Int)) (hu : u = (U.length : Int)) (hsM : (b :: M).Pairwise (· <= ·)) (hb : y < b) (hsL : L.Pairwise (· <= ·)) (hL : ∀ a ∈ L, a <= y) :
    ∃ (rs' : List Nat) (R' : List (List Int)) (S1 S' : Sto) (a7 a8 : A), sFor i_lead_in_2 (gNm 7) b_lead_in_2 [.ref road, t1, .int e, t3, t4, .int u, .int p, t7] S = .nx [.ref road, t1, .int e, t3, t4, .int u, .int p, a7] S1 /\ sFor i_lead_in_3 (gNm 7) b_lead_in_3 [.ref road, t1, .int e, t3, t4, .int u, .int p, a7] S1 = .nx [.ref road, t1, .int e, t3, t4, .int u, .int p, a8] S' /\ Tab S' road rs' R' /\ Road r0 (cB U L M Zi b y L.length) R' /\ R'.length <= R.length + (L.length + M.length) /\ Kp (· = road) S S' /\ ∀ q ∈ rs', q ∈ rs \/ S.length <= q := by
  obtain ⟨rs2, R2, S2, a7', k1, k2, k3, k4, k5, k6⟩ := dn_loop (ic := i_lead_in_2) (t1 := t1) (t2 := .int e) (t3 := t3) (t4 := t4) (t5 := .int u) (t6 := .int p) (t7 := t7) (lo := e - 1) (hi := p) (n := M.length) (S := S)
    (show i_lead_in_2 _ _ = _ from iRngD_ap (S1 := S) (S2 := S) (by simp only [ams, bools]) (by simp only [ams, bools]) (by simp only [ams, bools]) (bnd_of (by omega) (by omega)) (bnd_of (by omega) (by omega))) (by omega) (cA U L M Zi b y) h hr hc (by omega) fun i hi => ⟨U.length + L.length + (M.length - i), by clear hc hl lw hr h; omega, by clear hc hl he hp hu; omega, stepA hi hsM hb⟩
  rw [cA_end] at k3
  obtain ⟨rs3, R3, S3, a7'', m1, m2, m3, m4, m5, m6⟩ := dn_loop (ic := i_lead_in_3) (t1 := t1) (t2 := .int e) (t3 := t3) (t4 := t4) (t5 := .int u) (t6 := .int p) (t7 := a7') (lo := p - 1) (hi := u - 1) (n := L.length) (S := S2)
    (show i_lead_in_3 _ _ = _ from iRngD_ap (S1 := S2) (S2 := S2) (by simp only [ams, bools]) (by simp only [ams, bools]) (by simp only [ams, bools]) (bnd_of (by omega) (by omega)) (bnd_of (by omega) (by omega))) (by omega) (cB U L M Zi b y) k2 k3 hc (by omega) fun i hi => ⟨U.length + (L.length - i) - 1, by clear hc hl lw hr h he; omega, by clear hc hl he hp hu; omega, stepB hi hsL hL hb⟩
  refine ⟨rs3, R3, S2, S3, a7', a7'', k1, m1, m2, m3, by clear he hp hu lw hc; omega, k5.trans m5, fun q hq => ?_⟩
  rcases m6 q hq with z | z
  · exact k6 q z
  · exact .inr (Nat.le_trans k5.len z)
theorem lead_ok {S : Sto} {road tb : Nat} {rs ts : List Nat} {R T : List (List Int)} {r0 Z : List Int} {x : Int} {e : Int} (h : Tab S road rs R) (ht : Tab S tb ts T) (dj : ∀ q ∈ tb :: ts, q ≠ road) (hs : Kn.Srt T) (hr : Road r0 (Sy.plain T ++ x :: Z) R) (hc : r0.length <= 100) (hl : R.length <= 800) (he : e = ((Sy.plain T).length : Int)) :
    ∃ (rs' : List Nat) (R' : List (List Int)) (S' : Sto), F_lead_in [.ref road, .ref tb, .int e] S = .ok .non S' /\ Tab S' road rs' R' /\ Road r0 (Sy.plain (Tb.put T x) ++ Z) R' /\ R'.length <= R.length + (Sy.plain T).length /\ Kp (· = road) S S' /\ ∀ q ∈ rs', q ∈ rs \/ S.length <= q := by
  subst he
  have lc := hr.clen
  have lp : (Sy.plain T).length + Z.length + 1 = r0.length := by rw [<- lc]; simp; omega
  unfold F_lead_in m_lead_in N_lead_in
  simp only [ams, bools, nlen, Nat.reduceAdd, Nat.reduceSub]
  refine for_lst (n := tb) (xs := ts.map .ref) (S1 := S) (show i_lead_in_1 _ _ = _ from iVal_r (by simp only [ams, bools]) ht.top)
    (fun i τ S1 => ∃ (y : Int) (Zi : List Int) (rs1 : List Nat) (R1 : List (List Int)) (a3 a4 a5 a6 a7 : A), τ = [.ref road, .ref tb, .int ((Sy.plain (T.drop i)).length : Nat), a3, a4, a5, a6, a7] /\ Tab S1 road rs1 R1 /\ Tab S1 tb ts T /\ Road r0 (Sy.plain (T.drop i) ++ y :: Zi) R1 /\ Sy.plain (Tb.put T x) ++ Z = Sy.plain (Tb.put (T.drop i) y) ++ Zi /\ R1.length + (Sy.plain (T.drop i)).length <= R.length + (Sy.plain T).length /\ Kp (· = road) S S1 /\ ∀ q ∈ rs1, q ∈ rs \/ S.length <= q)
    (fun z => ∃ (rs' : List Nat) (R' : List (List Int)) (S' : Sto), RS.end z = .ok .non S' /\ Tab S' road rs' R' /\ Road r0 (Sy.plain (Tb.put T x) ++ Z) R' /\ R'.length <= R.length + (Sy.plain T).length /\ Kp (· = road) S S' /\ ∀ q ∈ rs', q ∈ rs \/ S.length <= q)
    ⟨x, Z, rs, R, _, _, _, _, _, rfl, h, ht, hr, rfl, Nat.le_refl _, Kp.refl, fun q hq => .inl hq⟩ (fun i τ S1 ⟨_, _, _, _, _, _, _, _, _, _, _, g, _⟩ => g.top) ?_ ?_
  · rintro i z τ S1 hz ⟨y, Zi, rs1, R1, a3, a4, a5, a6, a7, rfl, g1, g2, g3, g4, g5, g6, g7⟩
    rw [List.getElem?_map] at hz
    obtain ⟨r, hr', rfl⟩ := Option.map_eq_some_iff.mp hz
    obtain ⟨hi, hrow⟩ := g2.rows.get hr'
    have hsR : (T.getD i []).Pairwise (· <= ·) := hs _ (by rw [List.getD_eq_getElem?_getD, List.getElem?_eq_getElem hi]; exact List.getElem_mem hi)
    generalize hR : T.getD i [] = Rw at hrow hsR
    have hdrop : T.drop i = Rw :: T.drop (i + 1) := by
      rw [List.drop_eq_getElem_cons hi, <- hR, List.getD_eq_getElem?_getD, List.getElem?_eq_getElem hi]; rfl
    have hpl : Sy.plain (T.drop i) = Sy.plain (T.drop (i + 1)) ++ Rw := by rw [hdrop, Sy.plain_cons]
    generalize hU : Sy.plain (T.drop (i + 1)) = U at hpl
    rw [hpl] at g3 g5 ⊢
    have lc1 := g3.clen
    have lw : U.length + Rw.length + Zi.length + 1 = r0.length := by rw [<- lc1]; simp only [List.length_append, List.length_cons]; omega
    rw [List.length_append] at g5 ⊢
    refine ⟨[.ref road, .ref tb, .int ((U.length + Rw.length : Nat) : Int), .ref r, a4, a5, a6, a7], S1, rfl, ?_⟩
    obtain ⟨q, e1, _, hq⟩ := last_ix g1 g3.ne
    rw [g3.last] at hq
    have ey : (U ++ Rw ++ y :: Zi).getD (U.length + Rw.length) 0 = y := by
      have := at_mid (A := U ++ Rw) (B := Zi) (y := y)
      rwa [List.length_append] at this
    have e2 : atI ((U ++ Rw ++ y :: Zi).map A.int) ((U.length + Rw.length : Nat) : Int) = some (.int y) := by
      have := ixD (l := U ++ Rw ++ y :: Zi) (k := U.length + Rw.length) (i := ((U.length + Rw.length : Nat) : Int)) rfl (by simp)
      rw [ey] at this; exact this
    have e3 := fg_ok (x := y) hrow (by omega)
    have e4 : ((U.length + Rw.length : Nat) : Int) - (Rw.length : Int) = (U.length : Int) := by omega
    have e5 : (U.length : Int) + ((Tb.fg Rw y : Nat) : Int) = ((U.length + Tb.fg Rw y : Nat) : Int) := by omega
    unfold b_lead_in_1
    simp only [ams, bools, g1.top, e1, hq, e2, hrow, List.length_map, e4, e3, e5]
    by_cases hfg : Tb.fg Rw y = Rw.length
    · right
      rw [hfg]
      simp only [ams, bools, beq_self_eq_true]
      refine ⟨_, _, rfl, rs1, R1, S1, rfl, g1, ?_, by omega, g6, g7⟩
      rw [g4, hdrop, Tb.put_end hfg, Sy.plain_cons, hU]
      have : U ++ (Rw ++ [y]) ++ Zi = U ++ Rw ++ y :: Zi := by simp
      rw [this]; exact g3
    · left
      have hlt := Tb.fg_lt hfg
      have hne : ((((U.length + Tb.fg Rw y : Nat) : Int)) == ((U.length + Rw.length : Nat) : Int)) = false := by
        rw [beq_eq_false_iff_ne]; omega
      simp only [ams, bools, hne]
      obtain ⟨L, b, M, hRw, hL, hb, hsM, hsL, hfl, hgb, hset⟩ := split hsR hfg
      have lR : Rw.length = L.length + 1 + M.length := by rw [hRw]; simp; omega
      have c0 : U ++ Rw ++ y :: Zi = cA U L M Zi b y 0 := by rw [cA_0, hRw]
      rw [c0] at g3
      obtain ⟨rs3, R3, S2, S3, a7', a7'', k1, m1, m2, m3, m4, kk, m6⟩ := two_loops (t1 := .ref tb) (t3 := .ref r) (t4 := .int y) (t7 := a7) (e := ((U.length + Rw.length : Nat) : Int)) (p := ((U.length + Tb.fg Rw y : Nat) : Int)) (u := (U.length : Int)) g1 g3 hc (by omega) (by rw [<- lR]; exact lw) (by rw [lR]) (by rw [hfl]) rfl hsM hb hsL hL
      rw [k1]
      simp only [ams, bools]
      rw [m1]
      simp only [ams, bools]
      rw [cB_end, <- hset] at m3
      refine ⟨_, _, rfl, b, Rw.set (Tb.fg Rw y) y ++ Zi, rs3, R3, _, _, _, _, _, rfl, m2, g2.kp kk dj, m3, ?_, by omega, g6.trans kk, fun q hq => ?_⟩
      · rw [g4, hdrop, Tb.put_on hfg, Sy.plain_cons, hgb, List.append_assoc]
      · rcases m6 q hq with z | z
        · exact g7 q z
        · exact .inr (Nat.le_trans g6.len z)
  · rintro τ S1 ⟨y, Zi, rs1, R1, a3, a4, a5, a6, a7, rfl, g1, g2, g3, g4, g5, g6, g7⟩
    rw [List.length_map, ht.len, List.drop_length] at g3 g4 g5
    refine ⟨rs1, R1, S1, rfl, g1, ?_, by omega, g6, g7⟩
    rw [g4]; exact g3
end K62
set_option Elab.async false
set_option linter.all false
set_option maxRecDepth 100000
set_option maxHeartbeats 4000000
namespace K62
open PySem L2 Am
open Mo Ld
theorem for_el {n : Nat} {xs : List A} {g : Tg} {c : Sm} {src : Ic} {τ : List A} {S S1 : Sto} (hs : src τ S = .ok (elSrc n xs.length) S1) (Inv : Nat -> List A -> Sto -> Prop) (Post : RS -> Prop) (h0 : Inv 0 τ S1) (hl : ∀ i τ S, Inv i τ S -> lstAt S n = some xs)
    (step : ∀ (i : Nat) x τ S, xs[i]? = some x -> Inv i τ S -> ∃ τ1 S1, g (.tup [.int i, x]) τ S = .ok τ1 S1 /\ ((∃ τ' S', c τ1 S1 = .nx τ' S' /\ Inv (i + 1) τ' S') \/ (∃ a S', c τ1 S1 = .rt a S' /\ Post (.rt a S'))))
    (fin : ∀ τ S, Inv xs.length τ S -> Post (.nx τ S)) : Post (sFor src g c τ S) := by
  unfold sFor
  rw [hs]
  refine for_go (s := elSrc n xs.length) Inv Post (fun i τ S hi' h => ?_) (fun τ S h => ⟨?_, fin τ S h⟩) _ 0 τ S1 rfl h0
  · have hi' : i < xs.length := hi'
    obtain ⟨τ1, S1, e, q⟩ := step i xs[i] τ S (List.getElem?_eq_getElem hi') h
    exact ⟨.tup [.int i, xs[i]], τ1, S1, by show (lstAt S n).bind _ = _; rw [hl i τ S h, Option.bind_some, List.getElem?_eq_getElem hi']; rfl, e, q⟩
  · show (match lstAt S n with
      | some ys => decide (ys.length = xs.length)
      | none => false) = true
    rw [hl _ τ S h]
    simp
theorem road_ok {S : Sto} {L : Nat} {xs : List Int} (h : lstAt S L = some (xs.map .int)) (hl : xs.length <= 12) :
    ∃ (rd : Nat) (rs : List Nat) (R : List (List Int)) (S' : Sto), F_road_of_moves [.ref L] S = .ok (.ref rd) S' /\ Tab S' rd rs R /\ Road xs (Sy.plain (Tb.tabs xs xs.length).1) R /\ R.length <= 200 /\ Kp0 S S' /\ ∀ q ∈ rd :: rs, S.length <= q := by
  have lL := lst_lt h
  have c12 : decide ((xs.length : Int) > 12) = false := decide_eq_false (by omega)
  obtain ⟨S0, hS0⟩ : ∃ S0, S0 = S ++ [O.lst (xs.map A.int)] ++ [O.lst [.ref S.length]] ++ [O.lst []] := ⟨_, rfl⟩
  have k0 : Kp0 S S0 := by rw [hS0]; exact Kp.refl.lay.lay.lay
  have l1 : (S ++ [O.lst (xs.map A.int)]).length = S.length + 1 := by rw [List.length_append]; rfl
  have l2 : (S ++ [O.lst (xs.map A.int)] ++ [O.lst [.ref S.length]]).length = S.length + 2 := by rw [List.length_append, l1]; rfl
  have l3 : S0.length = S.length + 3 := by rw [hS0, List.length_append, l2]; rfl
  have hR0 : Tab S0 (S.length + 1) [S.length] [xs] := by
    refine ⟨?_, ⟨?_, trivial⟩, by simp⟩
    · rw [hS0, <- l1]; exact lst_app lst_lay
    · rw [hS0]; exact lst_app (lst_app lst_lay)
  have hT0 : Tab S0 (S.length + 2) [] [] := Tab.nil (by rw [hS0, <- l2]; exact lst_lay)
  have h0 := k0.lst _ _ (fun z => z) h
  have hs : i_road_of_moves_1 [.ref L, .ref (S.length + 1), .ref (S.length + 2), .unb, .unb] S0 = .ok (elSrc L (xs.map A.int).length) S0 := iEnL_ap (by simp only [ams, bools]) h0
  have q0 : ∀ q ∈ (S.length + 2) :: ([] : List Nat), q ≠ S.length + 1 := fun q hq => by
    have : q = S.length + 2 := by simpa using hq
    omega
  have q1 : ∀ q ∈ [S.length], S.length <= q := fun q hq => by
    have : q = S.length := by simpa using hq
    omega
  unfold F_road_of_moves m_road_of_moves N_road_of_moves
  simp only [ams, amx, bools, nlen, Nat.reduceAdd, Nat.reduceSub, h, List.length_map, c12, gd_len (show (xs.map A.int).length <= 16777216 by rw [List.length_map]; omega), l1, l2, <- hS0]
  refine for_el hs
    (fun i τ S1 => ∃ (rs : List Nat) (R : List (List Int)) (tb : Nat) (ts : List Nat) (a3 a4 : A), τ = [.ref L, .ref (S.length + 1), .ref tb, a3, a4] /\ Tab S1 (S.length + 1) rs R /\ Tab S1 tb ts (Tb.tabs xs i).1 /\ (∀ q ∈ tb :: ts, q ≠ S.length + 1) /\ Road xs (Sy.plain (Tb.tabs xs i).1 ++ xs.drop i) R /\ R.length <= 1 + 12 * i /\ Kp0 S S1 /\ ∀ q ∈ rs, S.length <= q)
    (fun z => ∃ (rd : Nat) (rs : List Nat) (R : List (List Int)) (S' : Sto), RS.end (RS.seq z _) = .ok (.ref rd) S' /\ Tab S' rd rs R /\ Road xs (Sy.plain (Tb.tabs xs xs.length).1) R /\ R.length <= 200 /\ Kp0 S S' /\ ∀ q ∈ rd :: rs, S.length <= q)
    ⟨_, _, _, _, _, _, rfl, hR0, hT0, q0, Road.one xs, Nat.le_refl _, k0, q1⟩
    (fun i τ S1 ⟨_, _, _, _, _, _, _, _, _, _, _, _, g, _⟩ => g.lst _ _ (fun z => z) h) ?_ ?_
  · rintro i z τ S1 hz ⟨rs, R, tb, ts, a3, a4, rfl, g1, g2, g3, g4, g5, g6, g7⟩
    rw [List.getElem?_map] at hz
    obtain ⟨y, hy, rfl⟩ := Option.map_eq_some_iff.mp hz
    obtain ⟨hi, hy'⟩ := List.getElem?_eq_some_iff.mp hy
    refine ⟨[.ref L, .ref (S.length + 1), .ref tb, .int i, .int y], S1, ?_, .inl ?_⟩
    · simp only [ams, bools, gd_of (show ([_, _] : List A).length = 2 from rfl)]
    have hd : xs.drop i = y :: xs.drop (i + 1) := by rw [List.drop_eq_getElem_cons hi, hy']
    have pl : (Sy.plain (Tb.tabs xs i).1).length = i := by rw [Sy.plain_len, Tb.tabs_sum]
    have hsrt : Kn.Srt (Tb.tabs xs i).1 := by rw [Mo.tabs_fold _ _ (by omega)]; exact Mo.srt_fold fun _ h => absurd h (by simp)
    rw [hd] at g4
    obtain ⟨z1, z2⟩ := Tb.tabs_small xs i
    obtain ⟨rs2, R2, S2, e2, t2, r2, n2, k2, f2⟩ := lead_ok (e := (i : Int)) g1 g2 g3 hsrt g4 (by omega) (by omega) (by omega)
    have t2b := g2.kp k2 g3
    obtain ⟨qs, m, S3, e3, t3, k3, f3⟩ := put_in_ok (x := y) t2b (by omega) (fun j => by have := z2 j; omega)
    have lr := t2.lt _ (List.mem_cons_self ..)
    have lS1 := g6.len
    have k12 : Kp0 S S2 := ((g6.of0 (b := (· = S.length + 1))).trans k2).mono fun n hn (hq : n = S.length + 1) => by omega
    have et : (Tb.tabs xs (i + 1)).1 = Tb.put (Tb.tabs xs i).1 y := by
      show Tb.put (Tb.tabs xs i).1 (xs.getD i 0) = _
      rw [List.getD_eq_getElem?_getD, hy]; rfl
    unfold b_road_of_moves_1
    simp only [ams, bools, e2, e3]
    refine ⟨_, _, rfl, rs2, R2, m, qs, _, _, rfl, t2.kp0 k3, by rw [et]; exact t3, fun q hq => ?_, by rw [et]; exact r2, by omega, k12.trans k3, fun q hq => ?_⟩
    · have := f3 q hq; omega
    · rcases f2 q hq with z | z
      · exact g7 q z
      · omega
  · rintro τ S1 ⟨rs, R, tb, ts, a3, a4, rfl, g1, g2, g3, g4, g5, g6, g7⟩
    rw [List.length_map, List.drop_length, List.append_nil] at g4
    rw [List.length_map] at g5
    simp only [ams, bools]
    exact ⟨_, rs, R, S1, rfl, g1, g4, by omega, g6, fun q hq => by
      rcases List.mem_cons.mp hq with z | z
      · omega
      · exact g7 q z⟩
theorem road_no {S : Sto} {L : Nat} {xs : List A} (h : lstAt S L = some xs) (hl : 12 < xs.length) (hu : xs.length <= 1000) : F_road_of_moves [.ref L] S = .ex "TooMany" S := by
  have c12 : decide ((xs.length : Int) > 12) = true := decide_eq_true (by omega)
  unfold F_road_of_moves m_road_of_moves N_road_of_moves
  simp only [ams, amx, bools, nlen, Nat.reduceAdd, Nat.reduceSub, h, c12, kFs_n (show xs.length < 18446744073709551616 by omega)]
end K62
set_option Elab.async false
set_option linter.all false
set_option maxRecDepth 100000
set_option maxHeartbeats 4000000
namespace K62
open PySem L2 Am
theorem iValL_r {c : Ex} {τ : List A} {S S1 : Sto} {n : Nat} {xs : List A} (h : c τ S = .ok (.ref n) S1) (hl : lstAt S1 n = some xs) : iValL c τ S = .ok (lstSrc n xs.length) S1 := by
  unfold iValL
  rw [h, R.bind_ok]
  show opt (lstAt S1 n) _ = _
  rw [hl, opt_some]
theorem law_is_ok (S : Sto) : ∃ S', F_law_is [.exn (PySem.Str.ofString "TooMany"), .str (PySem.Str.ofString "many")] S = .ok (.bl true) S' /\ Kp0 S S' := by
  obtain ⟨S1, h1⟩ : ∃ S1, S1 = S ++ [O.lst [.bl false, .bl false, .bl false, .bl true]] := ⟨_, rfl⟩
  obtain ⟨S2, h2⟩ : ∃ S2, S2 = S1 ++ [O.lst [.bl false, .bl false, .bl false, .bl false]] := ⟨_, rfl⟩
  obtain ⟨S3, h3⟩ : ∃ S3, S3 = S2 ++ [O.lst [.bl false, .bl false, .bl false, .bl true, .bl false, .bl false, .bl false, .bl false]] := ⟨_, rfl⟩
  obtain ⟨ns, hns⟩ : ∃ ns : List Str, ns = [PySem.Str.ofString "word", PySem.Str.ofString "number", PySem.Str.ofString "pair", PySem.Str.ofString "many", PySem.Str.ofString "tables", PySem.Str.ofString "text", PySem.Str.ofString "row", PySem.Str.ofString "name"] := ⟨_, rfl⟩
  obtain ⟨S4, h4⟩ : ∃ S4, S4 = S3 ++ [O.lst (ns.map A.str)] := ⟨_, rfl⟩
  have a1 : lstAt S2 S.length = some [.bl false, .bl false, .bl false, .bl true] := by rw [h2, h1]; exact lst_app lst_lay
  have a2 : lstAt S2 S1.length = some [.bl false, .bl false, .bl false, .bl false] := by rw [h2]; exact lst_lay
  have ec := cat_r a1 a2 (by decide)
  have a3 : lstAt S4 S2.length = some [.bl false, .bl false, .bl false, .bl true, .bl false, .bl false, .bl false, .bl false] := by rw [h4, h3]; exact lst_app lst_lay
  have a4 : lstAt S4 S3.length = some (ns.map A.str) := by rw [h4]; exact lst_lay
  have hc := comp_lst (cap := [some 1]) (src := iValL (eVar 3)) (t := bYes) (e := eBin (aEq false) (eVar 0) (eVar 1)) (τ := [.exn (PySem.Str.ofString "TooMany"), .str (PySem.Str.ofString "many"), .ref S2.length, .ref S3.length]) (iValL_r (by simp only [ams, bools]) a4) a4 (fun _ => true)
    (fun x => match x with | .str s => .bl (s == PySem.Str.ofString "many") | _ => .non) (fun x _ => rfl) (fun x hx _ => by
      obtain ⟨s, _, rfl⟩ := List.mem_map.mp hx
      simp only [ams, bools]; rfl) (by rw [hns]; decide)
  have en : ((ns.map A.str).filter fun _ => true).map (fun x => match x with | .str s => A.bl (s == PySem.Str.ofString "many") | _ => .non) = [.bl false, .bl false, .bl false, .bl true, .bl false, .bl false, .bl false, .bl false] := by
    rw [List.filter_eq_self.mpr fun _ _ => rfl, List.map_map, hns]
    show [A.bl (PySem.Str.ofString "word" == PySem.Str.ofString "many"), A.bl (PySem.Str.ofString "number" == PySem.Str.ofString "many"), A.bl (PySem.Str.ofString "pair" == PySem.Str.ofString "many"), A.bl (PySem.Str.ofString "many" == PySem.Str.ofString "many"), A.bl (PySem.Str.ofString "tables" == PySem.Str.ofString "many"), A.bl (PySem.Str.ofString "text" == PySem.Str.ofString "many"), A.bl (PySem.Str.ofString "row" == PySem.Str.ofString "many"), A.bl (PySem.Str.ofString "name" == PySem.Str.ofString "many")] = _
    rw [show (PySem.Str.ofString "word" == PySem.Str.ofString "many") = false by decide +kernel, show (PySem.Str.ofString "number" == PySem.Str.ofString "many") = false by decide +kernel, show (PySem.Str.ofString "pair" == PySem.Str.ofString "many") = false by decide +kernel, show (PySem.Str.ofString "many" == PySem.Str.ofString "many") = true by decide +kernel, show (PySem.Str.ofString "tables" == PySem.Str.ofString "many") = false by decide +kernel, show (PySem.Str.ofString "text" == PySem.Str.ofString "many") = false by decide +kernel, show (PySem.Str.ofString "row" == PySem.Str.ofString "many") = false by decide +kernel, show (PySem.Str.ofString "name" == PySem.Str.ofString "many") = false by decide +kernel]
  rw [en] at hc
  have ee := aEq_of (S := S4 ++ [O.lst [.bl false, .bl false, .bl false, .bl true, .bl false, .bl false, .bl false, .bl false]]) (a := .ref S2.length) (b := .ref S4.length) (k := true) (by
    show (lstAt _ _).bind _ = _
    rw [lst_app a3, Option.bind_some, lst_lay, Option.bind_some]; rfl)
  have ec : aAdd (.ref S.length) (.ref S1.length) S2 = .ok (.ref S2.length) S3 := by rw [ec, h3]; rfl
  have e4 : newL [A.str (PySem.Str.ofString "word"), .str (PySem.Str.ofString "number"), .str (PySem.Str.ofString "pair"), .str (PySem.Str.ofString "many"), .str (PySem.Str.ofString "tables"), .str (PySem.Str.ofString "text"), .str (PySem.Str.ofString "row"), .str (PySem.Str.ofString "name")] S3 = .ok (.ref S3.length) S4 := by
    rw [newL_8, h4, hns]; rfl
  refine ⟨S4 ++ [O.lst [.bl false, .bl false, .bl false, .bl true, .bl false, .bl false, .bl false, .bl false]], ?_, ?_⟩
  · unfold F_law_is m_law_is N_law_is
    simp only [ams, amx, bools, nlen, Nat.reduceAdd, Nat.reduceSub, <- h1, <- h2, ec, e4, hc, ee]
  · rw [h4, h3, h2, h1]; exact Kp.refl.lay.lay.lay.lay.lay
theorem refused_ok {S : Sto} {L : Nat} {xs : List A} (h : lstAt S L = some xs) (hl : 12 < xs.length) (hu : xs.length <= 1000) : ∃ S', F_law_refused [.ref L] S = .ok (.bl true) S' /\ Kp0 S S' := by
  obtain ⟨S', e, k⟩ := law_is_ok S
  refine ⟨S', ?_, k⟩
  unfold F_law_refused m_law_refused N_law_refused
  simp only [ams, amx, bools, nlen, Nat.reduceAdd, Nat.reduceSub, road_no h hl hu, e]
end K62
set_option Elab.async false
set_option linter.all false
set_option maxRecDepth 100000
set_option maxHeartbeats 4000000
namespace K62
open PySem L2 Am
open Mo
theorem bOr_b {t u : Te} {τ : List A} {S : Sto} {x y : Bool} (h1 : t τ S = .ok x S) (h2 : u τ S = .ok y S) : bOr t u τ S = .ok (x || y) S := by
  cases x with
  | true => simp only [ams, bools, h1, Bool.true_or]
  | false => simp only [ams, bools, h1, h2, Bool.false_or]
theorem toB_b {c : Ex} {τ : List A} {S : Sto} {b : Bool} (h : c τ S = .ok (.bl b) S) : toB c τ S = .ok b S := by simp only [ams, h]
theorem app_row {S S0 : Sto} {L D k i1 i2 i3 : Nat} {ds : List Nat} {row : List Int} {T : List (List Int)} {x y z : Int} {τ : List A} (hτ : τ = [.ref L, .ref D, .int k, .int (row.getD k 0), .int (row.getD (k + 1) 0), .int (row.getD (k + 2) 0)]) (h : lstAt S L = some (row.map .int)) (hl : row.length <= 100)
    (t : Tab S D ds T) (hT : T.length <= 1000) (kp : Kp0 S0 S) (hD : S0.length <= D) (hLD : L < S0.length) (e1 : ∀ U, eVar i1 τ U = .ok (.int x) U) (e2 : ∀ U, eVar i2 τ U = .ok (.int y) U) (e3 : ∀ U, eVar i3 τ U = .ok (.int z) U) :
    ∃ S', sExpr (eMe mAppend (eVar 1) (lCons (eBin aAdd (eBin aAdd (eSl (eVar 0) pNone (pSome (eVar 2))) (eLst (lCons (eVar i1) (lCons (eVar i2) (lCons (eVar i3) (lNil)))))) (eSl (eVar 0) (pSome (eBin aAdd (eVar 2) (eC (.int 3)))) pNone)) (lNil))) τ S = .nx τ S' /\ Tab S' D (ds ++ [S.length + 4]) (T ++ [row.take k ++ [x, y, z] ++ row.drop (k + 3)]) /\ Kp0 S0 S' /\ lstAt S' L = some (row.map .int) := by
  have em : ∀ U, eLst (lCons (eVar i1) (lCons (eVar i2) (lCons (eVar i3) (lNil)))) τ U = .ok (.ref U.length) (U ++ [.lst ([x, y, z].map .int)]) := fun U => by
    show ((eVar i1 τ U).bind fun a S1 => ((((eVar i2 τ S1).bind fun b S2 => (((eVar i3 τ S2).bind fun c S3 => (R.ok ([] : List A) S3).bind fun cs S4 => .ok (c :: cs) S4)).bind fun cs S4 => .ok (b :: cs) S4)).bind fun cs S4 => .ok (a :: cs) S4)).bind (fun as S1 => newL as S1) = _
    rw [e1, R.bind_ok, e2, R.bind_ok, e3]
    rfl
  subst hτ
  obtain ⟨S', e, g, k1, n⟩ := cat3 (S := S) (L := L) (i := k) (j := k + 3) (r := row) (mid := [x, y, z]) (ρ := [.ref D, .int k, .int (row.getD k 0), .int (row.getD (k + 1) 0), .int (row.getD (k + 2) 0)]) (ci := eVar 2) (cj := eBin aAdd (eVar 2) (eC (.int 3))) (cm := eLst (lCons (eVar i1) (lCons (eVar i2) (lCons (eVar i3) (lNil))))) h hl (Nat.le_refl 3) (fun T => rfl) (fun T => by simp only [ams, bools]; rfl) fun T kT => em T
  have t' := t.kp0 k1
  have tl := t'.len
  have eA : mAppend (.ref D) [.ref (S.length + 4)] S' = .ok .non (S'.set D (.lst ((ds ++ [S.length + 4]).map .ref))) := by
    show opt (lstAt S' D) _ = _
    rw [t'.top, opt_some, List.map_append]
    exact gd_of (by rw [List.length_map, sizeLine_eq]; omega)
  have lt := t.lt D (List.mem_cons_self ..)
  refine ⟨S'.set D (.lst ((ds ++ [S.length + 4]).map .ref)), ?_, ⟨lst_set (by omega), ?_, ?_⟩, (kp.trans k1).set (.inr hD), ?_⟩
  · have : (eMe mAppend (eVar 1) (lCons (eBin aAdd (eBin aAdd (eSl (eVar 0) pNone (pSome (eVar 2))) (eLst (lCons (eVar i1) (lCons (eVar i2) (lCons (eVar i3) (lNil)))))) (eSl (eVar 0) (pSome (eBin aAdd (eVar 2) (eC (.int 3)))) pNone)) (lNil))) [.ref L, .ref D, .int k, .int (row.getD k 0), .int (row.getD (k + 1) 0), .int (row.getD (k + 2) 0)] S = .ok .non (S'.set D (.lst ((ds ++ [S.length + 4]).map .ref))) := by
      unfold eMe
      rw [show eVar 1 [.ref L, .ref D, .int k, .int (row.getD k 0), .int (row.getD (k + 1) 0), .int (row.getD (k + 2) 0)] S = .ok (.ref D) S from rfl, R.bind_ok]
      show opt ((A.ref D).lst? S) _ = _
      rw [show (A.ref D).lst? S = some (ds.map .ref) from t.top, opt_some]
      show ((((eBin aAdd (eBin aAdd (eSl (eVar 0) pNone (pSome (eVar 2))) (eLst (lCons (eVar i1) (lCons (eVar i2) (lCons (eVar i3) (lNil)))))) (eSl (eVar 0) (pSome (eBin aAdd (eVar 2) (eC (.int 3)))) pNone)) (.ref L :: [.ref D, .int k, .int (row.getD k 0), .int (row.getD (k + 1) 0), .int (row.getD (k + 2) 0)]) S).bind fun a S1 => (R.ok ([] : List A) S1).bind fun as S2 => .ok (a :: as) S2).bind _) = _
      rw [e]
      exact eA
    show RS.of (eMe mAppend _ _ _ S) _ = _
    rw [this]; rfl
  · refine Rows.app (t'.rows.mono fun q hq xs e => ?_) ⟨?_, trivial⟩
    · rw [lst_set_ne (fun z => (List.nodup_cons.mp t.nd).1 (by rw [z]; exact hq))]; exact e
    · rw [lst_set_ne (by omega)]; exact g
  · rw [<- List.cons_append, List.nodup_append]
    refine ⟨t.nd, by simp, fun a ha b hb z => ?_⟩
    have := t.lt a ha
    have hb' : b = S.length + 4 := by simpa using hb
    omega
  · rw [lst_set_ne (show D ≠ L by omega)]
    exact k1.lst _ _ (fun z => z) h
theorem lm_ok {S : Sto} {L : Nat} {r : List Int} (h : lstAt S L = some (r.map .int)) (hl : r.length <= 100) : ∃ (D : Nat) (ds : List Nat) (S' : Sto), F_law_moved [.ref L] S = .ok (.ref D) S' /\ Tab S' D ds (lms r) /\ Kp0 S S' /\ ∀ q ∈ D :: ds, S.length <= q := by
  have lL := lst_lt h
  unfold F_law_moved m_law_moved N_law_moved
  simp only [ams, bools, nlen, Nat.reduceAdd, Nat.reduceSub]
  refine for_rng (lo := 0) (hi := (r.length : Int) - 2) (S1 := S ++ [.lst []]) (show i_law_moved_1 _ _ = _ from iRng1_ap (by simp only [ams, bools, lst_app h, List.length_map]) (bnd_of (by omega) (by omega)))
    (fun t τ S1 => (∃ a2 a3 a4 a5, τ = [.ref L, .ref S.length, a2, a3, a4, a5]) /\ ∃ ds, Tab S1 S.length ds ((List.range t).flatMap (lrow r)) /\ (∀ q ∈ ds, S.length <= q) /\ Kp0 S S1 /\ lstAt S1 L = some (r.map .int))
    (fun q => ∃ (D : Nat) (ds : List Nat) (S' : Sto), RS.end (RS.seq q _) = .ok (.ref D) S' /\ Tab S' D ds (lms r) /\ Kp0 S S' /\ ∀ q ∈ D :: ds, S.length <= q) ⟨⟨_, _, _, _, rfl⟩, [], Tab.nil lst_lay, (fun _ h => nomatch h), Kp.refl.lay, lst_app h⟩ ?_ ?_
  · rintro k τ S1 hk ⟨⟨a2, a3, a4, a5, rfl⟩, ds, t, hge, kp, hL⟩
    left
    have kl : k + 2 < r.length := by omega
    rw [show (0 : Int) + (k : Int) = k by omega]
    have x0 : atI (r.map A.int) (k : Int) = some (.int (r.getD k 0)) := ixD rfl (by omega)
    have x1 : atI (r.map A.int) ((k : Int) + 1) = some (.int (r.getD (k + 1) 0)) := ixD (k := k + 1) (by omega) (by omega)
    have x2 : atI (r.map A.int) ((k : Int) + 2) = some (.int (r.getD (k + 2) 0)) := ixD (k := k + 2) (by omega) kl
    have ep : sPar3 3 4 5 (lCons (eBin aIx (eVar 0) (eVar 2)) (lCons (eBin aIx (eVar 0) (eBin aAdd (eVar 2) (eC (.int 1)))) (lCons (eBin aIx (eVar 0) (eBin aAdd (eVar 2) (eC (.int 2)))) (lNil)))) [.ref L, .ref S.length, .int k, a3, a4, a5] S1 = .nx [.ref L, .ref S.length, .int k, .int (r.getD k 0), .int (r.getD (k + 1) 0), .int (r.getD (k + 2) 0)] S1 :=
      sPar3_ap (by simp only [ams, bools, hL, x0, x1, x2])
    have tl : ∀ n, ((List.range n).flatMap (lrow r)).length <= 2 * n := fun n => by
      induction n with
      | zero => exact Nat.le_refl _
      | succ n ih =>
        rw [List.range_succ, List.flatMap_append, List.length_append, List.flatMap_cons, List.flatMap_nil, List.append_nil]
        have : (lrow r n).length <= 2 := by
          unfold lrow
          rw [List.length_append]
          split <;> split <;> simp
        omega
    have tk := tl k
    have chA : ∀ T : Sto, (bOr (toB (eCh aLe aLt (eVar 3) (eVar 5) (eVar 4))) (toB (eCh aLe aLt (eVar 4) (eVar 5) (eVar 3)))) [.ref L, .ref S.length, .int k, .int (r.getD k 0), .int (r.getD (k + 1) 0), .int (r.getD (k + 2) 0)] T = .ok (lA r k) T := fun T =>
      bOr_b (toB_b (ch_b (a := .int (r.getD k 0)) (b := .int (r.getD (k + 2) 0)) (c := .int (r.getD (k + 1) 0)) rfl rfl (by simp only [ams]) rfl (by simp only [ams]))) (toB_b (ch_b (a := .int (r.getD (k + 1) 0)) (b := .int (r.getD (k + 2) 0)) (c := .int (r.getD k 0)) rfl rfl (by simp only [ams]) rfl (by simp only [ams])))
    have chB : ∀ T : Sto, (bOr (toB (eCh aLt aLe (eVar 4) (eVar 3) (eVar 5))) (toB (eCh aLt aLe (eVar 5) (eVar 3) (eVar 4)))) [.ref L, .ref S.length, .int k, .int (r.getD k 0), .int (r.getD (k + 1) 0), .int (r.getD (k + 2) 0)] T = .ok (lB r k) T := fun T =>
      bOr_b (toB_b (ch_b (a := .int (r.getD (k + 1) 0)) (b := .int (r.getD k 0)) (c := .int (r.getD (k + 2) 0)) rfl rfl (by simp only [ams]) rfl (by simp only [ams]))) (toB_b (ch_b (a := .int (r.getD (k + 2) 0)) (b := .int (r.getD k 0)) (c := .int (r.getD (k + 1) 0)) rfl rfl (by simp only [ams]) rfl (by simp only [ams])))
    have drp : ∀ {i : Nat}, i < r.length -> r.drop i = r.getD i 0 :: r.drop (i + 1) := fun {i} hi => by
      rw [List.drop_eq_getElem_cons hi, List.getD_eq_getElem?_getD, List.getElem?_eq_getElem hi]; rfl
    have w1 : r.take k ++ [r.getD (k + 1) 0, r.getD k 0, r.getD (k + 2) 0] ++ r.drop (k + 3) = chg r k := by
      rw [chg_eq (by omega), drp kl]; simp
    have w2 : r.take k ++ [r.getD k 0, r.getD (k + 2) 0, r.getD (k + 1) 0] ++ r.drop (k + 3) = chg r (k + 1) := by
      rw [chg_eq (show k + 1 + 1 < r.length by omega)]
      have : r.take (k + 1) = r.take k ++ [r.getD k 0] := by
        rw [List.take_succ_eq_append_getElem (show k < r.length by omega), List.getD_eq_getElem?_getD, List.getElem?_eq_getElem (show k < r.length by omega)]; rfl
      rw [this]; simp
    have st1 : ∃ S2 ds2, (sIf (bOr (toB (eCh aLe aLt (eVar 3) (eVar 5) (eVar 4))) (toB (eCh aLe aLt (eVar 4) (eVar 5) (eVar 3))))
 (sExpr (eMe mAppend (eVar 1) (lCons (eBin aAdd (eBin aAdd (eSl (eVar 0) pNone (pSome (eVar 2))) (eLst (lCons (eVar 4) (lCons (eVar 3) (lCons (eVar 5) (lNil)))))) (eSl (eVar 0) (pSome (eBin aAdd (eVar 2) (eC (.int 3)))) pNone)) (lNil))))
 (sNil)) [.ref L, .ref S.length, .int k, .int (r.getD k 0), .int (r.getD (k + 1) 0), .int (r.getD (k + 2) 0)] S1 = .nx [.ref L, .ref S.length, .int k, .int (r.getD k 0), .int (r.getD (k + 1) 0), .int (r.getD (k + 2) 0)] S2 /\ Tab S2 S.length ds2 ((List.range k).flatMap (lrow r) ++ (if lA r k = true then [chg r k] else [])) /\ (∀ q ∈ ds2, S.length <= q) /\ Kp0 S S2 /\ lstAt S2 L = some (r.map .int) := by
      cases c : lA r k
      · refine ⟨S1, ds, ?_, by simpa using t, hge, kp, hL⟩
        simp only [sIf_ap, chA, c, R.bind_ok, RS.of_ok, kIf_f, sNil_ap]
      · obtain ⟨S2, e2, t2, k2, h2⟩ := app_row (i1 := 4) (i2 := 3) (i3 := 5) (x := r.getD (k + 1) 0) (y := r.getD k 0) (z := r.getD (k + 2) 0) rfl hL hl t (by omega) kp (Nat.le_refl _) lL (fun U => rfl) (fun U => rfl) (fun U => rfl)
        rw [w1] at t2
        refine ⟨S2, _, ?_, t2, fun q hq => ?_, k2, h2⟩
        · simp only [sIf_ap, chA, c, R.bind_ok, RS.of_ok, kIf_t]
          exact e2
        · rcases List.mem_append.mp hq with z | z
          · exact hge q z
          · have := kp.len
            have : q = S1.length + 4 := by simpa using z
            omega
    obtain ⟨S2, ds2, e2, t2, hge2, k2, h2⟩ := st1
    have st2 : ∃ S3 ds3, (sIf (bOr (toB (eCh aLt aLe (eVar 4) (eVar 3) (eVar 5))) (toB (eCh aLt aLe (eVar 5) (eVar 3) (eVar 4))))
 (sExpr (eMe mAppend (eVar 1) (lCons (eBin aAdd (eBin aAdd (eSl (eVar 0) pNone (pSome (eVar 2))) (eLst (lCons (eVar 3) (lCons (eVar 5) (lCons (eVar 4) (lNil)))))) (eSl (eVar 0) (pSome (eBin aAdd (eVar 2) (eC (.int 3)))) pNone)) (lNil))))
 (sNil)) [.ref L, .ref S.length, .int k, .int (r.getD k 0), .int (r.getD (k + 1) 0), .int (r.getD (k + 2) 0)] S2 = .nx [.ref L, .ref S.length, .int k, .int (r.getD k 0), .int (r.getD (k + 1) 0), .int (r.getD (k + 2) 0)] S3 /\ Tab S3 S.length ds3 ((List.range k).flatMap (lrow r) ++ (if lA r k = true then [chg r k] else []) ++ (if lB r k = true then [chg r (k + 1)] else [])) /\ (∀ q ∈ ds3, S.length <= q) /\ Kp0 S S3 /\ lstAt S3 L = some (r.map .int) := by
      cases c : lB r k
      · refine ⟨S2, ds2, ?_, by simpa using t2, hge2, k2, h2⟩
        simp only [sIf_ap, chB, c, R.bind_ok, RS.of_ok, kIf_f, sNil_ap]
      · have tl2 : ((List.range k).flatMap (lrow r) ++ (if lA r k = true then [chg r k] else [])).length <= 1000 := by
          rw [List.length_append]
          have : (if lA r k = true then [chg r k] else []).length <= 1 := by split <;> simp
          omega
        obtain ⟨S3, e3, t3, k3, h3⟩ := app_row (i1 := 3) (i2 := 5) (i3 := 4) (x := r.getD k 0) (y := r.getD (k + 2) 0) (z := r.getD (k + 1) 0) rfl h2 hl t2 tl2 k2 (Nat.le_refl _) lL (fun U => rfl) (fun U => rfl) (fun U => rfl)
        rw [w2] at t3
        refine ⟨S3, _, ?_, t3, fun q hq => ?_, k3, h3⟩
        · simp only [sIf_ap, chB, c, R.bind_ok, RS.of_ok, kIf_t]
          exact e3
        · rcases List.mem_append.mp hq with z | z
          · exact hge2 q z
          · have := k2.len
            have : q = S2.length + 4 := by simpa using z
            omega
    obtain ⟨S3, ds3, e3, t3, hge3, k3, h3⟩ := st2
    refine ⟨[.ref L, .ref S.length, .int k, .int (r.getD k 0), .int (r.getD (k + 1) 0), .int (r.getD (k + 2) 0)], S3, ?_, ⟨_, _, _, _, rfl⟩, ds3, ?_, hge3, k3, h3⟩
    · unfold b_law_moved_1
      show RS.seq (sPar3 3 4 5 _ [.ref L, .ref S.length, .int k, a3, a4, a5] S1) _ = _
      rw [ep]
      show RS.seq (sIf _ _ _ _ S1) _ = _
      rw [e2]
      exact e3
    · rw [List.range_succ, List.flatMap_append, List.flatMap_cons, List.flatMap_nil, List.append_nil]
      unfold lrow
      rw [<- List.append_assoc]
      exact t3
  · rintro τ S1 ⟨⟨a2, a3, a4, a5, rfl⟩, ds, t, hge, kp, hL⟩
    simp only [ams, bools]
    refine ⟨_, ds, _, rfl, ?_, kp, fun q hq => ?_⟩
    · unfold lms
      rw [show r.length - 2 = ((r.length : Int) - 2 - 0).toNat by omega]
      exact t
    · rcases List.mem_cons.mp hq with rfl | z
      · exact Nat.le_refl _
      · exact hge q z
end K62
set_option Elab.async false
set_option linter.all false
set_option maxRecDepth 100000
set_option maxHeartbeats 4000000
namespace K62
open PySem L2 Am
open Mo Ld
theorem rows_loop {S : Sto} {n : Nat} {rs : List Nat} {T : List (List Int)} {t1 t2 t3 t4 t5 : A} (h : Tab S n rs T) (hr : ∀ i, (T.getD i []).length <= 1000) :
    ∃ (a2 : A) (S' : Sto), sFor i_law_is_road_1 (gNm 2) b_law_is_road_1 [.ref n, t1, t2, t3, t4, t5] S = .nx [.ref n, t1, a2, t3, t4, t5] S' /\ Kp0 S S' := by
  refine for_lst (n := n) (xs := rs.map .ref) (S1 := S) (show i_law_is_road_1 _ _ = _ from iVal_r (by simp only [ams, bools]) h.top)
    (fun i τ S1 => (∃ a2, τ = [.ref n, t1, a2, t3, t4, t5]) /\ Kp0 S S1)
    (fun r => ∃ (a2 : A) (S' : Sto), r = .nx [.ref n, t1, a2, t3, t4, t5] S' /\ Kp0 S S') ⟨⟨_, rfl⟩, Kp.refl⟩ (fun i τ S1 ⟨_, k⟩ => k.lst _ _ (fun z => z) h.top) ?_ ?_
  · rintro i z τ S1 hz ⟨⟨a2, rfl⟩, k⟩
    rw [List.getElem?_map] at hz
    obtain ⟨r, hr', rfl⟩ := Option.map_eq_some_iff.mp hz
    have hrow := k.lst _ _ (fun z => z) (h.rows.get hr').2
    have hRl := hr i
    generalize T.getD i [] = R at hrow hRl
    refine ⟨[.ref n, t1, .ref r, t3, t4, t5], S1, rfl, .inl ?_⟩
    have ec := comp_lst (cap := []) (t := bYes) (e := eAnd (eCall (f2 aIsi) (lCons (eVar 0) (lCons (eC (.ty "int")) (lNil)))) (eNot (eCall (f2 aIsi) (lCons (eVar 0) (lCons (eC (.ty "bool")) (lNil)))))) (τ := [.ref n, t1, .ref r, t3, t4, t5]) (src := iVal (eVar 2)) (iVal_r (by simp only [ams, bools]) hrow) hrow (fun _ => true) (fun _ => .bl true)
      (fun x hx => by simp only [ams, bools]) (fun x hx _ => by
        obtain ⟨v, _, rfl⟩ := List.mem_map.mp hx
        simp only [ams, bools, show isKd .int "int" = some true from rfl, show isKd .int "bool" = some false from rfl, Bool.not_false]) (by rw [List.length_map]; omega)
    have eb : ((R.map A.int).filter fun _ => true).map (fun _ => A.bl true) = (R.map fun _ => true).map A.bl := by
      rw [List.filter_eq_self.mpr fun _ _ => rfl, List.map_map, List.map_map]; rfl
    rw [eb] at ec
    have ea : aAll (.ref S1.length) (S1 ++ [O.lst ((R.map fun _ => true).map A.bl)]) = .ok (.bl true) (S1 ++ [O.lst ((R.map fun _ => true).map A.bl)]) := by
      show opt (lstAt _ S1.length) _ = _
      rw [lst_lay, opt_some, bls_map, opt_some]
      congr 2
      simp
    unfold b_law_is_road_1
    simp only [ams, bools, hrow, Option.map_some, show isKd .lst "list" = some true from rfl, Bool.not_true, ec, ea]
    exact ⟨_, _, rfl, ⟨_, rfl⟩, k.lay⟩
  · rintro τ S1 ⟨⟨a2, rfl⟩, k⟩
    exact ⟨_, _, rfl, k⟩
theorem moves_loop {S : Sto} {n : Nat} {rs : List Nat} {R : List (List Int)} {r0 c : List Int} {t1 t2 t3 t4 t5 : A} (h : Tab S n rs R) (hr : Road r0 c R) (h0 : r0.length <= 100) (hl : R.length <= 1000) :
    ∃ (a3 : A) (S' : Sto), sFor i_law_is_road_2 (gNm 3) b_law_is_road_2 [.ref n, t1, t2, t3, t4, t5] S = .nx [.ref n, t1, t2, a3, t4, t5] S' /\ Kp0 S S' := by
  have hq := h.len
  refine for_rng (lo := 0) (hi := (R.length : Int) - 1) (S1 := S) (show i_law_is_road_2 _ _ = _ from iRng1_ap (by simp only [ams, bools, h.top, List.length_map, hq]) (bnd_of (by omega) (by omega)))
    (fun i τ S1 => (∃ a3, τ = [.ref n, t1, t2, a3, t4, t5]) /\ Kp0 S S1)
    (fun r => ∃ (a3 : A) (S' : Sto), r = .nx [.ref n, t1, t2, a3, t4, t5] S' /\ Kp0 S S') ⟨⟨_, rfl⟩, Kp.refl⟩ ?_ ?_
  · rintro i τ S1 hi ⟨⟨a3, rfl⟩, k⟩
    left
    rw [show (0 : Int) + (i : Int) = i by omega]
    have h1 := h.kp0 k
    have g0 : rs[i]? = some (rs.getD i 0) := by rw [List.getD_eq_getElem?_getD, List.getElem?_eq_getElem (by omega)]; rfl
    have g1 : rs[i + 1]? = some (rs.getD (i + 1) 0) := by rw [List.getD_eq_getElem?_getD, List.getElem?_eq_getElem (by omega)]; rfl
    have x0 : atI (rs.map A.ref) (i : Int) = some (.ref (rs.getD i 0)) := atI_at (k := i) rfl (by rw [List.getElem?_map, g0]; rfl)
    have x1 : atI (rs.map A.ref) ((i : Int) + 1) = some (.ref (rs.getD (i + 1) 0)) := atI_at (k := i + 1) (by omega) (by rw [List.getElem?_map, g1]; rfl)
    have w0 := (h1.rows.get g0).2
    have w1 := (h1.rows.get g1).2
    have l0 := hr.len i (by omega)
    obtain ⟨D, ds, S2, e2, t2', k2, _⟩ := lm_ok w0 (by omega)
    have mem : R.getD (i + 1) [] ∈ lms (R.getD i []) := Mo.both.mp (hr.ch i (by omega))
    have en : aIn true (.ref (rs.getD (i + 1) 0)) (.ref D) S2 = .ok (.bl false) S2 := by
      show opt (lstAt S2 D) _ = _
      rw [t2'.top, opt_some, in_rows (k2.lst _ _ (fun z => z) w1) t2'.rows, opt_some, decide_eq_true mem]; rfl
    unfold b_law_is_road_2
    simp only [ams, bools, h1.top, x0, x1, e2, en]
    exact ⟨_, _, rfl, ⟨_, rfl⟩, k.trans k2⟩
  · rintro τ S1 ⟨⟨a3, rfl⟩, k⟩
    exact ⟨_, _, rfl, k⟩
theorem due_loop {S S0 : Sto} {n D : Nat} {rs : List Nat} {T : List (List Int)} {t0 t1 t2 t3 t5 : A} (hs0 : i_law_is_road_3 [t0, t1, t2, t3, .ref D, t5] S0 = .ok (rvSrc n (rs.map A.ref).length) S) (h : Tab S n rs T) (hl : (Sy.plain T).length <= 1000) (hD : lstAt S D = some []) :
    ∃ (D' : Nat) (a5 : A) (S' : Sto), sFor i_law_is_road_3 (gNm 5) b_law_is_road_3 [t0, t1, t2, t3, .ref D, t5] S0 = .nx [t0, t1, t2, t3, .ref D', a5] S' /\ lstAt S' D' = some ((Sy.plain T).map .int) /\ Kp0 S S' := by
  have hq := h.len
  rw [List.length_map, hq] at hs0
  have bnd : ∀ i, (T.reverse.take i).flatten.length <= 1000 := fun i => by
    refine Nat.le_trans ?_ hl
    unfold Sy.plain
    conv => rhs; rw [<- List.take_append_drop i T.reverse, List.flatten_append, List.length_append]
    exact Nat.le_add_right _ _
  unfold sFor
  rw [hs0]
  refine for_go (s := rvSrc n T.length)
    (fun i τ S1 => ∃ (D1 : Nat) (a5 : A), τ = [t0, t1, t2, t3, .ref D1, a5] /\ lstAt S1 D1 = some ((T.reverse.take i).flatten.map .int) /\ Kp0 S S1)
    (fun q => ∃ (D' : Nat) (a5 : A) (S' : Sto), q = .nx [t0, t1, t2, t3, .ref D', a5] S' /\ lstAt S' D' = some ((Sy.plain T).map .int) /\ Kp0 S S')
    ?_ ?_ T.length 0 _ _ rfl ⟨D, _, rfl, hD, Kp.refl⟩
  · rintro i τ S1 hi ⟨D1, a5, rfl, g1, k1⟩
    have hi : i < T.length := hi
    have h1 := h.kp0 k1
    have hj : T.length - 1 - i < rs.length := by omega
    have hrow := (h1.rows.get (i := T.length - 1 - i) (r := rs[T.length - 1 - i]) (List.getElem?_eq_getElem hj)).2
    have hi2 : i < T.reverse.length := by rw [List.length_reverse]; exact hi
    have hR : T.getD (T.length - 1 - i) [] = T.reverse[i] := by
      rw [List.getD_eq_getElem?_getD, List.getElem?_eq_getElem (show T.length - 1 - i < T.length by omega), List.getElem_reverse]; rfl
    rw [hR] at hrow
    have e1 : (T.reverse.take (i + 1)).flatten = (T.reverse.take i).flatten ++ T.reverse[i] := by
      rw [List.take_succ_eq_append_getElem hi2, List.flatten_append]; simp
    have b1 := bnd (i + 1)
    rw [e1, List.length_append] at b1
    refine ⟨.ref rs[T.length - 1 - i], [t0, t1, t2, t3, .ref D1, .ref rs[T.length - 1 - i]], S1, ?_, rfl, .inl ?_⟩
    · show (lstAt S1 n).bind _ = _
      rw [h1.top, Option.bind_some, if_pos hi, List.getElem?_map, List.getElem?_eq_getElem hj]; rfl
    have ec := cat_r g1 hrow (by rw [List.length_map, List.length_map]; omega)
    unfold b_law_is_road_3
    simp only [ams, bools, ec]
    exact ⟨_, _, rfl, _, _, rfl, by rw [lst_lay, e1, List.map_append], k1.lay⟩
  · rintro τ S1 ⟨D1, a5, rfl, g1, k1⟩
    have g1 : lstAt S1 D1 = some ((T.reverse.take T.length).flatten.map .int) := g1
    rw [List.take_of_length_le (by rw [List.length_reverse]; exact Nat.le_refl _)] at g1
    exact ⟨rfl, _, _, _, rfl, g1, k1⟩
theorem is_road_ok {S : Sto} {n L : Nat} {rs : List Nat} {R : List (List Int)} {xs : List Int} (h : Tab S n rs R) (hL : lstAt S L = some (xs.map .int)) (hr : Road xs (Sy.plain (Tb.tabs xs xs.length).1) R) (hx : xs.length <= 100) (hl : R.length <= 1000) :
    ∃ S', F_law_is_road [.ref n, .ref L] S = .ok (.bl true) S' /\ Kp0 S S' := by
  have hq := h.len
  have ne := hr.ne
  have g0 : rs[0]? = some (rs.getD 0 0) := by rw [List.getD_eq_getElem?_getD, List.getElem?_eq_getElem (by omega)]; rfl
  have x0 : atI (rs.map A.ref) 0 = some (.ref (rs.getD 0 0)) := atI_at (k := 0) rfl (by rw [List.getElem?_map, g0]; rfl)
  have w0 := (h.rows.get g0).2
  rw [hr.first] at w0
  have en := aNe_of (eq_il w0 hL)
  rw [decide_eq_true rfl] at en
  have el : ((R.length : Int) == 0) = false := by rw [beq_eq_false_iff_ne]; omega
  obtain ⟨a2, S1, e1, k1⟩ := rows_loop (t1 := .ref L) (t2 := .unb) (t3 := .unb) (t4 := .unb) (t5 := .unb) h fun i => by
    by_cases c : i < R.length
    · have := hr.len i c; omega
    · rw [List.getD_eq_getElem?_getD, List.getElem?_eq_none (by omega)]; simp
  have h1 := h.kp0 k1
  obtain ⟨a3, S2, e2, k2⟩ := moves_loop (t1 := .ref L) (t2 := a2) (t3 := .unb) (t4 := .unb) (t5 := .unb) h1 hr hx hl
  have h2 := h1.kp0 k2
  obtain ⟨S3, hS3⟩ : ∃ S3, S3 = S2 ++ [O.lst []] := ⟨_, rfl⟩
  have k3 : Kp0 S2 S3 := by rw [hS3]; exact Kp.refl.lay
  have hD : lstAt S3 S2.length = some [] := by rw [hS3]; exact lst_lay
  have hL3 := ((k1.trans k2).trans k3).lst _ _ (fun z => z) hL
  obtain ⟨ts, qs, nt, mt, S4, e4, hT, hQ, k4, _, _, _⟩ := ltabs_ok hL3 hx
  have pl : (Sy.plain (Tb.tabs xs xs.length).1).length = xs.length := by rw [Sy.plain_len, Tb.tabs_sum]
  have z0 : atI ([.ref nt, .ref mt] : List A) 0 = some (.ref nt) := atI_0
  have hs0 : i_law_is_road_3 [.ref n, .ref L, a2, a3, .ref S2.length, .unb] S3 = .ok (rvSrc nt (ts.map A.ref).length) S4 := iRv_ap (by simp only [ams, bools, e4, z0]) hT.top
  obtain ⟨D', a5, S5, e5, g5, k5⟩ := due_loop hs0 hT (by omega) (k4.lst _ _ (fun z => z) hD)
  have k35 := k3.trans (k4.trans k5)
  have h5 := h2.kp0 k35
  obtain ⟨q, y1, _, y2⟩ := last_ix h5 ne
  rw [hr.last] at y2
  have ee := aEq_of (eq_il y2 g5)
  rw [decide_eq_true rfl] at ee
  refine ⟨S5, ?_, (k1.trans k2).trans k35⟩
  unfold F_law_is_road m_law_is_road N_law_is_road
  simp only [ams, bools, nlen, Nat.reduceAdd, Nat.reduceSub, h.top, Option.map_some, show isKd .lst "list" = some true from rfl, Bool.not_true, List.length_map, hq, el, x0, en, e1, e2, <- hS3, e5, h5.top, y1, ee]
end K62
set_option Elab.async false
set_option linter.all false
set_option maxRecDepth 100000
set_option maxHeartbeats 4000000
namespace K62
open PySem L2 Am
open Mo Ld
theorem digs {S : Sto} {b : Nat} {n : Int} {ic : Ic} {τ : List A} (hτ : ∃ y, capA [none, some 2] τ = [y, .ref b]) (hs : ic τ S = .ok (rngSrc 0 n) S) (hb : Bag S b) (n0 : 0 <= n) (hn : n <= 100) :
    ∃ (w : List Int) (S' : Sto), eComp [none, some 2] ic (gNm 0) bYes (eBin aAdd (eC (.int 1)) (eFn F_law_digit (lCons (eVar 1) (lCons (eC (.int 9)) (lNil))))) τ S = .ok (.ref S'.length) (S' ++ [.lst (w.map .int)]) /\ (w.length : Int) = n /\ Bag S' b /\ Kp (· = b) S S' := by
  obtain ⟨y, hy⟩ := hτ
  obtain ⟨ys, S8, g1, g2⟩ := comp_acc (s := rngSrc 0 n) (g := gNm 0) (e := eBin aAdd (eC (.int 1)) (eFn F_law_digit (lCons (eVar 1) (lCons (eC (.int 9)) (lNil))))) (T := fun τ => ∃ y, τ = [y, .ref b])
    (fun i acc S' => ∃ w : List Int, acc = w.map .int /\ w.length = i /\ Bag S' b /\ Kp (· = b) S S')
    (fun i acc τ S' hi ⟨y, hy⟩ ⟨w, hw, hwl, hB, hK⟩ => by
      have hi : i < (n - 0).toNat := hi
      subst hy
      obtain ⟨v, S9, e9, v0, v1, b9, k9⟩ := digit (m := 9) hB (by decide) (by decide)
      refine ⟨.int (0 + (i : Int)), [.int (0 + (i : Int)), .ref b], S', .int (1 + v), S9, if_pos hi, rfl, ⟨_, rfl⟩, by simp only [ams, bools, e9], w ++ [1 + v], ?_, by simp [hwl], b9, hK.trans k9⟩
      rw [hw, List.map_append]; rfl) (fun acc S' _ => rfl)
    (n - 0).toNat 0 [] (capA [none, some 2] τ) S rfl ⟨y, hy⟩ ⟨[], rfl, rfl, hb, Kp.refl⟩
  obtain ⟨w, hw, hwl, hB, hK⟩ := g2
  rw [List.nil_append] at hw
  have hwl : w.length = (n - 0).toNat := hwl
  refine ⟨w, S8, ?_, by omega, hB, hK⟩
  unfold eComp
  rw [hs, R.bind_ok]
  show R.bindN (compGo (rngSrc 0 n) _ _ _ (n - 0).toNat 0 _ _) _ = _
  rw [g1, R.bindN_ok', newL_ok (by rw [hw, List.length_map]; omega), hw]
theorem app_loop {S : Sto} {f : Nat} {fs : List Nat} {U : List (List Int)} {t0 t1 t2 t3 t4 t5 t7 t8 : A} (h : Tab S f fs U) (hr : ∀ i, (U.getD i []).length <= 1000) (hl : U.length <= 1000) :
    ∃ a7 S', sFor i_law_3 (gNm 7) b_law_3 [t0, t1, t2, t3, t4, t5, .ref f, t7, t8] S = .nx [t0, t1, t2, t3, t4, t5, .ref f, a7, t8] S' /\ Kp (· ∈ fs) S S' /\ lstAt S' f = some (fs.map .ref) := by
  refine for_lst (n := f) (xs := fs.map .ref) (S1 := S) (show i_law_3 _ _ = _ from iVal_r (by simp only [ams, bools]) h.top)
    (fun i τ S1 => ∃ (V : List (List Int)) (a7 : A), τ = [t0, t1, t2, t3, t4, t5, .ref f, a7, t8] /\ Tab S1 f fs V /\ (∀ j, (V.getD j []).length <= 1000 + i) /\ i <= 1000 /\ Kp (· ∈ fs) S S1)
    (fun r => ∃ a7 S', r = .nx [t0, t1, t2, t3, t4, t5, .ref f, a7, t8] S' /\ Kp (· ∈ fs) S S' /\ lstAt S' f = some (fs.map .ref)) ⟨U, _, rfl, h, hr, by decide, Kp.refl⟩ (fun i τ S1 ⟨V, _, _, hV, _⟩ => hV.top) ?_ ?_
  · rintro i z τ S1 hz ⟨V, a7, rfl, hV, hVr, hi, k⟩
    rw [List.getElem?_map] at hz
    obtain ⟨r, hr', rfl⟩ := Option.map_eq_some_iff.mp hz
    obtain ⟨hiV, hrow⟩ := hV.rows.get hr'
    have hRl := hVr i
    have lf := h.len
    have hif : i < fs.length := (List.getElem?_eq_some_iff.mp hr').1
    refine ⟨[t0, t1, t2, t3, t4, t5, .ref f, .ref r, t8], S1, rfl, .inl ?_⟩
    unfold b_law_3
    simp only [ams, bools, hrow, List.length_map, gd_lt (show (V.getD i []).length < 16777216 by omega)]
    have h4 := hV.set (i := i) (r := r) (ys := V.getD i [] ++ [1]) hr'
    rw [List.map_append] at h4
    refine ⟨_, _, rfl, V.set i (V.getD i [] ++ [1]), _, rfl, h4, fun j => ?_, by omega, k.set (.inl (List.mem_of_getElem? hr'))⟩
    rw [List.getD_eq_getElem?_getD, List.getElem?_set]
    by_cases hj : i = j
    · rw [if_pos hj, if_pos hiV]; simp only [Option.getD_some, List.length_append, List.length_cons, List.length_nil]; omega
    · rw [if_neg hj, <- List.getD_eq_getElem?_getD]; have := hVr j; omega
  · rintro τ S1 ⟨V, a7, rfl, hV, hVr, hi, k⟩
    exact ⟨_, _, rfl, k, hV.top⟩
theorem turn_ok {S : Sto} {L H : Nat} {xs : List Int} {t0 t1 t2 t5 t6 t7 t8 : A} (hL : lstAt S L = some (xs.map .int)) (hH : lstAt S H = some (xs.map .int)) (hx : xs.length <= 12) :
    ∃ (a6 a7 : A) (S' : Sto), b_law_2 [t0, t1, t2, .ref L, .ref H, t5, t6, t7, t8] S = .nx [t0, t1, t2, .ref L, .ref H, t5, a6, a7, t8] S' /\ Kp0 S S' := by
  obtain ⟨rd, rs, R, S1, e1, t1', r1, l1, k1, f1⟩ := road_ok hH hx
  have hL1 := k1.lst _ _ (fun z => z) hL
  obtain ⟨S2, e2, k2⟩ := is_road_ok t1' hL1 r1 (by omega) (by omega)
  have k12 := k1.trans k2
  have en := aNe_of (eq_il (k12.lst _ _ (fun z => z) hH) (k12.lst _ _ (fun z => z) hL))
  rw [decide_eq_true rfl] at en
  have t2' := t1'.kp0 k2
  obtain ⟨a7, S3, e3, k3, g3⟩ := app_loop (t0 := t0) (t1 := t1) (t2 := t2) (t3 := .ref L) (t4 := .ref H) (t5 := t5) (t7 := t7) (t8 := t8) t2' (fun i => by
    by_cases c : i < R.length
    · have := r1.len i c; omega
    · rw [List.getD_eq_getElem?_getD, List.getElem?_eq_none (by omega)]; simp) (by omega)
  have ln := t1'.len
  have k4 : Kp0 S (S3 ++ [O.lst []]) := (((k12.of0 (b := (· ∈ rs))).trans k3).mono fun n hn hq => absurd (f1 n (List.mem_cons_of_mem _ hq)) (by omega)).lay
  have k5 := k4.set (m := rd) (ys := rs.map .ref ++ [.ref S3.length]) (.inr (f1 rd (List.mem_cons_self ..)))
  refine ⟨.ref rd, a7, _, ?_, k5⟩
  unfold b_law_2
  simp only [ams, amx, bools, e1, e2, Bool.not_true, en, e3, g3]
  have g4 : lstAt (S3 ++ [O.lst []]) rd = some (rs.map .ref) := lst_app g3
  simp only [ams, bools, g4, List.length_map, gd_lt (show rs.length < 16777216 by omega)]
end K62
set_option Elab.async false
set_option linter.all false
set_option maxRecDepth 100000
set_option maxHeartbeats 4000000
namespace K62
open PySem L2 Am
open Mo Ld
theorem law_ok (ns : List Int) (hl : ns.length <= 63) : ∃ S', F_law [.frz (ns.map .int)] [] = .ok (.bl true) S' := by
  unfold F_law m_law N_law
  simp only [ams, bools, nlen, Nat.reduceAdd, Nat.reduceSub]
  refine for_rng (lo := 0) (hi := if (if 6 < (ns.length : Int) then 6 else (ns.length : Int)) > 2 then (if 6 < (ns.length : Int) then 6 else (ns.length : Int)) else 2) (S1 := []) (show i_law_1 _ _ = _ from iRng1_ap (by simp only [ams, bools, List.length_map]) (bnd_of (by split <;> split <;> omega) (by split <;> split <;> omega)))
    (fun _ τ _ => ∃ a1 a2 a3 a4 a5 a6 a7 a8 : A, τ = [.frz (ns.map .int), a1, a2, a3, a4, a5, a6, a7, a8]) (fun r => ∃ S', RS.end (RS.seq r _) = .ok (.bl true) S') ⟨_, _, _, _, _, _, _, _, rfl⟩ ?_ ?_
  · rintro i τ S hi ⟨a1, a2, a3, a4, a5, a6, a7, a8, rfl⟩
    left
    have hi6 : (i : Int) < 6 := by split at hi <;> split at hi <;> omega
    obtain ⟨S1, e1, b1, kp1⟩ := bag_new (S := S) (ns := ns) (k := 0 + (i : Int)) (by omega) (by omega)
    obtain ⟨xs, L, S2, e2, hL, xl, _, b2, kp2, lL⟩ := letters_ok (most := 12) b1 (by decide) (by decide)
    have lb1 := b1.lt
    obtain ⟨d, S3, e3, d0, d1, b3, kp3⟩ := digit (m := 4) b2 (by decide) (by decide)
    have hL3 := kp3.lst _ _ (show L ≠ S.length by omega) hL
    have pre : ∃ (xs' : List Int) (L' : Nat) (S4 : Sto), (sIf (toB (eBin (aEq false) (eFn F_law_digit (lCons (eVar 2) (lCons (eC (.int 4)) (lNil)))) (eC (.int 1))))
 (sAsg (eSl (eBin aAdd (eVar 3) (eComp [none, some 2] (iRng1 (eC (.int 12))) (gNm 0) (bYes) (eBin aAdd (eC (.int 1)) (eFn F_law_digit (lCons (eVar 1) (lCons (eC (.int 9)) (lNil))))))) pNone (pSome (eC (.int 12)))) (gNm 3))
 (sNil)) [.frz (ns.map .int), .int (0 + (i : Int)), .ref S.length, .ref L, a4, a5, a6, a7, a8] S2 = .nx [.frz (ns.map .int), .int (0 + (i : Int)), .ref S.length, .ref L', a4, a5, a6, a7, a8] S4 /\ lstAt S4 L' = some (xs'.map .int) /\ xs'.length <= 12 /\ Bag S4 S.length := by
      cases hd : (d == 1)
      · refine ⟨xs, L, S3, ?_, hL3, by omega, b3⟩
        simp only [ams, bools, e3, hd]
      · obtain ⟨w, S4, e4, wl, b4, kp4⟩ := digs (S := S3) (b := S.length) (n := 12) (ic := iRng1 (eC (.int 12))) (τ := [.frz (ns.map .int), .int (0 + (i : Int)), .ref S.length, .ref L, a4, a5, a6, a7, a8]) ⟨_, rfl⟩ (iRng1_ap (by simp only [ams, bools]) (bnd_of (by decide) (by decide))) b3 (by decide) (by decide)
        have hL4 := kp4.lst _ _ (show L ≠ S.length by omega) hL3
        have ec := cat_r (S := S4 ++ [O.lst (w.map .int)]) (lst_app hL4) lst_lay (by rw [List.length_map, List.length_map]; omega)
        obtain ⟨S5, hS5⟩ : ∃ S5, S5 = S4 ++ [O.lst (w.map A.int)] ++ [O.lst (xs.map A.int ++ w.map A.int)] := ⟨_, rfl⟩
        rw [<- hS5] at ec
        have h5 : lstAt S5 (S4 ++ [O.lst (w.map A.int)]).length = some (xs.map A.int ++ w.map A.int) := by rw [hS5]; exact lst_lay
        refine ⟨(xs ++ w).take 12, S5.length, S5 ++ [O.lst (((xs ++ w).take 12).map A.int)], ?_, lst_lay, by rw [List.length_take]; omega, b4.kp (c := fun _ => False) (by rw [hS5]; exact Kp.refl.lay.lay.lay) fun z => z⟩
        have ct := cut_tk (xs.map A.int ++ w.map A.int) 12
        have ct : cutA (xs.map A.int ++ w.map A.int) none (some (12 : Int)) = ((xs ++ w).take 12).map A.int := by rw [List.map_take, List.map_append]; exact ct
        simp only [ams, bools, e3, hd, e4, ec, h5, ct]
    obtain ⟨xs', L', S4, e4, hL4, xl4, b4⟩ := pre
    have gl : (xs'.map A.int).length <= 16777216 := by rw [List.length_map]; omega
    obtain ⟨S5, hS5⟩ : ∃ S5, S5 = S4 ++ [O.lst (xs'.map A.int)] := ⟨_, rfl⟩
    have k5 : Kp0 S4 S5 := by rw [hS5]; exact Kp.refl.lay
    have hH : lstAt S5 S4.length = some (xs'.map .int) := by rw [hS5]; exact lst_lay
    have hL5 := k5.lst _ _ (fun z => z) hL4
    have loop : ∃ T b5 b6 b7, sFor i_law_2 (gNm 5) b_law_2 [.frz (ns.map .int), .int (0 + (i : Int)), .ref S.length, .ref L', .ref S4.length, a5, a6, a7, a8] S5 = .nx [.frz (ns.map .int), .int (0 + (i : Int)), .ref S.length, .ref L', .ref S4.length, b5, b6, b7, a8] T /\ Kp0 S5 T := by
      refine for_rng (lo := 0) (hi := 2) (S1 := S5) (show i_law_2 _ _ = _ from iRng1_ap (by simp only [ams, bools]) (bnd_of (by decide) (by decide)))
        (fun _ τ T => (∃ b5 b6 b7, τ = [.frz (ns.map .int), .int (0 + (i : Int)), .ref S.length, .ref L', .ref S4.length, b5, b6, b7, a8]) /\ Kp0 S5 T)
        (fun q => ∃ T b5 b6 b7, q = .nx [.frz (ns.map .int), .int (0 + (i : Int)), .ref S.length, .ref L', .ref S4.length, b5, b6, b7, a8] T /\ Kp0 S5 T) ⟨⟨_, _, _, rfl⟩, Kp.refl⟩ ?_ ?_
      · rintro t τ T _ ⟨⟨b5, b6, b7, rfl⟩, kT⟩
        left
        obtain ⟨c6, c7, T', e, k⟩ := turn_ok (S := T) (t0 := .frz (ns.map .int)) (t1 := .int (0 + (i : Int))) (t2 := .ref S.length) (t5 := .int (0 + (t : Int))) (t6 := b6) (t7 := b7) (t8 := a8) (kT.lst _ _ (fun z => z) hL5) (kT.lst _ _ (fun z => z) hH) xl4
        exact ⟨_, T', e, ⟨_, _, _, rfl⟩, kT.trans k⟩
      · rintro τ T ⟨⟨b5, b6, b7, rfl⟩, kT⟩
        exact ⟨_, _, _, _, rfl, kT⟩
    obtain ⟨T, b5, b6, b7, eL, kT⟩ := loop
    have bT := (b4.kp k5 fun z => z).kp kT fun z => z
    obtain ⟨m, S6, e6, m0, m1, b6', kp6⟩ := digit (m := 28) bT (by decide) (by decide)
    obtain ⟨w, S7, e7, wl, b7', kp7⟩ := digs (S := S6) (b := S.length) (n := 13 + m) (ic := iRng1 (eVar 8)) (τ := [.frz (ns.map .int), .int (0 + (i : Int)), .ref S.length, .ref L', .ref S4.length, b5, b6, b7, .int (13 + m)]) ⟨_, rfl⟩ (iRng1_ap (by simp only [ams, bools]) (bnd_of (by omega) (by omega))) b6' (by omega) (by omega)
    obtain ⟨S8, e8, _⟩ := refused_ok (S := S7 ++ [.lst (w.map .int)]) (L := S7.length) (xs := w.map .int) lst_lay (by rw [List.length_map]; omega) (by rw [List.length_map]; omega)
    unfold b_law_1
    simp only [sSeq_ap]
    simp only [ams, bools, e1, e2, List.length_map] at e4 ⊢
    rw [e4]
    simp only [ams, bools, hL4, gd_len gl, <- hS5, eL, e6, e7, e8, Bool.not_true]
    exact ⟨_, _, rfl, _, _, _, _, _, _, _, _, rfl⟩
  · rintro τ S ⟨a1, a2, a3, a4, a5, a6, a7, a8, rfl⟩
    simp only [ams, bools]
    exact ⟨_, rfl⟩
end K62
namespace K62
open PySem L2 Am
theorem all_mk {l : PySem.W.OpenLaw} {w : World} {K : PySem.W.Frag} {h : Heap} {mg : Str -> Option Value} {fa f1 f2 f3 f4 f5 f6 f7 f8 f9 f10 f11 f12 f13 f14 f15 f16 f17 f18 : Addr} (X : K.In h) (G : h.Ns mainGlobals mg) (hfa : mg "law" = some (.ref fa))
    {od1 an1 od2 an2 od3 an3 od4 an4 od5 an5 od6 an6 od7 an7 od8 an8 od9 an9 od10 an10 od11 an11 od12 an12 od13 an13 od14 an14 od15 an15 od16 an16 od17 an17 od18 an18 : Option Addr} {sl1 sl2 sl3 sl4 sl5 sl6 sl7 sl8 sl9 sl10 sl11 sl12 sl13 sl14 sl15 sl16 sl17 sl18 : Array (Option Value)} {oc1 kV1 dc1 pm1 cd1 ct1 oc2 kV2 dc2 pm2 cd2 ct2 oc3 kV3 dc3 pm3 cd3 ct3 oc4 kV4 dc4 pm4 cd4 ct4 oc5 kV5 dc5 pm5 cd5 ct5 oc6 kV6 dc6 pm6 cd6 ct6 oc7 kV7 dc7 pm7 cd7 ct7 oc8 kV8 dc8 pm8 cd8 ct8 oc9 kV9 dc9 pm9 cd9 ct9 oc10 kV10 dc10 pm10 cd10 ct10 oc11 kV11 dc11 pm11 cd11 ct11 oc12 kV12 dc12 pm12 cd12 ct12 oc13 kV13 dc13 pm13 cd13 ct13 oc14 kV14 dc14 pm14 cd14 ct14 oc15 kV15 dc15 pm15 cd15 ct15 oc16 kV16 dc16 pm16 cd16 ct16 oc17 kV17 dc17 pm17 cd17 ct17 oc18 kV18 dc18 pm18 cd18 ct18 : Value}
    (a1 : PySem.W.nsIn K mainGlobals "first_greater" = some (some (.ref f1))) (l1 : K.lookup f1 = some ⟨oc1, od1, .func (PySem.W.fnOf "first_greater" "first_greater" (defArgs s_first_greater) (defBody s_first_greater) (defScope s_first_greater) .none kV1 dc1 pm1 an1 cd1 ct1), sl1⟩) (c1 : PySem.W.codeIn K cd1 "first_greater" = true) (k1 : PySem.W.keepIn K (.ref f1) = true)
    (a2 : PySem.W.nsIn K mainGlobals "put_into_rows" = some (some (.ref f2))) (l2 : K.lookup f2 = some ⟨oc2, od2, .func (PySem.W.fnOf "put_into_rows" "put_into_rows" (defArgs s_put_into_rows) (defBody s_put_into_rows) (defScope s_put_into_rows) .none kV2 dc2 pm2 an2 cd2 ct2), sl2⟩) (c2 : PySem.W.codeIn K cd2 "put_into_rows" = true) (k2 : PySem.W.keepIn K (.ref f2) = true)
    (a3 : PySem.W.nsIn K mainGlobals "copied" = some (some (.ref f3))) (l3 : K.lookup f3 = some ⟨oc3, od3, .func (PySem.W.fnOf "copied" "copied" (defArgs s_copied) (defBody s_copied) (defScope s_copied) .none kV3 dc3 pm3 an3 cd3 ct3), sl3⟩) (c3 : PySem.W.codeIn K cd3 "copied" = true) (k3 : PySem.W.keepIn K (.ref f3) = true)
    (a4 : PySem.W.nsIn K mainGlobals "put_in" = some (some (.ref f4))) (l4 : K.lookup f4 = some ⟨oc4, od4, .func (PySem.W.fnOf "put_in" "put_in" (defArgs s_put_in) (defBody s_put_in) (defScope s_put_in) .none kV4 dc4 pm4 an4 cd4 ct4), sl4⟩) (c4 : PySem.W.codeIn K cd4 "put_in" = true) (k4 : PySem.W.keepIn K (.ref f4) = true)
    (a5 : PySem.W.nsIn K mainGlobals "changed" = some (some (.ref f5))) (l5 : K.lookup f5 = some ⟨oc5, od5, .func (PySem.W.fnOf "changed" "changed" (defArgs s_changed) (defBody s_changed) (defScope s_changed) .none kV5 dc5 pm5 an5 cd5 ct5), sl5⟩) (c5 : PySem.W.codeIn K cd5 "changed" = true) (k5 : PySem.W.keepIn K (.ref f5) = true)
    (a6 : PySem.W.nsIn K mainGlobals "go_on" = some (some (.ref f6))) (l6 : K.lookup f6 = some ⟨oc6, od6, .func (PySem.W.fnOf "go_on" "go_on" (defArgs s_go_on) (defBody s_go_on) (defScope s_go_on) .none kV6 dc6 pm6 an6 cd6 ct6), sl6⟩) (c6 : PySem.W.codeIn K cd6 "go_on" = true) (k6 : PySem.W.keepIn K (.ref f6) = true)
    (a7 : PySem.W.nsIn K mainGlobals "lead_in" = some (some (.ref f7))) (l7 : K.lookup f7 = some ⟨oc7, od7, .func (PySem.W.fnOf "lead_in" "lead_in" (defArgs s_lead_in) (defBody s_lead_in) (defScope s_lead_in) .none kV7 dc7 pm7 an7 cd7 ct7), sl7⟩) (c7 : PySem.W.codeIn K cd7 "lead_in" = true) (k7 : PySem.W.keepIn K (.ref f7) = true)
    (a8 : PySem.W.nsIn K mainGlobals "road_of_moves" = some (some (.ref f8))) (l8 : K.lookup f8 = some ⟨oc8, od8, .func (PySem.W.fnOf "road_of_moves" "road_of_moves" (defArgs s_road_of_moves) (defBody s_road_of_moves) (defScope s_road_of_moves) .none kV8 dc8 pm8 an8 cd8 ct8), sl8⟩) (c8 : PySem.W.codeIn K cd8 "road_of_moves" = true) (k8 : PySem.W.keepIn K (.ref f8) = true)
    (a9 : PySem.W.nsIn K mainGlobals "_law_bag" = some (some (.ref f9))) (l9 : K.lookup f9 = some ⟨oc9, od9, .func (PySem.W.fnOf "_law_bag" "_law_bag" (defArgs s_law_bag) (defBody s_law_bag) (defScope s_law_bag) .none kV9 dc9 pm9 an9 cd9 ct9), sl9⟩) (c9 : PySem.W.codeIn K cd9 "_law_bag" = true) (k9 : PySem.W.keepIn K (.ref f9) = true)
    (a10 : PySem.W.nsIn K mainGlobals "_law_digit" = some (some (.ref f10))) (l10 : K.lookup f10 = some ⟨oc10, od10, .func (PySem.W.fnOf "_law_digit" "_law_digit" (defArgs s_law_digit) (defBody s_law_digit) (defScope s_law_digit) .none kV10 dc10 pm10 an10 cd10 ct10), sl10⟩) (c10 : PySem.W.codeIn K cd10 "_law_digit" = true) (k10 : PySem.W.keepIn K (.ref f10) = true)
    (a11 : PySem.W.nsIn K mainGlobals "_law_letters" = some (some (.ref f11))) (l11 : K.lookup f11 = some ⟨oc11, od11, .func (PySem.W.fnOf "_law_letters" "_law_letters" (defArgs s_law_letters) (defBody s_law_letters) (defScope s_law_letters) .none kV11 dc11 pm11 an11 cd11 ct11), sl11⟩) (c11 : PySem.W.codeIn K cd11 "_law_letters" = true) (k11 : PySem.W.keepIn K (.ref f11) = true)
    (a12 : PySem.W.nsIn K mainGlobals "_law_put" = some (some (.ref f12))) (l12 : K.lookup f12 = some ⟨oc12, od12, .func (PySem.W.fnOf "_law_put" "_law_put" (defArgs s_law_put) (defBody s_law_put) (defScope s_law_put) .none kV12 dc12 pm12 an12 cd12 ct12), sl12⟩) (c12 : PySem.W.codeIn K cd12 "_law_put" = true) (k12 : PySem.W.keepIn K (.ref f12) = true)
    (a13 : PySem.W.nsIn K mainGlobals "_law_tables" = some (some (.ref f13))) (l13 : K.lookup f13 = some ⟨oc13, od13, .func (PySem.W.fnOf "_law_tables" "_law_tables" (defArgs s_law_tables) (defBody s_law_tables) (defScope s_law_tables) .none kV13 dc13 pm13 an13 cd13 ct13), sl13⟩) (c13 : PySem.W.codeIn K cd13 "_law_tables" = true) (k13 : PySem.W.keepIn K (.ref f13) = true)
    (a14 : PySem.W.nsIn K mainGlobals "_law_moved" = some (some (.ref f14))) (l14 : K.lookup f14 = some ⟨oc14, od14, .func (PySem.W.fnOf "_law_moved" "_law_moved" (defArgs s_law_moved) (defBody s_law_moved) (defScope s_law_moved) .none kV14 dc14 pm14 an14 cd14 ct14), sl14⟩) (c14 : PySem.W.codeIn K cd14 "_law_moved" = true) (k14 : PySem.W.keepIn K (.ref f14) = true)
    (a15 : PySem.W.nsIn K mainGlobals "_law_is" = some (some (.ref f15))) (l15 : K.lookup f15 = some ⟨oc15, od15, .func (PySem.W.fnOf "_law_is" "_law_is" (defArgs s_law_is) (defBody s_law_is) (defScope s_law_is) .none kV15 dc15 pm15 an15 cd15 ct15), sl15⟩) (c15 : PySem.W.codeIn K cd15 "_law_is" = true) (k15 : PySem.W.keepIn K (.ref f15) = true)
    (a16 : PySem.W.nsIn K mainGlobals "_law_is_road" = some (some (.ref f16))) (l16 : K.lookup f16 = some ⟨oc16, od16, .func (PySem.W.fnOf "_law_is_road" "_law_is_road" (defArgs s_law_is_road) (defBody s_law_is_road) (defScope s_law_is_road) .none kV16 dc16 pm16 an16 cd16 ct16), sl16⟩) (c16 : PySem.W.codeIn K cd16 "_law_is_road" = true) (k16 : PySem.W.keepIn K (.ref f16) = true)
    (a17 : PySem.W.nsIn K mainGlobals "_law_refused" = some (some (.ref f17))) (l17 : K.lookup f17 = some ⟨oc17, od17, .func (PySem.W.fnOf "_law_refused" "_law_refused" (defArgs s_law_refused) (defBody s_law_refused) (defScope s_law_refused) .none kV17 dc17 pm17 an17 cd17 ct17), sl17⟩) (c17 : PySem.W.codeIn K cd17 "_law_refused" = true) (k17 : PySem.W.keepIn K (.ref f17) = true)
    (a18 : PySem.W.nsIn K mainGlobals "law" = some (some (.ref f18))) (l18 : K.lookup f18 = some ⟨oc18, od18, .func (PySem.W.fnOf "law" "law" (defArgs s_law) (defBody s_law) (defScope s_law) .none kV18 dc18 pm18 an18 cd18 ct18), sl18⟩) (c18 : PySem.W.codeIn K cd18 "law" = true) (k18 : PySem.W.keepIn K (.ref f18) = true)
    (z_len : PySem.W.nsIn K mainGlobals "len" = some none)
    (z_list : PySem.W.nsIn K mainGlobals "list" = some none)
    (z_range : PySem.W.nsIn K mainGlobals "range" = some none)
    (z_enumerate : PySem.W.nsIn K mainGlobals "enumerate" = some none)
    (z_isinstance : PySem.W.nsIn K mainGlobals "isinstance" = some none)
    (z_ValueError : PySem.W.nsIn K mainGlobals "ValueError" = some none)
    (z_all : PySem.W.nsIn K mainGlobals "all" = some none)
    (z_bool : PySem.W.nsIn K mainGlobals "bool" = some none)
    (z_int : PySem.W.nsIn K mainGlobals "int" = some none)
    (z_reversed : PySem.W.nsIn K mainGlobals "reversed" = some none)
    (z_max : PySem.W.nsIn K mainGlobals "max" = some none)
    (z_min : PySem.W.nsIn K mainGlobals "min" = some none)
    {t_MOST_LED_LETTERS : Tok} (y_MOST_LED_LETTERS : PySem.W.nsIn K mainGlobals "MOST_LED_LETTERS" = some (some (.int 12 t_MOST_LED_LETTERS)))
    {U C_TooMany C_NoPair C_NoNumber C_NoWord C_NoName C_NoRow C_NoText C_NoTables : Addr} (u0 : PySem.W.nsIn K mainGlobals "UnderError" = some (some (.ref U))) (u1 : L2.mroIn K U = some bmV)
    (n_TooMany : PySem.W.nsIn K mainGlobals "TooMany" = some (some (.ref C_TooMany)))
    (n_NoPair : PySem.W.nsIn K mainGlobals "NoPair" = some (some (.ref C_NoPair)))
    (n_NoNumber : PySem.W.nsIn K mainGlobals "NoNumber" = some (some (.ref C_NoNumber)))
    (n_NoWord : PySem.W.nsIn K mainGlobals "NoWord" = some (some (.ref C_NoWord)))
    (n_NoName : PySem.W.nsIn K mainGlobals "NoName" = some (some (.ref C_NoName)))
    (n_NoRow : PySem.W.nsIn K mainGlobals "NoRow" = some (some (.ref C_NoRow)))
    (n_NoText : PySem.W.nsIn K mainGlobals "NoText" = some (some (.ref C_NoText)))
    (n_NoTables : PySem.W.nsIn K mainGlobals "NoTables" = some (some (.ref C_NoTables)))
    (q_TooMany : PySem.W.excIn K C_TooMany bmV "ValueError.__new__" = true)
    (r_TooMany : L2.mroIn K C_TooMany = some (.ref U :: bmV))
    (xa_TooMany : PySem.W.findIn K (.ref C_TooMany) "__getattribute__" = some (some (.builtin "BaseException.__getattribute__")))
    (xb_TooMany : PySem.W.findIn K (.ref C_TooMany) "__getattr__" = some none)
    (xc_TooMany : PySem.W.findObj K C_TooMany none "__class__" = some (.bind (.builtin "getset_descriptor.__get__") (.builtin "object.__class__")))
    (xd_TooMany : PySem.W.mroIn K C_TooMany (.type "object") = some true)
    (xf_TooMany : PySem.W.subIn K (.ref C_TooMany) (.type "BaseException") = some true)
    (cl_TooMany : (PySem.W.clsIn K C_TooMany).isSome = true)
    (v_TooMany : PySem.W.kitOne K (.ref C_TooMany) (.type "ValueError") = some true)
    (k_TooMany_TooMany : PySem.W.kitOne K (.ref C_TooMany) (.ref C_TooMany) = some true)
    (k_TooMany_NoPair : PySem.W.kitOne K (.ref C_TooMany) (.ref C_NoPair) = some false)
    (k_TooMany_NoNumber : PySem.W.kitOne K (.ref C_TooMany) (.ref C_NoNumber) = some false)
    (k_TooMany_NoWord : PySem.W.kitOne K (.ref C_TooMany) (.ref C_NoWord) = some false)
    (k_TooMany_NoName : PySem.W.kitOne K (.ref C_TooMany) (.ref C_NoName) = some false)
    (k_TooMany_NoRow : PySem.W.kitOne K (.ref C_TooMany) (.ref C_NoRow) = some false)
    (k_TooMany_NoText : PySem.W.kitOne K (.ref C_TooMany) (.ref C_NoText) = some false)
    (k_TooMany_NoTables : PySem.W.kitOne K (.ref C_TooMany) (.ref C_NoTables) = some false)
    : ∃ fd : FuncData, (∀ (s : Shared) (v : Value), BindsTo s fd ⟨[v], []⟩ [("_law_script", v)]) /\ ∀ base : Heap, K.In base -> base.Ns mainGlobals mg -> FnOk l.prog w K mg base CX0 6 fa fd ["_law_script"] (spA K 1 F_law) := by
  have e := hfa.symm.trans (PySem.W.mg_of X G a18)
  cases e
  have e_TooMany : ExcK K U "TooMany" C_TooMany := ⟨n_TooMany, q_TooMany, r_TooMany, ⟨xa_TooMany, xb_TooMany, xc_TooMany, xd_TooMany, xf_TooMany⟩, cl_TooMany, v_TooMany⟩
  have m_TooMany := PySem.W.mg_of X G n_TooMany
  have m_NoPair := PySem.W.mg_of X G n_NoPair
  have m_NoNumber := PySem.W.mg_of X G n_NoNumber
  have m_NoWord := PySem.W.mg_of X G n_NoWord
  have m_NoName := PySem.W.mg_of X G n_NoName
  have m_NoRow := PySem.W.mg_of X G n_NoRow
  have m_NoText := PySem.W.mg_of X G n_NoText
  have m_NoTables := PySem.W.mg_of X G n_NoTables
  have b_len := PySem.W.mg_none_of X G z_len
  have b_list := PySem.W.mg_none_of X G z_list
  have b_range := PySem.W.mg_none_of X G z_range
  have b_enumerate := PySem.W.mg_none_of X G z_enumerate
  have b_isinstance := PySem.W.mg_none_of X G z_isinstance
  have b_ValueError := PySem.W.mg_none_of X G z_ValueError
  have b_all := PySem.W.mg_none_of X G z_all
  have b_bool := PySem.W.mg_none_of X G z_bool
  have b_int := PySem.W.mg_none_of X G z_int
  have b_reversed := PySem.W.mg_none_of X G z_reversed
  have b_max := PySem.W.mg_none_of X G z_max
  have b_min := PySem.W.mg_none_of X G z_min
  have g_MOST_LED_LETTERS : ∃ t, mg "MOST_LED_LETTERS" = some (.int 12 t) := ⟨t_MOST_LED_LETTERS, PySem.W.mg_of X G y_MOST_LED_LETTERS⟩
  have F1 := fun_mk (st := s_first_greater) l1 c1 k1
  have i1 := F1.binds (ps := ["row", "letter"]) fun _ _ _ _ _ _ => us2 fun _ _ => rfl
  have F2 := fun_mk (st := s_put_into_rows) l2 c2 k2
  have i2 := F2.binds (ps := ["rows", "letter"]) fun _ _ _ _ _ _ => us2 fun _ _ => rfl
  have F3 := fun_mk (st := s_copied) l3 c3 k3
  have i3 := F3.binds (ps := ["table"]) fun _ _ _ _ _ _ => us1 fun _ => rfl
  have F4 := fun_mk (st := s_put_in) l4 c4 k4
  have i4 := F4.binds (ps := ["table", "letter"]) fun _ _ _ _ _ _ => us2 fun _ _ => rfl
  have F5 := fun_mk (st := s_changed) l5 c5 k5
  have i5 := F5.binds (ps := ["row", "at"]) fun _ _ _ _ _ _ => us2 fun _ _ => rfl
  have F6 := fun_mk (st := s_go_on) l6 c6 k6
  have i6 := F6.binds (ps := ["road", "at"]) fun _ _ _ _ _ _ => us2 fun _ _ => rfl
  have F7 := fun_mk (st := s_lead_in) l7 c7 k7
  have i7 := F7.binds (ps := ["road", "table", "end"]) fun _ _ _ _ _ _ => us3 fun _ _ _ => rfl
  have F8 := fun_mk (st := s_road_of_moves) l8 c8 k8
  have i8 := F8.binds (ps := ["row"]) fun _ _ _ _ _ _ => us1 fun _ => rfl
  have F9 := fun_mk (st := s_law_bag) l9 c9 k9
  have i9 := F9.binds (ps := ["_law_script", "_law_at"]) fun _ _ _ _ _ _ => us2 fun _ _ => rfl
  have F10 := fun_mk (st := s_law_digit) l10 c10 k10
  have i10 := F10.binds (ps := ["_law_bag_here", "_law_many"]) fun _ _ _ _ _ _ => us2 fun _ _ => rfl
  have F11 := fun_mk (st := s_law_letters) l11 c11 k11
  have i11 := F11.binds (ps := ["_law_bag_here", "_law_most"]) fun _ _ _ _ _ _ => us2 fun _ _ => rfl
  have F12 := fun_mk (st := s_law_put) l12 c12 k12
  have i12 := F12.binds (ps := ["_law_rows", "_law_letter"]) fun _ _ _ _ _ _ => us2 fun _ _ => rfl
  have F13 := fun_mk (st := s_law_tables) l13 c13 k13
  have i13 := F13.binds (ps := ["_law_letters_here"]) fun _ _ _ _ _ _ => us1 fun _ => rfl
  have F14 := fun_mk (st := s_law_moved) l14 c14 k14
  have i14 := F14.binds (ps := ["_law_letters_here"]) fun _ _ _ _ _ _ => us1 fun _ => rfl
  have F15 := fun_mk (st := s_law_is) l15 c15 k15
  have i15 := F15.binds (ps := ["_law_e", "_law_due"]) fun _ _ _ _ _ _ => us2 fun _ _ => rfl
  have F16 := fun_mk (st := s_law_is_road) l16 c16 k16
  have i16 := F16.binds (ps := ["_law_found", "_law_letters_here"]) fun _ _ _ _ _ _ => us2 fun _ _ => rfl
  have F17 := fun_mk (st := s_law_refused) l17 c17 k17
  have i17 := F17.binds (ps := ["_law_letters_here"]) fun _ _ _ _ _ _ => us1 fun _ => rfl
  have F18 := fun_mk (st := s_law) l18 c18 k18
  have i18 := F18.binds (ps := ["_law_script"]) fun _ _ _ _ _ _ => us1 fun _ => rfl
  refine ⟨PySem.W.fnOf "law" "law" (defArgs s_law) (defBody s_law) (defScope s_law) .none kV18 dc18 pm18 an18 cd18 ct18, fun s v => .of_eq rfl, fun base _ _ => ?_⟩
  have G_first_greater : KnA l.prog w K mg base 1 "first_greater" ["row", "letter"] F_first_greater := ⟨f1, _, ok_first_greater F1 b_len, PySem.W.mg_of X G a1, k1, i1⟩
  have G_put_into_rows : KnA l.prog w K mg base 2 "put_into_rows" ["rows", "letter"] F_put_into_rows := ⟨f2, _, ok_put_into_rows F2 b_len G_first_greater, PySem.W.mg_of X G a2, k2, i2⟩
  have G_copied : KnA l.prog w K mg base 1 "copied" ["table"] F_copied := ⟨f3, _, ok_copied F3 b_list, PySem.W.mg_of X G a3, k3, i3⟩
  have G_put_in : KnA l.prog w K mg base 3 "put_in" ["table", "letter"] F_put_in := ⟨f4, _, ok_put_in F4 G_copied G_put_into_rows, PySem.W.mg_of X G a4, k4, i4⟩
  have G_changed : KnA l.prog w K mg base 1 "changed" ["row", "at"] F_changed := ⟨f5, _, ok_changed F5, PySem.W.mg_of X G a5, k5, i5⟩
  have G_go_on : KnA l.prog w K mg base 2 "go_on" ["road", "at"] F_go_on := ⟨f6, _, ok_go_on F6 G_changed, PySem.W.mg_of X G a6, k6, i6⟩
  have G_lead_in : KnA l.prog w K mg base 3 "lead_in" ["road", "table", "end"] F_lead_in := ⟨f7, _, ok_lead_in F7 b_len b_range G_first_greater G_go_on, PySem.W.mg_of X G a7, k7, i7⟩
  have G_road_of_moves : KnX l.prog w K mg base 4 "road_of_moves" ["row"] F_road_of_moves := ⟨f8, _, ok_road_of_moves F8 e_TooMany b_len b_list b_enumerate g_MOST_LED_LETTERS G_lead_in G_put_in, PySem.W.mg_of X G a8, k8, i8⟩
  have G_law_bag : KnA l.prog w K mg base 1 "_law_bag" ["_law_script", "_law_at"] F_law_bag := ⟨f9, _, ok_law_bag F9 b_len, PySem.W.mg_of X G a9, k9, i9⟩
  have G_law_digit : KnA l.prog w K mg base 1 "_law_digit" ["_law_bag_here", "_law_many"] F_law_digit := ⟨f10, _, ok_law_digit F10, PySem.W.mg_of X G a10, k10, i10⟩
  have G_law_letters : KnA l.prog w K mg base 2 "_law_letters" ["_law_bag_here", "_law_most"] F_law_letters := ⟨f11, _, ok_law_letters F11 b_range G_law_digit, PySem.W.mg_of X G a11, k11, i11⟩
  have G_law_put : KnA l.prog w K mg base 1 "_law_put" ["_law_rows", "_law_letter"] F_law_put := ⟨f12, _, ok_law_put F12 b_list b_range b_len, PySem.W.mg_of X G a12, k12, i12⟩
  have G_law_tables : KnA l.prog w K mg base 2 "_law_tables" ["_law_letters_here"] F_law_tables := ⟨f13, _, ok_law_tables F13 b_range b_len G_law_put, PySem.W.mg_of X G a13, k13, i13⟩
  have G_law_moved : KnA l.prog w K mg base 1 "_law_moved" ["_law_letters_here"] F_law_moved := ⟨f14, _, ok_law_moved F14 b_range b_len, PySem.W.mg_of X G a14, k14, i14⟩
  have G_law_is : KnHA l.prog w K mg base 1 "_law_is" ["_law_e", "_law_due"] F_law_is := ⟨f15, _, ok_law_is F15 e_TooMany m_TooMany m_NoPair m_NoNumber m_NoWord m_NoName m_NoRow m_NoText m_NoTables k_TooMany_TooMany k_TooMany_NoPair k_TooMany_NoNumber k_TooMany_NoWord k_TooMany_NoName k_TooMany_NoRow k_TooMany_NoText k_TooMany_NoTables b_isinstance b_ValueError, PySem.W.mg_of X G a15, k15, i15⟩
  have G_law_is_road : KnA l.prog w K mg base 3 "_law_is_road" ["_law_found", "_law_letters_here"] F_law_is_road := ⟨f16, _, ok_law_is_road F16 b_len b_isinstance b_list b_all b_bool b_int b_range b_reversed G_law_moved G_law_tables, PySem.W.mg_of X G a16, k16, i16⟩
  have G_law_refused : KnA l.prog w K mg base 5 "_law_refused" ["_law_letters_here"] F_law_refused := ⟨f17, _, ok_law_refused F17 u0 u1 e_TooMany G_road_of_moves G_law_is, PySem.W.mg_of X G a17, k17, i17⟩
  exact ok_law F18 b_range b_max b_min b_len b_list G_law_bag G_law_letters G_law_digit G_road_of_moves G_law_is_road G_law_refused
theorem walk {l : PySem.W.OpenLaw} {q : Program} {loose : List Str} {XP : (Str -> Option Value) -> Heap -> Prop} {YP : World -> Heap -> Prop} {d : DefRec} {K : Params -> PySem.W.Frag} (hn : l.most = some 63) (hdf : d.params.defaults = [])
    (hY : ∀ (w : World) (h : Heap), YP w h -> (K w.params).In h)
    (F : ∀ (w : World) (mg : Str -> Option Value) (fa : Addr) (h : Heap), (K w.params).In h -> h.Ns mainGlobals mg -> mg d.name = some (.ref fa) ->
      ∃ fd : FuncData, (∀ (s : Shared) (u : Value), BindsTo s fd ⟨[u], []⟩ [("_law_script", u)]) /\ ∀ base : Heap, (K w.params).In base -> base.Ns mainGlobals mg -> FnOk l.prog w (K w.params) mg base CX0 6 fa fd ["_law_script"] (spA (K w.params) 1 F_law)) :
    PySem.W.WalkO q loose XP YP l.row.toRowW d [] (fun f vs => PySem.call f vs) :=
  L2.walk_of (n := 63) (k := 6) (x := "_law_script") (CX := fun _ => CX0) (sp := fun w => spA (K w.params) 1 F_law) hn (by decide) hdf ⟨rfl, by decide, by decide⟩ hY F (fun _ H a ns hl hO hS => law_start hO hS (law_ok ns hl)) fun _ _ _ _ _ z => z
end K62
open PySem PySem.W PyProof.Rows
set_option maxRecDepth 100000 in
set_option maxHeartbeats 0 in
theorem PySem.Challenge.cw_undercells_k62_roads_of_moves_holds : PySem.Challenge.rw_undercells_k62_roads_of_moves.Holds := by
  w_on; o_law; k_head; (case hw => w_witness2)
  k_fill
  refine K62.walk (l := PySem.Challenge.rw_undercells_k62_roads_of_moves) rfl rfl (fun w h Y => PySem.W.kIn_of Y) ?F
  case F =>
    intro w mg fa h KX G hmg
    refine' K62.all_mk KX G hmg ?a1 ?l1 ?c1 ?k1 ?a2 ?l2 ?c2 ?k2 ?a3 ?l3 ?c3 ?k3 ?a4 ?l4 ?c4 ?k4 ?a5 ?l5 ?c5 ?k5 ?a6 ?l6 ?c6 ?k6 ?a7 ?l7 ?c7 ?k7 ?a8 ?l8 ?c8 ?k8 ?a9 ?l9 ?c9 ?k9 ?a10 ?l10 ?c10 ?k10 ?a11 ?l11 ?c11 ?k11 ?a12 ?l12 ?c12 ?k12 ?a13 ?l13 ?c13 ?k13 ?a14 ?l14 ?c14 ?k14 ?a15 ?l15 ?c15 ?k15 ?a16 ?l16 ?c16 ?k16 ?a17 ?l17 ?c17 ?k17 ?a18 ?l18 ?c18 ?k18 ?z_len ?z_list ?z_range ?z_enumerate ?z_isinstance ?z_ValueError ?z_all ?z_bool ?z_int ?z_reversed ?z_max ?z_min ?y_MOST_LED_LETTERS ?u0 ?u1 ?n_TooMany ?n_NoPair ?n_NoNumber ?n_NoWord ?n_NoName ?n_NoRow ?n_NoText ?n_NoTables ?q_TooMany ?r_TooMany ?xa_TooMany ?xb_TooMany ?xc_TooMany ?xd_TooMany ?xf_TooMany ?cl_TooMany ?v_TooMany ?k_TooMany_TooMany ?k_TooMany_NoPair ?k_TooMany_NoNumber ?k_TooMany_NoWord ?k_TooMany_NoName ?k_TooMany_NoRow ?k_TooMany_NoText ?k_TooMany_NoTables
    (case a1 => k_is)
    (case l1 => k_is)
    (case c1 => k_is)
    (case k1 => k_is)
    (case a2 => k_is)
    (case l2 => k_is)
    (case c2 => k_is)
    (case k2 => k_is)
    (case a3 => k_is)
    (case l3 => k_is)
    (case c3 => k_is)
    (case k3 => k_is)
    (case a4 => k_is)
    (case l4 => k_is)
    (case c4 => k_is)
    (case k4 => k_is)
    (case a5 => k_is)
    (case l5 => k_is)
    (case c5 => k_is)
    (case k5 => k_is)
    (case a6 => k_is)
    (case l6 => k_is)
    (case c6 => k_is)
    (case k6 => k_is)
    (case a7 => k_is)
    (case l7 => k_is)
    (case c7 => k_is)
    (case k7 => k_is)
    (case a8 => k_is)
    (case l8 => k_is)
    (case c8 => k_is)
    (case k8 => k_is)
    (case a9 => k_is)
    (case l9 => k_is)
    (case c9 => k_is)
    (case k9 => k_is)
    (case a10 => k_is)
    (case l10 => k_is)
    (case c10 => k_is)
    (case k10 => k_is)
    (case a11 => k_is)
    (case l11 => k_is)
    (case c11 => k_is)
    (case k11 => k_is)
    (case a12 => k_is)
    (case l12 => k_is)
    (case c12 => k_is)
    (case k12 => k_is)
    (case a13 => k_is)
    (case l13 => k_is)
    (case c13 => k_is)
    (case k13 => k_is)
    (case a14 => k_is)
    (case l14 => k_is)
    (case c14 => k_is)
    (case k14 => k_is)
    (case a15 => k_is)
    (case l15 => k_is)
    (case c15 => k_is)
    (case k15 => k_is)
    (case a16 => k_is)
    (case l16 => k_is)
    (case c16 => k_is)
    (case k16 => k_is)
    (case a17 => k_is)
    (case l17 => k_is)
    (case c17 => k_is)
    (case k17 => k_is)
    (case a18 => k_is)
    (case l18 => k_is)
    (case c18 => k_is)
    (case k18 => k_is)
    (case z_len => k_is)
    (case z_list => k_is)
    (case z_range => k_is)
    (case z_enumerate => k_is)
    (case z_isinstance => k_is)
    (case z_ValueError => k_is)
    (case z_all => k_is)
    (case z_bool => k_is)
    (case z_int => k_is)
    (case z_reversed => k_is)
    (case z_max => k_is)
    (case z_min => k_is)
    (case y_MOST_LED_LETTERS => k_is)
    (case u0 => k_is)
    (case n_TooMany => k_is)
    (case n_NoPair => k_is)
    (case n_NoNumber => k_is)
    (case n_NoWord => k_is)
    (case n_NoName => k_is)
    (case n_NoRow => k_is)
    (case n_NoText => k_is)
    (case n_NoTables => k_is)
    (case u1 => kernel_rfl)
    (case q_TooMany => kernel_rfl)
    (case r_TooMany => kernel_rfl)
    (case xa_TooMany => kernel_rfl)
    (case xb_TooMany => kernel_rfl)
    (case xc_TooMany => kernel_rfl)
    (case xd_TooMany => kernel_rfl)
    (case xf_TooMany => kernel_rfl)
    (case cl_TooMany => kernel_rfl)
    (case v_TooMany => kernel_rfl)
    (case k_TooMany_TooMany => kernel_rfl)
    (case k_TooMany_NoPair => kernel_rfl)
    (case k_TooMany_NoNumber => kernel_rfl)
    (case k_TooMany_NoWord => kernel_rfl)
    (case k_TooMany_NoName => kernel_rfl)
    (case k_TooMany_NoRow => kernel_rfl)
    (case k_TooMany_NoText => kernel_rfl)
    (case k_TooMany_NoTables => kernel_rfl)
