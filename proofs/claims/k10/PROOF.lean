import PyProof.Rows.All
import Wide.All
import OpenK.AllK
import Wide.FinOn
import Lean
import PyProof.EqAt
import PyProof.EqKinds
import PyProof.TupleCall
import PySem.Challenge.RW_undercells_k10_falls_of_words
set_option Elab.async false
set_option linter.all false
set_option maxRecDepth 100000
namespace L2
open PySem PySem.Spec PyProof.Rows
abbrev Key := Sum Int Str
def q_ : Key -> Value -> Bool
 | .inl k, v => Value.isInt k v
 | .inr x, v => Value.isStrOf x v
def KS (w : World) : Key -> Int
 | .inl k => hashInt k
 | .inr x => hashStr w x
theorem cO : ∀ {k : Key} {v : Value}, q_ k v = true -> (∃ i t, k = Sum.inl i /\ v = Value.int i t) \/ (∃ x t, k = Sum.inr x /\ v = Value.str x t)
 | .inl i, v, h => by
  obtain ⟨t, e⟩ := Value.isInt_shape (k := i) (v := v) h
  exact .inl ⟨i, t, rfl, e⟩
 | .inr x, v, h => by
  obtain ⟨t, e⟩ := Value.isStrOf_shape (x := x) (v := v) h
  exact .inr ⟨x, t, rfl, e⟩
theorem zU (i : Int) (t : Tok) : q_ (.inl i) (.int i t) = true := by simp [q_, Value.isInt]
theorem zI (x : Str) (t : Tok) : q_ (.inr x) (.str x t) = true := by simp [q_, Value.isStrOf]
theorem GP (a b : Int) : decide ((Sum.inl a : Key) = Sum.inl b) = (a == b) := by
 by_cases e : a = b
 ·subst e; simp
 ·have h : ¬ (Sum.inl a : Key) = Sum.inl b := fun q => e (Sum.inl.inj q)
  rw [decide_eq_false h]
  exact (beq_eq_false_iff_ne.mpr e).symm
theorem IV (a b : Str) : decide ((Sum.inr a : Key) = Sum.inr b) = decide (a = b) := by
 by_cases e : a = b
 ·subst e; simp
 ·have h : ¬ (Sum.inr a : Key) = Sum.inr b := fun q => e (Sum.inr.inj q)
  rw [decide_eq_false h, decide_eq_false e]
theorem GC (a : Int) (b : Str) : decide ((Sum.inl a : Key) = Sum.inr b) = false := decide_eq_false (fun q => nomatch q)
theorem HZ (a : Str) (b : Int) : decide ((Sum.inr a : Key) = Sum.inl b) = false := decide_eq_false (fun q => nomatch q)
def d7 (prog : Program) (w : World) : PySem.KeyKind prog w Key where
 is := q_
 hash := KS w
 inj := fun v a b ha hb => by
  rcases cO ha with ⟨i, t, rfl, rfl⟩ | ⟨x, t, rfl, rfl⟩
  ·rcases cO hb with ⟨j, u, rfl, e⟩ | ⟨y, u, rfl, e⟩
   ·injection e with e1 _; rw [e1]
   ·exact nomatch e
  ·rcases cO hb with ⟨j, u, rfl, e⟩ | ⟨y, u, rfl, e⟩
   ·exact nomatch e
   ·injection e with e1 _; rw [e1]
 byValue := fun k v h => by
  rcases cO h with ⟨i, t, rfl, rfl⟩ | ⟨x, t, rfl, rfl⟩ <;> rfl
 pyHash := fun hv h => by
  rcases cO hv with ⟨i, t, rfl, rfl⟩ | ⟨x, t, rfl, rfl⟩
  ·exact wpAny_pyHash_int h
  ·exact wpAny_pyHash_str h
 eqBool := fun hu hv h => by
  rcases cO hu with ⟨i, t, rfl, rfl⟩ | ⟨x, t, rfl, rfl⟩
  ·rcases cO hv with ⟨j, u, rfl, rfl⟩ | ⟨y, u, rfl, rfl⟩
   ·rw [GP] at h; exact wpAny_eqBool_int h
   ·rw [GC] at h; exact SeqAt.EqAt.int_str i t y u _ _ _ _ h
  ·rcases cO hv with ⟨j, u, rfl, rfl⟩ | ⟨y, u, rfl, rfl⟩
   ·rw [HZ] at h; exact SeqAt.EqAt.str_int x t j u _ _ _ _ h
   ·rw [IV] at h; exact wpAny_eqBool_str h
 «strs» := fun k x t v h => by
  rcases cO h with ⟨i, u, rfl, e⟩ | ⟨y, u, rfl, e⟩
  ·exact nomatch e
  ·injection e with e1 _
   subst e1
   cases v <;> rfl
theorem t8 (prog : Program) (w : World) (i : Int) (t : Tok) : (d7 prog w).is (.inl i) (.int i t) = true := zU i t
theorem t7 (prog : Program) (w : World) (x : Str) (t : Tok) : (d7 prog w).is (.inr x) (.str x t) = true := zI x t
end L2
namespace L2
open PySem PySem.Spec PyProof.Rows
inductive V where
 | non | bl (b : Bool) | int (i : Int) | str (x : Str) | byt (b : Array UInt8) | flt (b : UInt64) | ref (a : Addr) | ty (n : String)
 deriving DecidableEq
def RelV : V -> Value -> Prop
 | .non, u => u = Value.none
 | .bl b, u => u = Value.bool b
 | .int i, u => ∃ t, u = Value.int i t
 | .str x, u => ∃ t, u = Value.str x t
 | .byt b, u => ∃ t, u = Value.bytes b t
 | .flt b, u => ∃ t, u = Value.float b t
 | .ref a, u => u = Value.ref a
 | .ty n, u => u = Value.type n
abbrev Vals : List V -> List Value -> Prop := Paired RelV
theorem Vals.length {xs : List V} {us : List Value} (r : Vals xs us) : xs.length = us.length := Paired.length r
theorem Vals.get : ∀ {xs : List V} {us : List Value} {i : Nat} {x : V}, Vals xs us -> xs[i]? = some x -> ∃ u, us[i]? = some u /\ RelV x u
 | _, _, _, _, .nil, e => by simp at e
 | _, _, 0, _, .cons r _, e => by simp at e; subst e; exact ⟨_, rfl, r⟩
 | _, _, i + 1, x, .cons _ t, e => by
  obtain ⟨u, h1, h2⟩ := Vals.get (i := i) (x := x) t (by simpa using e)
  exact ⟨u, by simpa using h1, h2⟩
theorem Vals.set {x : V} {u : Value} (r : RelV x u) : ∀ {xs : List V} {us : List Value} (i : Nat), Vals xs us -> Vals (xs.set i x) (us.set i u)
 | _, _, _, .nil => .nil
 | _, _, 0, .cons _ t => .cons r t
 | _, _, i + 1, .cons q t => .cons q (Vals.set r i t)
theorem Vals.append : ∀ {xs ys : List V} {us ws : List Value}, Vals xs us -> Vals ys ws -> Vals (xs ++ ys) (us ++ ws)
 | _, _, _, _, .nil, s => s
 | _, _, _, _, .cons r t, s => .cons r (Vals.append t s)
theorem Vals.take : ∀ {xs : List V} {us : List Value} (n : Nat), Vals xs us -> Vals (xs.take n) (us.take n)
 | _, _, 0, _ => .nil
 | _, _, _ + 1, .nil => .nil
 | _, _, n + 1, .cons r t => .cons r (Vals.take n t)
theorem Vals.drop : ∀ {xs : List V} {us : List Value} (n : Nat), Vals xs us -> Vals (xs.drop n) (us.drop n)
 | _, _, 0, r => r
 | _, _, _ + 1, .nil => .nil
 | _, _, n + 1, .cons _ t => Vals.drop n t
def pZ : Option V -> Option Value -> Prop
 | some v, some u => RelV v u
 | none, none => True
 | _, _ => False
def KV {κ : Type} : List (κ × V) -> List (κ × Value) -> Prop := Paired fun (p : κ × V) (q : κ × Value) => p.1 = q.1 /\ RelV p.2 q.2
def kV : Key -> V
 | .inl i => .int i
 | .inr x => .str x
inductive HO where
 | lst (xs : List V)
 | tup (xs : List V)
 | dK (kvs : List (Key × V)) | dT (kvs : List (List Key × V))
 | set (S : Int -> Bool) (n : Nat)
 | ins (C dx : Addr) (fs : List (Str × V))
 | own (x : Addr)
 | xd (fs : List (Str × V))
 | met (f x : Addr)
 | rng (lo hi : Int)
 | frz (o : Obj) (u : HO)
 | tbl (ps : Array Value)
 | ext (φ : Heap -> Prop)
abbrev Hp := Addr -> Option HO
def upd (H : Hp) (a : Addr) (o : HO) : Hp := fun b => if b = a then some o else H b
theorem bL {H : Hp} {a : Addr} {o : HO} : upd H a o a = some o := by unfold upd; rw [if_pos rfl]
theorem aO {H : Hp} {a b : Addr} {o : HO} (h : b ≠ a) : upd H a o b = H b := by unfold upd; rw [if_neg h]
theorem FY {H : Hp} {a b : Addr} {o u : HO} (h : H a = some o) (h' : H b = some u) (d : o ≠ u) : a ≠ b := by
 intro e; subst e; rw [h] at h'; exact d (Option.some.inj h')
theorem aV {H : Hp} {a b : Addr} {o : HO} (h : H a = some o) (h' : H b = none) : a ≠ b := by
 intro e; subst e; rw [h] at h'; cases h'
def fZ (h : Heap) (a : Addr) (items : Array Value) : Prop := ∃ o, h.get? a = some o /\ o.cls = .type "tuple" /\ o.dict = none /\ ∃ n, o.data = .seq items n
theorem fZ.tup {h : Heap} {a : Addr} {items : Array Value} : fZ h a items -> IsTup h a items := fun ⟨o, e, c, _, n, d⟩ => ⟨o, e, c, n, d⟩
theorem fZ.new (h : Heap) (items : Array Value) : fZ (h.push { cls := .type "tuple", data := .seq items }) h.objs.size items := ⟨_, Heap.get?_push_size _ rfl, rfl, rfl, _, rfl⟩
theorem fZ.lt {h : Heap} {a : Addr} {items : Array Value} (x : fZ h a items) : a < h.objs.size := let ⟨_, ho, _⟩ := x; Heap.lt_size ho
section
variable (P : Program) (w : World)
def cZ (H : Hp) (h : Heap) (a : Addr) : HO -> Prop
 | .lst xs => xs.length <= sizeLine /\ ∃ (its : List Value) (n : Nat), Vals xs its /\ h.get? a = some { cls := .type "list", data := .seq its.toArray n }
 | .tup xs => xs.length <= sizeLine /\ ∃ its : List Value, Vals xs its /\ fZ h a its.toArray
 | .dK kvs => kvs.length <= sizeLine /\ (a == sysModules) = false /\ ∃ vs, KV kvs vs /\ h.DictOf (d7 P w) a vs
 | .dT kvs => kvs.length <= sizeLine /\ (a == sysModules) = false /\ ∃ xs : List (List Key × Addr × Value),
   Paired (fun (p : List Key × V) (q : List Key × Addr × Value) => p.1 = q.1 /\ H q.2.1 = some (.tup (p.1.map kV)) /\ RelV p.2 q.2.2) kvs xs /\
   ∃ o es ep, h.get? a = some o /\ o.ExactDict /\ o.data = .dict es ep /\ es.toList = xs.map (entryOfKey (tupleKind (d7 P w))) /\ (xs.map (·.1)).Nodup
 | .set S n => h.SetOf (intKind P w) a S n
 | .ins C dx fs => H dx = some (.own a) /\ fs.length <= 1000 /\ dx ≠ a /\ h.get? a = some (PySem.W.instObj C dx) /\
   ∃ mA, h.Ns1 dx mA /\ (∀ f, pZ (fs.lookup f) (mA f)) /\ PySem.Within mA (fs.map (·.1))
 | .own _ => ∃ o, h.get? a = some o
 | .xd fs => ∃ mA, h.Ns1 a mA /\ ∀ f, pZ (fs.lookup f) (mA f)
 | .rng lo hi => ∃ t u v, h.get? a = some { cls := .type "range", data := .fields #[.int lo t, .int hi u, .int 1 v] }
 | .frz o u => h.get? a = some o /\ cZ H h a u
 | .tbl ps => h.get? a = some { cls := .none, data := .fields ps }
 | .met f x => h.get? a = some (PySem.W.methodObj (.ref f) (.ref x))
 | .ext φ => φ h /\ (∃ o, h.get? a = some o) /\ ∀ h1 h2 : Heap, φ h1 -> (∀ o, h1.get? a = some o -> h2.get? a = some o) -> φ h2
def mD (H : Hp) (h : Heap) : Prop := ∀ a o, H a = some o -> cZ P w H h a o
end
section
variable {P : Program} {w : World} {H H' : Hp} {h h' : Heap} {a : Addr} {o : HO}
theorem cZ.lt (x : cZ P w H h a o) : a < h.objs.size := by
 cases o with
 | lst xs => obtain ⟨_, _, _, _, e⟩ := x; exact Heap.lt_size e
 | tup xs => obtain ⟨_, _, _, p⟩ := x; exact fZ.lt p
 | dK kvs => obtain ⟨_, _, _, _, o, _, _, e, _⟩ := x; exact Heap.lt_size e
 | dT kvs => obtain ⟨_, _, _, _, o, _, _, e, _⟩ := x; exact Heap.lt_size e
 | set S n => obtain ⟨o, _, _, _, e, _⟩ := x; exact Heap.lt_size e
 | ins C dx fs => obtain ⟨_, _, _, e, _⟩ := x; exact Heap.lt_size e
 | own y => obtain ⟨_, e⟩ := x; exact Heap.lt_size e
 | xd fs => obtain ⟨_, ⟨_, _, _, e, _⟩, _⟩ := x; exact Heap.lt_size e
 | rng lo hi => obtain ⟨_, _, _, e⟩ := x; exact Heap.lt_size e
 | frz ob u => obtain ⟨e, _⟩ := x; exact Heap.lt_size e
 | tbl ps => exact Heap.lt_size (show h.get? a = some _ from x)
 | met f y => exact Heap.lt_size (show h.get? a = some _ from x)
 | ext φ => obtain ⟨_, ⟨_, e⟩, _⟩ := x; exact Heap.lt_size e
theorem Paired.HF {α β : Type} {F G : α -> β -> Prop} : ∀ {l₁ : List α} {l₂ : List β}, Paired F l₁ l₂ -> (∀ a b, F a b -> G a b) -> Paired G l₁ l₂
 | _, _, .nil, _ => .nil
 | _, _, .cons r t, f => .cons (f _ _ r) (Paired.HF t f)
theorem cZ.stay (x : cZ P w H h a o) (k : ∀ b u, (b = a \/ H b = some (.own a)) -> h.get? b = some u -> h'.get? b = some u)
  (ho : ∀ b, H b = some (.own a) -> H' b = some (.own a)) (ht : ∀ b xs, H b = some (.tup xs) -> H' b = some (.tup xs)) : cZ P w H' h' a o := by
 induction o with
 | lst xs => obtain ⟨z, its, n, r, e⟩ := x; exact ⟨z, its, n, r, k _ _ (.inl rfl) e⟩
 | tup xs => obtain ⟨z, its, r, ob, e, c⟩ := x; exact ⟨z, its, r, ob, k _ _ (.inl rfl) e, c⟩
 | dK kvs => obtain ⟨z, y, vs, r, ob, es, ep, e, c⟩ := x; exact ⟨z, y, vs, r, ob, es, ep, k _ _ (.inl rfl) e, c⟩
 | dT kvs =>
  obtain ⟨z, y, xs, r, ob, es, ep, e, c⟩ := x
  exact ⟨z, y, xs, Paired.HF r fun p q z => ⟨z.1, ht _ _ z.2.1, z.2.2⟩, ob, es, ep, k _ _ (.inl rfl) e, c⟩
 | set S n => obtain ⟨ob, es, ep, t, e, c⟩ := x; exact ⟨ob, es, ep, t, k _ _ (.inl rfl) e, c⟩
 | ins C dx fs =>
  obtain ⟨d, z, ne, e, mA, ⟨od, es, ep, e2, c⟩, r⟩ := x
  exact ⟨ho _ d, z, ne, k _ _ (.inl rfl) e, mA, ⟨od, es, ep, k _ _ (.inr d) e2, c⟩, r⟩
 | own y => obtain ⟨ob, e⟩ := x; exact ⟨ob, k _ _ (.inl rfl) e⟩
 | xd fs => obtain ⟨mA, ⟨od, es, ep, e, c⟩, r⟩ := x; exact ⟨mA, ⟨od, es, ep, k _ _ (.inl rfl) e, c⟩, r⟩
 | rng lo hi => obtain ⟨t, u, v, e⟩ := x; exact ⟨t, u, v, k _ _ (.inl rfl) e⟩
 | frz ob u ih => obtain ⟨e, q⟩ := x; exact ⟨k _ _ (.inl rfl) e, ih q⟩
 | tbl ps =>
  have e : h.get? a = some { cls := .none, data := .fields ps } := x
  show h'.get? a = some { cls := .none, data := .fields ps }
  exact k a _ (.inl rfl) e
 | met f y =>
  have e : h.get? a = some (PySem.W.methodObj (.ref f) (.ref y)) := x
  show h'.get? a = some (PySem.W.methodObj (.ref f) (.ref y))
  exact k a _ (.inl rfl) e
 | ext φ => obtain ⟨p, ⟨o, e⟩, st⟩ := x; exact ⟨st _ _ p fun o q => k _ _ (.inl rfl) q, ⟨o, k _ _ (.inl rfl) e⟩, st⟩
theorem mD.lt (x : mD P w H h) (e : H a = some o) : a < h.objs.size := (x a o e).lt
theorem mD.fresh (x : mD P w H h) (e : h.objs.size <= a) : H a = none := by
 cases q : H a with
 | none => rfl
 | some u => exact absurd (Nat.lt_of_lt_of_le (x.lt q) e) (Nat.lt_irrefl _)
theorem mD.kept (x : mD P w H h) (k : ∀ b u, h.get? b = some u -> h'.get? b = some u) : mD P w H h' := fun a o e =>
 (x a o e).stay (fun b u _ q => k b u q) (fun _ q => q) fun _ _ q => q
theorem mD.laid (x : mD P w H h) (k : ∀ b u, h.get? b = some u -> h'.get? b = some u) (hp : h.objs.size <= a) (new : cZ P w (upd H a o) h' a o) : mD P w (upd H a o) h' := fun b u e => by
 have hn := x.fresh hp
 by_cases hb : b = a
 ·subst hb; rw [bL] at e; cases e; exact new
 ·rw [aO hb] at e
  exact (x b u e).stay (fun c v _ q => k c v q) (fun c q => by rw [aO (aV q hn)]; exact q) fun c xs q => by rw [aO (aV q hn)]; exact q
end
def Rd (H : Hp) (a : Addr) (u : HO) : Prop := H a = some u \/ ∃ o, H a = some (.frz o u)
theorem Rd.ok {P : Program} {w : World} {H : Hp} {h : Heap} {a : Addr} {u : HO} (r : Rd H a u) (x : mD P w H h) : cZ P w H h a u := by
 rcases r with r | ⟨o, r⟩
 ·exact x a u r
 ·obtain ⟨_, q⟩ := x a _ r
  exact q
def Kl : Option HO -> Prop
 | some (.lst _) => True
 | some (.dK _) => True
 | some (.dT _) => True
 | some (.set _ _) => True
 | some (.ins _ _ _) => True
 | some (.ext _) => True
 | _ => False
section
variable {P : Program} {w : World} {H : Hp} {h h' : Heap} {x e : Addr} {o' : HO}
theorem mD.write (ok : mD P w H h) (mu : Kl (H x)) (he : e = x \/ H e = some (.own x)) (k : ∀ b u, b ≠ e -> h.get? b = some u -> h'.get? b = some u) (heo : ∃ u, h'.get? e = some u)
  (new : cZ P w (upd H x o') h' x o') : mD P w (upd H x o') h' := fun b u q => by
 have nown : ∀ c y, H c = some (.own y) -> c ≠ x := fun c y r z => by subst z; rw [r] at mu; exact mu
 have ntup : ∀ c xs, H c = some (.tup xs) -> c ≠ x := fun c xs r z => by subst z; rw [r] at mu; exact mu
 by_cases hb : b = x
 ·subst hb; rw [bL] at q; cases q; exact new
 ·rw [aO hb] at q
  by_cases hbe : b = e
  ·have q' : H b = some (.own x) := by
    rcases he with z | z
    ·exact absurd (hbe.trans z) hb
    ·rw [hbe]; exact z
   rw [q] at q'; cases q'
   obtain ⟨v, hv⟩ := heo
   exact ⟨v, by rw [hbe]; exact hv⟩
  ·refine (ok b u q).stay (fun c v hc r => k c v ?_ r) (fun c r => by rw [aO (nown c b r)]; exact r) fun c xs r => by rw [aO (ntup c xs r)]; exact r
   rcases hc with rfl | hc
   ·exact hbe
   ·rintro rfl
    rcases he with z | z
    ·exact nown c b hc z
    ·rw [hc] at z; cases z; exact hb rfl
end
structure Un (fs ex : List Addr) (H H' : Hp) (h h' : Heap) : Prop where
 keep : ∀ b o, h.get? b = some o -> H b = none -> b ∉ fs -> b ∉ ex -> h'.get? b = some o
 slot : ∀ b o, h.get? b = some o -> H b = none -> b ∈ fs -> b ∉ ex -> ∃ sl, h'.get? b = some { o with slots := sl }
 free : ∀ b o, h.get? b = some o -> H b = none -> b ∉ ex -> H' b = none
 there : ∀ b o, h.get? b = some o -> b ∉ ex -> ∃ o', h'.get? b = some o'
 tups : ∀ b xs, H b = some (.tup xs) -> H' b = some (.tup xs)
 frzs : ∀ b o u, H b = some (.frz o u) -> H' b = some (.frz o u)
 tbls : ∀ b ps, H b = some (.tbl ps) -> ∃ more, H' b = some (.tbl (ps ++ more))
section
variable {fs fs' ex ex' : List Addr} {H H1 H2 : Hp} {h h1 h2 h' : Heap} {a x e : Addr} {o : HO}
theorem Un.any (u : Un fs ex H H1 h h1) {b : Addr} {ob : Obj} (q : h.get? b = some ob) (n : H b = none) (hx : b ∉ ex) : ∃ sl, h1.get? b = some { ob with slots := sl } := by
 by_cases hb : b ∈ fs
 ·exact u.slot b ob q n hb hx
 ·exact ⟨ob.slots, u.keep b ob q n hb hx⟩
theorem Un.kept (k : ∀ b u, h.get? b = some u -> h'.get? b = some u) : Un fs ex H H h h' :=
 ⟨fun b ob q _ _ _ => k b ob q, fun b ob q _ _ _ => ⟨ob.slots, k b ob q⟩, fun _ _ _ n _ => n, fun b ob q _ => ⟨ob, k b ob q⟩, fun _ _ q => q, fun _ _ _ q => q, fun _ ps q => ⟨#[], by rw [q]; simp⟩⟩
theorem Un.refl : Un fs ex H H h h := Un.kept fun _ _ q => q
theorem Un.laid (k : ∀ b u, h.get? b = some u -> h'.get? b = some u) (hp : h.objs.size <= a) (hn : H a = none) : Un fs ex H (upd H a o) h h' where
 keep := fun b u q _ _ _ => k b u q
 slot := fun b u q _ _ _ => ⟨u.slots, k b u q⟩
 free := fun b u q n _ => by rw [aO (Nat.ne_of_lt (Nat.lt_of_lt_of_le (Heap.lt_size q) hp))]; exact n
 there := fun b u q _ => ⟨u, k b u q⟩
 tups := fun b xs q => by rw [aO (aV q hn)]; exact q
 frzs := fun b u xs q => by rw [aO (aV q hn)]; exact q
 tbls := fun b ps q => ⟨#[], by rw [aO (aV q hn), q]; simp⟩
theorem Un.write (mu : Kl (H x)) (he : e = x \/ H e = some (.own x)) (k : ∀ b u, b ≠ e -> h.get? b = some u -> h'.get? b = some u) (heo : ∃ u, h'.get? e = some u) : Un fs ex H (upd H x o) h h' := by
 have hx : ∀ b, H b = none -> b ≠ x := fun b n z => by subst z; rw [n] at mu; exact mu
 have hb : ∀ b, H b = none -> b ≠ e := fun b n z => by
  subst z
  rcases he with r | r
  ·exact hx b n r
  ·rw [n] at r; cases r
 have hm : ∀ b u, H b = some u -> ¬ Kl (some u) -> b ≠ x := fun b u q nm z => by subst z; rw [q] at mu; exact nm mu
 refine ⟨fun b u q n _ _ => k b u (hb b n) q, fun b u q n _ _ => ⟨u.slots, k b u (hb b n) q⟩, fun b u q n _ => by rw [aO (hx b n)]; exact n, fun b u q _ => ?_,
  fun b xs q => by rw [aO (hm b _ q fun z => z)]; exact q, fun b u xs q => by rw [aO (hm b _ q fun z => z)]; exact q, fun b ps q => ⟨#[], by rw [aO (hm b _ q fun z => z), q]; simp⟩⟩
 by_cases hbe : b = e
 ·subst hbe; exact heo
 ·exact ⟨u, k b u hbe q⟩
end
def Kw (h : Heap) (H : Hp) : List Addr := (List.range h.objs.size).filter fun a => (H a).isSome
def rP (h : Heap) (H : Hp) : Heap := PySem.W.hideAll h (Kw h H)
theorem zm (h : Heap) (H : Hp) : (rP h H).objs.size = h.objs.size := PySem.W.hideAll_size _ _
theorem AF {h : Heap} {H : Hp} {b : Addr} {o : Obj} (e : h.get? b = some o) (n : H b = none) : (rP h H).get? b = some o :=
 PySem.W.hideAll_get _ e fun hm => by
  have q : (H b).isSome = true := (List.mem_filter.mp hm).2
  rw [n] at q; simp at q
theorem E1 {h : Heap} {H : Hp} {b : Addr} {o : Obj} (e : (rP h H).get? b = some o) : h.get? b = some o /\ H b = none := by
 have e' : h.get? b = some o := PySem.W.of_hideAll (Kw h H) e
 refine ⟨e', ?_⟩
 cases q : H b with
 | none => rfl
 | some x =>
  have hm : b ∈ Kw h H := List.mem_filter.mpr ⟨List.mem_range.mpr (Heap.lt_size e'), by simp [q]⟩
  have z : (rP h H).get? b = none := PySem.W.hideAll_none (Kw h H) hm
  rw [z] at e; cases e
def EG (g h : Heap) (L : Addr) : List (Addr × Obj) := (List.range h.objs.size).filterMap fun a => if a = L \/ (g.get? a).isSome = true then none else (h.get? a).map fun o => (a, o)
def rest (g h : Heap) (L d : Addr) : List (Addr × Obj) := (EG g h L).filter fun p => decide (p.1 ≠ d)
end L2
namespace L2
open PySem PySem.Spec PyProof.Rows
structure Mod (K : PySem.W.Frag) (mg : Str -> Option Value) (base : Heap) : Prop where
 kin : K.In base
 glob : base.Ns mainGlobals mg
 blt : ∃ mb, base.Ns builtinsNs mb /\ ∀ x : Str, x ≠ "__name__" -> mb x = bootBuiltins x
 nolimit : base.NoLimit
structure Cx where
 prog : Program
 w : World
 K : PySem.W.Frag
 mg : Str -> Option Value
 base : Heap
 A : Around
 N : List Str
 s₀ : Shared
 H₀ : Hp
 env : Env
 outer : List Env
 stack : List Env
 ex : List Addr
 fn : Str -> Bool
 calm : Bool
 pn : List (Addr × Obj)
 xe : Value -> Shared -> Prop
def frs (l : List Env) : List Addr := l.filterMap (·.frame)
abbrev Cx.fs (X : Cx) : List Addr := frs X.outer
def J_ (sc : Scope) (x : Str) : Prop := sc.names.lookup x = some .local \/ sc.names.lookup x = some .cell \/ sc.names.lookup x = some .free
def Loc (sc : Scope) (x : Str) : Prop := sc.names.lookup x = some .local \/ sc.names.lookup x = some .cell
def Look (env : Env) (h : Heap) (m : Str -> Option Value) (x : Str) (u : Value) : Prop :=
 (env.kindOf x = some .local /\ m x = some u) \/ ((env.kindOf x = some .cell \/ env.kindOf x = some .free) /\ ∃ c, env.cells.lookup x = some c /\ h.IsCell c (some u))
structure Cx.Ok (X : Cx) : Prop where
 mod : Mod X.K X.mg X.base
 kind : X.env.scope.kind = .function
 glob : X.env.globals = mainGlobals
 blt : X.env.builtins = builtinsNs
 above : X.s₀.heap.objs.size <= X.env.locals
 inj : ∀ x y c, X.env.cells.lookup x = some c -> X.env.cells.lookup y = some c -> x = y
 has : ∀ x, (X.env.kindOf x = some .cell \/ X.env.kindOf x = some .free) -> ∃ c, X.env.cells.lookup x = some c
 cab : ∀ x c, X.fn x = true -> X.env.cells.lookup x = some c -> X.s₀.heap.objs.size <= c
 hd : X.calm = true -> X.A.handled = none
 frames : X.A.frames = some X.stack
 stk : X.stack = X.outer \/ (X.stack = X.env :: X.outer /\ X.env.frame = some X.env.locals)
 exf : ∀ b ∈ X.ex, b ≠ X.env.locals /\ ∀ x c, X.env.cells.lookup x = some c -> c ≠ b
 bs : ∀ b o, X.base.get? b = some o -> X.s₀.heap.get? b = some o /\ X.H₀ b = none
 bsz : X.base.objs.size <= X.s₀.heap.objs.size
 noex : ∀ b o, X.base.get? b = some o -> b ∉ X.ex
 exfs : ∀ b ∈ X.ex, b ∉ X.fs
 pS : X.s₀.heap.FunFrames X.base X.outer
 frf : ∀ b ∈ X.fs, X.H₀ b = none
structure Inv (X : Cx) (pins : List (Addr × Obj)) (σ : List (Option V)) (H : Hp) (s : Shared) : Prop where
 ok : X.Ok
 os : s.os = X.s₀.os
 bare : AllBare s.gens
 base : Un X.fs X.ex X.H₀ H X.s₀.heap s.heap
 loc : ∃ m, s.heap.Ns X.env.locals m /\ ∀ (i : Nat) (x : Str) (v : V), X.N[i]? = some x -> σ[i]? = some (some v) -> J_ X.env.scope x -> ∃ u, RelV v u /\ Look X.env s.heap m x u
 cell : ∀ x c, X.env.cells.lookup x = some c -> ∃ v, s.heap.IsCell c v
 free : H X.env.locals = none
 freeC : ∀ x c, X.env.cells.lookup x = some c -> H c = none
 pin : ∀ p ∈ X.pn ++ pins, s.heap.get? p.1 = some p.2 /\ H p.1 = none /\ p.1 ≠ X.env.locals /\ p.1 ∉ X.fs /\ ∀ v, p.2.data ≠ .cell v
 hok : mD X.prog X.w H s.heap
 len : σ.length = X.N.length
section
variable {X : Cx} {pins : List (Addr × Obj)} {σ : List (Option V)} {H H' : Hp} {s : Shared} {h' : Heap}
theorem Cx.Ok.Ld (ok : X.Ok) {b : Addr} {o : Obj} (e : X.base.get? b = some o) : b ∉ X.fs := fun hb => by
 have := (ok.pS.mem hb).1
 rw [e] at this; cases this
theorem Inv.bs (I : Inv X pins σ H s) : ∀ b o, X.base.get? b = some o -> s.heap.get? b = some o /\ H b = none := fun b o e =>
 ⟨I.base.keep b o (I.ok.bs b o e).1 (I.ok.bs b o e).2 (I.ok.Ld e) (I.ok.noex b o e), I.base.free b o (I.ok.bs b o e).1 (I.ok.bs b o e).2 (I.ok.noex b o e)⟩
theorem Inv.bk (I : Inv X pins σ H s) : ∀ b o, X.base.get? b = some o -> s.heap.get? b = some o := fun b o e => (I.bs b o e).1
theorem Inv.mod (I : Inv X pins σ H s) : Mod X.K X.mg X.base := I.ok.mod
theorem Inv.tB (I : Inv X pins σ H s) : X.K.In s.heap := I.ok.mod.kin.keeps I.bk
theorem Inv.lt (I : Inv X pins σ H s) : X.env.locals < s.heap.objs.size := let ⟨_, hn, _⟩ := I.loc; hn.lt
theorem Inv.sz (I : Inv X pins σ H s) : X.s₀.heap.objs.size <= s.heap.objs.size := Nat.le_trans I.ok.above (Nat.le_of_lt I.lt)
theorem Inv.Ln (I : Inv X pins σ H s) {a : Addr} (h : s.heap.objs.size <= a) : a ∉ X.fs := fun hb => by
 obtain ⟨_, o, ho, _⟩ := I.ok.pS.mem hb
 exact absurd (Nat.lt_of_lt_of_le (Heap.lt_size ho) (Nat.le_trans I.sz h)) (Nat.lt_irrefl _)
theorem Inv.Ih (I : Inv X pins σ H s) : ∀ x c, X.env.cells.lookup x = some c -> c ≠ X.env.locals := fun x c e z => by
 obtain ⟨v, o, ho, hd⟩ := I.cell x c e
 obtain ⟨m, ⟨o', es, ep, ho', hd', _⟩, _⟩ := I.loc
 rw [z, ho'] at ho; cases ho; rw [hd'] at hd; cases hd
theorem Inv.pS (I : Inv X pins σ H s) : s.heap.FunFrames X.base X.outer := by
 have all : ∀ (l : List Env), (∀ b ∈ frs l, b ∈ X.fs) -> X.s₀.heap.FunFrames X.base l -> s.heap.FunFrames X.base l := by
  intro l
  induction l with
  | nil => intro _ _; trivial
  | cons env r ih =>
   intro hs hl
   obtain ⟨hk, ⟨L, o, hf, hn, ho, hd⟩, hr⟩ := hl
   have hL : L ∈ X.fs := hs L (by unfold frs; rw [List.filterMap_cons, hf]; exact List.mem_cons_self)
   obtain ⟨sl, e⟩ := I.base.slot L o ho (I.ok.frf L hL) hL fun z => I.ok.exfs L z hL
   exact ⟨hk, ⟨L, _, hf, hn, e, hd⟩, ih (fun b hb => hs b (by unfold frs; rw [List.filterMap_cons, hf]; exact List.mem_cons_of_mem _ hb)) hr⟩
 exact all X.outer (fun _ hb => hb) I.ok.pS
theorem Inv.stack (I : Inv X pins σ H s) : s.heap.FunFrames X.base X.stack := by
 rcases I.ok.stk with e | ⟨e, hf⟩
 ·rw [e]; exact I.pS
 ·rw [e]
  obtain ⟨m, hn, _⟩ := I.loc
  refine .cons (by rw [I.ok.kind]; decide) hf hn ?_ I.pS
  exact Heap.get?_none_of_le (Nat.le_trans I.ok.bsz I.ok.above)
theorem Inv.vZ (I : Inv X pins σ H s) : ∀ b ∈ frs X.stack, b ∈ X.env.locals :: X.fs := fun b hb => by
 rcases I.ok.stk with e | ⟨e, hf⟩
 ·rw [e] at hb; exact List.mem_cons_of_mem _ hb
 ·rw [e] at hb
  unfold frs at hb
  rw [List.filterMap_cons, hf] at hb
  exact hb
theorem Inv.yU (I : Inv X pins σ H s) : ∀ b ∈ frs X.stack, H b = none := fun b hb => by
 rcases List.mem_cons.mp (I.vZ b hb) with e | hb
 ·rw [e]; exact I.free
 ·obtain ⟨_, o, ho, _⟩ := I.ok.pS.mem hb
  exact I.base.free b o ho (I.ok.frf b hb) fun z => I.ok.exfs b z hb
theorem Inv.step {g' : Array GenState} {t' : Nat} {d' : Drawn} {ch : List Addr} (I : Inv X pins σ H s)
  (hch : ∀ b ∈ ch, (b ∈ X.ex \/ X.s₀.heap.objs.size <= b) /\ b ≠ X.env.locals /\ (∀ x c, X.env.cells.lookup x = some c -> c ≠ b) /\ ∀ p ∈ X.pn ++ pins, p.1 ≠ b)
  (keep : ∀ b o, b ≠ X.env.locals -> b ∉ X.fs -> b ∉ ch -> s.heap.get? b = some o -> H b = none -> h'.get? b = some o)
  (slot : ∀ b o, b ≠ X.env.locals -> b ∈ X.fs -> b ∉ ch -> s.heap.get? b = some o -> H b = none -> ∃ sl, h'.get? b = some { o with slots := sl }) (free : ∀ b o, b ∉ ch -> s.heap.get? b = some o -> H b = none -> H' b = none)
  (there : ∀ b o, b ∉ ch -> s.heap.get? b = some o -> ∃ o', h'.get? b = some o')
  (tups : ∀ b xs, H b = some (.tup xs) -> H' b = some (.tup xs)) (frzs : ∀ b o u, H b = some (.frz o u) -> H' b = some (.frz o u)) (tbls : ∀ b ps, H b = some (.tbl ps) -> ∃ more, H' b = some (.tbl (ps ++ more)))
  (ns : ∀ m, s.heap.Ns X.env.locals m -> h'.Ns X.env.locals m) (hok : mD X.prog X.w H' h') (hg : AllBare g') :
  Inv X pins σ H' { s with heap := h', gens := g', drawn := d', toks := t' } := by
 have neL : ∀ b o, X.s₀.heap.get? b = some o -> b ≠ X.env.locals := fun b o e => Nat.ne_of_lt (Nat.lt_of_lt_of_le (Heap.lt_size e) I.ok.above)
 have neC : ∀ b o, X.s₀.heap.get? b = some o -> b ∉ X.ex -> b ∉ ch := fun b o e hx hb => by
  rcases (hch b hb).1 with z | z
  ·exact hx z
  ·exact absurd (Nat.lt_of_lt_of_le (Heap.lt_size e) z) (Nat.lt_irrefl _)
 have cellK : ∀ x c, X.env.cells.lookup x = some c -> ∀ v, s.heap.IsCell c v -> h'.IsCell c v := fun x c e v ⟨o, ho, hd⟩ => by
  have nch : c ∉ ch := fun z => (hch c z).2.2.1 x c e rfl
  by_cases hc : c ∈ X.fs
  ·obtain ⟨sl, q⟩ := slot c o (I.Ih x c e) hc nch ho (I.freeC x c e)
   exact ⟨_, q, hd⟩
  ·exact ⟨o, keep c o (I.Ih x c e) hc nch ho (I.freeC x c e), hd⟩
 refine ⟨I.ok, I.os, hg, ⟨fun b o e n hb hx => ?_, fun b o e n hb hx => ?_, fun b o e n hx => ?_, fun b o e hx => ?_, fun b xs e => tups b xs (I.base.tups b xs e), fun b o xs e => frzs b o xs (I.base.frzs b o xs e), fun b ps e => ?_⟩, ?_, fun x c e => ?_, ?_, fun x c e => ?_, fun p hp => ?_, hok, I.len⟩
 ·exact keep b o (neL b o e) hb (neC b o e hx) (I.base.keep b o e n hb hx) (I.base.free b o e n hx)
 ·obtain ⟨sl, e1⟩ := I.base.slot b o e n hb hx
  obtain ⟨sl', e2⟩ := slot b _ (neL b o e) hb (neC b o e hx) e1 (I.base.free b o e n hx)
  exact ⟨sl', e2⟩
 ·obtain ⟨o', e1⟩ := I.base.there b o e hx
  exact free b o' (neC b o e hx) e1 (I.base.free b o e n hx)
 ·obtain ⟨o', e1⟩ := I.base.there b o e hx
  exact there b o' (neC b o e hx) e1
 ·obtain ⟨m1, e1⟩ := I.base.tbls b ps e
  obtain ⟨m2, e2⟩ := tbls b _ e1
  exact ⟨m1 ++ m2, by rw [e2, Array.append_assoc]⟩
 ·obtain ⟨m, hn, hl⟩ := I.loc
  refine ⟨m, ns m hn, fun i x v e1 e2 e3 => ?_⟩
  obtain ⟨u, r, l⟩ := hl i x v e1 e2 e3
  refine ⟨u, r, ?_⟩
  rcases l with l | ⟨k, c, e, z⟩
  ·exact .inl l
  ·exact .inr ⟨k, c, e, cellK x c e _ z⟩
 ·obtain ⟨v, z⟩ := I.cell x c e
  exact ⟨v, cellK x c e v z⟩
 ·obtain ⟨m, ⟨o, _, _, ho, _⟩, _⟩ := I.loc
  exact free _ o (fun z => (hch _ z).2.1 rfl) ho I.free
 ·obtain ⟨v, o, ho, hd⟩ := I.cell x c e
  exact free c o (fun z => (hch c z).2.2.1 x c e rfl) ho (I.freeC x c e)
 ·obtain ⟨e, n, ne, nf, d⟩ := I.pin p hp
  have nch : p.1 ∉ ch := fun z => (hch p.1 z).2.2.2 p hp rfl
  exact ⟨keep p.1 p.2 ne nf nch e n, free p.1 p.2 nch e n, ne, nf, d⟩
theorem Inv.un {t' : Nat} (I : Inv X pins σ H s) (u : Un X.fs [] H H' s.heap h') (hok : mD X.prog X.w H' h') : Inv X pins σ H' { s with heap := h', toks := t' } := by
 obtain ⟨m, ⟨o, es, ep, ho, r⟩, _⟩ := id I.loc
 obtain ⟨sl, hL⟩ := u.any ho I.free (by simp)
 exact I.step (g' := s.gens) (d' := s.drawn) (ch := []) (fun _ z => nomatch z) (fun b o _ hb _ e n => u.keep b o e n hb (by simp)) (fun b o _ hb _ e n => u.slot b o e n hb (by simp)) (fun b o _ e n => u.free b o e n (by simp)) (fun b o _ e => u.there b o e (by simp)) u.tups u.frzs u.tbls (fun m' hm => by
  obtain ⟨o', es', ep', ho', r'⟩ := hm
  rw [ho] at ho'; cases ho'
  exact ⟨_, es', ep', hL, r'⟩) hok I.bare
theorem Inv.call {g' : Array GenState} {t' : Nat} {d' : Drawn} {ch : List Addr} (I : Inv X pins σ H s) (u : Un (frs X.stack) ch H H' s.heap h') (hok : mD X.prog X.w H' h') (hg : AllBare g')
  (hch : ∀ b ∈ ch, (b ∈ X.ex \/ X.s₀.heap.objs.size <= b) /\ b ≠ X.env.locals /\ (∀ x c, X.env.cells.lookup x = some c -> c ≠ b) /\ ∀ p ∈ X.pn ++ pins, p.1 ≠ b) :
  Inv X pins σ H' { s with heap := h', gens := g', drawn := d', toks := t' } := by
 obtain ⟨m, ⟨o, es, ep, ho, r⟩, _⟩ := id I.loc
 obtain ⟨sl, hL⟩ := u.any ho I.free fun z => (hch _ z).2.1 rfl
 exact I.step (ch := ch) hch (fun b o hL hb hc e n => u.keep b o e n (fun z => (List.mem_cons.mp (I.vZ b z)).elim hL hb) hc) (fun b o _ _ hc e n => u.any e n hc) (fun b o hc e n => u.free b o e n hc) (fun b o hc e => u.there b o e hc) u.tups u.frzs u.tbls (fun m' hm => by
  obtain ⟨o', es', ep', ho', r'⟩ := hm
  rw [ho] at ho'; cases ho'
  exact ⟨_, es', ep', hL, r'⟩) hok hg
theorem Inv.turned {t' : Nat} {it : Addr} (I : Inv X pins σ H s) (k : ∀ b o, b ≠ it -> s.heap.get? b = some o -> h'.get? b = some o) (hn : H it = none) (hL : it ≠ X.env.locals)
  (h1 : it ∈ X.ex \/ X.s₀.heap.objs.size <= it) (h2 : ∀ x c, X.env.cells.lookup x = some c -> c ≠ it) (h3 : ∀ p ∈ X.pn ++ pins, p.1 ≠ it) : Inv X pins σ H { s with heap := h', toks := t' } := by
 have nit : ∀ b u, H b = some u -> b ≠ it := fun b u e z => by rw [z, hn] at e; cases e
 refine I.step (g' := s.gens) (d' := s.drawn) (ch := [it]) (fun b hb => ?_) (fun b o _ _ hc e _ => k b o (fun z => hc (by simp [z])) e) (fun b o _ _ hc e _ => ⟨o.slots, k b o (fun z => hc (by simp [z])) e⟩) (fun _ _ _ _ n => n)
  (fun b o hc e => ⟨o, k b o (fun z => hc (by simp [z])) e⟩) (fun _ _ e => e) (fun _ _ _ e => e) (fun b ps e => ⟨#[], by rw [e]; simp⟩) (fun m hm => ?_) (fun b u e => ?_) I.bare
 ·have e : b = it := by simpa using hb
  subst e
  exact ⟨h1, hL, h2, h3⟩
 ·obtain ⟨o, es, ep, ho, r⟩ := hm
  exact ⟨o, es, ep, k _ o (Ne.symm hL) ho, r⟩
 ·refine (I.hok b u e).stay (fun c v hc q => k c v ?_ q) (fun _ q => q) fun _ _ q => q
  rcases hc with z | z
  ·rw [z]; exact nit b u e
  ·exact nit c _ z
theorem Inv.tok (I : Inv X pins σ H s) (t : Nat) : Inv X pins σ H { s with toks := t } := I.un (h' := s.heap) (t' := t) Un.refl I.hok
theorem Inv.kept {t' : Nat} (I : Inv X pins σ H s) (k : ∀ b u, s.heap.get? b = some u -> h'.get? b = some u) : Inv X pins σ H { s with heap := h', toks := t' } := I.un (Un.kept k) (I.hok.kept k)
theorem Inv.laid {a : Addr} {o : HO} {t' : Nat} (I : Inv X pins σ H s) (k : ∀ b u, s.heap.get? b = some u -> h'.get? b = some u) (hp : s.heap.objs.size <= a) (new : cZ X.prog X.w (upd H a o) h' a o) :
  Inv X pins σ (upd H a o) { s with heap := h', toks := t' } := I.un (Un.laid k hp (I.hok.fresh hp)) (I.hok.laid k hp new)
theorem Inv.write {x e : Addr} {o : HO} {t' : Nat} (I : Inv X pins σ H s) (mu : Kl (H x)) (he : e = x \/ H e = some (.own x)) (k : ∀ b u, b ≠ e -> s.heap.get? b = some u -> h'.get? b = some u) (heo : ∃ u, h'.get? e = some u)
  (new : cZ X.prog X.w (upd H x o) h' x o) : Inv X pins σ (upd H x o) { s with heap := h', toks := t' } := I.un (Un.write mu he k heo) (I.hok.write mu he k heo new)
theorem Inv.wJ {pins' : List (Addr × Obj)} (I : Inv X pins σ H s) (h : ∀ p ∈ pins', s.heap.get? p.1 = some p.2 /\ H p.1 = none /\ p.1 ≠ X.env.locals /\ p.1 ∉ X.fs /\ ∀ v, p.2.data ≠ .cell v) : Inv X pins' σ H s :=
 ⟨I.ok, I.os, I.bare, I.base, I.loc, I.cell, I.free, I.freeC, fun p hp => (List.mem_append.mp hp).elim (fun z => I.pin p (List.mem_append_left _ z)) (h p), I.hok, I.len⟩
theorem uW {N : List Str} (hN : N.Nodup) {i j : Nat} {x : Str} (a : N[i]? = some x) (b : N[j]? = some x) : i = j := by
 obtain ⟨h1, e1⟩ := List.getElem?_eq_some_iff.mp a
 obtain ⟨h2, e2⟩ := List.getElem?_eq_some_iff.mp b
 exact (List.getElem_inj hN).mp (e1.trans e2.symm)
theorem zG {M : Model} {A : Around} {E : Value -> Shared -> Prop} {i : Nat} {x : Str} {v : V} {u : Value} {Q : Unit -> Shared -> Prop} (I : Inv X pins σ H s) (hN : X.N.Nodup) (hi : X.N[i]? = some x) (hx : Loc X.env.scope x) (r : RelV v u)
  (h : ∀ s', Inv X pins (σ.set i (some v)) H s' -> (∃ a, Heap.SameBut a s.heap s'.heap /\ (a = X.env.locals \/ X.env.cells.lookup x = some a)) -> Q () s') (hf : X.fn x = true \/ X.env.scope.names.lookup x = some .local := by first | exact .inl rfl | exact .inr rfl | assumption) : wpAny M A (storeName X.env x u) Q E s := by
 obtain ⟨m, hn, hl⟩ := id I.loc
 have hcls : (X.env.scope.kind == .class || (X.env.scope.kind == .module && X.env.locals != X.env.globals)) = false := by rw [I.ok.kind]; rfl
 have hiσ : i < σ.length := by rw [I.len]; exact (List.getElem?_eq_some_iff.mp hi).1
 have Ih := I.Ih
 have tracked : ∀ {a : Addr} {h' : Heap}, (∃ o, s.heap.get? a = some o /\ H a = none) -> Heap.SameBut a s.heap h' -> mD X.prog X.w H h' := fun {a h'} ha hs b ob e => by
  obtain ⟨_, _, hfree⟩ := ha
  refine (I.hok b ob e).stay (fun c w' hc q => (hs.2 c ?_).trans q) (fun _ q => q) fun _ _ q => q
  rintro rfl
  rcases hc with rfl | hc
  ·rw [hfree] at e; cases e
  ·rw [hfree] at hc; cases hc
 rcases hx with hk | hk
 ·refine wpAny_storeName_local hk hn (fun h' hn' hs => ?_) hcls
  obtain ⟨oL, _, _, hoL, _⟩ := id hn
  refine h _ ⟨I.ok, I.os, I.bare, ⟨fun b o e n hb hx => ?_, fun b o e n hb hx => ?_, I.base.free, fun b o e hx => ?_, I.base.tups, I.base.frzs, I.base.tbls⟩, ⟨_, hn', fun j y v' e1 e2 e3 => ?_⟩, fun y c e => ?_, I.free, I.freeC, fun p hp => ?_, tracked ⟨oL, hoL, I.free⟩ hs, by simpa using I.len⟩ ⟨_, hs, .inl rfl⟩
  ·exact (hs.2 b (Nat.ne_of_lt (Nat.lt_of_lt_of_le (Heap.lt_size e) I.ok.above))).trans (I.base.keep b o e n hb hx)
  ·obtain ⟨sl, e1⟩ := I.base.slot b o e n hb hx
   exact ⟨sl, (hs.2 b (Nat.ne_of_lt (Nat.lt_of_lt_of_le (Heap.lt_size e) I.ok.above))).trans e1⟩
  ·obtain ⟨o', e1⟩ := I.base.there b o e hx
   exact ⟨o', (hs.2 b (Nat.ne_of_lt (Nat.lt_of_lt_of_le (Heap.lt_size e) I.ok.above))).trans e1⟩
  ·by_cases hj : j = i
   ·subst hj
    rw [hi] at e1; cases e1
    rw [List.getElem?_set_self hiσ] at e2
    cases e2
    exact ⟨u, r, .inl ⟨hk, by simp⟩⟩
   ·rw [List.getElem?_set_ne (Ne.symm hj)] at e2
    obtain ⟨u', r', q⟩ := hl j y v' e1 e2 e3
    refine ⟨u', r', ?_⟩
    rcases q with ⟨k, e⟩ | ⟨k, c, e, z⟩
    ·refine .inl ⟨k, ?_⟩
     have : y ≠ x := fun e => hj (uW hN e1 (e ▸ hi))
     simp [this, e]
    ·exact .inr ⟨k, c, e, z.sameBut hs (Ih y c e)⟩
  ·obtain ⟨w', z⟩ := I.cell y c e
   exact ⟨w', z.sameBut hs (Ih y c e)⟩
  ·obtain ⟨e, n, ne, nf, d⟩ := I.pin p hp
   exact ⟨(hs.2 p.1 ne).trans e, n, ne, nf, d⟩
 ·have hfn : X.fn x = true := by
   rcases hf with z | z
   ·exact z
   ·rw [z] at hk; cases hk
  obtain ⟨c, hc⟩ := I.ok.has x (.inl hk)
  obtain ⟨w', z⟩ := I.cell x c hc
  refine wpAny_storeName_cell I.ok.kind hk hc z (fun h' hc' hs => ?_)
  obtain ⟨oc, hoc, hocd⟩ := id z
  refine h { s with heap := h' } ⟨I.ok, I.os, I.bare, ⟨fun b o e n hb hx => ?_, fun b o e n hb hx => ?_, I.base.free, fun b o e hx => ?_, I.base.tups, I.base.frzs, I.base.tbls⟩, ⟨m, hn.sameBut hs (Ne.symm (Ih x c hc)), fun j y v' e1 e2 e3 => ?_⟩, fun y c' e => ?_, I.free, I.freeC, fun p hp => ?_, tracked ⟨oc, hoc, I.freeC x c hc⟩ hs, by simpa using I.len⟩ ⟨c, hs, .inr hc⟩
  ·exact (hs.2 b (Nat.ne_of_lt (Nat.lt_of_lt_of_le (Heap.lt_size e) (I.ok.cab x c hfn hc)))).trans (I.base.keep b o e n hb hx)
  ·obtain ⟨sl, e1⟩ := I.base.slot b o e n hb hx
   exact ⟨sl, (hs.2 b (Nat.ne_of_lt (Nat.lt_of_lt_of_le (Heap.lt_size e) (I.ok.cab x c hfn hc)))).trans e1⟩
  ·obtain ⟨o', e1⟩ := I.base.there b o e hx
   exact ⟨o', (hs.2 b (Nat.ne_of_lt (Nat.lt_of_lt_of_le (Heap.lt_size e) (I.ok.cab x c hfn hc)))).trans e1⟩
  ·by_cases hj : j = i
   ·subst hj
    rw [hi] at e1; cases e1
    rw [List.getElem?_set_self hiσ] at e2
    cases e2
    exact ⟨u, r, .inr ⟨.inl hk, c, hc, hc'⟩⟩
   ·rw [List.getElem?_set_ne (Ne.symm hj)] at e2
    obtain ⟨u', r', q⟩ := hl j y v' e1 e2 e3
    refine ⟨u', r', ?_⟩
    rcases q with q | ⟨k, c', e, z'⟩
    ·exact .inl q
    ·refine .inr ⟨k, c', e, z'.sameBut hs ?_⟩
     rintro rfl
     exact hj (uW hN e1 (I.ok.inj _ _ _ e hc ▸ hi))
  ·by_cases hcc : c' = c
   ·subst hcc; exact ⟨_, hc'⟩
   ·obtain ⟨w2, z2⟩ := I.cell y c' e
    exact ⟨w2, z2.sameBut hs hcc⟩
  ·obtain ⟨e, n, ne, nf, d⟩ := I.pin p hp
   refine ⟨(hs.2 p.1 ?_).trans e, n, ne, nf, d⟩
   intro q
   rw [q, hoc] at e
   have q' : oc = p.2 := Option.some.inj e
   exact d w' (by rw [<- q']; exact hocd)
theorem p8 {M : Model} {A : Around} {E : Value -> Shared -> Prop} {i : Nat} {x : Str} {v : V} {u : Value} {Q : Unit -> Shared -> Prop} (I : Inv X pins σ H s) (hN : X.N.Nodup) (hi : X.N[i]? = some x) (hx : Loc X.env.scope x) (r : RelV v u)
  (h : ∀ s', Inv X pins (σ.set i (some v)) H s' -> Q () s') (hf : X.fn x = true \/ X.env.scope.names.lookup x = some .local := by first | exact .inl rfl | exact .inr rfl | assumption) : wpAny M A (storeName X.env x u) Q E s :=
 zG I hN hi hx r (fun s' I' _ => h s' I') hf
theorem Inv.yN {s' : Shared} {ch : List Addr} (I : Inv X pins σ H s) (ho : s'.os = s.os) (u : Un (frs X.stack) ch H H' s.heap s'.heap) (hok : mD X.prog X.w H' s'.heap) (hg : AllBare s'.gens)
  (hch : ∀ b ∈ ch, (b ∈ X.ex \/ X.s₀.heap.objs.size <= b) /\ b ≠ X.env.locals /\ (∀ x c, X.env.cells.lookup x = some c -> c ≠ b) /\ ∀ p ∈ X.pn ++ pins, p.1 ≠ b) : Inv X pins σ H' s' := by
 obtain ⟨h', g', d', t', o'⟩ := s'
 have e : o' = s.os := ho
 subst e
 exact I.call (g' := g') (t' := t') (d' := d') u hok hg hch
end
abbrev XK := Value -> Option Addr -> Hp -> Prop
abbrev St := List (Option V)
abbrev VK := V -> Hp -> Prop
abbrev TE := St -> Hp -> VK -> Prop
abbrev TT := St -> Hp -> (Bool -> Hp -> Prop) -> Prop
abbrev TA := St -> Hp -> (List V -> Hp -> Prop) -> Prop
structure Ends where
 nx : St -> Hp -> Prop
 rt : VK
 bk : St -> Hp -> Prop := fun _ _ => False
 ct : St -> Hp -> Prop := fun _ _ => False
abbrev TS := Ends -> St -> Hp -> Prop
def EP (X : Cx) (pins : List (Addr × Obj)) (σ : St) (Q : VK) (u : Value) (s' : Shared) : Prop := ∃ v H', Inv X pins σ H' s' /\ RelV v u /\ Q v H'
def TP (X : Cx) (pins : List (Addr × Obj)) (σ : St) (Q : Bool -> Hp -> Prop) (b : Bool) (s' : Shared) : Prop := ∃ H', Inv X pins σ H' s' /\ Q b H'
def AP (X : Cx) (pins : List (Addr × Obj)) (σ : St) (Q : List V -> Hp -> Prop) (us : List Value) (s' : Shared) : Prop := ∃ vs H', Inv X pins σ H' s' /\ Vals vs us /\ Q vs H'
def SP (X : Cx) (pins : List (Addr × Obj)) (D : Ends) (f : Flow) (s' : Shared) : Prop :=
 match f with
 | .next => ∃ σ' H', Inv X pins σ' H' s' /\ D.nx σ' H'
 | .brk => ∃ σ' H', Inv X pins σ' H' s' /\ D.bk σ' H'
 | .cont => ∃ σ' H', Inv X pins σ' H' s' /\ D.ct σ' H'
 | .ret u => ∃ v σ' H', Inv X pins σ' H' s' /\ RelV v u /\ D.rt v H'
def PE (X : Cx) (e : Expr) (t : TE) : Prop :=
 ∀ (pins : List (Addr × Obj)) (s : Shared) (σ : St) (H : Hp) (Q : VK), Inv X pins σ H s -> t σ H Q -> wpAny (model X.prog X.w) X.A (eval e X.env) (EP X pins σ Q) X.xe s
def PT (X : Cx) (e : Expr) (t : TT) : Prop :=
 ∀ (pins : List (Addr × Obj)) (s : Shared) (σ : St) (H : Hp) (Q : Bool -> Hp -> Prop), Inv X pins σ H s -> t σ H Q -> wpAny (model X.prog X.w) X.A (isTrue e X.env (eval e X.env)) (TP X pins σ Q) X.xe s
def PW (X : Cx) (e : Expr) (t : TT) : Prop :=
 ∀ (whole : Sem Value) (pins : List (Addr × Obj)) (s : Shared) (σ : St) (H : Hp) (Q : Bool -> Hp -> Prop), Inv X pins σ H s -> t σ H Q -> wpAny (model X.prog X.w) X.A (isTrue e X.env whole) (TP X pins σ Q) X.xe s
def PA (X : Cx) (es : List Expr) (t : TA) : Prop :=
 ∀ (pos : Pos) (pins : List (Addr × Obj)) (s : Shared) (σ : St) (H : Hp) (Q : List V -> Hp -> Prop), Inv X pins σ H s -> t σ H Q -> wpAny (model X.prog X.w) X.A (spliced (backTo pos (starEach es X.env))) (AP X pins σ Q) X.xe s
def PS (X : Cx) (st : Stmt) (t : TS) : Prop :=
 ∀ (pins : List (Addr × Obj)) (s : Shared) (σ : St) (H : Hp) (D : Ends), Inv X pins σ H s -> t D σ H -> wpAny (model X.prog X.w) X.A (exec st X.env) (SP X pins D) X.xe s
def tu (X : Cx) (st : List Stmt) (t : TS) : Prop :=
 ∀ (pins : List (Addr × Obj)) (s : Shared) (σ : St) (H : Hp) (D : Ends), Inv X pins σ H s -> t D σ H -> wpAny (model X.prog X.w) X.A (execs st X.env) (SP X pins D) X.xe s
theorem cQ {α : Type} {t : Sem α} {Q Q' : α -> Shared -> Prop} {M : Model} {A : Around} {E : Value -> Shared -> Prop} {s : Shared} (h : wpAny M A t Q E s) (hQ : ∀ a s, Q a s -> Q' a s) : wpAny M A t Q' E s := wpAny_mono h hQ fun _ _ x => x
end L2
namespace L2
open PySem PySem.Spec PyProof.Rows
section
variable {X : Cx}
def Lv (i : Nat) : TE := fun σ H Q => ∃ v, σ[i]? = some (some v) /\ Q v H
def tC (v : V) : TE := fun _ H Q => Q v H
theorem HA {i : Nat} {x : Str} {pos : Pos} (hN : X.N[i]? = some x) (hv : J_ X.env.scope x) (hd : (x == ("__debug__" : Str)) = false := by decide) (hcd : (x == ("__classdict__" : Str)) = false := by decide) : PE X (.Name x pos) (Lv i) := by
 intro pins s σ H Q I h
 obtain ⟨v, e, h⟩ := h
 obtain ⟨m, hn, hl⟩ := I.loc
 obtain ⟨u, r, l⟩ := hl i x v hN e hv
 have fin : EP X pins σ Q u s := ⟨v, H, I, r, h⟩
 rcases l with ⟨hk, hm⟩ | ⟨hk, c, hc, hcell⟩
 ·exact wpAny_Name (wpAny_loadName_local I.ok.kind hk hn hm fin) hd
 ·rcases hk with hk | hk
  ·exact wpAny_Name (wpAny_loadName_cell I.ok.kind hk hc hcell fin) hd
  ·exact wpAny_Name (wpAny_loadName_free I.ok.kind hk hc hcell fin hcd) hd
theorem vK {i j pos} : PE X (.Constant (.int i) j pos) (tC (.int i)) := fun _ _ _ H _ I h => wpAny_Constant_int ⟨.int i, H, I.tok _, ⟨_, rfl⟩, h⟩
theorem JG {b j pos} : PE X (.Constant (.bool b) j pos) (tC (.bl b)) := fun _ _ _ H _ I h => Constant_bool ⟨.bl b, H, I, rfl, h⟩
theorem Iw {j pos} : PE X (.Constant .none j pos) (tC .non) := fun _ _ _ H _ I h => Constant_none ⟨.non, H, I, rfl, h⟩
def Gl (X : Cx) (x : Str) : Prop := X.env.kindOf x = some .globalImplicit
theorem xF {E : Value -> Shared -> Prop} {pins : List (Addr × Obj)} {s : Shared} {σ : St} {H : Hp} {x : Str} {u : Value} {pos : Pos} {Q : Value -> Shared -> Prop} (I : Inv X pins σ H s) (hg : Gl X x) (hm : X.mg x = some u) (h : Q u s)
  (hd : (x == ("__debug__" : Str)) = false := by decide) : wpAny (model X.prog X.w) X.A (eval (.Name x pos) X.env) Q E s :=
 Calls.Name_function_global I.ok.kind hg (Calls.loadGlobal_global (by rw [I.ok.glob]; exact I.mod.glob.keeps I.bk) hm h) hd
theorem mh {E : Value -> Shared -> Prop} {pins : List (Addr × Obj)} {s : Shared} {σ : St} {H : Hp} {x : Str} {u : Value} {pos : Pos} {Q : Value -> Shared -> Prop} (I : Inv X pins σ H s) (hg : Gl X x) (hm : X.mg x = none) (hv : bootBuiltins x = some u) (h : Q u s)
  (hn : x ≠ "__name__" := by decide) (hd : (x == ("__debug__" : Str)) = false := by decide) : wpAny (model X.prog X.w) X.A (eval (.Name x pos) X.env) Q E s := by
 obtain ⟨mb, h1, h2⟩ := I.mod.blt
 exact Calls.Name_function_global I.ok.kind hg (Calls.loadGlobal_builtin (by rw [I.ok.glob]; exact I.mod.glob.keeps I.bk) hm (by rw [I.ok.blt]; exact h1.keeps I.bk) ((h2 x hn).trans hv) h) hd
theorem Ey {x : Str} {v : V} {u : Value} {pos : Pos} (hg : Gl X x) (hm : X.mg x = some u) (r : RelV v u) (hd : (x == ("__debug__" : Str)) = false := by decide) : PE X (.Name x pos) (tC v) :=
 fun _ _ _ H _ I h => xF I hg hm ⟨v, H, I, r, h⟩ hd
theorem Es {x : Str} {v : V} {u : Value} {pos : Pos} (hg : Gl X x) (hm : X.mg x = none) (hv : bootBuiltins x = some u) (r : RelV v u) (hn : x ≠ "__name__" := by decide) (hd : (x == ("__debug__" : Str)) = false := by decide) : PE X (.Name x pos) (tC v) :=
 fun _ _ _ H _ I h => mh I hg hm hv ⟨v, H, I, r, h⟩ hn hd
variable {a b : Expr} {ta tb : TE} {pos : Pos}
variable {tA tB' : TT} {rest : List Expr}
def JJ (t u : TT) : TT := fun σ H Q => t σ H fun c H1 => if c = true then u σ H1 Q else Q false H1
def L1 (t u : TT) : TT := fun σ H Q => t σ H fun c H1 => if c = true then Q true H1 else u σ H1 Q
def KZ (t : TT) : TT := fun σ H Q => t σ H fun c H1 => Q (!c) H1
theorem DQ (ha : PT X a tA) : PW X (.BoolOp .And [a] pos) tA := by
 intro wh pins s σ H Q I h
 refine isTrue_and (cQ (ha pins s σ H Q I h) fun c s1 e => ?_)
 cases c with
 | true => exact isTrue_and_nil e
 | false => exact e
theorem G9 (ha : PT X a tA) : PW X (.BoolOp .Or [a] pos) tA := by
 intro wh pins s σ H Q I h
 refine isTrue_or (cQ (ha pins s σ H Q I h) fun c s1 e => ?_)
 cases c with
 | false => exact isTrue_or_nil e
 | true => exact e
theorem G_ (ha : PT X a tA) (hb : PW X (.BoolOp .And (b :: rest) pos) tB') : PW X (.BoolOp .And (a :: b :: rest) pos) (JJ tA tB') := by
 intro wh pins s σ H Q I h
 refine isTrue_and (cQ (ha pins s σ H _ I h) fun c s1 ⟨H1, I1, q1⟩ => ?_)
 cases c with
 | true => exact hb wh pins s1 σ H1 Q I1 q1
 | false => exact ⟨H1, I1, q1⟩
theorem Jc (ha : PT X a tA) (hb : PW X (.BoolOp .Or (b :: rest) pos) tB') : PW X (.BoolOp .Or (a :: b :: rest) pos) (L1 tA tB') := by
 intro wh pins s σ H Q I h
 refine isTrue_or (cQ (ha pins s σ H _ I h) fun c s1 ⟨H1, I1, q1⟩ => ?_)
 cases c with
 | true => exact ⟨H1, I1, q1⟩
 | false => exact hb wh pins s1 σ H1 Q I1 q1
theorem IQ (ha : PT X a tA) : PT X (.UnaryOp .Not a pos) (KZ tA) := by
 intro pins s σ H Q I h
 exact isTrue_not (ha pins s σ H (fun c H1 => Q (!c) H1) I h)
def Jq (ta tb : TE) : TE := fun σ H Q => ta σ H fun x H1 => ∃ c, x = .bl c /\ if c = true then tb σ H1 Q else Q (.bl false) H1
def La (ta tb : TE) : TE := fun σ H Q => ta σ H fun x H1 => ∃ c, x = .bl c /\ if c = true then Q (.bl true) H1 else tb σ H1 Q
def Ku (ta : TE) : TE := fun σ H Q => ta σ H fun x H1 => ∃ c, x = .bl c /\ Q (.bl (!c)) H1
theorem GG {op} {t : TE} (h : PE X a t) : PE X (.BoolOp op [a] pos) t := fun pins s σ H Q I hw => BoolOp_one (h pins s σ H Q I hw)
theorem Ie (ha : PE X a ta) (hb : PE X (.BoolOp .And (b :: rest) pos) tb) : PE X (.BoolOp .And (a :: b :: rest) pos) (Jq ta tb) := by
 intro pins s σ H Q I h
 refine BoolOp_and (cQ (ha pins s σ H _ I h) fun v s1 ⟨x, H1, I1, r1, q1⟩ => ?_)
 obtain ⟨c, rfl, q1⟩ := q1
 cases r1
 refine wpAny_truthy_bool ?_
 cases c with
 | true => exact hb pins s1 σ H1 Q I1 q1
 | false => exact ⟨.bl false, H1, I1, rfl, q1⟩
theorem JV (ha : PE X a ta) (hb : PE X (.BoolOp .Or (b :: rest) pos) tb) : PE X (.BoolOp .Or (a :: b :: rest) pos) (La ta tb) := by
 intro pins s σ H Q I h
 refine BoolOp_or (cQ (ha pins s σ H _ I h) fun v s1 ⟨x, H1, I1, r1, q1⟩ => ?_)
 obtain ⟨c, rfl, q1⟩ := q1
 cases r1
 refine wpAny_truthy_bool ?_
 cases c with
 | false => exact hb pins s1 σ H1 Q I1 q1
 | true => exact ⟨.bl true, H1, I1, rfl, q1⟩
theorem HS (ha : PE X a ta) : PE X (.UnaryOp .Not a pos) (Ku ta) := by
 intro pins s σ H Q I h
 refine UnaryOp_ (cQ (ha pins s σ H _ I h) fun v s1 ⟨x, H1, I1, r1, q1⟩ => ?_)
 obtain ⟨c, rfl, q1⟩ := q1
 cases r1
 exact not_of (wpAny_truthy_bool ⟨.bl (!c), H1, I1, rfl, q1⟩)
end
end L2
namespace L2
open PySem PySem.Spec PyProof.Rows
def gy (K : PySem.W.Frag) (H : Hp) (a : Addr) (xs : List V) : Prop :=
 Rd H a (.lst xs) \/
  ∃ (o : Obj) (its : Array Value) (n : Nat), K.lookup a = some o /\ o.cls = .type "list" /\ o.dict = none /\ o.data = .seq its n /\ its.size <= sizeLine /\ Vals xs its.toList
def dZ (K : PySem.W.Frag) (H : Hp) (a : Addr) (xs : List V) : Prop :=
 Rd H a (.tup xs) \/
  ∃ (o : Obj) (its : Array Value) (n : Nat), K.lookup a = some o /\ o.cls = .type "tuple" /\ o.dict = none /\ o.data = .seq its n /\ its.size <= sizeLine /\ Vals xs its.toList
def LD : Value -> Option V
 | .none => some .non
 | .bool b => some (.bl b)
 | .int i _ => some (.int i)
 | .str x _ => some (.str x)
 | .bytes b _ => some (.byt b)
 | .float b _ => some (.flt b)
 | .ref a => some (.ref a)
 | .type n => some (.ty n)
 | _ => none
theorem RelV.abs {x : V} {u : Value} (r : RelV x u) : LD u = some x := by
 cases x with
 | non => cases r; rfl
 | bl _ => cases r; rfl
 | int _ => obtain ⟨t, rfl⟩ := r; rfl
 | str _ => obtain ⟨t, rfl⟩ := r; rfl
 | byt _ => obtain ⟨t, rfl⟩ := r; rfl
 | flt _ => obtain ⟨t, rfl⟩ := r; rfl
 | ref _ => cases r; rfl
 | ty _ => cases r; rfl
theorem RelV.inj {x y : V} {u : Value} (r : RelV x u) (q : RelV y u) : x = y := Option.some.inj (r.abs.symm.trans q.abs)
theorem Vals.inj : ∀ {xs ys : List V} {us : List Value}, Vals xs us -> Vals ys us -> xs = ys
 | _, _, _, .nil, .nil => rfl
 | _, _, _, .cons r t, .cons r' t' => by rw [r.inj r', Vals.inj t t']
section
variable {X : Cx} {pins : List (Addr × Obj)} {σ : St} {H : Hp} {s : Shared} {a : Addr} {xs ys : List V}
theorem gy.of {K : PySem.W.Frag} (h : H a = some (.lst xs)) : gy K H a xs := .inl (.inl h)
theorem dZ.of {K : PySem.W.Frag} (h : H a = some (.tup xs)) : dZ K H a xs := .inl (.inl h)
theorem Inv.list (I : Inv X pins σ H s) (h : gy X.K H a xs) : ∃ its : List Value, Vals xs its /\ PlainL s.heap a its.toArray /\ xs.length <= sizeLine := by
 rcases h with h | ⟨o, its, n, hk, hc, hd, hs, hz, r⟩
 ·obtain ⟨z, its, n, r, e⟩ := h.ok I.hok
  exact ⟨its, r, ⟨_, n, e, rfl, rfl, rfl⟩, z⟩
 ·refine ⟨its.toList, r, ⟨o, n, I.tB a o hk, hc, hd, by simpa using hs⟩, ?_⟩
  have e := r.length
  simp only [Array.length_toList] at e
  omega
theorem Inv.tuple (I : Inv X pins σ H s) (h : dZ X.K H a xs) : ∃ its : List Value, Vals xs its /\ IsTup s.heap a its.toArray /\ xs.length <= sizeLine := by
 rcases h with h | ⟨o, its, n, hk, hc, _, hs, hz, r⟩
 ·obtain ⟨z, its, r, p⟩ := h.ok I.hok
  exact ⟨its, r, p.tup, z⟩
 ·refine ⟨its.toList, r, ⟨o, I.tB a o hk, hc, n, by simpa using hs⟩, ?_⟩
  have e := r.length
  simp only [Array.length_toList] at e
  omega
theorem Inv.t9 (I : Inv X pins σ H s) (h : gy X.K H a xs) (h' : gy X.K H a ys) : xs = ys := by
 obtain ⟨its, r, ⟨o, n, e, _, _, d⟩, _⟩ := I.list h
 obtain ⟨its', r', ⟨o', n', e', _, _, d'⟩, _⟩ := I.list h'
 rw [e] at e'; cases e'
 rw [d] at d'
 injection d' with d1 _
 have : its = its' := by simpa using congrArg Array.toList d1
 subst this
 exact r.inj r'
theorem Inv.nQ (I : Inv X pins σ H s) (h : dZ X.K H a xs) (h' : dZ X.K H a ys) : xs = ys := by
 obtain ⟨its, r, ⟨o, e, _, n, d⟩, _⟩ := I.tuple h
 obtain ⟨its', r', ⟨o', e', _, n', d'⟩, _⟩ := I.tuple h'
 rw [e] at e'; cases e'
 rw [d] at d'
 injection d' with d1 _
 have : its = its' := by simpa using congrArg Array.toList d1
 subst this
 exact r.inj r'
end
abbrev Cx.qH (X : Cx) (E : Value -> Shared -> Prop) : Cx := { X with xe := E }
abbrev Cx.J9 (X : Cx) : Cx := X.qH fun _ _ => False
theorem Cx.Ok.qH {X : Cx} (ok : X.Ok) (E : Value -> Shared -> Prop) : (X.qH E).Ok :=
 ⟨ok.mod, ok.kind, ok.glob, ok.blt, ok.above, ok.inj, ok.has, ok.cab, ok.hd, ok.frames, ok.stk, ok.exf, ok.bs, ok.bsz, ok.noex, ok.exfs, ok.pS, ok.frf⟩
theorem Cx.Ok.kg {X : Cx} {E : Value -> Shared -> Prop} (ok : (X.qH E).Ok) : X.Ok :=
 ⟨ok.mod, ok.kind, ok.glob, ok.blt, ok.above, ok.inj, ok.has, ok.cab, ok.hd, ok.frames, ok.stk, ok.exf, ok.bs, ok.bsz, ok.noex, ok.exfs, ok.pS, ok.frf⟩
section
variable {X : Cx} {pins : List (Addr × Obj)} {σ : St} {H : Hp} {s : Shared} {E : Value -> Shared -> Prop}
theorem Inv.qH (I : Inv X pins σ H s) (E : Value -> Shared -> Prop) : Inv (X.qH E) pins σ H s := ⟨I.ok.qH E, I.os, I.bare, I.base, I.loc, I.cell, I.free, I.freeC, I.pin, I.hok, I.len⟩
theorem Inv.kg (I : Inv (X.qH E) pins σ H s) : Inv X pins σ H s := ⟨I.ok.kg, I.os, I.bare, I.base, I.loc, I.cell, I.free, I.freeC, I.pin, I.hok, I.len⟩
theorem SP.kg {D : Ends} {f : Flow} {s' : Shared} (h : SP (X.qH E) pins D f s') : SP X pins D f s' := by
 cases f with
 | next => obtain ⟨σ', H', I, q⟩ := h; exact ⟨σ', H', I.kg, q⟩
 | brk => obtain ⟨σ', H', I, q⟩ := h; exact ⟨σ', H', I.kg, q⟩
 | cont => obtain ⟨σ', H', I, q⟩ := h; exact ⟨σ', H', I.kg, q⟩
 | ret u => obtain ⟨v, σ', H', I, r, q⟩ := h; exact ⟨v, σ', H', I.kg, r, q⟩
theorem tu.J9 {st : List Stmt} {t : TS} (h : tu X.J9 st t) : tu X st t := fun pins s σ H D I hw =>
 wpAny_mono (h pins s σ H D (I.qH _) hw) (fun _ _ q => q.kg) fun _ _ z => False.elim z
end
section
variable {X : Cx} {st : Stmt} {rest : List Stmt} {t u : TS} {e : Expr} {te : TE} {pos : Pos}
def Jo : TS := fun D σ H => D.nx σ H
def Ka (t u : TS) : TS := fun D σ H => t { D with nx := u D } σ H
theorem Em : tu X [] Jo := fun _ _ σ H _ I h => wpAny_execs_nil ⟨σ, H, I, h⟩
theorem Al (h1 : PS X st t) (h2 : tu X rest u) : tu X (st :: rest) (Ka t u) := by
 intro pins s σ H D I h
 refine wpAny_execs_cons (cQ (h1 pins s σ H { D with nx := u D } I h) fun f s1 q => ?_)
 cases f with
 | next =>
  obtain ⟨σ', H', I', q⟩ := q
  exact h2 pins s1 σ' H' D I' q
 | ret v => exact q
 | brk => exact q
 | cont => exact q
theorem Ez (h1 : PS X st t) : tu X [st] t := by
 intro pins s σ H D I h
 refine wpAny_execs_cons (cQ (h1 pins s σ H D I h) fun f s1 q => ?_)
 cases f with
 | next => exact wpAny_execs_nil q
 | ret v => exact q
 | brk => exact q
 | cont => exact q
theorem Inv.quiet {pins : List (Addr × Obj)} {σ : St} {H : Hp} {s : Shared} (I : Inv X pins σ H s) : interactive X.env = false := by simp [interactive, I.ok.kind]
def Jm (te : TE) : TS := fun D σ H => te σ H fun _ H1 => D.nx σ H1
theorem EY (he : PE X e te) (hs : swapsWith e none pos.line X.env = pure false := by rfl) : PS X (.Expr e pos) (Jm te) := by
 intro pins s σ H D I h
 exact wpAny_Expr_any (cQ (he pins s σ H _ I h) fun v s1 ⟨x, H1, I1, r1, q1⟩ => ⟨σ, H1, I1, q1⟩) I.quiet hs
def LQ (te : TE) : TS := fun D σ H => te σ H D.rt
theorem G3 (he : PE X e te) : PS X (.Return (some e) pos) (LQ te) := by
 intro pins s σ H D I h
 exact wpAny_Return_some (cQ (he pins s σ H _ I h) fun v s1 ⟨x, H1, I1, r1, q1⟩ => ⟨x, σ, H1, I1, r1, q1⟩)
def LG (c : TT) (t u : TS) : TS := fun D σ H => c σ H fun b H1 => if b = true then t D σ H1 else u D σ H1
theorem J5 {c : Expr} {a b : List Stmt} {tc : TT} (hc : PT X c tc) (ha : tu X a t) (hb : tu X b u) : PS X (.If c a b pos) (LG tc t u) := by
 intro pins s σ H D I h
 refine wpAny_If (cQ (hc pins s σ H _ I h) fun d s1 ⟨H1, I1, q1⟩ => ?_)
 cases d with
 | true => exact ha pins s1 σ H1 D I1 q1
 | false => exact hb pins s1 σ H1 D I1 q1
def Ht : TS := fun _ _ _ => False
theorem Bw : PS X st Ht := fun _ _ _ _ _ _ h => h.elim
end
abbrev TG := V -> St -> Hp -> (St -> Hp -> Prop) -> Prop
abbrev Ft := List V -> St -> Hp -> (St -> Hp -> Prop) -> Prop
def PG (X : Cx) (target : Expr) (t : TG) : Prop :=
 ∀ (pins : List (Addr × Obj)) (s : Shared) (σ : St) (H : Hp) (v : V) (u : Value) (Q : St -> Hp -> Prop), Inv X pins σ H s -> RelV v u -> t v σ H Q ->
  wpAny (model X.prog X.w) X.A (assign target X.env u) (fun _ s' => ∃ σ' H', Inv X pins σ' H' s' /\ Q σ' H') X.xe s
def Jk (X : Cx) (ts : List Expr) (t : Ft) : Prop :=
 ∀ (pins : List (Addr × Obj)) (s : Shared) (σ : St) (H : Hp) (vs : List V) (us : List Value) (Q : St -> Hp -> Prop), Inv X pins σ H s -> Vals vs us -> t vs σ H Q ->
  wpAny (model X.prog X.w) X.A (assignInOrder ((assignEach ts X.env).map (·.2)) us) (fun _ s' => ∃ σ' H', Inv X pins σ' H' s' /\ Q σ' H') X.xe s
abbrev Co := V -> V -> V -> Hp -> (Hp -> Prop) -> Prop
def Dh (X : Cx) (t : Co) : Prop :=
 ∀ (pins : List (Addr × Obj)) (s : Shared) (σ : St) (H : Hp) (o i v : V) (ov iv u : Value) (Q : Hp -> Prop), Inv X pins σ H s -> RelV o ov -> RelV i iv -> RelV v u -> t o i v H Q ->
  wpAny (model X.prog X.w) X.A (setItem ov iv u) (fun _ s' => ∃ H', Inv X pins σ H' s' /\ Q H') X.xe s
abbrev Ke := V -> V -> Hp -> VK -> Prop
def IW (X : Cx) (op : Operator) (t : Ke) : Prop :=
 ∀ (pins : List (Addr × Obj)) (s : Shared) (σ : St) (H : Hp) (x y : V) (v u : Value) (Q : VK), Inv X pins σ H s -> RelV x v -> RelV y u -> t x y H Q ->
  wpAny (model X.prog X.w) X.A (inplaceOp op v u) (EP X pins σ Q) X.xe s
section
variable {X : Cx} {pos : Pos}
def Bs (i : Nat) : TG := fun v σ H Q => Q (σ.set i (some v)) H
theorem yu {i : Nat} {x : Str} (hN : X.N.Nodup) (hi : X.N[i]? = some x) (hx : Loc X.env.scope x) (hf : X.fn x = true \/ X.env.scope.names.lookup x = some .local := by first | exact .inl rfl | exact .inr rfl | assumption) : PG X (.Name x pos) (Bs i) := by
 intro pins s σ H v u Q I r h
 exact wpAny_assign_Name (p8 I hN hi hx r (fun s' I' => ⟨_, H, I', h⟩) hf)
def LF : Ft := fun vs σ H Q => vs = [] /\ Q σ H
def J1 (t : TG) (u : Ft) : Ft := fun vs σ H Q => ∃ v r, vs = v :: r /\ t v σ H fun σ' H' => u r σ' H' Q
theorem EU : Jk X [] LF := by
 intro pins s σ H vs us Q I r h
 obtain ⟨e, h⟩ := h
 subst e
 cases r
 exact assignInOrder_nil ⟨σ, H, I, h⟩
theorem BN {e : Expr} {es : List Expr} {t : TG} {u : Ft} (h1 : PG X e t) (h2 : Jk X es u)
  (hs : (assignEach (e :: es) X.env).map (·.2) = assign e X.env :: (assignEach es X.env).map (·.2) := by rfl) : Jk X (e :: es) (J1 t u) := by
 intro pins s σ H vs us Q I r h
 obtain ⟨v, vr, e1, h⟩ := h
 subst e1
 cases r with
 | cons r rr =>
  rw [hs]
  refine assignInOrder_cons (cQ (h1 pins s σ H _ _ _ I r h) fun _ s1 ⟨σ1, H1, I1, q1⟩ => ?_)
  exact h2 pins s1 σ1 H1 _ _ Q I1 rr q1
def LO (K : PySem.W.Frag) (n : Nat) (t : Ft) : TG := fun v σ H Q => ∃ a xs, v = .ref a /\ dZ K H a xs /\ xs.length = n /\ t xs σ H Q
theorem IP {es : List Expr} {k : Nat} {t : Ft} {n : Nat} (hc : X.calm = true) (h : Jk X es t)
  (hn : (assignEach es X.env).length = n := by rfl) (hst : (assignEach es X.env).findIdx? (·.1) = none := by rfl) : PG X (.Tuple es k pos) (LO X.K n t) := by
 intro pins s σ H v u Q I r hw
 obtain ⟨a, xs, e1, hq, hl, hw⟩ := hw
 subst e1
 cases r
 obtain ⟨its, rv, ht, hz⟩ := I.tuple hq
 refine assign_Tuple_tuple (I.ok.hd hc) ht (by simp [hn, <- hl, rv.length]) hst fun h' hx => ?_
 have I1 : Inv X pins σ H { s with heap := h' } := I.kept (t' := s.toks) fun b o e => hx b o (Nat.ne_of_lt (Heap.lt_size e)) e
 exact h pins _ σ H xs _ Q I1 (by simpa using rv) hw
def Lq (to ti : TE) (t : Co) : TG := fun v σ H Q => to σ H fun o H1 => ti σ H1 fun i H2 => t o i v H2 fun H3 => Q σ H3
theorem AN {o i : Expr} {to ti : TE} {t : Co} (ho : PE X o to) (hi : PE X i ti) (hs : Dh X t)
  (ha : ∀ v, assign (.Subscript o i pos) X.env v = (do
   let ov <- holding [v] (eval o X.env)
   let iv <- holding [v, ov] (eval i X.env)
   standAt pos
   holding [v, ov, iv] (setItem ov iv v)
   release [v, ov, iv] []) := by intro _; rfl) : PG X (.Subscript o i pos) (Lq to ti t) := by
 intro pins s σ H v u Q I r h
 rw [ha]
 refine wpAny_bind (wpAny_holding (cQ (ho pins s σ H _ I h) fun ov s1 ⟨x, H1, I1, r1, q1⟩ => ?_))
 refine wpAny_bind (wpAny_holding (cQ (hi pins s1 σ H1 _ I1 q1) fun iv s2 ⟨y, H2, I2, r2, q2⟩ => ?_))
 refine wpAny_bind (wpAny_standAt (wpAny_bind (wpAny_holding (cQ (hs pins s2 σ H2 x y v ov iv u _ I2 r1 r2 r q2) fun _ s3 ⟨H3, I3, q3⟩ => ?_))))
 exact wpAny_release ⟨σ, H3, I3, q3⟩
def D7 (te : TE) (g : TG) : TS := fun D σ H => te σ H fun x H1 => g x σ H1 D.nx
theorem GY {tg e : Expr} {te : TE} {g : TG} (he : PE X e te) (hg : PG X tg g) (hs : swapsWithSole [tg] e pos.line X.env = pure false := by rfl) (hw : swappedStores [tg] e X.env = pure none := by rfl)
  (h1 : (assignEach [tg] X.env).map (·.2) = [assign tg X.env] := by rfl) : PS X (.Assign [tg] e pos) (D7 te g) := by
 intro pins s σ H D I h
 refine wpAny_Assign_stores (cQ (he pins s σ H _ I h) fun v s1 ⟨x, H1, I1, r1, q1⟩ => ?_) hs hw
 rw [h1]
 exact cQ (hg pins s1 σ H1 x v _ I1 r1 q1) fun _ s2 q => q
theorem G4 {i : Nat} {x : Str} {e : Expr} {te : TE} {pos' : Pos} (hN : X.N.Nodup) (hi : X.N[i]? = some x) (hx : Loc X.env.scope x) (he : PE X e te) (hs : swapsWith e (some (.Name x pos')) pos.line X.env = pure false := by rfl) (hf : X.fn x = true \/ X.env.scope.names.lookup x = some .local := by first | exact .inl rfl | exact .inr rfl | assumption) :
  PS X (.Assign [.Name x pos'] e pos) (D7 te (Bs i)) := by
 intro pins s σ H D I h
 refine wpAny_Assign_Name (cQ (he pins s σ H _ I h) fun v s1 ⟨y, H1, I1, r1, q1⟩ => ?_) hs
 exact p8 I1 hN hi hx r1 (fun s2 I2 => ⟨_, H1, I2, q1⟩) hf
def K4 (i : Nat) (te : TE) (ti : Ke) : TS := fun D σ H => ∃ x, σ[i]? = some (some x) /\ te σ H fun y H1 => ti x y H1 fun z H2 => D.nx (σ.set i (some z)) H2
theorem Ik {i : Nat} {x : Str} {e : Expr} {te : TE} {op : Operator} {ti : Ke} {pos' : Pos} (hN : X.N.Nodup) (hi : X.N[i]? = some x) (hx : Loc X.env.scope x) (he : PE X e te) (ho : IW X op ti) (hf : X.fn x = true \/ X.env.scope.names.lookup x = some .local := by first | exact .inl rfl | exact .inr rfl | assumption) :
  PS X (.AugAssign (.Name x pos') op e pos) (K4 i te ti) := by
 intro pins s σ H D I h
 obtain ⟨v, e1, h⟩ := h
 obtain ⟨m, hn, hl⟩ := I.loc
 have vis : J_ X.env.scope x := by rcases hx with k | k; exact .inl k; exact .inr (.inl k)
 obtain ⟨u, r, l⟩ := hl i x v hi e1 vis
 refine wpAny_AugAssign_Name ?_
 have go : wpAny (model X.prog X.w) X.A (eval e X.env) (fun w s₂ => wpAny (model X.prog X.w) X.A (inplaceOp op u w) (fun r s₃ => wpAny (model X.prog X.w) X.A (storeName X.env x r) (fun _ => SP X pins D .next) X.xe s₃) X.xe s₂) X.xe s := by
  refine cQ (he pins s σ H _ I h) fun w s1 ⟨y, H1, I1, r1, q1⟩ => ?_
  refine cQ (ho pins s1 σ H1 v y u w _ I1 r r1 q1) fun z s2 ⟨zv, H2, I2, r2, q2⟩ => ?_
  exact p8 I2 hN hi hx r2 (fun s3 I3 => ⟨_, H2, I3, q2⟩) hf
 rcases l with ⟨hk, hm⟩ | ⟨hk, c, hc, hcell⟩
 ·exact wpAny_loadName_local I.ok.kind hk hn hm go
 ·rcases hk with hk | hk
  ·exact wpAny_loadName_cell I.ok.kind hk hc hcell go
  ·rcases hx with k | k
   ·have : X.env.scope.names.lookup x = some .free := hk
    rw [k] at this; cases this
   ·have : X.env.scope.names.lookup x = some .free := hk
    rw [k] at this; cases this
def Ml (f : Int -> Int -> Int) : Ke := fun x y H Q => ∃ i j, x = .int i /\ y = .int j /\ Q (.int (f i j)) H
theorem Hh : IW X .Add (Ml fun i j => i + j) := by
 intro pins s σ H x y v u Q I r1 r2 h
 obtain ⟨i, j, e1, e2, q⟩ := h
 subst e1; subst e2
 obtain ⟨t, rfl⟩ := r1
 obtain ⟨t', rfl⟩ := r2
 exact iadd_int ⟨.int _, H, I.tok _, ⟨_, rfl⟩, q⟩
theorem Iu : IW X .Sub (Ml fun i j => i - j) := by
 intro pins s σ H x y v u Q I r1 r2 h
 obtain ⟨i, j, e1, e2, q⟩ := h
 subst e1; subst e2
 obtain ⟨t, rfl⟩ := r1
 obtain ⟨t', rfl⟩ := r2
 exact isub_int ⟨.int _, H, I.tok _, ⟨_, rfl⟩, q⟩
end
section
variable {X : Cx} {pos : Pos}
def CL (c : TT) (tb : TS) : TS := fun D σ H => ∃ W : Nat -> St -> Hp -> Prop, (∃ m, W m σ H) /\ ∀ m σ H, W m σ H ->
 c σ H fun b H1 => if b = true then ∃ N : St -> Hp -> Prop, (∀ σ' H', N σ' H' -> ∃ m', m' < m /\ W m' σ' H') /\ tb { D with nx := N, ct := N, bk := D.nx } σ H1 else D.nx σ H1
theorem CB {c : Expr} {body : List Stmt} {tc : TT} {tb : TS} (hp : PassesOwn (model X.prog X.w) X.A X.env X.xe) (hc : PT X c tc) (hb : tu X body tb) : PS X (.While c body [] pos) (CL tc tb) := by
 intro pins s σ H D I h
 obtain ⟨W, ⟨m0, w0⟩, turn⟩ := h
 refine wpAny_While (codeAny_whileLoop (fun n s' => ∃ σ' H', Inv X pins σ' H' s' /\ W n σ' H') ?_ m0 ⟨σ, H, I, w0⟩)
 rintro n s1 ⟨σ1, H1, I1, w1⟩
 refine wpAny_passesOwn hp (cQ (hc pins s1 σ1 H1 _ I1 (turn n σ1 H1 w1)) fun b s2 ⟨H2, I2, q2⟩ => ?_)
 cases b with
 | true =>
  obtain ⟨N, hN, q2⟩ := q2
  rw [if_pos rfl]
  refine wpAny_passesOwn hp (cQ (hb pins s2 σ1 H2 _ I2 q2) fun f s3 q3 => ?_)
  cases f with
  | next =>
   obtain ⟨σ3, H3, I3, n3⟩ := q3
   obtain ⟨m', hm, w3⟩ := hN σ3 H3 n3
   exact ⟨m', hm, σ3, H3, I3, w3⟩
  | cont =>
   obtain ⟨σ3, H3, I3, n3⟩ := q3
   obtain ⟨m', hm, w3⟩ := hN σ3 H3 n3
   exact ⟨m', hm, σ3, H3, I3, w3⟩
  | brk => exact q3
  | ret v => exact q3
 | false =>
  rw [if_neg Bool.false_ne_true]
  exact wpAny_execs_nil ⟨σ1, H2, I2, q2⟩
end
structure It where
 go : Nat -> Hp -> Prop
 yld : Nat -> Hp -> V -> Hp -> Prop
 stop : Nat -> Hp -> Prop
def ju (X : Cx) (pins : List (Addr × Obj)) (H : Hp) (b : Addr) : Prop :=
 H b = none /\ b ≠ X.env.locals /\ b ∉ X.fs /\ (b ∈ X.ex \/ X.s₀.heap.objs.size <= b) /\ (∀ x c, X.env.cells.lookup x = some c -> c ≠ b) /\ ∀ p ∈ X.pn ++ pins, p.1 ≠ b
theorem Inv.rW {X : Cx} {pins : List (Addr × Obj)} {σ : St} {H H' : Hp} {s : Shared} {b : Addr} (I : Inv X pins σ H s) (hb : s.heap.objs.size <= b) (hn : H' b = none) : ju X pins H' b := by
 refine ⟨hn, Nat.ne_of_gt (Nat.lt_of_lt_of_le I.lt hb), I.Ln hb, .inr (Nat.le_trans I.sz hb), fun x c e z => ?_, fun p hp z => ?_⟩
 ·obtain ⟨v, q⟩ := I.cell x c e
  exact absurd (Nat.lt_of_lt_of_le q.lt (by rw [z]; exact hb)) (Nat.lt_irrefl _)
 ·exact absurd (Nat.lt_of_lt_of_le (Heap.lt_size (I.pin p hp).1) (by rw [z]; exact hb)) (Nat.lt_irrefl _)
structure Turn (P : Program) (w : World) (K : PySem.W.Frag) (tg : Expr) (J : It) (fp : List Addr) (it : Addr) (tn : Nat -> Heap -> Prop) : Prop where
 mem : it ∈ fp
 obj : ∀ i h, tn i h -> ∀ b ∈ fp, ∃ o, h.get? b = some o /\ ∀ v, o.data ≠ .cell v
 keep : ∀ i h h', tn i h -> (∀ b ∈ fp, ∀ o, h.get? b = some o -> h'.get? b = some o) -> tn i h'
 item : ∀ (X : Cx), X.prog = P -> X.w = w -> X.K = K -> X.calm = true -> ∀ (i : Nat) (pins : List (Addr × Obj)) (s : Shared) (σ : St) (H : Hp) (E : Value -> Shared -> Prop), Inv X pins σ H s -> (∀ b ∈ fp, ju X pins H b) -> tn i s.heap -> J.go i H ->
  wpAny (model P w) X.A (pyNext (.ref it)) (fun r s1 => ∃ u, r = some u /\
   wpAny (model P w) X.A (letOwnedTupleGo tg (.ref it) u) (fun _ s2 => ∃ x H', Inv X pins σ H' s2 /\ RelV x u /\ J.yld i H x H' /\ tn (i + 1) s2.heap /\ ∀ b ∈ fp, H' b = none) E s1) E s
 done : ∀ (X : Cx), X.prog = P -> X.w = w -> X.K = K -> X.calm = true -> ∀ (i : Nat) (pins : List (Addr × Obj)) (s : Shared) (σ : St) (H : Hp) (E : Value -> Shared -> Prop), Inv X pins σ H s -> (∀ b ∈ fp, ju X pins H b) -> tn i s.heap -> J.stop i H ->
  wpAny (model P w) X.A (pyNext (.ref it)) (fun r s1 => r = none /\ Inv X pins σ H s1) E s
 self : ∀ (A : Around) (i : Nat) (s : Shared) (Q : Value -> Shared -> Prop) (E : Value -> Shared -> Prop), tn i s.heap -> Q (.ref it) s -> wpAny (model P w) A (pyIter (.ref it)) Q E s
abbrev TI := St -> Hp -> (It -> Hp -> Prop) -> Prop
def LZ (X : Cx) (pins : List (Addr × Obj)) (σ : St) (tg : Expr) (R : It -> Hp -> Prop) (itv : Value) (s2 : Shared) : Prop :=
 ∃ (it : Addr) (fp : List Addr) (tn : Nat -> Heap -> Prop) (J : It) (H' : Hp), itv = .ref it /\ Inv X pins σ H' s2 /\ Turn X.prog X.w X.K tg J fp it tn /\ tn 0 s2.heap /\ (∀ b ∈ fp, ju X pins H' b) /\ R J H'
def PI (X : Cx) (tg iter : Expr) (wi : TI) : Prop :=
 ∀ (pins : List (Addr × Obj)) (s : Shared) (σ : St) (H : Hp) (R : It -> Hp -> Prop), Inv X pins σ H s -> wi σ H R ->
  wpAny (model X.prog X.w) X.A (eval iter X.env) (fun v s1 => wpAny (model X.prog X.w) X.A (pyIter v) (LZ X pins σ tg R) X.xe s1) X.xe s
theorem yk {M : Model} {A : Around} {E : Value -> Shared -> Prop} {s : Shared} {tg : Expr} {it : Addr} {u : Value} {o : Obj} {n : String} {vs : Array Value} {Q : Unit -> Shared -> Prop} (ho : s.heap.get? it = some o) (hc : o.cls = .type n) (hd : o.data = .fields vs)
  (hn : ["enumerate", "zip", "dict_itemiterator", "dict_reverseitemiterator", "odict_iterator", "itertools.zip_longest", "itertools.pairwise"].contains n = false) (hQ : Q () s) : wpAny M A (letOwnedTupleGo tg (.ref it) u) Q E s := by
 unfold letOwnedTupleGo
 cases tg <;> first
  | exact wpAny_pure hQ
  | (cases u <;> first
    | exact wpAny_pure hQ
    | (refine wpAny_bind (wpAny_load ho ?_)
       rw [hc, hd]
       show wpAny M A (if (["enumerate", "zip", "dict_itemiterator", "dict_reverseitemiterator", "odict_iterator", "itertools.zip_longest", "itertools.pairwise"].contains n && vs[0]? == some (rawInt _)) = true then _ else _) Q E s
       rw [if_neg (by intro h; rw [hn, Bool.false_and] at h; cases h)]
       exact wpAny_pure hQ))
def KG (K : PySem.W.Frag) (a : Addr) : It :=
 ⟨fun i H => ∃ xs x, gy K H a xs /\ xs[i]? = some x, fun i H x H' => H' = H /\ ∀ xs, gy K H a xs -> xs[i]? = some x, fun i H => ∃ xs, gy K H a xs /\ xs.length <= i⟩
def Lz (K : PySem.W.Frag) (a : Addr) : It :=
 ⟨fun i H => ∃ xs x, dZ K H a xs /\ xs[i]? = some x, fun i H x H' => H' = H /\ ∀ xs, dZ K H a xs -> xs[i]? = some x, fun i H => ∃ xs, dZ K H a xs /\ xs.length <= i⟩
def Kc (lo : Int) (n : Nat) : It := ⟨fun i _ => i < n, fun i H x H' => H' = H /\ x = .int (lo + i), fun i _ => n <= i⟩
theorem zM {P : Program} {w : World} {K : PySem.W.Frag} {tg : Expr} (a it : Addr) : Turn P w K tg (KG K a) [it] it (fun i h => h.IsListIter it a i) where
 mem := by simp
 obj := fun i h st b hb => by
  have e : b = it := by simpa using hb
  subst e
  obtain ⟨o, e, c, d⟩ := st
  exact ⟨o, e, fun v z => by rw [d] at z; cases z⟩
 keep := fun i h h' st k => st.at fun o e => k it (by simp) o e
 item := by
  intro X hP hw hK hc i pins s σ H E I hf st hg
  subst hP hw hK
  obtain ⟨xs, x, hq, hx⟩ := hg
  obtain ⟨its, rv, p, hz⟩ := I.list hq
  obtain ⟨u, hu, ru⟩ := rv.get hx
  obtain ⟨f0, f1, f2, f3, f4, f5⟩ := hf it (by simp)
  refine wpAny_pyNext_list_item st p.isList (x := u) (by simpa using hu) fun h' st' sb => ?_
  have I1 : Inv X pins σ H { s with heap := h' } := I.turned (t' := s.toks) (fun b o hb e => (sb.2 b hb).trans e) f0 f1 f3 f4 f5
  obtain ⟨o, e, c, d⟩ := id st'
  exact ⟨u, rfl, yk (s := { s with heap := h' }) e c d (by decide) ⟨x, H, I1, ru, ⟨rfl, fun ys hy => by rw [I.t9 hy hq]; exact hx⟩, st', fun b hb => (hf b hb).1⟩⟩
 done := by
  intro X hP hw hK hc i pins s σ H E I hf st hg
  subst hP hw hK
  obtain ⟨xs, hq, hx⟩ := hg
  obtain ⟨its, rv, p, hz⟩ := I.list hq
  obtain ⟨f0, f1, f2, f3, f4, f5⟩ := hf it (by simp)
  have hl := rv.length
  exact wpAny_pyNext_list_end (I.ok.hd hc) st p.isList (by simp; omega) fun h' eb => ⟨rfl, I.turned (t' := s.toks) (fun b o hb e => eb b o hb e) f0 f1 f3 f4 f5⟩
 self := fun _ _ _ _ _ st h => wpAny_pyIter_listiter st h
theorem vH {P : Program} {w : World} {K : PySem.W.Frag} {tg : Expr} (a it : Addr) : Turn P w K tg (Lz K a) [it] it (fun i h => h.IsTupleIter it a i) where
 mem := by simp
 obj := fun i h st b hb => by
  have e : b = it := by simpa using hb
  subst e
  obtain ⟨o, e, c, d⟩ := st
  exact ⟨o, e, fun v z => by rw [d] at z; cases z⟩
 keep := fun i h h' st k => st.at fun o e => k it (by simp) o e
 item := by
  intro X hP hw hK hc i pins s σ H E I hf st hg
  subst hP hw hK
  obtain ⟨xs, x, hq, hx⟩ := hg
  obtain ⟨its, rv, p, hz⟩ := I.tuple hq
  obtain ⟨u, hu, ru⟩ := rv.get hx
  obtain ⟨f0, f1, f2, f3, f4, f5⟩ := hf it (by simp)
  refine wpAny_pyNext_tuple_item st (show s.heap.IsTuple a its.toArray from p) (x := u) (by simpa using hu) fun h' st' sb => ?_
  have I1 : Inv X pins σ H { s with heap := h' } := I.turned (t' := s.toks) (fun b o hb e => (sb.2 b hb).trans e) f0 f1 f3 f4 f5
  obtain ⟨o, e, c, d⟩ := id st'
  exact ⟨u, rfl, yk (s := { s with heap := h' }) e c d (by decide) ⟨x, H, I1, ru, ⟨rfl, fun ys hy => by rw [I.nQ hy hq]; exact hx⟩, st', fun b hb => (hf b hb).1⟩⟩
 done := by
  intro X hP hw hK hc i pins s σ H E I hf st hg
  subst hP hw hK
  obtain ⟨xs, hq, hx⟩ := hg
  obtain ⟨its, rv, p, hz⟩ := I.tuple hq
  obtain ⟨f0, f1, f2, f3, f4, f5⟩ := hf it (by simp)
  have hl := rv.length
  exact wpAny_pyNext_tuple_end (I.ok.hd hc) st (show s.heap.IsTuple a its.toArray from p) (by simp; omega) fun h' eb => ⟨rfl, I.turned (t' := s.toks) (fun b o hb e => eb b o hb e) f0 f1 f3 f4 f5⟩
 self := fun _ _ _ _ _ st h => wpAny_pyIter_tupleiter st h
theorem wc {P : Program} {w : World} {K : PySem.W.Frag} {tg : Expr} (it : Addr) (lo : Int) (n : Nat) : Turn P w K tg (Kc lo n) [it] it (fun i h => IsRangeIter h it (lo + (i : Nat) * 1) ((n : Int) - (i : Nat)) 1) where
 mem := by simp
 obj := fun i h st b hb => by
  have e : b = it := by simpa using hb
  subst e
  exact ⟨_, st, fun v z => by
   have z' : Data.fields _ = Data.cell v := z
   cases z'⟩
 keep := fun i h h' st k => k it (by simp) _ st
 item := by
  intro X hP hw hK hc i pins s σ H E I hf st hg
  subst hP hw hK
  obtain ⟨f0, f1, f2, f3, f4, f5⟩ := hf it (by simp)
  have W := Walks.range (prog := X.prog) (w := X.w) (I.ok.hd hc) it lo 1 n
  refine W.item i s _ _ hg st fun v h' tk hv st' kk => ?_
  obtain ⟨t, rfl⟩ := hv
  have I1 : Inv X pins σ H { s with heap := h', toks := tk } := I.turned (fun b o hb e => kk b o (by simpa using hb) e) f0 f1 f3 f4 f5
  refine ⟨_, rfl, yk (s := { s with heap := h', toks := tk }) (n := "range_iterator") st' rfl rfl (by decide) ⟨.int (lo + i), H, I1, ⟨t, ?_⟩, ⟨rfl, rfl⟩, st', fun b hb => (hf b hb).1⟩⟩
  rw [Int.mul_one]
 done := by
  intro X hP hw hK hc i pins s σ H E I hf st hg
  subst hP hw hK
  obtain ⟨f0, f1, f2, f3, f4, f5⟩ := hf it (by simp)
  exact wpAny_pyNext_range_end (I.ok.hd hc) st (by have : n <= i := hg; omega) fun h' eb => ⟨rfl, I.turned (t' := s.toks) (fun b o hb e => eb b o hb e) f0 f1 f3 f4 f5⟩
 self := fun _ _ _ _ _ st h => wpAny_pyIter_rangeiter st h
end L2
namespace L2
open PySem PySem.Spec PyProof.Rows
section
variable {X : Cx} {tg : Expr}
def Jb (K : PySem.W.Frag) (tl : TE) : TI := fun σ H R => tl σ H fun x H1 => ∃ a, x = .ref a /\ (∃ xs, gy K H1 a xs) /\ R (KG K a) H1
def KU (K : PySem.W.Frag) (tl : TE) : TI := fun σ H R => tl σ H fun x H1 => ∃ a, x = .ref a /\ (∃ xs, dZ K H1 a xs) /\ R (Lz K a) H1
theorem xT {l : Expr} {tl : TE} (hl : PE X l tl) : PI X tg l (Jb X.K tl) := by
 intro pins s σ H R I h
 refine cQ (hl pins s σ H _ I h) fun v s1 ⟨x, H1, I1, r1, q1⟩ => ?_
 obtain ⟨a, e, ⟨xs, hq⟩, q⟩ := q1
 subst e
 cases r1
 obtain ⟨its, rv, p, hz⟩ := I1.list hq
 refine wpAny_pyIter_list p.isList ?_
 refine ⟨s1.heap.objs.size, [s1.heap.objs.size], _, _, H1, rfl, I1.kept (t' := s1.toks) fun b o e => Heap.get?_push_of_some _ e, zM a _, ⟨_, Heap.get?_push_size _ rfl, rfl, rfl⟩, fun b hb => ?_, q⟩
 have e : b = s1.heap.objs.size := by simpa using hb
 subst e
 exact I1.rW (Nat.le_refl _) (I1.hok.fresh (Nat.le_refl _))
theorem Bt {l : Expr} {tl : TE} (hl : PE X l tl) : PI X tg l (KU X.K tl) := by
 intro pins s σ H R I h
 refine cQ (hl pins s σ H _ I h) fun v s1 ⟨x, H1, I1, r1, q1⟩ => ?_
 obtain ⟨a, e, ⟨xs, hq⟩, q⟩ := q1
 subst e
 cases r1
 obtain ⟨its, rv, p, hz⟩ := I1.tuple hq
 refine wpAny_pyIter_tuple (show s1.heap.IsTuple a its.toArray from p) ?_
 refine ⟨s1.heap.objs.size, [s1.heap.objs.size], _, _, H1, rfl, I1.kept (t' := s1.toks) fun b o e => Heap.get?_push_of_some _ e, vH a _, ⟨_, Heap.get?_push_size _ rfl, rfl, rfl⟩, fun b hb => ?_, q⟩
 have e : b = s1.heap.objs.size := by simpa using hb
 subst e
 exact I1.rW (Nat.le_refl _) (I1.hok.fresh (Nat.le_refl _))
theorem uQ {pins : List (Addr × Obj)} {σ : St} {H : Hp} {s : Shared} {R : It -> Hp -> Prop} {E : Value -> Shared -> Prop} {lo hi : Int} {t u v : Tok} {tk : Nat} (I : Inv X pins σ H s) (h1 : -(2 ^ 62) <= lo) (h2 : lo < 2 ^ 62) (h3 : -(2 ^ 62) <= hi) (h4 : hi < 2 ^ 62)
  (q : R (Kc lo (hi - lo).toNat) H) : wpAny (model X.prog X.w) X.A (pyIter (.ref s.heap.objs.size)) (LZ X pins σ tg R) E { s with heap := s.heap.push { cls := .type "range", data := .fields #[.int lo t, .int hi u, .int 1 v] }, toks := tk } := by
 refine wpAny_pyIter_range (IsRange.new ..) (small_one h1 h2 h3 h4) ?_
 have I1 : Inv X pins σ H { s with heap := s.heap.push { cls := .type "range", data := .fields #[.int lo t, .int hi u, .int 1 v] }, toks := tk } := I.kept fun b o e => Heap.get?_push_of_some _ e
 refine ⟨(s.heap.push { cls := .type "range", data := .fields #[.int lo t, .int hi u, .int 1 v] }).objs.size, [(s.heap.push { cls := .type "range", data := .fields #[.int lo t, .int hi u, .int 1 v] }).objs.size], _, _, H, rfl,
  I1.kept (t' := tk) fun b o e => Heap.get?_push_of_some _ e, wc _ lo (hi - lo).toNat, ?_, fun b hb => ?_, q⟩
 ·have e1 : lo + ((0 : Nat) : Int) * 1 = lo := by simp
  have e2 : (((hi - lo).toNat : Nat) : Int) - ((0 : Nat) : Int) = Builtin.Range.rangeSize lo hi 1 := by rw [rangeSize_one]; split <;> omega
  show IsRangeIter _ _ (lo + ((0 : Nat) : Int) * 1) ((((hi - lo).toNat : Nat) : Int) - ((0 : Nat) : Int)) 1
  rw [e1, e2]
  exact Heap.get?_push_size _ rfl
 ·have e : b = (s.heap.push { cls := .type "range", data := .fields #[.int lo t, .int hi u, .int 1 v] }).objs.size := by simpa using hb
  subst e
  exact I1.rW (Nat.le_refl _) (I1.hok.fresh (Nat.le_refl _))
def fC (ta : TA) : TI := fun σ H R => ta σ H fun vs H1 => ∃ j : Int, vs = [.int j] /\ -(2 ^ 62) <= j /\ j < 2 ^ 62 /\ R (Kc 0 j.toNat) H1
def fW (ta : TA) : TI := fun σ H R => ta σ H fun vs H1 => ∃ i j : Int, vs = [.int i, .int j] /\ (-(2 ^ 62) <= i /\ i < 2 ^ 62 /\ -(2 ^ 62) <= j /\ j < 2 ^ 62) /\ R (Kc i (j - i).toNat) H1
theorem zk {a : Expr} {ta : TA} {p pos : Pos} (hg : Gl X "range") (hm : X.mg "range" = none) (ha : PA X [a] ta) (hs : starEach [a] X.env = [(false, eval a X.env)] := by rfl) : PI X tg (.Call (.Name "range" p) [a] [] pos) (fC ta) := by
 intro pins s σ H R I h
 refine Call_ (mh I hg hm boot_range (PyProof.Rows.callWith_type1 (cQ (ha pos pins s σ H _ I h) fun us s1 ⟨vs, H1, I1, r1, q1⟩ => ?_) hs rfl))
 obtain ⟨j, e, q1, q2, q⟩ := q1
 subst e
 cases r1 with
 | cons r rr =>
  cases rr
  obtain ⟨t, rfl⟩ := r
  exact call_range_1 (uQ I1 (by omega) (by omega) q1 q2 (by simpa using q))
theorem zT {a b : Expr} {ta : TA} {p pos : Pos} (hg : Gl X "range") (hm : X.mg "range" = none) (ha : PA X [a, b] ta) (hs : starEach [a, b] X.env = [(false, eval a X.env), (false, eval b X.env)] := by rfl) (hs2 : starEach [b] X.env = [(false, eval b X.env)] := by rfl) :
  PI X tg (.Call (.Name "range" p) [a, b] [] pos) (fW ta) := by
 intro pins s σ H R I h
 refine Call_ (mh I hg hm boot_range (PyProof.Rows.callWith_type1 (cQ (ha pos pins s σ H _ I h) fun us s1 ⟨vs, H1, I1, r1, q1⟩ => ?_) (by rw [hs, hs2]) (by rw [hs2]; rfl)))
 obtain ⟨i, j, e, ⟨q1, q2, q3, q4⟩, q⟩ := q1
 subst e
 cases r1 with
 | cons r rr =>
  cases rr with
  | cons r' rr =>
   cases rr
   obtain ⟨t, rfl⟩ := r
   obtain ⟨t', rfl⟩ := r'
   exact call_range_2 (uQ I1 q1 q2 q3 q4 q)
def LA (wi : TI) (g : TG) (tb : TS) : TS := fun D σ H => wi σ H fun J H1 => ∃ W : Nat -> Nat -> St -> Hp -> Prop, (∃ m, W 0 m σ H1) /\ ∀ i m σ H, W i m σ H ->
 (J.stop i H /\ D.nx σ H) \/ (J.go i H /\ ∃ N : St -> Hp -> Prop, (∀ σ' H', N σ' H' -> ∃ m', m' < m /\ W (i + 1) m' σ' H') /\ ∀ x H', J.yld i H x H' -> g x σ H' fun σ2 H2 => tb { D with nx := N, ct := N, bk := D.nx } σ2 H2)
def jV (fp : List Addr) (h : Heap) : List (Addr × Obj) := fp.filterMap fun b => (h.get? b).map fun o => (b, o)
theorem cF {fp : List Addr} {h : Heap} {b : Addr} {o : Obj} (hb : b ∈ fp) (e : h.get? b = some o) : (b, o) ∈ jV fp h := List.mem_filterMap.mpr ⟨b, hb, by rw [e]; rfl⟩
theorem zL {fp : List Addr} {h : Heap} {p : Addr × Obj} (hp : p ∈ jV fp h) : p.1 ∈ fp /\ h.get? p.1 = some p.2 := by
 obtain ⟨b, hb, e⟩ := List.mem_filterMap.mp hp
 cases q : h.get? b with
 | none => rw [q] at e; cases e
 | some o =>
  rw [q] at e
  have e' : (b, o) = p := Option.some.inj e
  subst e'
  exact ⟨hb, q⟩
theorem Inv.pinned {pins : List (Addr × Obj)} {σ : St} {H : Hp} {s : Shared} {fp : List Addr} (I : Inv X pins σ H s) (hf : ∀ b ∈ fp, ju X pins H b) (ho : ∀ b ∈ fp, ∃ o, s.heap.get? b = some o /\ ∀ v, o.data ≠ .cell v) : Inv X (pins ++ jV fp s.heap) σ H s :=
 I.wJ fun p hp => (List.mem_append.mp hp).elim (fun z => I.pin p (List.mem_append_right _ z)) fun z => by
  obtain ⟨hb, e⟩ := zL z
  obtain ⟨f0, f1, f2, _⟩ := hf p.1 hb
  obtain ⟨o, e', d⟩ := ho p.1 hb
  rw [e] at e'; cases e'
  exact ⟨e, f0, f1, f2, d⟩
theorem Inv.gu {pins pl : List (Addr × Obj)} {σ : St} {H : Hp} {s : Shared} (I : Inv X (pins ++ pl) σ H s) : Inv X pins σ H s := I.wJ fun p hp => I.pin p (List.mem_append_right _ (List.mem_append_left _ hp))
theorem GU {iter : Expr} {body : List Stmt} {wi : TI} {g : TG} {tb : TS} {pos : Pos} (hp : PassesOwn (model X.prog X.w) X.A X.env X.xe) (hc : X.calm = true) (hi : PI X tg iter wi) (hg : PG X tg g) (hb : tu X body tb)
  (hs : ∀ x, foldedSetIterable iter X.env x = pure x := by intro _; rfl) : PS X (.For tg iter body [] pos) (LA wi g tb) := by
 intro pins s σ H D I h
 refine wpAny_For (cQ (hi pins s σ H _ I h) fun v s1 h1 => cQ h1 fun itv s2 h2 => ?_) hs
 obtain ⟨it, fp, tn, J, H2, e, I2, T, st2, f2, W, ⟨m0, w0⟩, turn⟩ := h2
 subst e
 have stat : ∀ {H' : Hp}, (∀ b ∈ fp, H' b = none) -> ∀ b ∈ fp, ju X pins H' b := fun hn b hb => ⟨hn b hb, (f2 b hb).2⟩
 refine codeAny_forLoop_any (fun n s' => ∃ i σ' H', Inv X pins σ' H' s' /\ tn i s'.heap /\ (∀ b ∈ fp, H' b = none) /\ W i n σ' H') ?_ m0 ⟨0, σ, H2, I2, st2, fun b hb => (f2 b hb).1, w0⟩
 rintro n s3 ⟨i, σ3, H3, I3, st3, fr3, w3⟩
 rcases turn i n σ3 H3 w3 with ⟨stop, qn⟩ | ⟨go, N, hN, step⟩
 ·refine wpAny_passesOwn hp (cQ (T.done X rfl rfl rfl hc i pins s3 σ3 H3 X.xe I3 (stat fr3) st3 stop) fun r s4 ⟨hr, I4⟩ => ?_)
  subst hr
  exact wpAny_execs_nil ⟨σ3, H3, I4, qn⟩
 ·refine wpAny_passesOwn hp (cQ (T.item X rfl rfl rfl hc i pins s3 σ3 H3 X.xe I3 (stat fr3) st3 go) fun r s4 ⟨u, hr, h4⟩ => ?_)
  subst hr
  refine wpAny_passesOwn hp (cQ h4 fun _ s5 ⟨x, H5, I5, r5, y5, st5, fr5⟩ => ?_)
  have I5' := I5.pinned (stat fr5) (T.obj _ _ st5)
  refine wpAny_passesOwn hp (cQ (hg _ s5 σ3 H5 x u _ I5' r5 (step x H5 y5)) fun _ s6 ⟨σ6, H6, I6, q6⟩ => ?_)
  refine wpAny_passesOwn hp (cQ (hb _ s6 σ6 H6 _ I6 q6) fun f s7 q7 => ?_)
  have again : ∀ {σ7 : St} {H7 : Hp}, Inv X (pins ++ jV fp s5.heap) σ7 H7 s7 -> N σ7 H7 -> ∃ m, m < n /\ ∃ i σ' H', Inv X pins σ' H' s7 /\ tn i s7.heap /\ (∀ b ∈ fp, H' b = none) /\ W i m σ' H' := fun {σ7 H7} I7 n7 => by
   obtain ⟨m', hm, w7⟩ := hN σ7 H7 n7
   refine ⟨m', hm, i + 1, σ7, H7, I7.gu, T.keep _ _ _ st5 fun b hb o e => (I7.pin (b, o) (List.mem_append_right _ (List.mem_append_right _ (cF hb e)))).1, fun b hb => ?_, w7⟩
   obtain ⟨o, e, d⟩ := T.obj _ _ st5 b hb
   exact (I7.pin (b, o) (List.mem_append_right _ (List.mem_append_right _ (cF hb e)))).2.1
  cases f with
  | next => obtain ⟨σ7, H7, I7, n7⟩ := q7; exact again I7 n7
  | cont => obtain ⟨σ7, H7, I7, n7⟩ := q7; exact again I7 n7
  | brk => obtain ⟨σ7, H7, I7, q7⟩ := q7; exact ⟨σ7, H7, I7.gu, q7⟩
  | ret v => obtain ⟨x7, σ7, H7, I7, r7, q7⟩ := q7; exact ⟨x7, σ7, H7, I7.gu, r7, q7⟩
end
theorem g_ {c : TT} {tb : TS} {D : Ends} {σ : St} {H : Hp} (Pv : St -> Hp -> Prop) (μ : St -> Hp -> Nat) (h0 : Pv σ H)
  (hs : ∀ σ H, Pv σ H -> c σ H fun b H1 => if b = true then tb { D with nx := fun σ' H' => Pv σ' H' /\ μ σ' H' < μ σ H, ct := fun σ' H' => Pv σ' H' /\ μ σ' H' < μ σ H, bk := D.nx } σ H1 else D.nx σ H1)
  (mono : ∀ σ H Q Q', (∀ b H1, Q b H1 -> Q' b H1) -> c σ H Q -> c σ H Q') : CL c tb D σ H := by
 refine ⟨fun m σ H => m = μ σ H /\ Pv σ H, ⟨_, rfl, h0⟩, ?_⟩
 rintro m σ H ⟨rfl, p⟩
 refine mono σ H _ _ (fun b H1 q => ?_) (hs σ H p)
 cases b with
 | true => exact ⟨_, fun σ' H' ⟨p', l⟩ => ⟨_, l, rfl, p'⟩, q⟩
 | false => exact q
end L2
namespace L2
open PySem PySem.Spec PyProof.Rows
abbrev R2 := V -> V -> Hp -> VK -> Prop
def fY (X : Cx) (f : Value -> Value -> Sem Value) (r : R2) : Prop :=
 ∀ (pins : List (Addr × Obj)) (s : Shared) (σ : St) (H : Hp) (x y : V) (v u : Value) (Q : VK), Inv X pins σ H s -> RelV x v -> RelV y u -> r x y H Q ->
  wpAny (model X.prog X.w) X.A (f v u) (EP X pins σ Q) X.xe s
def KI (X : Cx) (f : Value -> Sem Value) (r : V -> Hp -> VK -> Prop) : Prop :=
 ∀ (pins : List (Addr × Obj)) (s : Shared) (σ : St) (H : Hp) (x : V) (v : Value) (Q : VK), Inv X pins σ H s -> RelV x v -> r x H Q ->
  wpAny (model X.prog X.w) X.A (f v) (EP X pins σ Q) X.xe s
def bR (X : Cx) (f : Value) (r : List V -> Hp -> VK -> Prop) : Prop :=
 ∀ (pins : List (Addr × Obj)) (s : Shared) (σ : St) (H : Hp) (xs : List V) (us : List Value) (Q : VK), Inv X pins σ H s -> Vals xs us -> r xs H Q ->
  wpAny (model X.prog X.w) X.A (call f us) (EP X pins σ Q) X.xe s
def KR (X : Cx) (r : V -> Hp -> (Bool -> Hp -> Prop) -> Prop) : Prop :=
 ∀ (pins : List (Addr × Obj)) (s : Shared) (σ : St) (H : Hp) (x : V) (v : Value) (Q : Bool -> Hp -> Prop), Inv X pins σ H s -> RelV x v -> r x H Q ->
  wpAny (model X.prog X.w) X.A (truthy v) (TP X pins σ Q) X.xe s
def JI (r : R2) (ta tb : TE) : TE := fun σ H Q => ta σ H fun x H1 => tb σ H1 fun y H2 => r x y H2 Q
def Mb (r : V -> Hp -> VK -> Prop) (ta : TE) : TE := fun σ H Q => ta σ H fun x H1 => r x H1 Q
def rI (C : Int -> Int -> Prop) (g : Int -> Int -> V) : R2 := fun x y H Q => ∃ i j, x = .int i /\ y = .int j /\ C i j /\ Q (g i j) H
def Gj (g : Int -> Int -> V) : R2 := fun x y H Q => ∃ i j, x = .int i /\ y = .int j /\ Q (g i j) H
def rU (g : Int -> V) : V -> Hp -> VK -> Prop := fun x H Q => ∃ i, x = .int i /\ Q (g i) H
section
variable {X : Cx} {a b c : Expr} {ta tb tc : TE} {pos : Pos}
theorem HX (ha : PE X a ta) (hb : PE X b tb) {pins : List (Addr × Obj)} {s : Shared} {σ : St} {H : Hp} {R : V -> V -> Hp -> Prop} (I : Inv X pins σ H s)
  (h : ta σ H fun x H1 => tb σ H1 fun y H2 => R x y H2) {Q : Value -> Shared -> Prop} {f : Value -> Value -> Sem Value}
  (hf : ∀ v u s2 x y H2, Inv X pins σ H2 s2 -> RelV x v -> RelV y u -> R x y H2 -> wpAny (model X.prog X.w) X.A (f v u) Q X.xe s2) :
  wpAny (model X.prog X.w) X.A (eval a X.env) (fun v s₁ => wpAny (model X.prog X.w) X.A (eval b X.env) (fun u s₂ => wpAny (model X.prog X.w) X.A (f v u) Q X.xe s₂) X.xe s₁) X.xe s := by
 refine cQ (ha pins s σ H _ I h) fun v s1 ⟨x, H1, I1, r1, q1⟩ => ?_
 refine cQ (hb pins s1 σ H1 _ I1 q1) fun u s2 ⟨y, H2, I2, r2, q2⟩ => ?_
 exact hf v u s2 x y H2 I2 r1 r2 q2
theorem JX {op : Operator} {r : R2} (ho : fY X (binaryOp op) r) (ha : PE X a ta) (hb : PE X b tb) : PE X (.BinOp a op b pos) (JI r ta tb) := by
 intro pins s σ H Q I h
 exact wpAny_BinOp (HX ha hb I h fun v u s2 x y H2 I2 rx ry q => ho pins s2 σ H2 x y v u Q I2 rx ry q)
theorem Av {op : UnaryOp} {r : V -> Hp -> VK -> Prop} (ho : KI X (unaryOp op) r) (ha : PE X a ta) : PE X (.UnaryOp op a pos) (Mb r ta) := by
 intro pins s σ H Q I h
 exact UnaryOp_ (cQ (ha pins s σ H _ I h) fun v s1 ⟨x, H1, I1, r1, q1⟩ => ho pins s1 σ H1 x v Q I1 r1 q1)
theorem KL {f : Value -> Value -> Sem Value} {C : Int -> Int -> Prop} {g : Int -> Int -> Int}
  (rule : ∀ (i j : Int) (t u : Tok) (s : Shared) (Q : Value -> Shared -> Prop) (E : Value -> Shared -> Prop), C i j -> Q (.int (g i j) s.toks) { s with toks := s.toks + 1 } -> wpAny (model X.prog X.w) X.A (f (.int i t) (.int j u)) Q E s) :
  fY X f (rI C fun i j => .int (g i j)) := by
 intro pins s σ H x y v u Q I rx ry h
 obtain ⟨i, j, rfl, rfl, hc, q⟩ := h
 obtain ⟨t, rfl⟩ := rx
 obtain ⟨t', rfl⟩ := ry
 exact rule i j t t' s _ _ hc ⟨.int (g i j), H, I.tok _, ⟨_, rfl⟩, q⟩
theorem Ju {f : Value -> Value -> Sem Value} {g : Int -> Int -> Int}
  (rule : ∀ (i j : Int) (t u : Tok) (s : Shared) (Q : Value -> Shared -> Prop) (E : Value -> Shared -> Prop), Q (.int (g i j) s.toks) { s with toks := s.toks + 1 } -> wpAny (model X.prog X.w) X.A (f (.int i t) (.int j u)) Q E s) :
  fY X f (Gj fun i j => .int (g i j)) := by
 intro pins s σ H x y v u Q I rx ry h
 obtain ⟨i, j, rfl, rfl, q⟩ := h
 obtain ⟨t, rfl⟩ := rx
 obtain ⟨t', rfl⟩ := ry
 exact rule i j t t' s _ _ ⟨.int (g i j), H, I.tok _, ⟨_, rfl⟩, q⟩
theorem ER {f : Value -> Value -> Sem Value} {g : Int -> Int -> Bool}
  (rule : ∀ (i j : Int) (t u : Tok) (s : Shared) (Q : Value -> Shared -> Prop) (E : Value -> Shared -> Prop), Q (.bool (g i j)) s -> wpAny (model X.prog X.w) X.A (f (.int i t) (.int j u)) Q E s) :
  fY X f (Gj fun i j => .bl (g i j)) := by
 intro pins s σ H x y v u Q I rx ry h
 obtain ⟨i, j, rfl, rfl, q⟩ := h
 obtain ⟨t, rfl⟩ := rx
 obtain ⟨t', rfl⟩ := ry
 exact rule i j t t' s _ _ ⟨.bl (g i j), H, I, rfl, q⟩
def Ll (i j : Int) : Prop := 0 <= j /\ j <= 1000000 /\ i.natAbs < 2 ^ 64
def Ek (i j : Int) : Prop := (-(2 ^ 64) < i /\ i < 2 ^ 64) \/ (-(2 ^ 64) < j /\ j < 2 ^ 64)
theorem Ek.ok {i j : Int} (h : Ek i j) : IntMulOk i j := by
 rcases h with ⟨h1, h2⟩ | ⟨h1, h2⟩
 ·exact .of_left (intBits_le_64 h1 h2)
 ·exact .of_right (intBits_le_64 h1 h2)
theorem Io : fY X (binaryOp .Add) (Gj fun i j => .int (i + j)) := Ju fun _ _ _ _ _ _ _ q => add_int q
theorem GJ : fY X (binaryOp .Sub) (Gj fun i j => .int (i - j)) := Ju fun _ _ _ _ _ _ _ q => sub_int q
theorem GZ : fY X (binaryOp .Mult) (rI Ek fun i j => .int (i * j)) := KL fun _ _ _ _ _ _ _ hc q => mul_int q hc.ok
theorem GH : fY X (binaryOp .Mod) (rI (fun _ j => 0 < j) fun i j => .int (i % j)) := KL fun i j _ _ _ _ _ hc q => by
 have h1 : (0 : Int) < j := hc
 exact mod_int' (by omega) (by rw [Int.fmod_eq_emod_of_nonneg i (by omega)]; exact q)
theorem GO : fY X (binaryOp .Pow) (rI Ll fun i j => .int (i ^ j.toNat)) := KL fun _ _ _ _ _ _ _ hc q => pow_int_small hc.1 hc.2.1 hc.2.2 q
theorem Mr {f : Value -> Sem Value} {g : Int -> Int}
  (rule : ∀ (i : Int) (t : Tok) (s : Shared) (Q : Value -> Shared -> Prop) (E : Value -> Shared -> Prop), Q (.int (g i) s.toks) { s with toks := s.toks + 1 } -> wpAny (model X.prog X.w) X.A (f (.int i t)) Q E s) :
  KI X f (rU fun i => .int (g i)) := by
 intro pins s σ H x v Q I rx h
 obtain ⟨i, rfl, q⟩ := h
 obtain ⟨t, rfl⟩ := rx
 exact rule i t s _ _ ⟨.int (g i), H, I.tok _, ⟨_, rfl⟩, q⟩
theorem vQ : KI X (unaryOp .USub) (rU fun i => .int (-i)) := Mr fun _ _ _ _ _ q => neg_int q
end
section
variable {X : Cx} {a b c : Expr} {ta tb tc : TE} {pos : Pos}
theorem II {pins : List (Addr × Obj)} {σ : St} {H : Hp} {s : Shared} {Q : VK} {k k' : Bool} (I : Inv X pins σ H s) (q : Q (.bl k) H) (e : k = k') : EP X pins σ Q (.bool k') s := by
 subst e
 exact ⟨.bl k, H, I, rfl, q⟩
theorem Kf : fY X (compareOp .Lt) (Gj fun i j => .bl (decide (i < j))) := ER fun _ _ _ _ _ _ _ q => lt_int q
theorem Jh : fY X (compareOp .LtE) (Gj fun i j => .bl (decide (i <= j))) := ER fun _ _ _ _ _ _ _ q => le_int q
theorem Jx : fY X (compareOp .Gt) (Gj fun i j => .bl (decide (j < i))) := ER fun _ _ _ _ _ _ _ q => gt_int q
theorem JN : fY X (compareOp .GtE) (Gj fun i j => .bl (decide (j <= i))) := ER fun _ _ _ _ _ _ _ q => ge_int q
theorem DX : fY X (compareOp .IsNot) (fun x y H Q => y = .non /\ Q (.bl (!decide (x = .non))) H) := by
 intro pins s σ H x y v u Q I rx ry h
 obtain ⟨rfl, q⟩ := h
 cases ry
 refine isnot_none_gen (II I q ?_)
 cases x <;> first
  | (cases rx; rfl)
  | (obtain ⟨t, rfl⟩ := rx; rfl)
theorem Bb (b : Expr) {op : CmpOp} (h : op ≠ .In := by decide) (h2 : op ≠ .NotIn := by decide) : behindInMarks op b = false := by
 have e1 : (op == CmpOp.In) = false := by cases op <;> first | rfl | exact absurd rfl h
 have e2 : (op == CmpOp.NotIn) = false := by cases op <;> first | rfl | exact absurd rfl h2
 cases b <;> simp [behindInMarks, e1, e2]
theorem E2 {op : CmpOp} {r : R2} (ho : fY X (compareOp op) r) (ha : PE X a ta) (hb : PE X b tb) (hm : behindInMarks op b = false) : PE X (.Compare a [op] [b] pos) (JI r ta tb) := by
 intro pins s σ H Q I h
 exact wpAny_Compare1 (HX ha hb I h fun v u s2 x y H2 I2 rx ry q => ho pins s2 σ H2 x y v u Q I2 rx ry q) hm
def JC (t : TE) : TT := fun σ H Q => t σ H fun x H' => ∃ k, x = .bl k /\ Q k H'
theorem EO {op : CmpOp} {r : R2} (ho : fY X (compareOp op) r) (ha : PE X a ta) (hb : PE X b tb) (hm : behindInMarks op b = false) : PT X (.Compare a [op] [b] pos) (JC (JI r ta tb)) := by
 intro pins s σ H Q I h
 refine wpAny_isTrue_Compare1 (cQ (ha pins s σ H _ I h) fun v s1 ⟨x, H1, I1, r1, q1⟩ => cQ (hb pins s1 σ H1 _ I1 q1) fun u s2 ⟨y, H2, I2, r2, q2⟩ =>
  cQ (ho pins s2 σ H2 x y v u _ I2 r1 r2 q2) fun c s3 ⟨z, H3, I3, r3, k, e, q3⟩ => ?_) hm
 subst e
 cases r3
 exact wpAny_truthy_bool ⟨H3, I3, q3⟩
def CF (r r' : R2) (ta tb tc : TE) : TE := fun σ H Q => ta σ H fun x H1 => tb σ H1 fun y H2 => r x y H2 fun z H3 => ∃ k, z = .bl k /\
 (if k = true then tc σ H3 fun w' H4 => r' y w' H4 Q else Q (.bl false) H3)
theorem Au {op op' : CmpOp} {r r' : R2} (ho : fY X (compareOp op) r) (ho' : fY X (compareOp op') r') (ha : PE X a ta) (hb : PE X b tb) (hc : PE X c tc)
  (hm : lastMarks [op, op'] [b, c] = false := by with_unfolding_all rfl) : PE X (.Compare a [op, op'] [b, c] pos) (CF r r' ta tb tc) := by
 intro pins s σ H Q I h
 refine Compare_chain (cQ (ha pins s σ H _ I h) fun v s1 ⟨x, H1, I1, r1, q1⟩ => chain_link (cQ (hb pins s1 σ H1 _ I1 q1) fun u s2 ⟨y, H2, I2, r2, q2⟩ =>
  cQ (ho pins s2 σ H2 x y v u _ I2 r1 r2 q2) fun d s3 ⟨z, H3, I3, r3, k, e, q3⟩ => ?_)) hm
 subst e
 cases r3
 refine wpAny_truthy_bool ?_
 cases k with
 | false => exact ite_ff ⟨.bl false, H3, I3, rfl, q3⟩
 | true => exact ite_tt (chain_last (cQ (hc pins s3 σ H3 _ I3 q3) fun w' s4 ⟨z', H4, I4, r4, q4⟩ => ho' pins s4 σ H4 y z' u w' Q I4 r2 r4 q4))
def GL (K : PySem.W.Frag) (x : V) (H : Hp) (k : Bool) : Prop :=
 match x with
 | .non => k = false
 | .bl b => k = b
 | .int i => k = (i != 0)
 | .str y => y.length <= sizeLine /\ k = ((y.length : Int) != 0)
 | .byt y => y.size <= sizeLine /\ k = ((y.size : Int) != 0)
 | .ref p => (∃ xs, gy K H p xs /\ k = !xs.isEmpty) \/ (∃ xs, dZ K H p xs /\ k = !xs.isEmpty) \/ ∃ kvs, H p = some (.dK kvs) /\ k = !kvs.isEmpty
 | _ => False
theorem vA {κ : Type} {kvs : List (κ × V)} {vs : List (κ × Value)} (r : KV kvs vs) : (!vs.isEmpty) = !kvs.isEmpty := by
 cases r <;> rfl
theorem pH {xs : List V} {its : List Value} (r : Vals xs its) : (!its.toArray.isEmpty) = !xs.isEmpty := by
 cases r <;> simp
theorem nG : (sizeLine : Nat) < 2 ^ 63 := by rw [sizeLine_eq]; decide
theorem HN : KR X (fun x H Q => ∃ k, GL X.K x H k /\ Q k H) := by
 intro pins s σ H x v Q I rx h
 obtain ⟨k, e, q⟩ := h
 have hl := nG
 have hs : sizeLine = 16777216 := sizeLine_eq
 cases x with
 | non =>
  cases rx
  have e' : k = false := e
  subst e'
  exact truthy_none ⟨H, I, q⟩
 | bl b =>
  cases rx
  have e' : k = b := e
  subst e'
  exact wpAny_truthy_bool ⟨H, I, q⟩
 | int i =>
  obtain ⟨t, rfl⟩ := rx
  have e' : k = (i != 0) := e
  subst e'
  exact PySem.P.truthy_int ⟨H, I, q⟩
 | str y =>
  obtain ⟨t, rfl⟩ := rx
  obtain ⟨hy, e'⟩ : y.length <= sizeLine /\ k = ((y.length : Int) != 0) := e
  subst e'
  exact PySem.P.truthy_str (by omega) ⟨H, I.tok _, q⟩
 | byt y =>
  obtain ⟨t, rfl⟩ := rx
  obtain ⟨hy, e'⟩ : y.size <= sizeLine /\ k = ((y.size : Int) != 0) := e
  subst e'
  exact PySem.W.truthy_bytes (by omega) ⟨H, I.tok _, q⟩
 | ref p =>
  cases rx
  have e' : (∃ xs, gy X.K H p xs /\ k = !xs.isEmpty) \/ (∃ xs, dZ X.K H p xs /\ k = !xs.isEmpty) \/ ∃ kvs, H p = some (.dK kvs) /\ k = !kvs.isEmpty := e
  rcases e' with ⟨xs, hx, e'⟩ | ⟨xs, hx, e'⟩ | ⟨kvs, hx, e'⟩
  ·subst e'
   obtain ⟨its, r, pl, hz⟩ := I.list hx
   have hlen := r.length
   exact wpAny_truthy_list pl.isList (by simp only [List.size_toArray]; omega) ⟨H, I.tok _, by rw [pH r]; exact q⟩
  ·subst e'
   obtain ⟨its, r, pl, hz⟩ := I.tuple hx
   have hlen := r.length
   exact truthy_tuple pl (by simp only [List.size_toArray]; omega) ⟨H, I.tok _, by rw [pH r]; exact q⟩
  ·subst e'
   obtain ⟨hz, hS, vs, r, m⟩ : kvs.length <= sizeLine /\ (p == sysModules) = false /\ ∃ vs, KV kvs vs /\ s.heap.DictOf (d7 X.prog X.w) p vs := I.hok p _ hx
   have hlen : kvs.length = vs.length := Paired.length r
   exact wpAny_truthy_dict hS m (by omega) ⟨H, I.tok _, by rw [vA r]; exact q⟩
 | _ => exact (show False from e).elim
theorem A8 (ha : PE X a ta) (he : ∀ whole, isTrue a X.env whole = (do let v <- whole; standAt a.pos; holding [v] (truthy v))) :
  PT X a (fun σ H Q => ta σ H fun x H' => ∃ k, GL X.K x H' k /\ Q k H') := by
 intro pins s σ H Q I h
 exact isTrue_plain (cQ (ha pins s σ H _ I h) fun v s1 ⟨x, H1, I1, r1, q1⟩ => HN pins s1 σ H1 x v Q I1 r1 q1) (he _)
theorem v8 : fY X (binaryOp .Add) (fun x y H Q => ∃ i j, x = .str i /\ y = .str j /\ i.length + j.length <= sizeLine /\ Q (.str (i ++ j)) H) := by
 intro pins s σ H x y v u Q I rx ry h
 obtain ⟨i, j, rfl, rfl, hz, q⟩ := h
 obtain ⟨t, rfl⟩ := rx
 obtain ⟨t', rfl⟩ := ry
 exact add_str (fun t' tk => ⟨.str (i ++ j), H, I.tok _, ⟨_, rfl⟩, q⟩) hz
theorem vals1 {x : V} {us : List Value} (r : Vals [x] us) : ∃ u, us = [u] /\ RelV x u := by
 cases r with
 | cons r1 r2 => cases r2; exact ⟨_, rfl, r1⟩
theorem vals2 {x y : V} {us : List Value} (r : Vals [x, y] us) : ∃ u w', us = [u, w'] /\ RelV x u /\ RelV y w' := by
 cases r with
 | cons r1 r2 =>
  cases r2 with
  | cons r3 r4 => cases r4; exact ⟨_, _, rfl, r1, r3⟩
theorem CI : bR X (.builtin "abs") (fun xs H Q => ∃ i, xs = [.int i] /\ Q (.int (if i < 0 then -i else i)) H) := by
 intro pins s σ H xs us Q I r h
 obtain ⟨i, rfl, q⟩ := h
 obtain ⟨u, rfl, t, rfl⟩ := vals1 r
 exact call_abs_int fun u tk => ⟨.int (if i < 0 then -i else i), H, I.tok _, ⟨_, rfl⟩, q⟩
theorem zK (hc : X.calm = true) : bR X (.builtin "max") (fun xs H Q => ∃ i j, xs = [.int i, .int j] /\ Q (.int (if j > i then j else i)) H) := by
 intro pins s σ H xs us Q I r h
 obtain ⟨i, j, rfl, q⟩ := h
 obtain ⟨u, w', rfl, ⟨t, rfl⟩, ⟨t', rfl⟩⟩ := vals2 r
 refine max_two_ints (I.ok.hd hc) fun h' tk k => ⟨_, H, I.kept k, ?_, q⟩
 by_cases hj : j > i
 ·rw [if_pos hj, if_pos hj]; exact ⟨_, rfl⟩
 ·rw [if_neg hj, if_neg hj]; exact ⟨_, rfl⟩
theorem zl (hc : X.calm = true) : bR X (.builtin "min") (fun xs H Q => ∃ i j, xs = [.int i, .int j] /\ Q (.int (if j < i then j else i)) H) := by
 intro pins s σ H xs us Q I r h
 obtain ⟨i, j, rfl, q⟩ := h
 obtain ⟨u, w', rfl, ⟨t, rfl⟩, ⟨t', rfl⟩⟩ := vals2 r
 refine min_two_ints (I.ok.hd hc) fun h' tk k => ⟨_, H, I.kept k, ?_, q⟩
 by_cases hj : j < i
 ·rw [if_pos hj, if_pos hj]; exact ⟨_, rfl⟩
 ·rw [if_neg hj, if_neg hj]; exact ⟨_, rfl⟩
theorem qX : bR X (.type "int") (fun xs H Q => (∃ i, xs = [.int i] /\ Q (.int i) H) \/ ∃ k, xs = [.bl k] /\ Q (.int (if k then 1 else 0)) H) := by
 intro pins s σ H xs us Q I r h
 rcases h with ⟨i, rfl, q⟩ | ⟨k, rfl, q⟩
 ·obtain ⟨u, rfl, t, rfl⟩ := vals1 r
  exact call_int_int ⟨.int i, H, I, ⟨_, rfl⟩, q⟩
 ·obtain ⟨u, rfl, r1⟩ := vals1 r
  cases r1
  exact call_int_bool ⟨.int (if k then 1 else 0), H, I.tok _, ⟨_, rfl⟩, q⟩
def LK (K : PySem.W.Frag) (x : V) (H : Hp) (n : Nat) : Prop :=
 match x with
 | .str y => y.length <= sizeLine /\ n = y.length
 | .byt y => y.size <= sizeLine /\ n = y.size
 | .ref p => (∃ xs, gy K H p xs /\ n = xs.length) \/ ∃ xs, dZ K H p xs /\ n = xs.length
 | _ => False
theorem B3 : bR X (.builtin "len") (fun xs H Q => ∃ x n, xs = [x] /\ LK X.K x H n /\ Q (.int n) H) := by
 intro pins s σ H xs us Q I r h
 obtain ⟨x, n, rfl, e, q⟩ := h
 obtain ⟨u, rfl, rx⟩ := vals1 r
 have hl := nG
 have hs : sizeLine = 16777216 := sizeLine_eq
 cases x with
 | str y =>
  obtain ⟨t, rfl⟩ := rx
  obtain ⟨hy, e'⟩ : y.length <= sizeLine /\ n = y.length := e
  subst e'
  exact len_str (by omega) ⟨.int _, H, I.tok _, ⟨_, rfl⟩, q⟩
 | byt y =>
  obtain ⟨t, rfl⟩ := rx
  obtain ⟨hy, e'⟩ : y.size <= sizeLine /\ n = y.size := e
  subst e'
  exact PySem.W.len_bytes (by omega) ⟨.int _, H, I.tok _, ⟨_, rfl⟩, q⟩
 | ref p =>
  cases rx
  have e' : (∃ xs, gy X.K H p xs /\ n = xs.length) \/ ∃ xs, dZ X.K H p xs /\ n = xs.length := e
  rcases e' with ⟨xs, hx, e'⟩ | ⟨xs, hx, e'⟩
  ·subst e'
   obtain ⟨its, r', pl, hz⟩ := I.list hx
   have hlen := r'.length
   exact Calls.call_len_list pl.isList (by simp only [List.size_toArray]; omega) ⟨.int xs.length, H, I.tok _, ⟨_, by simp only [List.size_toArray]; rw [hlen]⟩, q⟩
  ·subst e'
   obtain ⟨its, r', pl, hz⟩ := I.tuple hx
   have hlen := r'.length
   exact len_tuple pl (by simp only [List.size_toArray]; omega) ⟨.int xs.length, H, I.tok _, ⟨_, by simp only [List.size_toArray]; rw [hlen]⟩, q⟩
 | _ => exact (show False from e).elim
end
end L2
namespace L2
open PySem PySem.Spec PyProof.Rows
structure ObjM (h : Heap) (x dx C : Addr) (mA : Str -> Option Value) : Prop where
 obj : h.get? x = some (PySem.W.instObj C dx)
 ns : h.Ns1 dx mA
 ne : dx ≠ x
theorem zY {h : Heap} {dx : Addr} {mA : Str -> Option Value} (n : h.Ns1 dx mA) : ∃ od, h.get? dx = some od /\ ∀ name, PySem.W.lookIn name od = some (mA name) := by
 obtain ⟨o, es, ep, ho, hd, hk, _, hm⟩ := n
 refine ⟨o, ho, fun name => ?_⟩
 have e := hm name
 unfold nsFind findBy at e
 rw [<- Array.find?_toList] at e
 unfold PySem.W.lookIn
 rw [hd]
 dsimp only
 split
 ·rename_i y q
  rw [q] at e
  exact congrArg some e
 ·rename_i q
  rw [q] at e
  have a : es.toList.any (·.refKey) = false := by
   rw [List.any_eq_false]
   intro y hy
   obtain ⟨z, t, hkey⟩ := hk y (Array.mem_toList_iff.mp hy)
   simp [DictEntry.refKey, hkey]
  have a' : ¬ es.toList.any (·.refKey) = true := by rw [a]; exact Bool.false_ne_true
  rw [if_neg a']
  exact congrArg some e
theorem ObjM.look {h : Heap} {x dx C : Addr} {mA : Str -> Option Value} (I : ObjM h x dx C mA) : ∃ od, PySem.W.InstAt h x (PySem.W.instObj C dx) C (some od) /\ ∀ name, PySem.W.lookIn name od = some (mA name) :=
 let ⟨od, ho, hl⟩ := zY I.ns
 ⟨od, ⟨I.obj, rfl, rfl, ho⟩, hl⟩
section
variable {prog : Program} {w : World} {A : Around} {E : Value -> Shared -> Prop} {s : Shared} {K : PySem.W.Frag} {x dx C f : Addr} {mA : Str -> Option Value} {name : Str} {v : Value}
end
theorem pZ.some_of {v : V} {o : Option Value} (r : pZ (some v) o) : ∃ u, o = some u /\ RelV v u := by
 cases o with
 | none => exact (show False from r).elim
 | some u => exact ⟨u, rfl, r⟩
section
variable {P : Program} {w : World} {H H' : Hp} {h h' : Heap} {a C dx : Addr} {fs fs' : List (Str × V)}
theorem EN (hok : mD P w H h) (e : H a = some (.ins C dx fs)) : ∃ mA, ObjM h a dx C mA /\ (∀ f, pZ (fs.lookup f) (mA f)) /\ PySem.Within mA (fs.map (·.1)) /\ fs.length <= 1000 /\ H dx = some (.own a) := by
 obtain ⟨d, z, ne, ob, mA, n, r, q⟩ := (show cZ P w H h a (.ins C dx fs) from hok a _ e)
 exact ⟨mA, ⟨ob, n, ne⟩, r, q, z, d⟩
end
structure Cls (K : PySem.W.Frag) (C : Addr) : Prop where
 pg : PySem.W.plainGet K C Str.empty = true
 hd : PySem.W.hasDictIn K C = true
 po : PySem.W.plainOver K C = true
 sa : PySem.W.findIn K (.ref C) "__setattr__" = some (some (.builtin "object.__setattr__"))
theorem Cls.get {K : PySem.W.Frag} {C : Addr} (c : Cls K C) (f : Str) : PySem.W.plainGet K C f = true := c.pg
structure Con (K : PySem.W.Frag) (C : Addr) (f : Str) (v : V) (u : Value) : Prop where
 at_ : PySem.W.findIn K (.ref C) f = some (some u)
 rel : RelV v u
 get : PySem.W.specialIn K u "__get__" = some none
 cp : PySem.W.copiedNames.contains f = false
structure Meth (K : PySem.W.Frag) (C : Addr) (m : Str) (f : Addr) : Prop where
 at_ : PySem.W.findIn K (.ref C) m = some (some (.ref f))
 fn : PySem.W.isFn K (.ref f) = true
 kp : PySem.W.keepIn K (.ref f) = true
section
variable {X : Cx} {pins : List (Addr × Obj)} {σ : St} {H : Hp} {s : Shared} {a C dx : Addr} {fs : List (Str × V)} {f : Str} {v : V} {A : Around} {E : Value -> Shared -> Prop}
end
section
variable {X : Cx} {o e value : Expr} {f : Str} {pos pos' tpos : Pos} {ta tv : TE}
end
section
variable {X : Cx} {pins : List (Addr × Obj)} {σ : St} {H : Hp} {s : Shared} {A : Around} {E : Value -> Shared -> Prop} {Q : Value -> Shared -> Prop} {c : Value} {b : Bool}
inductive TyOf (K : PySem.W.Frag) (H : Hp) : V -> Value -> Prop where
 | non : TyOf K H .non (.type "NoneType")
 | bl (x : Bool) : TyOf K H (.bl x) (.type "bool")
 | int (i : Int) : TyOf K H (.int i) (.type "int")
 | str (x : Str) : TyOf K H (.str x) (.type "str")
 | flt (x : UInt64) : TyOf K H (.flt x) (.type "float")
 | lst {a : Addr} {xs : List V} (e : H a = some (.lst xs)) : TyOf K H (.ref a) (.type "list")
 | frz {a : Addr} {o : Obj} {xs : List V} (e : H a = some (.frz o (.lst xs))) : TyOf K H (.ref a) (.type "list")
 | tup {a : Addr} {xs : List V} (e : H a = some (.tup xs)) : TyOf K H (.ref a) (.type "tuple")
 | dK {a : Addr} {kvs : List (Key × V)} (e : H a = some (.dK kvs)) : TyOf K H (.ref a) (.type "dict")
 | dT {a : Addr} {kvs : List (List Key × V)} (e : H a = some (.dT kvs)) : TyOf K H (.ref a) (.type "dict")
 | ins {a C dx : Addr} {fs : List (Str × V)} (e : H a = some (.ins C dx fs)) (cl : Cls K C) (ha : PySem.W.findIn K (.ref C) "__class__" = some (some (.builtin "object.__class__")))
   (hn : PySem.W.specialIn K (.builtin "object.__class__") "__get__" = some (some (.builtin "getset_descriptor.__get__"))) (htk : PySem.W.takesIn K (.builtin "object.__class__") = some true)
   (hm : PySem.W.mroIn K C (.type "object") = some true) : TyOf K H (.ref a) (.ref C)
theorem zW {x : V} {u t : Value} (I : Inv X pins σ H s) (rx : RelV x u) (ty : TyOf X.K H x t) (e : PySem.W.kitOne X.K t c = some b) (h : ∀ tk, Q (.bool b) { s with toks := tk }) :
  wpAny (model X.prog X.w) A (call (.builtin "isinstance") [u, c]) Q E s := by
 cases ty with
 | non => cases (show u = Value.none from rx); exact PySem.W.kia_one PySem.W.kitx_none I.tB True.intro e (fun z => nomatch z) h
 | bl y => cases (show u = Value.bool y from rx); exact PySem.W.kia_one PySem.W.kitx_bool I.tB True.intro e (fun z => nomatch z) h
 | int i => obtain ⟨t, q⟩ := (show ∃ t, u = Value.int i t from rx); cases q; exact PySem.W.kia_one PySem.W.kitx_int I.tB True.intro e (fun z => nomatch z) h
 | str y => obtain ⟨t, q⟩ := (show ∃ t, u = Value.str y t from rx); cases q; exact PySem.W.kia_one PySem.W.kitx_str I.tB True.intro e (fun z => nomatch z) h
 | flt y => obtain ⟨t, q⟩ := (show ∃ t, u = Value.float y t from rx); cases q; exact PySem.W.kia_one PySem.W.kitx_float I.tB True.intro e (fun z => nomatch z) h
 | @lst a xs ea =>
  cases (show u = Value.ref a from rx)
  obtain ⟨_, _, n, _, h1⟩ := (show cZ X.prog X.w H s.heap a (.lst xs) from I.hok a _ ea)
  exact PySem.W.kia_one PySem.W.kitx_list I.tB ⟨_, h1, rfl⟩ e (fun z => nomatch z) h
 | @frz a ob xs ea =>
  cases (show u = Value.ref a from rx)
  obtain ⟨_, _, _, n, _, h1⟩ := (show cZ X.prog X.w H s.heap a (.frz ob (.lst xs)) from I.hok a _ ea)
  exact PySem.W.kia_one PySem.W.kitx_list I.tB ⟨_, h1, rfl⟩ e (fun z => nomatch z) h
 | @tup a xs ea =>
  cases (show u = Value.ref a from rx)
  obtain ⟨_, _, _, p⟩ := (show cZ X.prog X.w H s.heap a (.tup xs) from I.hok a _ ea)
  obtain ⟨o, h1, h2, _⟩ := p
  exact PySem.W.kia_one PySem.W.kitx_tuple I.tB ⟨o, h1, h2⟩ e (fun z => nomatch z) h
 | @dK a kvs ea =>
  cases (show u = Value.ref a from rx)
  obtain ⟨_, _, vs, _, p⟩ := (show cZ X.prog X.w H s.heap a (.dK kvs) from I.hok a _ ea)
  obtain ⟨o, es, ep, h1, h2, _⟩ := p
  exact PySem.W.kia_one PySem.W.kitx_dict I.tB ⟨o, h1, h2.1⟩ e (fun z => nomatch z) h
 | @dT a kvs ea =>
  cases (show u = Value.ref a from rx)
  obtain ⟨_, _, xs, _, o, es, ep, h1, h2, _⟩ := (show cZ X.prog X.w H s.heap a (.dT kvs) from I.hok a _ ea)
  exact PySem.W.kia_one PySem.W.kitx_dict I.tB ⟨o, h1, h2.1⟩ e (fun z => nomatch z) h
 | @ins a C dx fs ea cl ha hn htk hm =>
  cases (show u = Value.ref a from rx)
  obtain ⟨mA, O, _⟩ := EN I.hok ea
  obtain ⟨od, J, _⟩ := O.look
  exact PySem.W.kia_one (PySem.W.kitx_own (cl.get _) cl.hd ha hn htk hm) I.tB J e (fun z => nomatch z) h
end
end L2
namespace L2
open PySem PySem.Spec PyProof.Rows
structure Room (k : Nat) (A : Around) : Prop where
 hd : A.handled = none
 dp : A.depth + 3 * k + 5 < recursionLimit
 un : A.units + 16 * k + 200 < cLine
theorem Room.mono {j k : Nat} {A : Around} (r : Room k A) (h : j <= k) : Room j A := ⟨r.hd, by have := r.dp; omega, by have := r.un; omega⟩
theorem Room.deeper {k : Nat} {A : Around} (r : Room (k + 1) A) (env : Env) : Room k (A.deeper env) :=
 ⟨r.hd, by have := r.dp; show A.depth + 1 + 3 * k + 5 < _; omega, by have := r.un; show A.units + 3 + 16 * k + 200 < _; omega⟩
theorem Room.depth {k : Nat} {A : Around} (r : Room k A) : A.depth < recursionLimit := by have := r.dp; omega
theorem Room.units {k : Nat} {A : Around} (r : Room k A) : A.units + 64 < cLine := by have := r.un; omega
def LR : TA := fun _ H Q => Q [] H
def JP (ta : TE) (tr : TA) : TA := fun σ H Q => ta σ H fun x H1 => tr σ H1 fun xs H2 => Q (x :: xs) H2
section
variable {X : Cx} {e : Expr} {es : List Expr} {te : TE} {t : TA} {pos : Pos}
theorem qk : PA X [] LR := fun _ _ _ _ H Q I h => Calls.spliced_nil ⟨[], H, I, .nil, h⟩
theorem kI (ha : PE X e te) (hr : PA X es t) (hs : starEach (e :: es) X.env = (false, eval e X.env) :: starEach es X.env := by rfl) : PA X (e :: es) (JP te t) := by
 intro pos pins s σ H Q I h
 rw [hs]
 show wpAny _ _ (spliced ((false, eval e X.env) :: backTo pos (starEach es X.env))) _ _ s
 refine Calls.spliced_cons (cQ (ha pins s σ H _ I h) fun u s1 ⟨x, H1, I1, r1, q1⟩ => ?_)
 exact cQ (hr pos pins s1 σ H1 _ I1 q1) fun us s2 ⟨xs, H2, I2, r2, q2⟩ => ⟨x :: xs, H2, I2, .cons r1 r2, q2⟩
def Lf (t : TA) : TE := fun σ H Q => t σ H fun xs H1 => xs.length <= sizeLine /\ ∀ p, H1 p = none -> Q (.ref p) (upd H1 p (.tup xs))
def K2 (t : TA) : TE := fun σ H Q => t σ H fun xs H1 => xs.length <= sizeLine /\ ∀ p, H1 p = none -> Q (.ref p) (upd H1 p (.lst xs))
theorem G2 {x1} (h : PA X es t) : PE X (.Tuple es x1 pos) (Lf t) := by
 intro pins s σ H Q I hq
 refine wpAny_Tuple_spliced (cQ (h pos pins s σ H _ I hq) fun us s1 ⟨xs, H1, I1, r, z, q⟩ => ⟨by rw [<- r.length]; exact z, ?_⟩)
 have hf : H1 s1.heap.objs.size = none := I1.hok.fresh (Nat.le_refl _)
 refine ⟨.ref s1.heap.objs.size, upd H1 s1.heap.objs.size (.tup xs), I1.laid (t' := s1.toks) (fun b u e => Heap.get?_push_of_some _ e) (Nat.le_refl _) ?_, rfl, q _ hf⟩
 exact ⟨z, us, r, ⟨_, Heap.get?_push_size _ rfl, rfl, rfl, _, rfl⟩⟩
theorem Hl (h : PA X es t) : PE X (.List es pos) (K2 t) := by
 intro pins s σ H Q I hq
 refine wpAny_List_spliced (cQ (h pos pins s σ H _ I hq) fun us s1 ⟨xs, H1, I1, r, z, q⟩ => ⟨by rw [<- r.length]; exact z, ?_⟩)
 have hf : H1 s1.heap.objs.size = none := I1.hok.fresh (Nat.le_refl _)
 refine ⟨.ref s1.heap.objs.size, upd H1 s1.heap.objs.size (.lst xs), I1.laid (t' := s1.toks) (fun b u e => Heap.get?_push_of_some _ e) (Nat.le_refl _) ?_, rfl, q _ hf⟩
 exact ⟨z, us, 0, r, Heap.get?_push_size _ rfl⟩
end
abbrev Sp := List V -> Hp -> VK -> XK -> Prop
abbrev Dm := List Env -> Hp -> Shared -> XK -> Value -> Shared -> Prop
structure Env0 (P : Program) (w : World) (K : PySem.W.Frag) (mg : Str -> Option Value) (base : Heap) (A : Around) (outer : List Env) (s : Shared) (H : Hp) : Prop where
 frames : A.frames = some outer
 mod : Mod K mg base
 bs : ∀ b o, base.get? b = some o -> s.heap.get? b = some o /\ H b = none
 bsz : base.objs.size <= s.heap.objs.size
 pS : s.heap.FunFrames base outer
 frf : ∀ b ∈ frs outer, H b = none
 hok : mD P w H s.heap
 bare : AllBare s.gens
def CE (outer : List Env) (P : Program) (w : World) (H : Hp) (s : Shared) (Q : VK) (u : Value) (s' : Shared) : Prop :=
 ∃ v H', s'.os = s.os /\ AllBare s'.gens /\ Un (frs outer) [] H H' s.heap s'.heap /\ mD P w H' s'.heap /\ RelV v u /\ Q v H'
def CR (CX : Dm) (outer : List Env) (P : Program) (w : World) (H : Hp) (s : Shared) (Q : VK) (E : XK) (r : Result) (s' : Shared) : Prop :=
 match r with
 | .ok (.ret u) => CE outer P w H s Q u s'
 | .ok _ => False
 | .error e => CX outer H s E e s'
structure FnOk (P : Program) (w : World) (K : PySem.W.Frag) (mg : Str -> Option Value) (base : Heap) (CX : Dm) (k : Nat) (f : Addr) (fd : FuncData) (ps : List Str) (sp : Sp) : Prop where
 len : ∀ vs H Q E, sp vs H Q E -> vs.length = ps.length
 run : ∀ (A : Around) (outer : List Env) (s : Shared) (H : Hp) (args : Args) (us : List Value) (vs : List V) (Q : VK) (E : XK), Room k A -> Env0 P w K mg base A outer s H -> BindsTo s fd args (ps.zip us) -> Vals vs us -> sp vs H Q E ->
  codeAny (model P w) A (.call (.ref f) args) (CR CX outer P w H s Q E) s
section
variable {X : Cx} {pins : List (Addr × Obj)} {σ : St} {H : Hp} {s s' : Shared}
theorem Inv.LM (I : Inv X pins σ H s) : Env0 X.prog X.w X.K X.mg X.base X.A X.stack s H :=
 ⟨I.ok.frames, I.ok.mod, I.bs, Nat.le_trans I.ok.bsz I.sz, I.stack, I.yU, I.hok, I.bare⟩
theorem Inv.after {Q : VK} {u : Value} (I : Inv X pins σ H s) (h : CE X.stack X.prog X.w H s Q u s') : EP X pins σ Q u s' := by
 obtain ⟨v, H', os, bare, un, hok, r, q⟩ := h
 obtain ⟨hh, g, d, t, os'⟩ := s'
 obtain rfl : os' = s.os := os
 exact ⟨v, H', I.call (h' := hh) (g' := g) (d' := d) (t' := t) (ch := []) un hok bare (fun b z => absurd z (by simp)), r, q⟩
end
def Gi (sp : Sp) (dvs : List V) (E : XK) (t : TA) : TE := fun σ H Q => t σ H fun vs H1 => sp (vs ++ dvs) H1 Q E
def Binds (K : PySem.W.Frag) (fd : FuncData) (ps : List Str) (ds : List Value) : Prop :=
 ∀ (s : Shared) (us : List Value), K.In s.heap -> (us ++ ds).length = ps.length -> BindsTo s fd ⟨us, []⟩ (ps.zip (us ++ ds))
theorem Binds.all {K : PySem.W.Frag} {fd : FuncData} {ps : List Str} (h : ∀ us : List Value, us.length = ps.length -> bindArgs fd ⟨us, []⟩ = pure (ps.zip us)) : Binds K fd ps [] := fun s us _ hl => by
 rw [List.append_nil] at hl ⊢
 exact .of_eq (h us hl)
def Passes (CX : Dm) (X : Cx) (E : XK) : Prop := ∀ (pins : List (Addr × Obj)) (σ : St) (H : Hp) (s : Shared) (e : Value) (s' : Shared), Inv X pins σ H s -> CX X.stack H s E e s' -> X.xe e s'
section
variable {X : Cx} {CX : Dm} {k : Nat} {f C : Addr} {fd : FuncData} {ps : List Str} {sp : Sp} {dvs : List V} {ds : List Value} {E : XK} {x m : Str} {p pos apos : Pos} {e o : Expr} {es : List Expr} {ta : TE} {t : TA}
theorem Iq {pins : List (Addr × Obj)} {σ : St} {H : Hp} {s : Shared} {Q : VK} {us : List Value} {vs : List V} (F : FnOk X.prog X.w X.K X.mg X.base CX k f fd ps sp) (hr : Room k X.A) (hb : Binds X.K fd ps ds) (hd : Vals dvs ds) (hx : Passes CX X E)
  (I : Inv X pins σ H s) (r : Vals vs us) (h : sp (vs ++ dvs) H Q E) : wpAny (model X.prog X.w) X.A (call (.ref f) us) (EP X pins σ Q) X.xe s := by
 have r2 : Vals (vs ++ dvs) (us ++ ds) := r.append hd
 have hl : (us ++ ds).length = ps.length := by rw [<- r2.length]; exact F.len _ _ _ _ h
 refine wpAny_call (codeAny_mono (F.run X.A X.stack s H ⟨us, []⟩ (us ++ ds) (vs ++ dvs) Q E hr I.LM (hb s us I.tB hl) r2 h) fun r s' hq => ?_)
 cases r with
 | error e => exact hx pins σ H s e s' I hq
 | ok fl =>
  cases fl with
  | ret u => exact I.after hq
  | next => exact False.elim hq
  | brk => exact False.elim hq
  | cont => exact False.elim hq
theorem El (F : FnOk X.prog X.w X.K X.mg X.base CX k f fd ps sp) (hr : Room k X.A) (hg : Gl X x) (hm : X.mg x = some (.ref f)) (hk : PySem.W.keepIn X.K (.ref f) = true) (hb : Binds X.K fd ps ds) (hd : Vals dvs ds) (hx : Passes CX X E)
  (ha : PA X (e :: es) t) (hdb : (x == ("__debug__" : Str)) = false := by decide) (he : starEach (e :: es) X.env = (false, eval e X.env) :: starEach es X.env := by rfl) (hpl : (backTo pos (starEach es X.env)).any (·.1) = false := by rfl) :
  PE X (.Call (.Name x p) (e :: es) [] pos) (Gi sp dvs E t) := by
 intro pins s σ H Q I h
 refine wpAny_Call_Name_kw (xF I hg hm ?_ hdb)
 refine PySem.W.callWith_K (h₀ := X.base) I.ok.mod.kin hk (cQ (ha pos pins s σ H _ I h) fun us s1 ⟨vs, H1, I1, r, q⟩ => ⟨I1.tB, ?_⟩) he hpl
 exact Iq F hr hb hd hx I1 r q
structure Mk (K : PySem.W.Frag) (C f : Addr) : Prop where
 makes : PySem.W.makesIn K C = true
 init : PySem.W.findIn K (.ref C) "__init__" = some (some (.ref f))
 fn : PySem.W.isFn K (.ref f) = true
 kp : PySem.W.keepIn K (.ref C) = true
end
section
variable {X : Cx} {CX : Dm} {k : Nat} {f C : Addr} {fd : FuncData} {ps ks : List Str} {sp : Sp} {E : XK} {x m : Str} {p pos apos kpos : Pos} {e o : Expr} {es : List Expr} {kws : List Keyword} {te ta : TE} {t tk : TA} {nm : Option Str}
structure KBinds (K : PySem.W.Frag) (fd : FuncData) (ps ks : List Str) (g : List Value -> List Value -> List Value) (gV : List V -> List V -> List V) : Prop where
 to : ∀ (s : Shared) (us ws : List Value), K.In s.heap -> (g us ws).length = ps.length -> BindsTo s fd ⟨us, ks.zip ws⟩ (ps.zip (g us ws))
 rel : ∀ {vs : List V} {us : List Value} {zs : List V} {ws : List Value}, Vals vs us -> Vals zs ws -> Vals (gV vs zs) (g us ws)
variable {g : List Value -> List Value -> List Value} {gV : List V -> List V -> List V}
end
structure FnScope (N P : List Str) (sc : Scope) : Prop where
 kind : sc.kind = .function
 co : sc.isCoroutine = false
 gen : sc.isGenerator = false
 nd : N.Nodup
 pre : N.take P.length = P
 par : ∀ x ∈ P, sc.names.lookup x = some .local \/ sc.names.lookup x = some .cell
 nofree : ∀ y ∈ sc.names, y.2 ≠ .free
theorem qU {kindOf : Str -> Option NameKind} {x : Str} : ∀ {binds : List (Str × Value)} {m : Str -> Option Value}, (∀ v, (x, v) ∉ binds) -> bindL kindOf binds m x = m x
 | [], _, _ => rfl
 | (n, v) :: r, m, h => by
  unfold bindL
  rw [qU fun w hw => h w (List.mem_cons_of_mem _ hw)]
  split
  ·have : x ≠ n := by rintro rfl; exact h v List.mem_cons_self
   simp [this]
  ·rfl
theorem qL {kindOf : Str -> Option NameKind} {x : Str} : ∀ {binds : List (Str × Value)} {m : Str -> Option Value}, (∀ v, (x, v) ∉ binds) -> bindC kindOf binds m x = m x
 | [], _, _ => rfl
 | (n, v) :: r, m, h => by
  unfold bindC
  rw [qL fun w hw => h w (List.mem_cons_of_mem _ hw)]
  split
  ·rfl
  ·have : x ≠ n := by rintro rfl; exact h v List.mem_cons_self
   simp [this]
theorem rE {kindOf : Str -> Option NameKind} {x : Str} {v : Value} : ∀ {P : List Str} {vs : List Value} {i : Nat} {m : Str -> Option Value}, P.Nodup -> P[i]? = some x -> vs[i]? = some v -> kindOf x = some .local ->
  bindL kindOf (P.zip vs) m x = some v
 | [], _, _, _, _, h, _, _ => by simp at h
 | _ :: _, [], _, _, _, _, h, _ => by simp at h
 | p :: P, w :: vs, 0, m, nd, h1, h2, hk => by
  simp at h1 h2; subst h1; subst h2
  show bindL kindOf ((p, w) :: P.zip vs) m p = _
  unfold bindL
  rw [qU fun v hv => (List.nodup_cons.mp nd).1 (List.of_mem_zip hv).1, if_pos hk]
  simp
 | p :: P, w :: vs, i + 1, m, nd, h1, h2, hk => by
  show bindL kindOf ((p, w) :: P.zip vs) m x = _
  unfold bindL
  exact rE (i := i) (List.nodup_cons.mp nd).2 (by simpa using h1) (by simpa using h2) hk
theorem rq {kindOf : Str -> Option NameKind} {x : Str} {v : Value} : ∀ {P : List Str} {vs : List Value} {i : Nat} {m : Str -> Option Value}, P.Nodup -> P[i]? = some x -> vs[i]? = some v -> kindOf x ≠ some .local ->
  bindC kindOf (P.zip vs) m x = some v
 | [], _, _, _, _, h, _, _ => by simp at h
 | _ :: _, [], _, _, _, _, h, _ => by simp at h
 | p :: P, w :: vs, 0, m, nd, h1, h2, hk => by
  simp at h1 h2; subst h1; subst h2
  show bindC kindOf ((p, w) :: P.zip vs) m p = _
  unfold bindC
  rw [qL fun v hv => (List.nodup_cons.mp nd).1 (List.of_mem_zip hv).1, if_neg hk]
  simp
 | p :: P, w :: vs, i + 1, m, nd, h1, h2, hk => by
  show bindC kindOf ((p, w) :: P.zip vs) m x = _
  unfold bindC
  exact rq (i := i) (List.nodup_cons.mp nd).2 (by simpa using h1) (by simpa using h2) hk
def start (N : List Str) (vs : List V) : St := vs.map some ++ List.replicate (N.length - vs.length) none
def vR (CX : Dm) (P : Program) (w : World) (K : PySem.W.Frag) (mg : Str -> Option Value) (base : Heap) (N : List Str) (qual : Str) (scope : Scope) (f : Addr) (cd : Value) (A : Around) (outer : List Env) (s : Shared) (H : Hp) (E : XK) : Cx where
 prog := P
 w := w
 K := K
 mg := mg
 base := base
 A := A.deeper (envOfC qual scope s.heap.objs.size f cd)
 N := N
 s₀ := s
 H₀ := H
 env := envOfC qual scope s.heap.objs.size f cd
 outer := outer
 stack := envOfC qual scope s.heap.objs.size f cd :: outer
 ex := []
 calm := true
 fn := fun _ => true
 pn := []
 xe := fun e s' => wpAny (model P w) (A.deeper (envOfC qual scope s.heap.objs.size f cd)) (leaving (envOfC qual scope s.heap.objs.size f cd) e) (fun _ s'' => CX outer H s E e s'') (fun e' s'' => CX outer H s E e' s'') s'
theorem uP {sc : Scope} {n : Nat} {x : Str} (h : sc.names.lookup x = some .cell) : ∃ c, (cellsFrom n sc.names []).lookup x = some c := by
 have q := PySem.W.cellsFrom_some sc.names n [] (.inl h)
 exact Option.isSome_iff_exists.mp q
theorem zw {CX : Dm} {P : Program} {w : World} {K : PySem.W.Frag} {mg : Str -> Option Value} {base : Heap} {N ps : List Str} {qual : Str} {scope : Scope} {f : Addr} {cd : Value} {A : Around} {outer : List Env} {s s1 : Shared} {H : Hp} {E : XK} {us : List Value} {vs : List V}
  (S : FnScope N ps scope) (hd : A.handled = none) (e0 : Env0 P w K mg base A outer s H) (hl : vs.length = ps.length) (r : Vals vs us)
  (x : InCallC s s.heap.objs.size (bindL (envOfC qual scope s.heap.objs.size f cd).kindOf (ps.zip us) fun _ => none) (cellsFrom (s.heap.objs.size + 1) scope.names []) (bindC (envOfC qual scope s.heap.objs.size f cd).kindOf (ps.zip us) fun _ => none) s1) :
  Inv (vR CX P w K mg base N qual scope f cd A outer s H E) [] (start N vs) H s1 := by
 have hpl : ps.length <= N.length := by have := congrArg List.length S.pre; rw [List.length_take] at this; omega
 obtain ⟨h1, tk, rfl, hk⟩ := x.done
 have noA : ∀ b : Addr, b ∉ (vR CX P w K mg base N qual scope f cd A outer s H E).ex := fun b z => absurd (show b ∈ ([] : List Addr) from z) (by simp)
 refine ⟨⟨e0.mod, S.kind, rfl, rfl, Nat.le_refl _, fun y z c h1 h2 => ?_, fun y hy => ?_, fun y c _ h => ?_, fun _ => hd, Around.frames_deeper e0.frames, .inr ⟨rfl, rfl⟩, fun b z => absurd z (noA b), e0.bs, e0.bsz, fun b _ _ => noA b, fun b z => absurd z (noA b), e0.pS, e0.frf⟩,
  rfl, e0.bare, Un.kept hk, ⟨_, x.toInCall.ns, fun i y v h1 h2 h3 => ?_⟩, fun y c h => ⟨_, x.cell y c h⟩, e0.hok.fresh (Nat.le_refl _), fun y c h => ?_, fun p hp => absurd (show p ∈ ([] : List (Addr × Obj)) from hp) (by simp), e0.hok.kept hk, ?_⟩
 ·exact name_of_addr x.apart (PySem.mem_of_lookup h1) (PySem.mem_of_lookup h2)
 ·have hy : scope.names.lookup y = some .cell \/ scope.names.lookup y = some .free := hy
  rcases hy with hy | hy
  ·exact uP hy
  ·exact absurd rfl (S.nofree _ (PySem.mem_of_lookup hy))
 ·exact Nat.le_of_lt (x.above y c (PySem.mem_of_lookup h))
 ·have hi : i < vs.length := by
   unfold start at h2
   by_cases hi : i < vs.length
   ·exact hi
   ·rw [List.getElem?_append_right (by simpa using hi)] at h2
    rw [List.getElem?_replicate] at h2
    split at h2 <;> cases h2
  have ha : vs[i]? = some v := by
   unfold start at h2
   rw [List.getElem?_append_left (by simpa using hi), List.getElem?_map] at h2
   cases e : vs[i]? with
   | none => rw [e] at h2; cases h2
   | some a => rw [e] at h2; cases h2; rfl
  obtain ⟨u, hu, rv⟩ := r.get ha
  have hp : ps[i]? = some y := by
   rw [<- S.pre, List.getElem?_take_of_lt (by omega)]; exact h1
  have ndP : ps.Nodup := by rw [<- S.pre]; exact S.nd.sublist (List.take_sublist _ _)
  refine ⟨u, rv, ?_⟩
  rcases S.par y (List.mem_of_getElem? hp) with k | k
  ·exact .inl ⟨k, rE ndP hp hu k⟩
  ·obtain ⟨c, e⟩ := uP (n := s.heap.objs.size + 1) k
   refine .inr ⟨.inl k, c, e, ?_⟩
   have q := x.cell y c e
   rw [rq ndP hp hu (by show scope.names.lookup y ≠ _; rw [k]; decide)] at q
   exact q
 ·exact e0.hok.fresh (Nat.le_of_lt (x.above y c (PySem.mem_of_lookup h)))
 ·unfold start
  show _ = N.length
  rw [List.length_append, List.length_map, List.length_replicate]
  omega
theorem Jg {CX : Dm} {P : Program} {w : World} {K : PySem.W.Frag} {mg : Str -> Option Value} {base : Heap} {k : Nat} {f : Addr} {name qual : Str} {params : Arguments} {body : List Stmt} {scope : Scope} {dV kV doc pm cdv ct oc : Value} {an od : Option Addr}
  {osl : Array (Option Value)} {N ps : List Str} {sp : Sp} (lk : K.lookup f = some ⟨oc, od, .func (PySem.W.fnOf name qual params body scope dV kV doc pm an cdv ct), osl⟩) (hcd : PySem.W.codeIn K cdv qual = true) (S : FnScope N ps scope)
  (len : ∀ vs H Q E, sp vs H Q E -> vs.length = ps.length)
  (hbody : ∀ (A : Around) (outer : List Env) (s : Shared) (H : Hp) (vs : List V) (Q : VK) (E : XK), Room k (A.deeper (envOfC qual scope s.heap.objs.size f cdv)) -> sp vs H Q E ->
   ∃ t, tu (vR CX P w K mg base N qual scope f cdv A outer s H E) body t /\ t { nx := fun _ H' => Q .non H', rt := Q } (start N vs) H) :
  FnOk P w K mg base CX (k + 1) f (PySem.W.fnOf name qual params body scope dV kV doc pm an cdv ct) ps sp := by
 refine ⟨len, fun A outer s H args us vs Q E hr e0 hb r hsp => ?_⟩
 have hl := len _ _ _ _ hsp
 have KX : K.In s.heap := e0.mod.kin.keeps fun b o e => (e0.bs b o e).1
 have lim : s.heap.NoLimit := e0.mod.nolimit.keeps fun b o e => (e0.bs b o e).1
 have hkind : ∀ y ∈ ps.zip us, scope.names.lookup y.1 = some .local \/ (scope.names.lookup y.1 = some .cell /\ ((cellsFrom (s.heap.objs.size + 1) scope.names []).lookup y.1).isSome = true) := fun ⟨n, v⟩ hy => by
  rcases S.par n (List.of_mem_zip hy).1 with q | q
  ·exact .inl q
  ·exact .inr ⟨q, PySem.W.cellsFrom_some _ _ _ (.inl q)⟩
 refine codeAny_call_function hr.depth (KX _ _ lk) rfl S.co S.gen rfl (PySem.W.codeRec_of KX hcd) (hb _ _ _ _ ?_)
 refine wpAny_newFunctionEnv_cells S.kind hkind fun env he s1 x => ?_
 subst he
 refine ⟨lim.keeps x.toInCall.keep, codeAny_func ?_⟩
 obtain ⟨t, ht, hq⟩ := hbody A outer s H vs Q E (hr.deeper _) hsp
 have I : Inv (vR CX P w K mg base N qual scope f cdv A outer s H E) [] (start N vs) H s1 := zw S hr.hd e0 hl r x
 refine wpAny_mono (ht [] s1 (start N vs) H _ I hq) (fun fl s' hs => ?_) fun e s' hs => hs
 have fin : ∀ {σ' : St} {H' : Hp} {v : V} {u : Value}, Inv (vR CX P w K mg base N qual scope f cdv A outer s H E) [] σ' H' s' -> RelV v u -> Q v H' -> CE outer P w H s Q u s' :=
  fun {σ' H' v u} J rv q => ⟨v, H', J.os, J.bare, J.base, J.hok, rv, q⟩
 cases fl with
 | ret u =>
  obtain ⟨v, σ', H', J, rv, q⟩ := hs
  exact fin J rv q
 | next =>
  obtain ⟨σ', H', J, q⟩ := hs
  exact fin (v := V.non) (u := Value.none) J rfl q
 | brk =>
  obtain ⟨_, _, _, q⟩ := hs
  exact False.elim q
 | cont =>
  obtain ⟨_, _, _, q⟩ := hs
  exact False.elim q
end L2
namespace L2
open PySem PySem.Spec PyProof.Rows
section
variable {X : Cx} {x : Str} {p pos : Pos} {e : Expr} {es : List Expr} {t : TA} {id T : String} {r : List V -> Hp -> VK -> Prop}
def Lx (r : List V -> Hp -> VK -> Prop) (t : TA) : TE := fun σ H Q => t σ H fun vs H1 => r vs H1 Q
theorem AQ (hc : bR X (.builtin id) r) (hg : Gl X x) (hm : X.mg x = none) (hv : bootBuiltins x = some (.builtin id)) (ha : PA X (e :: es) t) (hn : x ≠ "__name__" := by decide) (hdb : (x == ("__debug__" : Str)) = false := by decide)
  (he : starEach (e :: es) X.env = (false, eval e X.env) :: starEach es X.env := by rfl) (hpl : (backTo pos (starEach es X.env)).any (·.1) = false := by rfl) : PE X (.Call (.Name x p) (e :: es) [] pos) (Lx r t) := by
 intro pins s σ H Q I h
 refine wpAny_Call_Name_kw (mh I hg hm hv ?_ hn hdb)
 exact PyProof.Rows.callWith_builtin1 (cQ (ha pos pins s σ H _ I h) fun us s1 ⟨vs, H1, I1, r1, q1⟩ => hc pins s1 σ H1 vs us Q I1 r1 q1) he hpl
theorem zu (hc : bR X (.type T) r) (hg : Gl X x) (hm : X.mg x = none) (hv : bootBuiltins x = some (.type T)) (ha : PA X (e :: es) t) (hn : x ≠ "__name__" := by decide) (hdb : (x == ("__debug__" : Str)) = false := by decide)
  (he : starEach (e :: es) X.env = (false, eval e X.env) :: starEach es X.env := by rfl) (hpl : (backTo pos (starEach es X.env)).any (·.1) = false := by rfl) : PE X (.Call (.Name x p) (e :: es) [] pos) (Lx r t) := by
 intro pins s σ H Q I h
 refine wpAny_Call_Name_kw (mh I hg hm hv ?_ hn hdb)
 exact PyProof.Rows.callWith_type1 (cQ (ha pos pins s σ H _ I h) fun us s1 ⟨vs, H1, I1, r1, q1⟩ => hc pins s1 σ H1 vs us Q I1 r1 q1) he hpl
end
end L2
namespace HT
open PySem PyProof.Rows
def lexLt : List Int -> List Int -> Bool
 | [], [] => false
 | [], _ :: _ => true
 | _ :: _, [] => false
 | x :: xs, y :: ys => if x = y then lexLt xs ys else decide (x < y)
theorem lK (x y : Int) (xs ys : List Int) : lexLt (x :: xs) (y :: ys) = if x = y then lexLt xs ys else decide (x < y) := rfl
theorem lq : lexLt [] [] = false := rfl
theorem pq (y : Int) (ys : List Int) : lexLt [] (y :: ys) = true := rfl
theorem qj (x : Int) (xs : List Int) : lexLt (x :: xs) [] = false := rfl
theorem tV (A : Around) (s : Shared) (a : Int) (t : Tok) (c : Int) (u : Tok) : ∃ e, SeqAt.EqAt A s (.int a t) (.int c u) e /\ (e = true ↔ a = c) :=
 ⟨(a == c), SeqAt.EqAt.int_int a t c u, by simp⟩
theorem CJ (A : Around) (s : Shared) (a : Int) (t : Tok) (c : Int) (u : Tok) (prog : Program) (w : World) (E : Value -> Shared -> Prop) (Q : Value -> Shared -> Prop) (h : Q (.bool (decide (a < c))) s) :
  wpAny (model prog w) A (richCompare .Lt (.int a t) (.int c u)) Q E s :=
 (PyProof.Rows.lt_int h : wpAny (model prog w) A (compareOp .Lt (.int a t) (.int c u)) Q E s)
section
open PySem.SeqAt
open PySem.AutoSeq1 (wpAny_loadPart')
open PySem.MeetsSeq PySem.MeetsSeq2 PySem.MeetsSeq3
theorem qE (l b : Addr) (items items2 : Array Value) (n n2 : Nat) (dd dd2 : Option Addr) (sl sl2 : Array (Option Value)) (ns ms : List Int) (hi : IntsAre items.toList ns) (hj : IntsAre items2.toList ms) :
  Meets (Builtin.«tuple.__lt__» ⟨[.ref l, .ref b], []⟩)
   (fun _ R s => s.heap.get? l = some { cls := .type "tuple", dict := dd, data := .seq items n, slots := sl } /\ s.heap.get? b = some { cls := .type "tuple", dict := dd2, data := .seq items2 n2, slots := sl2 } /\
    R (.ok (.ret (.bool (lexLt ns ms)))) s) :=
 .of_wp fun prog w A R s h => by
  obtain ⟨hp, g, d, tk, os⟩ := s; obtain ⟨hl, hb, h⟩ := h
  have f2 := AutoSeq1.sub_tuple_tuple
  have z1 : items.size = ns.length := by rw [<- hi.length]; simp
  have z2 : items2.size = ms.length := by rw [<- hj.length]; simp
  wp_walk using wpAny_loadPart' hl, wpAny_loadPart' hb, wpAny_forIn_list _ (fun rest b s' => b.1 = none /\ s' = ⟨hp, g, d, tk, os⟩ /\ ∃ (vs ws : List Value) (ns' ms' : List Int), rest = vs.zip ws /\
   IntsAre vs ns' /\ IntsAre ws ms' /\ ns'.length + items2.size = ms'.length + items.size /\ R (.ok (.ret (.bool (lexLt ns' ms')))) ⟨hp, g, d, tk, os⟩) _
  case turn =>
   rintro ⟨y, x⟩ rest b s' ⟨hb', rfl, vs, ws, ns', ms', hz, hvi, hwi, hlen, hR⟩
   cases hvi with
   | nil => rw [List.zip_nil_left] at hz; cases hz
   | cons a t hvi' =>
    cases hwi with
    | nil => rw [List.zip_nil_right] at hz; cases hz
    | cons c u hwi' =>
     rw [List.zip_cons_cons] at hz
     injection hz with hyx hrest
     injection hyx with hy hx
     subst hy hx
     rw [lK] at hR
     simp only [List.length_cons] at hlen
     obtain ⟨e, he, hiff⟩ := tV A.in1 ⟨hp, g, d, tk, os⟩ a t c u
     refine wpAny_bind (he prog w _ _ ?_)
     cases e with
     | true =>
      rw [if_pos (hiff.mp rfl)] at hR
      wp_walk
      exact ⟨rfl, rfl, _, _, _, _, hrest, hvi', hwi', by omega, hR⟩
     | false =>
      rw [if_neg (fun q => absurd (hiff.mpr q) Bool.false_ne_true)] at hR
      have hri := CJ A.in1 ⟨hp, g, d, tk, os⟩ a t c u prog w
      wp_walk using hri
      exact ⟨_, rfl, by simpa using hR⟩
  case fin =>
   rintro ⟨b1, b2⟩ s' ⟨hb', rfl, vs, ws, ns', ms', hz, hvi, hwi, hlen, hR⟩
   simp only at hb'
   subst hb'
   have hv : lexLt ns' ms' = decide (items.size < items2.size) := by
    cases hvi with
    | nil =>
     cases hwi with
     | nil =>
      simp only [List.length_nil] at hlen
      rw [lq]
      exact (decide_eq_false (by omega)).symm
     | cons c u hw =>
      simp only [List.length_nil, List.length_cons] at hlen
      rw [pq]
      exact (decide_eq_true (by omega)).symm
    | cons a t hv =>
     cases hwi with
     | nil =>
      simp only [List.length_nil, List.length_cons] at hlen
      rw [qj]
      exact (decide_eq_false (by omega)).symm
     | cons c u hw =>
      rw [List.zip_cons_cons] at hz
      cases hz
   rw [hv] at hR
   wp_walk
   exact ⟨_, rfl, by simpa [Builtin.Tuple.tupleCompareSizes] using hR⟩
  case h =>
   exact ⟨rfl, rfl, items.toList, items2.toList, ns, ms, rfl, hi, hj, by omega, h⟩
end
section
variable {prog : Program} {w : World} {A : Around} {E : Value -> Shared -> Prop} {s : Shared}
theorem vD {l b : Addr} {items items2 : Array Value} {ns ms : List Int} {Q : Value -> Shared -> Prop} (hl : IsTup s.heap l items) (hb : IsTup s.heap b items2) (hi : IntsAre items.toList ns) (hj : IntsAre items2.toList ms)
  (hu : A.units < cLine) (h : Q (.bool (lexLt ns ms)) s) : wpAny (model prog w) A (compareOp .Lt (.ref l) (.ref b)) Q E s := by
 obtain ⟨⟨cls, dd, data, sl⟩, ho, hc, n, hd⟩ := id hl
 obtain ⟨⟨cls2, dd2, data2, sl2⟩, ho2, hc2, n2, hd2⟩ := id hb
 simp only at hc hd hc2 hd2
 subst hc hd hc2 hd2
 exact richCompare_meets_room (op := .Lt) ⟨_, ho, rfl⟩ ⟨_, ho2, rfl⟩ PySem.F.slot_tuple_lt PySem.F.entry_tuple_lt (PySem.F.args_tuple_lt_2 _ _) (qE l b items items2 n n2 dd dd2 sl sl2 ns ms hi hj)
  ⟨ho, ho2, show Value.bool (lexLt ns ms) ≠ Value.notImplemented /\ Q (.bool (lexLt ns ms)) s from ⟨(fun x => nomatch x), h⟩⟩ hu
theorem DG {t b : Addr} {vs ws : List Value} {Q : Value -> Shared -> Prop} (ht : IsTup s.heap t vs.toArray) (hb : IsTup s.heap b ws.toArray) (hv : vs ≠ [])
  (h1 : ws = [] -> Q (.ref t) s) (h2 : ws ≠ [] -> Q (.ref s.heap.objs.size) { s with heap := s.heap.push { cls := .type "tuple", data := .seq (vs ++ ws).toArray } })
  (hsz : vs.length + ws.length <= sizeLine) : wpAny (model prog w) A (binaryOp .Add (.ref t) (.ref b)) Q E s := by
 obtain ⟨⟨cls, dd, data, sl⟩, ho, hc, n, hd⟩ := id ht
 obtain ⟨⟨cls2, dd2, data2, sl2⟩, ho2, hc2, n2, hd2⟩ := id hb
 simp only at hc hd hc2 hd2
 subst hc hd hc2 hd2
 have e : vs.toArray ++ ws.toArray = (vs ++ ws).toArray := by simp
 by_cases hw : ws = []
 ·exact concat_meets ⟨_, ho, rfl⟩ ⟨_, ho2, rfl⟩ noFill_tuple_add seq_tuple_add PySem.F.slot_tuple_add PySem.F.entry_tuple_add (PySem.F.args_tuple_add_2 _ _)
   (tuple_addW1 t b vs.toArray ws.toArray n n2 dd dd2 sl sl2 (by simpa using hv) (by simp [hw])) ⟨ho, ho2, h1 hw⟩
 ·refine concat_meets ⟨_, ho, rfl⟩ ⟨_, ho2, rfl⟩ noFill_tuple_add seq_tuple_add PySem.F.slot_tuple_add PySem.F.entry_tuple_add (PySem.F.args_tuple_add_2 _ _)
   (tuple_addW2 t b vs.toArray ws.toArray n n2 dd dd2 sl sl2 (by simpa using hv) (by simpa using hw) (by rw [List.size_toArray, List.size_toArray]; exact hsz)) ⟨ho, ho2, ?_⟩
  rw [e]
  exact h2 hw
def fy (n d : Nat) : Option Int -> Nat
 | none => d
 | some v => if v < 0 then (v + (n : Int)).toNat else min v.toNat n
theorem kh (n d : Nat) : fy n d none = d := rfl
theorem gM (n d k : Nat) : fy n d (some (k : Int)) = min k n := by
 show (if (k : Int) < 0 then ((k : Int) + (n : Int)).toNat else min (k : Int).toNat n) = min k n
 rw [if_neg (by omega), Int.toNat_natCast]
theorem HR (n d : Nat) (hd : d <= n) (o : Option Int) : fy n d o <= n := by
 cases o with
 | none => exact hd
 | some v =>
  show (if v < 0 then (v + (n : Int)).toNat else min v.toNat n) <= n
  by_cases hv : v < 0
  ·rw [if_pos hv]; omega
  ·rw [if_neg hv]; exact Nat.min_le_right _ _
theorem yX (v : Int) (n d : Nat) : (if v < 0 then max (v + (n : Int)) 0 else min v (n : Int)) = ((fy n d (some v) : Nat) : Int) := by
 show (if v < 0 then max (v + (n : Int)) 0 else min v (n : Int)) = (((if v < 0 then (v + (n : Int)).toNat else min v.toNat n) : Nat) : Int)
 by_cases hv : v < 0
 ·simp only [if_pos hv]; omega
 ·simp only [if_neg hv]; omega
theorem wz (lo hi : Option Int) (n : Nat) : Builtin.Slice.sliceAdjust lo hi 1 (n : Int) = (((fy n 0 lo : Nat) : Int), ((fy n n hi : Nat) : Int)) := by
 have h1 : ¬ ((1 : Int) < 0) := by omega
 unfold Builtin.Slice.sliceAdjust
 simp only [h1, if_false]
 refine Prod.ext ?_ ?_
 ·cases lo with
  | none => rfl
  | some v => exact yX v n 0
 ·cases hi with
  | none => rfl
  | some v => exact yX v n n
theorem vG (i j : Nat) : Builtin.Slice.slicePlaces (i : Int) (j : Int) 1 = j - i := by
 unfold Builtin.Slice.slicePlaces
 have h1 : (1 : Int) > 0 := by omega
 simp only [h1, if_true, Int.ediv_one]
 split <;> omega
theorem qy {v : Value} {o : Option Int} {Q : Option Int -> Shared -> Prop} (p : IsPart v o) (h : Q o s) : wpAny (model prog w) A (Builtin.Slice.slicePartIndex v) Q E s := by
 cases p with
 | none => exact slicePart_none h
 | int i t => exact slicePart_int h
theorem nF {sl : Addr} {vl vu : Value} {lo hi : Option Int} {n : Nat} {Q : Int × Int × Nat -> Shared -> Prop} (hs : s.heap.IsSliceOf sl vl vu .none) (pl : IsPart vl lo) (pu : IsPart vu hi)
  (h : Q (((fy n 0 lo : Nat) : Int), 1, fy n n hi - fy n 0 lo) s) : wpAny (model prog w) A (Builtin.Slice.sliceApplied (.ref sl) (pure (n : Int))) Q E s := by
 obtain ⟨os, hos, hcs, hds⟩ := id hs
 unfold Builtin.Slice.sliceApplied Builtin.Slice.sliceFields
 refine wpAny_bind (wpAny_bind (wpAny_field hos hds (x := vl) rfl (wpAny_bind (wpAny_field hos hds (x := vu) rfl (wpAny_bind (wpAny_field hos hds (x := .none) rfl (wpAny_pure ?_)))))))
 refine wpAny_bind (slicePart_none ?_)
 show wpAny _ _ (if ((1 : Int) == 0) = true then _ else _) _ _ s
 rw [if_neg (by decide)]
 refine wpAny_bind (qy pl (wpAny_bind (qy pu (wpAny_bind (wpAny_pure ?_)))))
 show wpAny _ _ (match Builtin.Slice.sliceAdjust lo hi 1 (n : Int) with | (lo, hi) => pure (lo, (1 : Int), Builtin.Slice.slicePlaces lo hi 1)) _ _ s
 rw [wz lo hi n]
 show wpAny _ _ (pure (((fy n 0 lo : Nat) : Int), (1 : Int), Builtin.Slice.slicePlaces ((fy n 0 lo : Nat) : Int) ((fy n n hi : Nat) : Int) 1)) _ _ s
 rw [vG]
 exact wpAny_pure h
theorem Ag (xs : Array Value) (i k : Nat) : ((List.range k).filterMap fun (m : Nat) => xs[((i : Int) + (m : Int) * 1).toNat]?).toArray = ((xs.toList.drop i).take k).toArray := by
 have e : (fun (m : Nat) => xs[((i : Int) + (m : Int) * 1).toNat]?) = fun m => xs[i + m]? := by
  funext m
  have : ((i : Int) + (m : Int) * 1).toNat = i + m := by omega
  rw [this]
 rw [e]
 have := pick_run xs i k
 rw [List.filterMap_map] at this
 have e2 : ((fun x => xs[x]?) ∘ fun x => i + x) = fun m => xs[i + m]? := rfl
 rw [e2] at this
 rw [this]
theorem mK {t sl : Addr} {items : Array Value} {vl vu : Value} {lo hi : Option Int} {Q : Value -> Shared -> Prop} (ht : IsTup s.heap t items) (hs : s.heap.IsSliceOf sl vl vu .none) (pl : IsPart vl lo) (pu : IsPart vu hi)
  (hw : ¬ (fy items.size 0 lo = 0 /\ fy items.size items.size hi = items.size))
  (h : Q (.ref s.heap.objs.size) { s with heap := s.heap.push { cls := .type "tuple", data := .seq ((items.toList.drop (fy items.size 0 lo)).take (fy items.size items.size hi - fy items.size 0 lo)).toArray } })
  (hsz : items.size <= sizeLine) : wpAny (model prog w) A (getItem (.ref t) (.ref sl)) Q E s := by
 have htake : sizeOk (.seq ((items.toList.drop (fy items.size 0 lo)).take (fy items.size items.size hi - fy items.size 0 lo)).toArray) := by
  show ((items.toList.drop (fy items.size 0 lo)).take (fy items.size items.size hi - fy items.size 0 lo)).toArray.size <= sizeLine
  rw [List.size_toArray, List.length_take, List.length_drop, Array.length_toList]
  omega
 have hj : fy items.size items.size hi <= items.size := HR _ _ (Nat.le_refl _) hi
 obtain ⟨os, hos, hcs, hds⟩ := id hs
 have hTs : s.TypeIs (.ref sl) "slice" := ⟨os, hos, hcs⟩
 unfold getItem
 try with_reducible refine wpAny_holding ?_
 first | refine wpAny_bind (wpAny_pure ?_) | skip
 refine wpAny_bind (wpAny_sequenceKey ht.typeIs (by decide) ?_)
 refine wpAny_bind (wpAny_callSpecial?_slot (name := Str.ofString "__getitem__") ht.typeIs PyProof.Rows.slot_tuple_getitem
  (wpAny_call_entry PyProof.Rows.slot_tuple_getitem ht.typeIs entry_tuple_getitem ?_ (args_tuple_getitem _ _)))
 show wpAny _ _ (Builtin.Tuple.tupleItemsOf (.ref t) >>= _) _ _ s
 refine wpAny_bind (tupleItemsOf_ ht ?_)
 refine wpAny_bind (wpAny_typeOf hTs ?_)
 rw [if_pos (by decide)]
 refine wpAny_bind (nF hs pl pu ?_)
 have hno : ¬ ((((fy items.size 0 lo : Nat) : Int) == 0 && (1 : Int) == 1 && (fy items.size items.size hi - fy items.size 0 lo) == items.size) = true) := by
  intro q
  rw [Bool.and_eq_true, Bool.and_eq_true] at q
  have q1 : ((fy items.size 0 lo : Nat) : Int) = 0 := eq_of_beq q.1.1
  have q2 : fy items.size items.size hi - fy items.size 0 lo = items.size := eq_of_beq q.2
  exact hw ⟨by omega, by omega⟩
 show wpAny _ _ (if (((fy items.size 0 lo : Nat) : Int) == 0 && (1 : Int) == 1 && (fy items.size items.size hi - fy items.size 0 lo) == items.size) = true then _ else _) _ _ s
 rw [if_neg hno, Ag]
 first
  | exact wpAny_bind (m := Builtin.Tuple.tupleExact _) (wpAny_newObj_type (wpAny_pure ⟨_, rfl, wpAny_pure h⟩) htake)
  | exact wpAny_bind (m := Builtin.Tuple.tupleExact _) (wpAny_newObj_type (wpAny_bind (wpAny_pure (wpAny_pure ⟨_, rfl, wpAny_pure h⟩))) htake)
  | exact wpAny_bind (wpAny_bind (m := Builtin.Tuple.tupleExact _) (wpAny_newObj_type (wpAny_pure (wpAny_pure ⟨_, rfl, wpAny_pure h⟩)) htake))
  | exact wpAny_bind (wpAny_bind (m := Builtin.Tuple.tupleExact _) (wpAny_newObj_type (wpAny_pure ⟨_, rfl, wpAny_pure h⟩) htake))
end
end HT
namespace L2
open PySem PySem.Spec PyProof.Rows
abbrev TO := St -> Hp -> (Option Int -> Hp -> Prop) -> Prop
def PO (X : Cx) (e : Option Expr) (t : TO) : Prop :=
 ∀ (pins : List (Addr × Obj)) (s : Shared) (σ : St) (H : Hp) (Q : Option Int -> Hp -> Prop), Inv X pins σ H s -> t σ H Q ->
  wpAny (model X.prog X.w) X.A (evalPart e X.env) (fun u s' => ∃ o H', Inv X pins σ H' s' /\ IsPart u o /\ Q o H') X.xe s
def EA : TO := fun _ H Q => Q none H
def J4 (t : TE) : TO := fun σ H Q => t σ H fun x H1 => ∃ i, x = .int i /\ Q (some i) H1
theorem intsAre_of {ns : List Int} : ∀ {us : List Value}, Vals (ns.map V.int) us -> IntsAre us ns := by
 induction ns with
 | nil => intro us r; rw [List.map_nil] at r; cases r; exact .nil
 | cons n ns ih =>
  intro us r
  rw [List.map_cons] at r
  cases r with
  | cons r1 r2 =>
   obtain ⟨t, e⟩ := r1
   subst e
   exact .cons n t (ih r2)
section
variable {X : Cx} {e : Expr} {te : TE} {lo hi : Option Expr} {tl th : TO} {pos p2 : Pos}
theorem E9 : PO X none EA := by
 intro pins s σ H Q I h
 rw [evalPart_none]
 exact wpAny_pure ⟨none, H, I, .none, h⟩
theorem Ff (h : PE X e te) : PO X (some e) (J4 te) := by
 intro pins s σ H Q I hw
 rw [evalPart_some]
 refine cQ (h pins s σ H _ I hw) fun u s1 ⟨x, H1, I1, r1, q1⟩ => ?_
 obtain ⟨i, rfl, q⟩ := q1
 obtain ⟨t, rfl⟩ := r1
 exact ⟨some i, H1, I1, .int i t, q⟩
def KQ (X : Cx) (r : V -> Option Int -> Option Int -> Hp -> VK -> Prop) : Prop :=
 ∀ (pins : List (Addr × Obj)) (s : Shared) (σ : St) (H : Hp) (x : V) (v vl vu : Value) (lo hi : Option Int) (sl : Addr) (Q : VK), Inv X pins σ H s -> RelV x v -> s.heap.IsSliceOf sl vl vu .none -> IsPart vl lo -> IsPart vu hi -> r x lo hi H Q ->
  ∃ T id, typeLookup (.type T) "__getitem__" = pure (some (.builtin id)) /\ s.TypeIs v T /\ wpAny (model X.prog X.w) X.A (getItem v (.ref sl)) (EP X pins σ Q) X.xe s
def Mt (r : V -> Option Int -> Option Int -> Hp -> VK -> Prop) (te : TE) (tl th : TO) : TE := fun σ H Q => te σ H fun x H1 => tl σ H1 fun l H2 => th σ H2 fun u H3 => r x l u H3 Q
theorem C3 {r : V -> Option Int -> Option Int -> Hp -> VK -> Prop} (hr : KQ X r) (he : PE X e te) (hl : PO X lo tl) (hu : PO X hi th) : PE X (.Subscript e (.Slice lo hi none p2) pos) (Mt r te tl th) := by
 intro pins s σ H Q I h
 refine Subscript_ (cQ (he pins s σ H _ I h) fun v s1 ⟨x, H1, I1, r1, q1⟩ => ?_)
 refine wpAny_Slice (cQ (hl pins s1 σ H1 _ I1 q1) fun vl s2 ⟨l, H2, I2, pl, q2⟩ => cQ (hu pins s2 σ H2 _ I2 q2) fun vu s3 ⟨u, H3, I3, pu, q3⟩ => ?_)
 rw [evalPart_none]
 refine wpAny_pure ?_
 have I4 : Inv X pins σ H3 { s3 with heap := s3.heap.push { cls := .type "slice", data := .fields #[vl, vu, .none] } } := I3.kept (t' := s3.toks) fun b ob q => Heap.get?_push_of_some _ q
 obtain ⟨T, id, hT, ht, hg⟩ := hr pins { s3 with heap := s3.heap.push { cls := .type "slice", data := .fields #[vl, vu, .none] } } σ H3 x v vl vu l u s3.heap.objs.size Q I4 r1 (Heap.IsSliceOf.new ..) pl pu q3
 show wpAny (model X.prog X.w) X.A (subscriptTail e (.Slice lo hi none p2) v (.ref s3.heap.objs.size)) (EP X pins σ Q) X.xe { s3 with heap := s3.heap.push { cls := .type "slice", data := .fields #[vl, vu, .none] } }
 exact tail_any (ops := [.ref s3.heap.objs.size, v]) ht hT hg (by with_unfolding_all rfl)
def vf (xs : List V) (lo hi : Option Int) : List V := (xs.drop (HT.fy xs.length 0 lo)).take (HT.fy xs.length xs.length hi - HT.fy xs.length 0 lo)
theorem oh (xs : List V) (lo hi : Option Int) : (vf xs lo hi).length <= xs.length := by
 unfold vf
 rw [List.length_take, List.length_drop]
 omega
def K7 (K : PySem.W.Frag) : V -> Option Int -> Option Int -> Hp -> VK -> Prop := fun x lo hi H Q => ∃ a xs, x = .ref a /\ dZ K H a xs /\
 ¬ (HT.fy xs.length 0 lo = 0 /\ HT.fy xs.length xs.length hi = xs.length) /\ ∀ p, H p = none -> Q (.ref p) (upd H p (.tup (vf xs lo hi)))
theorem HV : KQ X (K7 X.K) := by
 intro pins s σ H x v vl vu lo hi sl Q I rx hs pl pu h
 obtain ⟨a, xs, rfl, hx, hw, q⟩ := h
 cases rx
 obtain ⟨its, r, ht, hz⟩ := I.tuple hx
 have hlen : its.toArray.size = xs.length := by rw [List.size_toArray]; exact r.length.symm
 refine ⟨"tuple", _, PyProof.Rows.slot_tuple_getitem.lookup, ht.typeIs, ?_⟩
 refine HT.mK ht hs pl pu (by rw [hlen]; exact hw) ?_ (by rw [hlen]; exact hz)
 rw [hlen]
 refine ⟨.ref s.heap.objs.size, _, I.laid (t' := s.toks) (o := .tup (vf xs lo hi)) (fun b ob q => Heap.get?_push_of_some _ q) (Nat.le_refl _) ?_, rfl, q _ (I.hok.fresh (Nat.le_refl _))⟩
 exact ⟨Nat.le_trans (oh xs lo hi) hz, _, (r.drop (HT.fy xs.length 0 lo)).take (HT.fy xs.length xs.length hi - HT.fy xs.length 0 lo), fZ.new _ _⟩
def Ly (K : PySem.W.Frag) : R2 := fun x y H Q => ∃ a b ns ms, x = .ref a /\ y = .ref b /\ dZ K H a (ns.map V.int) /\ dZ K H b (ms.map V.int) /\ Q (.bl (HT.lexLt ns ms)) H
theorem HM (hu : X.A.units < cLine) : fY X (compareOp .Lt) (Ly X.K) := by
 intro pins s σ H x y v u Q I rx ry h
 obtain ⟨a, b, ns, ms, rfl, rfl, ha, hb, q⟩ := h
 cases rx
 cases ry
 obtain ⟨its, r1, p1, _⟩ := I.tuple ha
 obtain ⟨its2, r2, p2, _⟩ := I.tuple hb
 have i1 : IntsAre its.toArray.toList ns := intsAre_of r1
 have i2 : IntsAre its2.toArray.toList ms := intsAre_of r2
 exact HT.vD p1 p2 i1 i2 hu ⟨.bl (HT.lexLt ns ms), H, I, rfl, q⟩
def J6 (K : PySem.W.Frag) : R2 := fun x y H Q => ∃ a b xs ys, x = .ref a /\ y = .ref b /\ dZ K H a xs /\ dZ K H b ys /\ xs ≠ [] /\ xs.length + ys.length <= sizeLine /\
 (ys = [] -> Q (.ref a) H) /\ (ys ≠ [] -> ∀ p, H p = none -> Q (.ref p) (upd H p (.tup (xs ++ ys))))
theorem Vals.sj {xs : List V} {us : List Value} (r : Vals xs us) : us = [] ↔ xs = [] := by
 cases r with
 | nil => simp
 | cons _ _ => simp
theorem DS : fY X (binaryOp .Add) (J6 X.K) := by
 intro pins s σ H x y v u Q I rx ry h
 obtain ⟨a, b, xs, ys, rfl, rfl, ha, hb, hx, hz, q1, q2⟩ := h
 cases rx
 cases ry
 obtain ⟨its, r1, p1, _⟩ := I.tuple ha
 obtain ⟨its2, r2, p2, _⟩ := I.tuple hb
 refine HT.DG p1 p2 (fun z => hx (r1.sj.mp z)) (fun z => ⟨.ref a, H, I, rfl, q1 (r2.sj.mp z)⟩) (fun z => ?_) (by rw [<- r1.length, <- r2.length]; exact hz)
 refine ⟨.ref s.heap.objs.size, _, I.laid (t' := s.toks) (o := .tup (xs ++ ys)) (fun b ob q => Heap.get?_push_of_some _ q) (Nat.le_refl _) ?_, rfl, q2 (fun w => z (r2.sj.mpr w)) _ (I.hok.fresh (Nat.le_refl _))⟩
 exact ⟨by rw [List.length_append]; exact hz, _, r1.append r2, fZ.new _ _⟩
end
end L2
namespace L2
open PySem PySem.Spec PyProof.Rows
def oW (n : Nat) (i : Int) : Option Nat := if 0 <= i then (if i < n then some i.toNat else none) else if -(n : Int) <= i then some (i + n).toNat else none
def d8 {α : Type} (xs : List α) (i : Int) : Option α := (oW xs.length i).bind fun j => xs[j]?
theorem yo {n : Nat} {i : Int} {j : Nat} (h : oW n i = some j) : seqIndex? i n = some j /\ j < n /\ -(n : Int) <= i /\ i < n := by
 unfold oW at h
 by_cases h0 : 0 <= i
 ·rw [if_pos h0] at h
  by_cases h1 : i < n
  ·rw [if_pos h1] at h
   have e : i.toNat = j := Option.some.inj h
   exact ⟨by rw [seqIndex_of h0 h1, e], by omega, by omega, h1⟩
  ·rw [if_neg h1] at h; cases h
 ·rw [if_neg h0] at h
  by_cases h1 : -(n : Int) <= i
  ·rw [if_pos h1] at h
   have e : (i + n).toNat = j := Option.some.inj h
   exact ⟨by rw [seqIndex_neg (by omega) h1, e], by omega, h1, by omega⟩
  ·rw [if_neg h1] at h; cases h
theorem rK {α : Type} {xs : List α} {i : Int} {v : α} (h : d8 xs i = some v) : ∃ j, seqIndex? i xs.length = some j /\ xs[j]? = some v /\ j < xs.length /\ -(xs.length : Int) <= i /\ i < xs.length := by
 unfold d8 at h
 cases e : oW xs.length i with
 | none => rw [e] at h; cases h
 | some j =>
  rw [e] at h
  obtain ⟨h1, h2, h3, h4⟩ := yo e
  exact ⟨j, h1, h, h2, h3, h4⟩
theorem ES {α : Type} {xs : List α} {j : Nat} {v : α} (h : xs[j]? = some v) : d8 xs (j : Int) = some v := by
 have hj : j < xs.length := (List.getElem?_eq_some_iff.mp h).1
 have e : oW xs.length (j : Int) = some j := by
  unfold oW
  rw [if_pos (by omega), if_pos (by omega)]; simp
 unfold d8; rw [e]; exact h
def sJ (b : Expr) : Prop := ∀ o i, subscripted b false o i = operate [o, i] (getItem o i)
def Ii (X : Cx) (r : R2) : Prop :=
 ∀ (value slice : Expr) (pins : List (Addr × Obj)) (s : Shared) (σ : St) (H : Hp) (x y : V) (v u : Value) (Q : VK), Inv X pins σ H s -> RelV x v -> RelV y u -> r x y H Q ->
  subscripted slice false v u = operate [v, u] (getItem v u) -> wpAny (model X.prog X.w) X.A (subscriptTail value slice v u) (EP X pins σ Q) X.xe s
def KC (X : Cx) (id : String) (r : V -> List V -> Hp -> VK -> Prop) : Prop :=
 ∀ (pins : List (Addr × Obj)) (s : Shared) (σ : St) (H : Hp) (x : V) (xs : List V) (v : Value) (us : List Value) (Q : VK), Inv X pins σ H s -> RelV x v -> Vals xs us -> r x xs H Q ->
  wpAny (model X.prog X.w) X.A (call (.builtin id) (v :: us)) (EP X pins σ Q) X.xe s
section
variable {X : Cx} {a b : Expr} {ta tb : TE} {pos : Pos}
theorem FJ {r : R2} (hr : Ii X r) (ha : PE X a ta) (hb : PE X b tb) (hs : sJ b) : PE X (.Subscript a b pos) (JI r ta tb) := by
 intro pins s σ H Q I h
 exact Subscript_ (HX ha hb I h fun v u s2 x y H2 I2 rx ry q => hr a b pins s2 σ H2 x y v u Q I2 rx ry q (hs _ _))
def Lk (K : PySem.W.Frag) : R2 := fun x y H Q => ∃ p xs i v, x = .ref p /\ y = .int i /\ gy K H p xs /\ d8 xs i = some v /\ Q v H
def Lu (K : PySem.W.Frag) : R2 := fun x y H Q => ∃ p xs i v, x = .ref p /\ y = .int i /\ dZ K H p xs /\ d8 xs i = some v /\ Q v H
def KW : R2 := fun x y H Q => ∃ z i c, x = .str z /\ y = .int i /\ z.length <= sizeLine /\ d8 z.cps.toList i = some c /\ Q (.str ⟨#[c]⟩) H
theorem wM : Ii X (Lk X.K) := by
 intro value slice pins s σ H x y v u Q I rx ry h hs
 obtain ⟨p, xs, i, z, rfl, rfl, hq, he, q⟩ := h
 cases rx
 obtain ⟨t, rfl⟩ := ry
 obtain ⟨its, r, pl, hz⟩ := I.list hq
 obtain ⟨j, h1, h2, h3, h4, h5⟩ := rK he
 obtain ⟨w, ew, rw'⟩ := r.get h2
 have hl := r.length
 have hn := nG
 have fin : EP X pins σ Q w s := ⟨z, H, I, rw', q⟩
 by_cases h0 : 0 <= i
 ·have hj : i.toNat = j := by
   rw [seqIndex_of h0 h5] at h1
   exact Option.some.inj h1
  exact item_listR pl.isList h0 (by omega) (by rw [hj]; simpa using ew) fin hs
 ·have hj : (i + (its.toArray.size : Int)).toNat = j := by
   rw [seqIndex_neg (by omega) h4] at h1
   rw [List.size_toArray, <- hl]
   exact Option.some.inj h1
  exact subscriptTail_builtinR (x := w) pl.isList.typeIs slot_list_getitem.lookup
   (wpAny_getItem_list_neg (Q := fun r s' => r = w /\ EP X pins σ Q r s') pl.isList (by omega) (by rw [List.size_toArray] <;> omega) (by omega) (by rw [hj]; simpa using ew) ⟨rfl, fin⟩) hs
theorem Ij : Ii X (Lu X.K) := by
 intro value slice pins s σ H x y v u Q I rx ry h hs
 obtain ⟨p, xs, i, z, rfl, rfl, hq, he, q⟩ := h
 cases rx
 obtain ⟨t, rfl⟩ := ry
 obtain ⟨its, r, pl, hz⟩ := I.tuple hq
 obtain ⟨j, h1, h2, h3, h4, h5⟩ := rK he
 obtain ⟨w, ew, rw'⟩ := r.get h2
 have hl := r.length
 have hn := nG
 have fin : EP X pins σ Q w s := ⟨z, H, I, rw', q⟩
 exact subscriptTail_builtinR (x := w) pl.typeIs slot_tuple_getitem.lookup
  (getItem_tuple (j := j) (Q := fun r s' => r = w /\ EP X pins σ Q r s') pl (by omega) (by omega) (by rw [List.size_toArray, <- hl]; exact h1) (by simpa using ew) ⟨rfl, fin⟩) hs
theorem Gy : Ii X KW := by
 intro value slice pins s σ H x y v u Q I rx ry h hs
 obtain ⟨z, i, c, rfl, rfl, hz, he, q⟩ := h
 obtain ⟨t, rfl⟩ := rx
 obtain ⟨t', rfl⟩ := ry
 obtain ⟨j, h1, h2, h3, h4, h5⟩ := rK he
 have hl : z.cps.toList.length = z.length := by simp [Str.length]
 rw [hl] at h1 h4 h5
 have hn := nG
 exact tail_any (typeIs_str s z t) slot_str_getitem.lookup (getItem_str (c := c) (by
  have e1 : decide (i < -(2 ^ 63 : Int)) = false := decide_eq_false (by omega)
  have e2 : decide (i >= 2 ^ 63) = false := decide_eq_false (by omega)
  rw [e1, e2, Bool.or_false]) (by rw [h1]; simpa using h2) ⟨.str ⟨#[c]⟩, H, I.tok _, ⟨_, rfl⟩, q⟩) hs
theorem vC (its : List Value) (n j : Nat) (u : Value) : Obj.mapSeq (·.setIfInBounds j u) { cls := .type "list", data := .seq its.toArray n } = { cls := .type "list", data := .seq (its.set j u).toArray n } := by
 simp [Obj.mapSeq]
theorem Inv.lst {pins : List (Addr × Obj)} {σ : St} {H : Hp} {s : Shared} {p : Addr} {xs : List V} (I : Inv X pins σ H s) (h : H p = some (.lst xs)) :
  ∃ (its : List Value) (n : Nat), Vals xs its /\ s.heap.get? p = some { cls := .type "list", data := .seq its.toArray n } /\ xs.length <= sizeLine := by
 obtain ⟨z, its, n, r, e⟩ := I.hok p _ h
 exact ⟨its, n, r, e, z⟩
theorem Inv.GD {pins : List (Addr × Obj)} {σ : St} {H : Hp} {s : Shared} {p : Addr} {xs ys : List V} {its its' : List Value} {n n' : Nat} {f : Obj -> Obj} (I : Inv X pins σ H s) (h : H p = some (.lst xs))
  (ho : s.heap.get? p = some { cls := .type "list", data := .seq its.toArray n }) (hf : f { cls := .type "list", data := .seq its.toArray n } = { cls := .type "list", data := .seq its'.toArray n' }) (r : Vals ys its') (hz : ys.length <= sizeLine) (t : Nat) :
  Inv X pins σ (upd H p (.lst ys)) { s with heap := s.heap.update p f, toks := t } := by
 have e : (s.heap.update p f).get? p = some { cls := .type "list", data := .seq its'.toArray n' } := by
  rw [Heap.get?_update_self f ho (by rw [hf] <;> rfl), hf]
 refine I.write (x := p) (e := p) (by rw [h]; trivial) (.inl rfl) (fun b u hb q => (Heap.get?_update_other _ _ (Ne.symm hb)).trans q) ⟨_, e⟩ ?_
 exact ⟨hz, its', n', r, e⟩
def Jw : V -> V -> V -> Hp -> (Hp -> Prop) -> Prop := fun o i v H Q => ∃ p xs k j, o = .ref p /\ i = .int k /\ H p = some (.lst xs) /\ oW xs.length k = some j /\ Q (upd H p (.lst (xs.set j v)))
theorem set_list : Dh X Jw := by
 intro pins s σ H o i v ov iv u Q I ro ri rv h
 obtain ⟨p, xs, k, j, rfl, rfl, hp, hj, q⟩ := h
 cases ro
 obtain ⟨t, rfl⟩ := ri
 obtain ⟨its, n, r, ho, hz⟩ := I.lst hp
 obtain ⟨h1, h2, h3, h4⟩ := yo hj
 have hl := r.length
 have hn := nG
 have I' : Inv X pins σ (upd H p (.lst (xs.set j v))) { s with heap := s.heap.update p (Obj.mapSeq (·.setIfInBounds j u)) } :=
  I.GD hp ho (vC its n j u) (r.set rv j) (by rw [List.length_set]; exact hz) s.toks
 by_cases h0 : 0 <= k
 ·have hk : k.toNat = j := by
   rw [seqIndex_of h0 h4] at h1
   exact Option.some.inj h1
  exact PySem.W.ki_setAt ho h0 (by omega) (by rw [List.size_toArray, <- hl]; exact h4) (by rw [hk]; exact ⟨_, I', q⟩)
 ·have hk : (k + (its.toArray.size : Int)).toNat = j := by
   rw [seqIndex_neg (by omega) h3] at h1
   rw [List.size_toArray, <- hl]
   exact Option.some.inj h1
  exact PySem.W.ki_setBack ho (by omega) (by rw [List.size_toArray, <- hl]; exact h3) (by omega) (by rw [hk]; exact ⟨_, I', q⟩)
theorem sU (lo hi : Option Int) (n : Nat) : (sliceBounds lo hi none n).1 = ((HT.fy n 0 lo : Nat) : Int) /\ (sliceBounds lo hi none n).2.1 = ((HT.fy n n hi : Nat) : Int) /\ (sliceBounds lo hi none n).2.2 = 1 := by
 refine ⟨?_, ?_, rfl⟩
 ·cases lo with
  | none => simp [sliceBounds, HT.fy]
  | some i =>
   simp only [sliceBounds, HT.fy, Option.getD_none, show (1 : Int) > 0 by decide, if_true]
   by_cases h : i < 0
   ·simp only [h, if_true] <;> omega
   ·simp only [h, if_false] <;> omega
 ·cases hi with
  | none => simp [sliceBounds, HT.fy]
  | some i =>
   simp only [sliceBounds, HT.fy, Option.getD_none, show (1 : Int) > 0 by decide, if_true]
   by_cases h : i < 0
   ·simp only [h, if_true] <;> omega
   ·simp only [h, if_false] <;> omega
theorem qB (its : List Value) (lo hi : Option Int) : slicePick its.toArray lo hi none = ((its.drop (HT.fy its.length 0 lo)).take (HT.fy its.length its.length hi - HT.fy its.length 0 lo)).toArray := by
 obtain ⟨h1, h2, h3⟩ := sU lo hi its.toArray.size
 unfold slicePick
 rw [h1, h2, h3]
 simp only [sliceRange_one, pick_run, List.size_toArray] <;> rfl
def K1 (K : PySem.W.Frag) : V -> Option Int -> Option Int -> Hp -> VK -> Prop := fun x lo hi H Q => ∃ a xs, x = .ref a /\ gy K H a xs /\ ∀ p, H p = none -> Q (.ref p) (upd H p (.lst (vf xs lo hi)))
theorem xM : KQ X (K1 X.K) := by
 intro pins s σ H x v vl vu lo hi sl Q I rx hs pl pu h
 obtain ⟨a, xs, rfl, hx, q⟩ := h
 cases rx
 obtain ⟨its, r, ht, hz⟩ := I.list hx
 have hlen := r.length
 refine ⟨"list", _, slot_list_getitem.lookup, ht.isList.typeIs, ?_⟩
 refine wpAny_getItem_list_slice ht.isList hs pl pu .none (by simp) ?_ (by rw [List.size_toArray] <;> omega)
 rw [qB, <- hlen]
 refine ⟨.ref s.heap.objs.size, _, I.laid (t' := s.toks) (o := .lst (vf xs lo hi)) (fun b ob q => Heap.get?_push_of_some _ q) (Nat.le_refl _) ?_, rfl, q _ (I.hok.fresh (Nat.le_refl _))⟩
 exact ⟨Nat.le_trans (oh xs lo hi) hz, _, 0, (r.drop (HT.fy xs.length 0 lo)).take (HT.fy xs.length xs.length hi - HT.fy xs.length 0 lo), Heap.get?_push_size _ rfl⟩
def Mz : V -> V -> Bool
 | .non, .non => true
 | .bl a, .bl b => a == b
 | .bl a, .int b => (if a then 1 else 0) == b
 | .int a, .bl b => a == (if b then 1 else 0)
 | .int a, .int b => a == b
 | .str a, .str b => a == b
 | _, _ => false
theorem jk : bR X (.type "list") (fun xs H Q => ∃ p ys, xs = [.ref p] /\ (gy X.K H p ys \/ dZ X.K H p ys) /\ ∀ l, H l = none -> Q (.ref l) (upd H l (.lst ys))) := by
 intro pins s σ H xs us Q I r h
 obtain ⟨p, ys, rfl, hq, q⟩ := h
 obtain ⟨u, rfl, rx⟩ := vals1 r
 cases rx
 have fin : ∀ (its : List Value), Vals ys its -> ys.length <= sizeLine -> ∀ (h' : Heap) (c' : Nat), (∀ b o', s.heap.get? b = some o' -> h'.get? b = some o') ->
   h'.get? s.heap.objs.size = some { cls := .type "list", dict := none, data := .seq its.toArray c', slots := #[] } -> EP X pins σ Q (.ref s.heap.objs.size) { s with heap := h' } := fun its r' hz h' c' kp e =>
  ⟨.ref s.heap.objs.size, _, I.laid (t' := s.toks) kp (Nat.le_refl _) (show cZ X.prog X.w _ h' _ (.lst ys) from ⟨hz, its, c', r', e⟩), rfl, q _ (I.hok.fresh (Nat.le_refl _))⟩
 rcases hq with hq | hq
 ·obtain ⟨its, r', pl, hz⟩ := I.list hq
  have hlen := r'.length
  obtain ⟨o, ho, hc, n, hd⟩ := pl.isList
  exact call_list_seq p (.inl rfl) ho hc hd (fun h' c' kp e => fin its r' hz h' c' kp e) (by simp only [List.size_toArray] <;> omega)
 ·obtain ⟨its, r', pl, hz⟩ := I.tuple hq
  have hlen := r'.length
  obtain ⟨o, ho, hc, n, hd⟩ := pl
  exact call_list_seq p (.inr rfl) ho hc hd (fun h' c' kp e => fin its r' hz h' c' kp e) (by simp only [List.size_toArray] <;> omega)
theorem iN : bR X (.type "tuple") (fun xs H Q => ∃ p ys, xs = [.ref p] /\ ((gy X.K H p ys /\ ∀ l, H l = none -> Q (.ref l) (upd H l (.tup ys))) \/ (dZ X.K H p ys /\ Q (.ref p) H))) := by
 intro pins s σ H xs us Q I r h
 obtain ⟨p, ys, rfl, h⟩ := h
 obtain ⟨u, rfl, rx⟩ := vals1 r
 cases rx
 rcases h with ⟨hq, q⟩ | ⟨hq, q⟩
 ·obtain ⟨its, r', pl, hz⟩ := I.list hq
  have hlen := r'.length
  refine call_tuple_list pl.isList (fun h' kp => ?_) (by simp only [List.size_toArray] <;> omega)
  have I1 : Inv X pins σ H { s with heap := h' } := I.kept (t' := s.toks) kp
  have I2 : Inv X pins σ (upd H h'.objs.size (.tup ys)) { s with heap := h'.push { cls := .type "tuple", data := .seq its.toArray } } :=
   I1.laid (t' := s.toks) (fun b o e => Heap.get?_push_of_some _ e) (Nat.le_refl _) (show cZ X.prog X.w _ _ _ (.tup ys) from ⟨hz, its, r', fZ.new _ _⟩)
  exact ⟨.ref h'.objs.size, _, I2, rfl, q _ (I1.hok.fresh (Nat.le_refl _))⟩
 ·obtain ⟨its, r', pl, hz⟩ := I.tuple hq
  exact call_tuple_same pl ⟨.ref p, H, I, rfl, q⟩
def Lw (K : PySem.W.Frag) (T : String) (x : V) (H : Hp) : Prop := match x with
 | .str _ => T = "str"
 | .int _ => T = "int"
 | .ref p => (T = "list" /\ ∃ xs, gy K H p xs) \/ (T = "tuple" /\ ∃ o, K.lookup p = some o /\ o.cls = .type "tuple" /\ o.dict = none) \/
   (T = "dict" /\ ((∃ kvs, H p = some (.dK kvs)) \/ ∃ kvs, H p = some (.dT kvs))) \/ (T = "set" /\ ∃ S n, H p = some (.set S n))
 | _ => False
theorem HG {pins : List (Addr × Obj)} {σ : St} {H : Hp} {s : Shared} {T : String} {x : V} {v : Value} (I : Inv X pins σ H s) (r : RelV x v) (ty : Lw X.K T x H) :
  s.TypeIs v T /\ ∀ a, v = .ref a -> ∃ ob, s.heap.get? a = some ob /\ ob.dict = none := by
 cases x with
 | str z =>
  obtain ⟨t, rfl⟩ := r
  cases (show T = "str" from ty)
  exact ⟨typeIs_str s z t, fun _ e => nomatch e⟩
 | int i =>
  obtain ⟨t, rfl⟩ := r
  cases (show T = "int" from ty)
  exact ⟨typeIs_int s i t, fun _ e => nomatch e⟩
 | ref p =>
  cases r
  rcases ty with ⟨rfl, xs, hq⟩ | ⟨rfl, o, hk, hc, hd⟩ | ⟨rfl, hk⟩ | ⟨rfl, S, n, hk⟩
  ·obtain ⟨its, _, pl, _⟩ := I.list hq
   refine ⟨pl.isList.typeIs, fun a e => ?_⟩
   cases e
   obtain ⟨o, n, e, c, hd, _⟩ := pl
   exact ⟨o, e, hd⟩
  ·refine ⟨⟨o, I.tB p o hk, hc⟩, fun a e => ?_⟩
   cases e
   exact ⟨o, I.tB _ o hk, hd⟩
  ·have z : ∃ o, s.heap.get? p = some o /\ o.ExactDict := by
    rcases hk with ⟨kvs, hk⟩ | ⟨kvs, hk⟩
    ·obtain ⟨_, _, _, _, o, _, _, e, ex, _⟩ := I.hok p _ hk
     exact ⟨o, e, ex⟩
    ·obtain ⟨_, _, _, _, o, _, _, e, ex, _⟩ := I.hok p _ hk
     exact ⟨o, e, ex⟩
   obtain ⟨o, e, ex⟩ := z
   refine ⟨⟨o, e, ex.1⟩, fun a e2 => ?_⟩
   cases e2
   exact ⟨o, e, ex.2.1⟩
  ·obtain ⟨o, _, _, _, e, ex, _⟩ := I.hok p _ hk
   refine ⟨⟨o, e, ex.1⟩, fun a e2 => ?_⟩
   cases e2
   exact ⟨o, e, ex.2.1⟩
 | _ => exact False.elim ty
def Mu (K : PySem.W.Frag) (T : String) (r : V -> List V -> Hp -> VK -> Prop) (to : TE) (t : TA) : TE := fun σ H Q => to σ H fun x H1 => Lw K T x H1 /\ t σ H1 fun xs H2 => r x xs H2 Q
variable {o e : Expr} {es : List Expr} {to : TE} {t : TA} {name : Str} {apos cpos : Pos} {T id : String} {r : V -> List V -> Hp -> VK -> Prop}
theorem Jf (pa : PlainAttrs T) (slot : Slot T name id) (hty : typeOf (.builtin id) = pure (.type "method_descriptor")) (hm : KC X id r) (ho : PE X o to) (ha : PA X (e :: es) t)
  (hbase : attributeBase o name X.env (eval o X.env) = eval o X.env := by rfl)
  (hfew : ((backTo cpos (starEach (e :: es) X.env)).all (fun x => !x.1) && (backToKw cpos (keywordEach [] X.env)).all (fun x => x.1.isSome)
   && decide ((e :: es).length + ([] : List Keyword).length + (if ([] : List Keyword).isEmpty then 0 else 1) < 30)) = true := by rfl)
  (hline : (apos.endLine == cpos.line) = true := by rfl) (hs : starEach (e :: es) X.env = (false, eval e X.env) :: starEach es X.env := by rfl) (hplain : (backTo cpos (starEach es X.env)).any (·.1) = false := by rfl) :
  PE X (.Call (.Attribute o name apos) (e :: es) [] cpos) (Mu X.K T r to t) := by
 intro pins s σ H Q I h
 refine wpAny_Call_method_late hbase hfew hline rfl (cQ (ho pins s σ H _ I h) fun v s1 ⟨x, H1, I1, r1, ty, q1⟩ => ?_)
 obtain ⟨h1, h2⟩ := HG I1 r1 ty
 refine ⟨T, id, pa, slot, hty, h1, h2, ?_⟩
 have hA := ha cpos pins s1 σ H1 _ I1 q1
 rw [hs] at hA ⊢
 refine Calls.callWith_builtin (by show (false || (backTo cpos (starEach es X.env)).any (·.1)) = false; rw [hplain] <;> rfl) (Calls.evalArgs_plain ?_)
 exact cQ hA fun us s2 ⟨vs, H2, I2, r2, q2⟩ => hm pins s2 σ H2 x vs v us Q I2 r1 r2 q2
end
end L2
namespace L2
open PySem PySem.Spec PyProof.Rows
def Mi (X : Cx) (id : String) (r : V -> List V -> Hp -> VK -> Prop) : Prop :=
 ∀ (pins : List (Addr × Obj)) (s : Shared) (σ : St) (H : Hp) (x : V) (xs : List V) (v : Value) (us : List Value) (Q : VK), Inv X pins σ H s -> RelV x v -> Vals xs us -> r x xs H Q ->
  wpAny (model X.prog X.w) X.A (call (.builtin id) (v :: us)) (EP X pins σ Q) X.xe s
theorem Vals.one : ∀ {x : V} {us : List Value}, Vals [x] us -> ∃ u, us = [u] /\ RelV x u
 | _, _, .cons r .nil => ⟨_, rfl, r⟩
theorem Vals.reverse {xs : List V} {us : List Value} (h : Vals xs us) : Vals xs.reverse us.reverse := by
 induction h with
 | nil => exact .nil
 | cons r t ih => rw [List.reverse_cons, List.reverse_cons]; exact Vals.append ih (.cons r .nil)
theorem Vals.rep {xs : List V} {us : List Value} (h : Vals xs us) : ∀ k : Nat, Vals (List.replicate k xs).flatten (List.replicate k us).flatten
 | 0 => .nil
 | k + 1 => by
  rw [List.replicate_succ, List.replicate_succ, List.flatten_cons, List.flatten_cons]
  exact Vals.append h (Vals.rep h k)
theorem foldl_rep (its : List Value) : ∀ (k : Nat) (acc : List Value),
  List.foldl (fun x1 x2 => x1 ++ x2) acc.toArray (List.replicate k its.toArray) = (acc ++ (List.replicate k its).flatten).toArray
 | 0, acc => by simp
 | k + 1, acc => by
  have e : acc.toArray ++ its.toArray = (acc ++ its).toArray := by simp
  have e2 : (acc ++ its) ++ (List.replicate k its).flatten = acc ++ (List.replicate (k + 1) its).flatten := by
   rw [List.replicate_succ, List.flatten_cons, List.append_assoc]
  rw [<- e2, <- foldl_rep its k (acc ++ its), <- e, List.replicate_succ, List.foldl_cons]
section
variable {X : Cx} {pins : List (Addr × Obj)} {σ : St} {H : Hp} {s : Shared} {l b : Addr} {xs ys zs : List V}
theorem Inv.JU {its its' : List Value} {n : Nat} {f : Array Value -> Array Value} {t' : Nat} (I : Inv X pins σ H s) (hH : H l = some (.lst xs))
  (e : s.heap.get? l = some { cls := .type "list", data := .seq its.toArray n }) (hf : f its.toArray = its'.toArray) (hv : Vals ys its') (hz : ys.length <= sizeLine) :
  Inv X pins σ (upd H l (.lst ys)) { s with heap := s.heap.update l (Obj.mapSeq f), toks := t' } := by
 have q := PySem.IsL.update e f
 rw [hf] at q
 refine I.write (x := l) (e := l) (by rw [hH]; exact trivial) (.inl rfl) (fun b' u hb hu => (Heap.get?_update_other s.heap (Obj.mapSeq f) (Ne.symm hb)).trans hu) ⟨_, q⟩ ?_
 exact ⟨hz, its', _, hv, q⟩
theorem Inv.zF {its : List Value} {t' : Nat} (I : Inv X pins σ H s) (hv : Vals ys its) (hz : ys.length <= sizeLine) :
  Inv X pins σ (upd H s.heap.objs.size (.lst ys)) { s with heap := s.heap.push { cls := .type "list", data := .seq its.toArray }, toks := t' } :=
 I.laid (fun _ _ q => Heap.get?_push_of_some _ q) (Nat.le_refl _) ⟨hz, its, 0, hv, Heap.get?_push_size _ rfl⟩
theorem Inv.fresh (I : Inv X pins σ H s) : H s.heap.objs.size = none := I.hok.fresh (Nat.le_refl _)
theorem Inv.zZ (I : Inv X pins σ H s) (hH : H l = some (.lst xs)) : xs.length <= sizeLine /\ ∃ (its : List Value) (n : Nat), Vals xs its /\ xs.length = its.length /\ s.heap.get? l = some { cls := .type "list", data := .seq its.toArray n } := by
 obtain ⟨z, its, n, r, e⟩ := I.hok l _ hH
 exact ⟨z, its, n, r, r.length, e⟩
theorem uA {n : Nat} (h : n <= sizeLine) : Builtin.List.listTooLong n = false := by
 unfold Builtin.List.listTooLong
 exact decide_eq_false (by omega)
end
section
variable {X : Cx}
def Fb : V -> List V -> Hp -> VK -> Prop := fun x vs H Q => ∃ l xs y, x = .ref l /\ vs = [y] /\ H l = some (.lst xs) /\ xs.length < sizeLine /\ Q .non (upd H l (.lst (xs ++ [y])))
theorem kK : Mi X "list.append" Fb := by
 intro pins s σ H x vs v us Q I rx rv h
 obtain ⟨l, xs, y, rfl, rfl, hH, hz, q⟩ := h
 cases rx
 obtain ⟨u, rfl, ru⟩ := rv.one
 obtain ⟨z, its, n, r, hl, e⟩ := I.zZ hH
 refine call_meets F.slot_list_append ⟨_, e, rfl⟩ F.entry_list_append (F.args_list_append_2 _ _) (PySem.list_append l its.toArray n u (by rw [List.size_toArray]; omega)) ⟨e, ?_⟩
 refine ⟨.non, _, I.JU (its' := its ++ [u]) hH e (by simp) (r.append (.cons ru .nil)) ?_, rfl, q⟩
 rw [List.length_append, List.length_singleton]
 omega
def DP : V -> List V -> Hp -> VK -> Prop := fun x vs H Q => ∃ l b xs zs, x = .ref l /\ vs = [.ref b] /\ H l = some (.lst xs) /\ H b = some (.lst zs) /\ xs.length + zs.length <= sizeLine /\ Q .non (upd H l (.lst (xs ++ zs)))
theorem zJ : Mi X "list.extend" DP := by
 intro pins s σ H x vs v us Q I rx rv h
 obtain ⟨l, b, xs, zs, rfl, rfl, hH, hB, hz, q⟩ := h
 cases rx
 obtain ⟨u, rfl, ru⟩ := rv.one
 cases ru
 obtain ⟨z, its, n, r, hl, e⟩ := I.zZ hH
 obtain ⟨z2, its2, n2, r2, hl2, e2⟩ := I.zZ hB
 have hsz : its.toArray.size + its2.toArray.size <= sizeLine := by rw [List.size_toArray, List.size_toArray]; omega
 have hlong : ¬ (!its.toArray.isEmpty && Builtin.List.listTooLong (its.toArray.size + its2.toArray.size)) = true := by
  rw [uA hsz, Bool.and_false]
  exact Bool.false_ne_true
 refine call_meets F.slot_list_extend ⟨_, e, rfl⟩ F.entry_list_extend (F.args_list_extend_2 _ _)
  (AutoSeq1.list_extend_list_list_0 l its.toArray n b its2.toArray n2 hlong (by rw [List.size_toArray]; omega) (by omega)) ⟨e, e2, ?_⟩
 refine ⟨.non, _, I.JU (its' := its ++ its2) hH e (by simp) (r.append r2) ?_, rfl, q⟩
 rw [List.length_append]
 omega
def K5 : R2 := fun x y H Q => ∃ l b xs zs, x = .ref l /\ y = .ref b /\ H l = some (.lst xs) /\ H b = some (.lst zs) /\ xs.length + zs.length <= sizeLine /\ ∀ p, H p = none -> Q (.ref p) (upd H p (.lst (xs ++ zs)))
theorem IL : fY X (binaryOp .Add) K5 := by
 intro pins s σ H x y v u Q I rx ry h
 obtain ⟨l, b, xs, zs, rfl, rfl, hH, hB, hz, q⟩ := h
 cases rx
 cases ry
 obtain ⟨z, its, n, r, hl, e⟩ := I.zZ hH
 obtain ⟨z2, its2, n2, r2, hl2, e2⟩ := I.zZ hB
 refine PySem.P.add_list e e2 ?_ (by rw [List.size_toArray, List.size_toArray]; omega)
 have ea : its.toArray ++ its2.toArray = (its ++ its2).toArray := by simp
 rw [ea]
 exact ⟨.ref _, _, I.zF (t' := s.toks) (r.append r2) (by rw [List.length_append]; omega), rfl, q _ I.fresh⟩
def Ls : R2 := fun x y H Q => ∃ l k xs, x = .ref l /\ y = .int k /\ H l = some (.lst xs) /\ -(2 ^ 63) <= k /\ k < 2 ^ 63 /\ xs.length * k.toNat <= sizeLine /\
 ∀ p, H p = none -> Q (.ref p) (upd H p (.lst (List.replicate k.toNat xs).flatten))
theorem len_rep {α : Type} (xs : List α) (k : Nat) : (List.replicate k xs).flatten.length = k * xs.length := by
 induction k with
 | zero => simp
 | succ k ih => rw [List.replicate_succ, List.flatten_cons, List.length_append, ih, Nat.succ_mul, Nat.add_comm]
theorem HQ : fY X (binaryOp .Mult) Ls := by
 intro pins s σ H x y v u Q I rx ry h
 obtain ⟨l, k, xs, rfl, rfl, hH, h1, h2, hz, q⟩ := h
 cases rx
 obtain ⟨t, rfl⟩ := ry
 obtain ⟨z, its, n, r, hl, e⟩ := I.zZ hH
 have hlen : its.toArray.size * k.toNat <= sizeLine := by rw [List.size_toArray, <- hl]; exact hz
 have hcap : ¬ its.toArray.size * k.toNat > (2 ^ 63 - 1) / 8 := by
  have : (sizeLine : Nat) <= (2 ^ 63 - 1) / 8 := by decide
  omega
 have hfit : ¬ (!Builtin.List.listFitsIndex k) = true := by
  rw [fitsIndex_both h1 h2]
  exact Bool.false_ne_true
 have hlong : ¬ Builtin.List.listTooLong (its.toArray.size * k.toNat) = true := by
  rw [uA hlen]
  exact Bool.false_ne_true
 have hnew : List.foldl (fun x1 x2 => x1 ++ x2) #[] (List.replicate (if its.toArray.isEmpty = true then 0 else k.toNat) its.toArray) = (List.replicate k.toNat its).flatten.toArray := by
  have f0 : ∀ m : Nat, List.foldl (fun x1 x2 => x1 ++ x2) #[] (List.replicate m its.toArray) = (List.replicate m its).flatten.toArray := fun m => by
   have := foldl_rep its m []
   rw [List.nil_append] at this
   exact this
  rw [f0]
  cases its with
  | nil => simp
  | cons a r' => rw [if_neg (by simp)]
 refine wpAny_binaryOp_repeat_ref (T := "list") (U := "int") (by decide) ⟨_, e, rfl⟩ (fun s' => typeIs_int s' k t) noFill_list_mul F.fills_int_mul F.slot_int_rmul repeat_list F.slot_int_index.lookup
  (call_meets F.slot_int_rmul (typeIs_int s k t) F.entry_int_rmul (F.args_int_rmul_2 _ _) (int___rmul___int_list k t l its.toArray n)
   ⟨e, rfl, ⟨_, e, rfl⟩, call_meets F.slot_list_mul ⟨_, e, rfl⟩ F.entry_list_mul (F.args_list_mul_2 _ _) (AutoListH.list___mul___list_int_3 l its.toArray n k t hfit hcap hlong) ⟨e, ?_⟩⟩)
 rw [hnew]
 exact ⟨.ref _, _, I.zF (t' := s.toks) (r.rep k.toNat) (by rw [len_rep, Nat.mul_comm]; exact hz), rfl, q _ I.fresh⟩
end
section
variable {prog : Program} {w : World} {A : Around} {E : Value -> Shared -> Prop} {s : Shared}
end
section
variable {X : Cx}
end
end L2
namespace Att
open PySem PySem.W PySem.Calls PyProof.Rows
theorem oG {P : Params} {h : Heap} : ∀ (ns : List Int) (vs : List Value), WellAll P h vs (ns.map WData.int) -> IntsAre vs ns := by
 intro ns
 induction ns with
 | nil =>
  intro vs w
  rw [List.map_nil] at w
  cases w
  exact .nil
 | cons n ns ih =>
  intro vs w
  rw [List.map_cons] at w
  cases w with
  | cons a b =>
   cases a
   exact .cons _ _ (ih _ b)
theorem zf {l : OpenLaw} {n : Nat} (hn : l.most = some n) {P : Params} {h : Heap} {args : List WData} {vals : List Value}
  (hpre : l.row.toRowW.claim.pre args = true) (hwl : WellAll P h vals args) :
  ∃ a vs ns, vals = [Value.ref a] /\ args = [WData.list (ns.map WData.int)] /\ h.get? a = some { cls := .type "list", data := .seq vs.toArray } /\ IntsAre vs ns /\ ns.length <= n := by
 have hsh : WShape.hasAll [] args [.list .int] = true := (pre_splitW hpre).1
 have hc : l.pre.holds [] { args := args } = true := (pre_splitW hpre).2
 obtain ⟨d, r, rfl, h1, h2⟩ := hasAllW_cons hsh
 obtain rfl := hasAllW_nil h2
 obtain ⟨xs, rfl, h3⟩ := hasW_list h1
 obtain ⟨ns, rfl⟩ := items_int h3
 have hlen : ns.length <= n := by
  unfold OpenLaw.pre at hc
  have h4 : (WTm.not (.lt (.lit (.int (n : Int))) (.len (.arg 0)))).holds [] { args := [.list (ns.map .int)] } = true := by
   have h4 := (holds_andW hc).1
   rw [hn] at h4
   exact h4
  have h5 := condW_of h4 (w_not (w_lt w_lit (w_len_list (w_arg rfl))))
  rw [List.length_map] at h5
  refine Nat.le_of_not_lt fun q => ?_
  have q' : (n : Int) < ((ns.length : Nat) : Int) := by omega
  first
   | (rw [decide_eq_true q'] at h5; exact absurd h5 (by decide))
   | (simp at h5; omega)
 cases hwl with
 | cons w1 w2 =>
  cases w2
  cases w1 with
  | list ho hall => exact ⟨_, _, ns, rfl, rfl, ho, oG ns _ hall, hlen⟩
theorem zO (l : OpenLaw) (args : List WData) : l.row.toRowW.claim.post args (.bool true) args = true :=
 postW_of (r := l.row.toRowW) (X := (true == true))
  (show WShape.has [] (.bool true) .bool = true by first | rfl | decide | simp [WShape.has, WShape.arms, WShape.armsAll])
  (show (WTm.eq .res (.lit (.bool true))).value [] { args := args, res := some (.bool true), after := args } = some (.bool (true == true)) from w_eq_bool (w_res rfl) w_lit) rfl
theorem tR {l : OpenLaw} {n : Nat} {q : Program} {loose : List Str} {XP : (Str -> Option Value) -> Heap -> Prop} {YP : World -> Heap -> Prop} {d : DefRec}
  (hn : l.most = some n) (hdf : d.params.defaults = [])
  (call : ∀ (w : World) (s₀ s₁ : Shared) (mg mb : Str -> Option Value) (fa : Addr) (o : Obj) (pm cd doc : Value) (a : Addr) (vs : List Value) (ns : List Int),
   Ground q loose [] XP w s₀ mg mb s₁.heap -> YP w s₁.heap ->
   s₁.heap.get? fa = some o -> o.data = .func (docDef d.name d.params d.body d.scope pm cd doc) -> s₁.heap.CodeRec cd d.name -> mg d.name = some (.ref fa) ->
   s₁.heap.get? a = some { cls := .type "list", data := .seq vs.toArray } -> IntsAre vs ns -> ns.length <= n -> s₁.gens = #[] ->
   codeAny (model l.prog w) callerA (.call (.ref fa) ⟨[.ref a], []⟩) (fun r s' => r = .ok (.ret (.bool true)) /\ OldK s₁.heap s'.heap /\ s'.os = s₁.os /\ AllBare s'.gens) s₁) :
  WalkO q loose XP YP l.row.toRowW d [] (fun f vs => PySem.call f vs) := by
 intro w s₀ s₁ mg mb G Y fa o pm cd doc dV kV ho hd hcd hD hmg hg args vals as hpre hlay hrd hwl hlo
 obtain rfl : dV = .none := Dflts.none hD hdf
 obtain rfl : kV = .none := Dflts.noKw hD
 obtain ⟨a, vs, ns, rfl, rfl, hobj, hints, hlen⟩ := zf hn hpre hwl
 refine enter_call (codeAny_mono (call w s₀ s₁ mg mb fa o pm cd doc a vs ns G Y ho (fd_plain hd) hcd hmg hobj hints hlen hg) fun r s' hq => ?_)
 obtain ⟨rfl, h2, h3, h4⟩ := hq
 exact ⟨.inl ⟨.bool true, .bool true, [], rfl, fun _ => rfl, .bool true, zO l _, fun _ => ⟨List.Pairwise.nil, fun _ hm => (nomatch hm)⟩⟩, h2, h3, h4⟩
section
variable {prog : Program} {w : World} {A : Around} {E : Value -> Shared -> Prop} {s : Shared} {K : Frag}
end
end Att
namespace L2
open PySem PySem.Spec PyProof.Rows
theorem rB : ∀ {vs : List Value} {ns : List Int}, IntsAre vs ns -> Vals (ns.map V.int) vs
 | _, _, .nil => .nil
 | _, _, .cons n t h => .cons ⟨t, rfl⟩ (rB h)
def Ej (H : Hp) : Prop := ∀ b, H b = none \/ ∃ o xs, H b = some (.frz o (.lst xs))
theorem Cw {P : Program} {w : World} {K : PySem.W.Frag} {mg mb : Str -> Option Value} {CX : Dm} {k : Nat} {fa a : Addr} {fd : FuncData} {x : Str} {sp : Sp} {s₁ : Shared} {vs : List Value} {ns : List Int}
  (KX : K.In s₁.heap) (hns : s₁.heap.Ns mainGlobals mg) (hb : s₁.heap.Ns builtinsNs mb) (hbb : ∀ x : Str, x ≠ "__name__" -> mb x = bootBuiltins x) (hlim : s₁.heap.NoLimit) (hg : s₁.gens = #[])
  (ha : s₁.heap.get? a = some { cls := .type "list", data := .seq vs.toArray }) (hi : IntsAre vs ns) (hl : ns.length <= sizeLine) (hr : Room k callerA)
  (F : ∀ base : Heap, K.In base -> base.Ns mainGlobals mg -> FnOk P w K mg base CX k fa fd [x] sp) (hbind : ∀ (s : Shared) (u : Value), BindsTo s fd ⟨[u], []⟩ [(x, u)])
  (hsp : ∀ H : Hp, Ej H -> gy K H a (ns.map V.int) -> sp [.ref a] H (fun v _ => v = .bl true) fun _ _ _ => False)
  (hCX : ∀ H e s', CX [] H s₁ (fun _ _ _ => False) e s' -> False) :
  codeAny (model P w) callerA (.call (.ref fa) ⟨[.ref a], []⟩) (fun r s' => r = .ok (.ret (.bool true)) /\ OldK s₁.heap s'.heap /\ s'.os = s₁.os /\ AllBare s'.gens) s₁ := by
 have rv := rB hi
 have lenV := hi.length
 have core : ∀ H : Hp, Ej H -> gy K H a (ns.map V.int) -> mD P w H s₁.heap -> (∀ b, H b ≠ none -> b = a) -> (H a ≠ none -> K.lookup a = none) ->
   codeAny (model P w) callerA (.call (.ref fa) ⟨[.ref a], []⟩) (fun r s' => r = .ok (.ret (.bool true)) /\ OldK s₁.heap s'.heap /\ s'.os = s₁.os /\ AllBare s'.gens) s₁ := by
  intro H hO hS hok hA hK
  have base_of : ∀ {b : Addr} {o : Obj}, s₁.heap.get? b = some o -> H b = none -> (rP s₁.heap H).get? b = some o := fun e n => AF e n
  have noA : ∀ {b : Addr} {o : Obj} {es : Array DictEntry} {ep : Nat}, s₁.heap.get? b = some o -> o.data = .dict es ep -> H b = none := fun {b o es ep} e d => by
   cases q : H b with
   | none => rfl
   | some u =>
    have e' : b = a := hA b (by rw [q]; simp)
    subst e'
    rw [ha] at e; cases e
    have d' : Data.seq vs.toArray _ = Data.dict es ep := d
    cases d'
  have nsK : ∀ {b : Addr} {m : Str -> Option Value}, s₁.heap.Ns b m -> (rP s₁.heap H).Ns b m := fun {b m} ⟨o, es, ep, e, d, r⟩ => ⟨o, es, ep, base_of e (noA e d), d, r⟩
  have hKb : K.In (rP s₁.heap H) := fun b o e => base_of (KX b o e) (by
   cases q : H b with
   | none => rfl
   | some u =>
    have e' : b = a := hA b (by rw [q]; simp)
    subst e'
    rw [hK (by rw [q]; simp)] at e; cases e)
  have hM : Mod K mg (rP s₁.heap H) := ⟨hKb, nsK hns, ⟨mb, nsK hb, hbb⟩, let ⟨mc, h1, h2⟩ := hlim; ⟨mc, nsK h1, h2⟩⟩
  have e0 : Env0 P w K mg (rP s₁.heap H) callerA [] s₁ H := ⟨rfl, hM, fun b o e => E1 e, Nat.le_of_eq (zm _ _), trivial, fun b hb => absurd (show b ∈ ([] : List Addr) from hb) (by simp), hok, .of_eq hg⟩
  refine codeAny_mono ((F _ hKb (nsK hns)).run callerA [] s₁ H ⟨[.ref a], []⟩ [.ref a] [.ref a] _ _ hr e0 (hbind s₁ (.ref a)) (.cons rfl .nil) (hsp H hO hS)) fun r s' h => ?_
  cases r with
  | error e => exact (hCX H e s' h).elim
  | ok fl =>
   cases fl with
   | next => exact False.elim h
   | brk => exact False.elim h
   | cont => exact False.elim h
   | ret u =>
    obtain ⟨v, H', os, bare, un, hok', r', q⟩ := h
    have q' : v = .bl true := q
    subst q'
    obtain rfl : u = Value.bool true := r'
    refine ⟨rfl, OldK.of_keep fun b o e => ?_, os, bare⟩
    cases q : H b with
    | none => exact un.keep b o e q (by intro z; exact absurd (show b ∈ ([] : List Addr) from z) (by simp)) (by simp)
    | some u =>
     rcases hO b with z | ⟨ob, xs, z⟩
     ·rw [q] at z; cases z
     ·have z2 := un.frzs b ob _ z
      obtain ⟨e1, _⟩ := hok b _ z
      obtain ⟨e2, _⟩ := hok' b _ z2
      rw [e] at e1; cases e1
      exact e2
 cases hk : K.lookup a with
 | some o =>
  have e := KX a o hk
  rw [ha] at e
  cases e
  refine core (fun _ => none) (fun _ => .inl rfl) (.inr ⟨_, vs.toArray, _, hk, rfl, rfl, rfl, by rw [List.size_toArray, lenV]; exact hl, by simpa using rv⟩) (fun b u z => by have z' : (none : Option HO) = some u := z; cases z') (fun b z => absurd rfl z) fun z => absurd rfl z
 | none =>
  refine core (fun b => if b = a then some (.frz { cls := .type "list", data := .seq vs.toArray } (.lst (ns.map V.int))) else none) (fun b => ?_) (.inl (.inr ⟨{ cls := .type "list", data := .seq vs.toArray }, if_pos rfl⟩)) (fun b u z => ?_) (fun b z => ?_) fun _ => hk
  ·by_cases hb : b = a
   ·exact .inr ⟨_, _, if_pos hb⟩
   ·exact .inl (if_neg hb)
  ·by_cases hb : b = a
   ·have z' := (if_pos hb).symm.trans z
    cases z'
    subst hb
    exact ⟨ha, by rw [List.length_map]; exact hl, vs, _, rv, ha⟩
   ·have z' := (if_neg hb).symm.trans z
    cases z'
  ·by_cases hb : b = a
   ·exact hb
   ·exact absurd (if_neg hb) z
end L2
namespace L2
open PySem PySem.Spec PyProof.Rows
theorem Ea {l : PySem.W.OpenLaw} {n k : Nat} {q : Program} {loose : List Str} {XP : (Str -> Option Value) -> Heap -> Prop} {YP : World -> Heap -> Prop} {d : DefRec} {K : Params -> PySem.W.Frag} {CX : World -> Dm} {sp : World -> Sp} {x : Str}
  (hn : l.most = some n) (hn2 : n <= sizeLine) (hdf : d.params.defaults = []) (hr : Room k callerA)
  (hY : ∀ (w : World) (h : Heap), YP w h -> (K w.params).In h)
  (F : ∀ (w : World) (mg : Str -> Option Value) (fa : Addr) (h : Heap), (K w.params).In h -> h.Ns mainGlobals mg -> mg d.name = some (.ref fa) ->
   ∃ fd : FuncData, (∀ (s : Shared) (u : Value), BindsTo s fd ⟨[u], []⟩ [(x, u)]) /\
    ∀ base : Heap, (K w.params).In base -> base.Ns mainGlobals mg -> FnOk l.prog w (K w.params) mg base (CX w) k fa fd [x] (sp w))
  (hsp : ∀ (w : World) (H : Hp) (a : Addr) (ns : List Int), ns.length <= n -> Ej H -> gy (K w.params) H a (ns.map V.int) -> sp w [.ref a] H (fun v _ => v = .bl true) fun _ _ _ => False)
  (hCX : ∀ (w : World) (H : Hp) (s : Shared) (e : Value) (s' : Shared), CX w [] H s (fun _ _ _ => False) e s' -> False) :
  PySem.W.WalkO q loose XP YP l.row.toRowW d [] (fun f vs => PySem.call f vs) := by
 refine Att.tR hn hdf fun w s₀ s₁ mg mb fa o pm cd doc a vs ns G Y ho hd hcd hmg hobj hints hlen hg => ?_
 have KX := hY w _ Y
 obtain ⟨fd, hb, hF⟩ := F w mg fa _ KX G.T.g hmg
 exact Cw KX G.T.g G.T.b G.T.builtins G.T.nolimit hg hobj hints (Nat.le_trans hlen hn2) hr hF hb (fun H hO hS => hsp w H a ns hlen hO hS) fun H e s' => hCX w H s₁ e s'
end L2
namespace L2
open PySem PySem.Spec PyProof.Rows
def a_ (s : Stmt) : Arguments := match s with
 | .FunctionDef _ a _ _ _ _ _ _ _ _ => a
 | _ => { posonlyargs := [], args := [], vararg := none, kwonlyargs := [], kw_defaults := [], kwarg := none, defaults := [] }
def aY (s : Stmt) : List Stmt := match s with
 | .FunctionDef _ _ b _ _ _ _ _ _ _ => b
 | _ => []
def aG (s : Stmt) : Scope := match s with
 | .FunctionDef _ _ _ _ _ _ sc _ _ _ => sc
 | _ => { kind := .function, names := [], isGenerator := false, isCoroutine := false }
abbrev iB : Dm := fun _ _ _ _ _ _ => False
abbrev E0 : XK := fun _ _ _ => False
theorem Kg {X : Cx} : Passes iB X E0 := fun _ _ _ _ _ _ _ h => h.elim
structure Fun (K : PySem.W.Frag) (x qual : Str) (st : Stmt) (f : Addr) (fd : FuncData) : Prop where
 ex : ∃ (oc : Value) (od : Option Addr) (kV doc pm : Value) (an : Option Addr) (cdv ct : Value) (osl : Array (Option Value)),
  fd = PySem.W.fnOf x qual (a_ st) (aY st) (aG st) .none kV doc pm an cdv ct /\ K.lookup f = some ⟨oc, od, .func fd, osl⟩ /\ PySem.W.codeIn K cdv qual = true
 kp : PySem.W.keepIn K (.ref f) = true
section
variable {P : Program} {w : World} {K : PySem.W.Frag} {mg : Str -> Option Value} {base : Heap}
theorem Fun.ok {x qual : Str} {st : Stmt} {f : Addr} {fd : FuncData} {N ps : List Str} {k : Nat} {sp : Sp} (F : Fun K x qual st f fd) (S : FnScope N ps (aG st)) (len : ∀ vs H Q E, sp vs H Q E -> vs.length = ps.length)
  (hbody : ∀ (cdv : Value) (A : Around) (outer : List Env) (s : Shared) (H : Hp) (vs : List V) (Q : VK) (E : XK), Room k (A.deeper (envOfC qual (aG st) s.heap.objs.size f cdv)) -> sp vs H Q E ->
   ∃ t, tu (vR iB P w K mg base N qual (aG st) f cdv A outer s H E).J9 (aY st) t /\ t { nx := fun _ H' => Q .non H', rt := Q } (start N vs) H) : FnOk P w K mg base iB (k + 1) f fd ps sp := by
 obtain ⟨oc, od, kV, doc, pm, an, cdv, ct, osl, rfl, lk, hcd⟩ := F.ex
 refine Jg lk hcd S len fun A outer s H vs Q E hr hsp => ?_
 obtain ⟨t, h, q⟩ := hbody cdv A outer s H vs Q E hr hsp
 exact ⟨t, h.J9, q⟩
theorem Fun.binds {x qual : Str} {st : Stmt} {f : Addr} {fd : FuncData} {ps : List Str} (F : Fun K x qual st f fd)
  (h : ∀ (kV doc pm : Value) (an : Option Addr) (cdv ct : Value) (us : List Value), us.length = ps.length -> bindArgs (PySem.W.fnOf x qual (a_ st) (aY st) (aG st) .none kV doc pm an cdv ct) ⟨us, []⟩ = pure (ps.zip us)) : Binds K fd ps [] := by
 obtain ⟨oc, od, kV, doc, pm, an, cdv, ct, osl, rfl, lk, hcd⟩ := F.ex
 exact .all (h kV doc pm an cdv ct)
theorem bC {x qual : Str} {st : Stmt} {f : Addr} {oc : Value} {od an : Option Addr} {osl : Array (Option Value)} {kV doc pm cdv ct : Value} (l : K.lookup f = some ⟨oc, od, .func (PySem.W.fnOf x qual (a_ st) (aY st) (aG st) .none kV doc pm an cdv ct), osl⟩)
  (c : PySem.W.codeIn K cdv qual = true) (k : PySem.W.keepIn K (.ref f) = true) : Fun K x qual st f (PySem.W.fnOf x qual (a_ st) (aY st) (aG st) .none kV doc pm an cdv ct) := ⟨⟨oc, od, kV, doc, pm, an, cdv, ct, osl, rfl, l, c⟩, k⟩
end
section
variable {X : Cx}
end
end L2
set_option maxHeartbeats 4000000
namespace L2
open PySem PySem.Spec PyProof.Rows
def EC (σ : St) : Option Nat -> Option V
 | some j => (σ[j]?).getD none
 | none => none
def jJ (env : Env) : List (Str × NameKind) -> List (Str × Addr) -> List (Str × Addr)
 | [], cs => cs
 | (n, k) :: r, cs => jJ env r (if k == .free then (n, (env.cells.lookup n).getD 0) :: cs else cs)
theorem lO {scope : Scope} {env : Env} (h : ∀ y ∈ scope.names, y.2 = .free -> ∃ c, env.cells.lookup y.1 = some c) : closureFor scope env = pure (jJ env scope.names []) := by
 have key : ∀ (l : List (Str × NameKind)) (cs : List (Str × Addr)), (∀ y ∈ l, y.2 = .free -> ∃ c, env.cells.lookup y.1 = some c) ->
   (forIn l cs (fun (x : Str × NameKind) (r : List (Str × Addr)) => (match x with
    | (name, kind) => if (kind == NameKind.free) = true then (do let c <- cellOf env name; pure (ForInStep.yield ((name, c) :: r))) else pure (ForInStep.yield r) : Sem (ForInStep (List (Str × Addr)))))) = (pure (jJ env l cs) : Sem (List (Str × Addr))) := by
  intro l
  induction l with
  | nil => intro cs _; rfl
  | cons y r ih =>
   intro cs hl
   obtain ⟨n, k⟩ := y
   rw [List.forIn_cons]
   by_cases hk : k = .free
   ·subst hk
    obtain ⟨c, hc⟩ := hl (n, .free) List.mem_cons_self rfl
    have e1 : cellOf env n = pure c := by
     unfold cellOf
     rw [hc]
    simp only [beq_self_eq_true, if_true, e1, pure_bind]
    rw [ih _ (fun z hz => hl z (List.mem_cons_of_mem _ hz))]
    simp only [jJ, beq_self_eq_true, if_true, hc, Option.getD_some]
   ·have hb : (k == NameKind.free) = false := by simpa using hk
    simp only [hb, Bool.false_eq_true, if_false, pure_bind]
    rw [ih _ (fun z hz => hl z (List.mem_cons_of_mem _ hz))]
    simp only [jJ, hb, Bool.false_eq_true, if_false]
 have := key scope.names [] h
 exact (congrArg (fun z => z >>= fun cs => (pure cs : Sem (List (Str × Addr)))) this).trans (pure_bind _ _)
theorem qa : ∀ {l : List (Str × NameKind)} {x : Str} {k : NameKind}, l.lookup x = some k -> (x, k) ∈ l
 | [], _, _, h => nomatch h
 | (n, k') :: r, x, k, h => by
  rw [List.lookup_cons] at h
  cases hx : x == n with
  | true =>
   rw [hx] at h
   have e : x = n := by simpa using hx
   subst e
   cases h
   exact List.mem_cons_self
  | false => rw [hx] at h; exact List.mem_cons_of_mem _ (qa h)
theorem qO {env : Env} {x : Str} {c : Addr} : ∀ {l : List (Str × NameKind)} {cs : List (Str × Addr)}, (∀ y ∈ l, y.2 = .free -> ∃ c, env.cells.lookup y.1 = some c) -> (jJ env l cs).lookup x = some c -> env.cells.lookup x = some c \/ cs.lookup x = some c
 | [], cs, _, h => .inr h
 | (n, k) :: r, cs, hl, h => by
  have h' := qO (l := r) (fun z hz => hl z (List.mem_cons_of_mem _ hz)) h
  rcases h' with h' | h'
  ·exact .inl h'
  ·by_cases hk : k = .free
   ·subst hk
    simp only [beq_self_eq_true, if_true] at h'
    obtain ⟨c', hc⟩ := hl (n, .free) List.mem_cons_self rfl
    rw [hc, Option.getD_some, List.lookup_cons] at h'
    cases hx : x == n with
    | true =>
     rw [hx] at h'
     have e : x = n := by simpa using hx
     subst e
     left
     rw [hc]; exact h'
    | false => rw [hx] at h'; exact .inr h'
   ·have hb : (k == NameKind.free) = false := by simpa using hk
    simp only [hb, Bool.false_eq_true, if_false] at h'
    exact .inr h'
theorem qN {env : Env} {x : Str} : ∀ {l : List (Str × NameKind)} {cs : List (Str × Addr)}, (cs.lookup x).isSome = true -> ((jJ env l cs).lookup x).isSome = true
 | [], cs, h => h
 | (n, k) :: r, cs, h => by
  show ((jJ env r _).lookup x).isSome = true
  refine qN (l := r) ?_
  by_cases hk : (k == NameKind.free) = true
  ·rw [if_pos hk, List.lookup_cons]
   cases hx : x == n with
   | true => rfl
   | false => exact h
  ·rw [if_neg hk]; exact h
theorem p6 {env : Env} {x : Str} : ∀ {l : List (Str × NameKind)} {cs : List (Str × Addr)}, (x, NameKind.free) ∈ l -> ((jJ env l cs).lookup x).isSome = true
 | [], _, h => nomatch h
 | (n, k) :: r, cs, h => by
  rcases List.mem_cons.mp h with e | h
  ·cases e
   show ((jJ env r _).lookup x).isSome = true
   refine qN (l := r) ?_
   rw [if_pos (by rfl), List.lookup_cons]
   simp
  ·exact p6 (l := r) h
def b6 (X : Cx) (scope : Scope) (N : List Str) (C : Addr) (s₀ : Shared) (H₀ : Hp) (ex : List Addr) : Cx where
 prog := X.prog
 w := X.w
 K := X.K
 mg := X.mg
 base := X.base
 A := X.A
 N := N
 s₀ := s₀
 H₀ := H₀
 env := compEnvC scope (jJ X.env scope.names []) C X.env
 outer := X.stack
 stack := X.stack
 ex := ex
 fn := fun _ => false
 calm := X.calm
 pn := []
 xe := fun _ _ => False
structure CpScope (X : Cx) (scope : Scope) (N : List Str) (cap : List (Option Nat)) : Prop where
 kind : scope.kind = .function
 nocell : ∀ y ∈ scope.names, y.2 ≠ .cell
 nm : ∀ y ∈ scope.names, y.2 = .local -> scope.names.lookup y.1 = some .local
 fr : ∀ y ∈ scope.names, y.2 = .free -> X.env.kindOf y.1 = some .cell \/ X.env.kindOf y.1 = some .free
 rl : ∀ y, ((relabel scope X.env).names.lookup y = some .cell \/ (relabel scope X.env).names.lookup y = some .free) -> (y, NameKind.free) ∈ scope.names
 len : cap.length = N.length
 nolf : ∀ x, (x, NameKind.free) ∈ scope.names -> scope.names.lookup x ≠ some .local
 cp : ∀ (i j : Nat) (x : Str), N[i]? = some x -> cap[i]? = some (some j) -> X.N[j]? = some x /\ (x, NameKind.free) ∈ scope.names
theorem we {X : Cx} {scope : Scope} {N : List Str} {cap : List (Option Nat)} {pins : List (Addr × Obj)} {σ : St} {H : Hp} {s : Shared} {fp : List Addr} {h₁ : Heap} {m : Str -> Option Value} {tk : Nat} (S : CpScope X scope N cap) (I : Inv X pins σ H s)
  (hf : ∀ b ∈ fp, ju X pins H b) (ho : ∀ b ∈ fp, ∃ o, s.heap.get? b = some o) (hn : h₁.Ns s.heap.objs.size m) (hk : ∀ b o, s.heap.get? b = some o -> h₁.get? b = some o) :
  Inv (b6 X scope N s.heap.objs.size s H fp) [] (cap.map (EC σ)) H { s with heap := h₁, toks := tk } := by
 have hfree : ∀ y ∈ scope.names, y.2 = .free -> ∃ c, X.env.cells.lookup y.1 = some c := fun y hy e => I.ok.has _ (S.fr y hy e)
 have lk : ∀ x c, (jJ X.env scope.names []).lookup x = some c -> X.env.cells.lookup x = some c := fun x c e => by
  rcases qO hfree e with z | z
  ·exact z
  ·cases z
 have lt : ∀ b o, s.heap.get? b = some o -> b ≠ s.heap.objs.size := fun b o e => Nat.ne_of_lt (Heap.lt_size e)
 refine ⟨⟨I.ok.mod, ?_, I.ok.glob, I.ok.blt, Nat.le_refl _, ?_, ?_, ?_, I.ok.hd, I.ok.frames, .inl rfl, ?_, I.bs, Nat.le_trans I.ok.bsz I.sz, ?_, ?_, I.stack, I.yU⟩, rfl, I.bare, Un.kept hk, ?_, ?_, I.hok.fresh (Nat.le_refl _), ?_, ?_, I.hok.kept hk, ?_⟩
 ·exact S.kind
 ·intro x y c e1 e2
  exact I.ok.inj x y c (lk x c e1) (lk y c e2)
 ·intro x e
  have hm := S.rl x e
  have := p6 (env := X.env) (cs := []) hm
  exact Option.isSome_iff_exists.mp this
 ·intro x c e _
  exact absurd e (by simp [b6])
 ·intro b hb
  obtain ⟨o, e⟩ := ho b hb
  refine ⟨lt b o e, fun x c e2 => (hf b hb).2.2.2.2.1 x c (lk x c e2)⟩
 ·intro b o e hb
  obtain ⟨_, _, _, h3, _⟩ := hf b hb
  rcases h3 with z | z
  ·exact I.ok.noex b o e z
  ·exact absurd (Nat.lt_of_lt_of_le (Heap.lt_size (I.ok.bs b o e).1) z) (Nat.lt_irrefl _)
 ·intro b hb hz
  obtain ⟨_, h1, h2, _⟩ := hf b hb
  rcases List.mem_cons.mp (I.vZ b hz) with z | z
  ·exact h1 z
  ·exact h2 z
 ·refine ⟨m, hn, fun i x v e1 e2 e3 => ?_⟩
  rw [List.getElem?_map] at e2
  cases hc : cap[i]? with
  | none => rw [hc] at e2; cases e2
  | some oj =>
   rw [hc] at e2
   cases oj with
   | none => cases e2
   | some j =>
    have e2' : (σ[j]?).getD none = some v := Option.some.inj e2
    obtain ⟨hj, hm⟩ := S.cp i j x e1 hc
    obtain ⟨m0, hn0, hl0⟩ := I.loc
    have hσ : σ[j]? = some (some v) := by
     cases h : σ[j]? with
     | none => rw [h] at e2'; cases e2'
     | some z => rw [h, Option.getD_some] at e2'; rw [e2']
    have hkd := S.fr (x, .free) hm rfl
    have hv : J_ X.env.scope x := .inr hkd
    obtain ⟨u, ru, lo⟩ := hl0 j x v hj hσ hv
    refine ⟨u, ru, ?_⟩
    rcases lo with ⟨lo, _⟩ | ⟨_, c, ec, ic⟩
    ·rcases hkd with z | z <;> (rw [z] at lo; cases lo)
    ·have h2 := p6 (env := X.env) (cs := []) hm
     obtain ⟨c', hc'⟩ := Option.isSome_iff_exists.mp h2
     have : c' = c := Option.some.inj ((lk x c' hc').symm.trans ec)
     subst this
     refine .inr ⟨?_, c', hc', ?_⟩
     ·rcases e3 with z | z | z
      ·exfalso
       have : (relabel scope X.env).names.lookup x = some .local := z
       have hloc : scope.names.lookup x = some .local := by
        have hmem : ∃ k, (x, k) ∈ (relabel scope X.env).names /\ k = .local := by
         clear hc' h2
         have := qa this
         exact ⟨_, this, rfl⟩
        obtain ⟨k, hk1, rfl⟩ := hmem
        obtain ⟨⟨n', k'⟩, hm1, hm2⟩ := List.mem_map.mp hk1
        dsimp only at hm2
        split at hm2
        ·cases hm2
        ·cases hm2
         exact S.nm (x, .local) hm1 rfl
       exact False.elim (S.nolf x hm hloc)
      ·exact .inl z
      ·exact .inr z
     ·obtain ⟨o, ho', hd⟩ := ic
      exact ⟨o, hk _ _ ho', hd⟩
 ·intro x c e
  obtain ⟨v, o, ho', hd⟩ := I.cell x c (lk x c e)
  exact ⟨v, o, hk _ _ ho', hd⟩
 ·intro x c e
  exact I.freeC x c (lk x c e)
 ·intro p hp
  cases hp
 ·rw [List.length_map, S.len]
  rfl
def DC (X : Cx) (ifs : List Expr) (t : TT) : Prop :=
 ∀ (pins : List (Addr × Obj)) (s : Shared) (σ : St) (H : Hp) (Q : Bool -> Hp -> Prop), Inv X pins σ H s -> t σ H Q ->
  wpAny (model X.prog X.w) X.A (forIn ifs true fun c r => if r = true then do let ok <- isTrue c X.env (eval c X.env); pure (ForInStep.yield ok) else pure (ForInStep.yield r)) (TP X pins σ Q) X.xe s
def LL : TT := fun _ H Q => Q true H
theorem E_ {X : Cx} : DC X [] LL := fun _ _ _ H _ I h => wpAny_tests_nil ⟨H, I, h⟩
theorem Eo {X : Cx} {c : Expr} {t : TT} (h : PT X c t) : DC X [c] t := fun pins s σ H Q I q => wpAny_tests_one (h pins s σ H Q I q)
def GQ (cap : List (Option Nat)) (g : TG) (tc : TT) (te : TE) (σ : St) (Q : VK) (J : It) (H1 : Hp) : Prop := ∀ D, H1 D = none ->
 ∃ W : Nat -> Nat -> St -> Hp -> Prop, (∃ m, W 0 m (cap.map (EC σ)) (upd H1 D (.lst []))) /\ ∀ i m σ' H', W i m σ' H' ->
  (J.stop i H' /\ Q (.ref D) H') \/ (J.go i H' /\ ∀ x H2, J.yld i H' x H2 -> g x σ' H2 fun σ3 H3 => tc σ3 H3 fun b H4 =>
   if b = true then te σ3 H4 fun y H5 => ∃ ys, H5 D = some (.lst ys) /\ ys.length < sizeLine /\ ∃ m', m' < m /\ W (i + 1) m' σ3 (upd H5 D (.lst (ys ++ [y])))
   else ∃ m', m' < m /\ W (i + 1) m' σ3 H4)
def Kq (cap : List (Option Nat)) (wi : TI) (g : TG) (tc : TT) (te : TE) : TE := fun σ H Q => wi σ H (GQ cap g tc te σ Q)
theorem nI {α : Type} {t : Sem α} {Q Q' : α -> Shared -> Prop} {M : Model} {A : Around} {E : Value -> Shared -> Prop} {s : Shared} (h : wpAny M A t Q (fun _ _ => False) s) (hQ : ∀ a s, Q a s -> Q' a s) : wpAny M A t Q' E s :=
 wpAny_mono h hQ fun _ _ f => f.elim
structure TurnG (ok : Cx -> Prop) (P : Program) (w : World) (K : PySem.W.Frag) (tg : Expr) (J : It) (fp : List Addr) (it : Addr) (tn : Nat -> Heap -> Prop) : Prop where
 obj : ∀ i h, tn i h -> ∀ b ∈ fp, ∃ o, h.get? b = some o /\ ∀ v, o.data ≠ .cell v
 keep : ∀ i h h', tn i h -> (∀ b ∈ fp, ∀ o, h.get? b = some o -> h'.get? b = some o) -> tn i h'
 item : ∀ (X : Cx), X.prog = P -> X.w = w -> X.K = K -> ok X -> ∀ (i : Nat) (pins : List (Addr × Obj)) (s : Shared) (σ : St) (H : Hp) (E : Value -> Shared -> Prop), Inv X pins σ H s -> (∀ b ∈ fp, ju X pins H b) -> tn i s.heap -> J.go i H ->
  wpAny (model P w) X.A (pyNext (.ref it)) (fun r s1 => ∃ u, r = some u /\
   wpAny (model P w) X.A (letOwnedTupleGo tg (.ref it) u) (fun _ s2 => ∃ x H', Inv X pins σ H' s2 /\ RelV x u /\ J.yld i H x H' /\ tn (i + 1) s2.heap /\ ∀ b ∈ fp, H' b = none) E s1) E s
 done : ∀ (X : Cx), X.prog = P -> X.w = w -> X.K = K -> ok X -> ∀ (i : Nat) (pins : List (Addr × Obj)) (s : Shared) (σ : St) (H : Hp) (E : Value -> Shared -> Prop), Inv X pins σ H s -> (∀ b ∈ fp, ju X pins H b) -> tn i s.heap -> J.stop i H ->
  wpAny (model P w) X.A (pyNext (.ref it)) (fun r s1 => r = none /\ Inv X pins σ H s1) E s
 self : ∀ (A : Around) (i : Nat) (s : Shared) (Q : Value -> Shared -> Prop) (E : Value -> Shared -> Prop), tn i s.heap -> Q (.ref it) s -> wpAny (model P w) A (pyIter (.ref it)) Q E s
def K3 (ok : Cx -> Prop) (X : Cx) (pins : List (Addr × Obj)) (σ : St) (tg : Expr) (R : It -> Hp -> Prop) (itv : Value) (s2 : Shared) : Prop :=
 ∃ (it : Addr) (fp : List Addr) (tn : Nat -> Heap -> Prop) (J : It) (H' : Hp), itv = .ref it /\ Inv X pins σ H' s2 /\ TurnG ok X.prog X.w X.K tg J fp it tn /\ tn 0 s2.heap /\ (∀ b ∈ fp, ju X pins H' b) /\ R J H'
def L4 (ok : Cx -> Prop) (X : Cx) (tg iter : Expr) (wi : TI) : Prop :=
 ∀ (pins : List (Addr × Obj)) (s : Shared) (σ : St) (H : Hp) (R : It -> Hp -> Prop), Inv X pins σ H s -> wi σ H R ->
  wpAny (model X.prog X.w) X.A (eval iter X.env) (fun v s1 => wpAny (model X.prog X.w) X.A (pyIter v) (K3 ok X pins σ tg R) X.xe s1) X.xe s
theorem PI.g {X : Cx} {tg iter : Expr} {wi : TI} (h : PI X tg iter wi) : L4 (fun Y => Y.calm = true) X tg iter wi := fun pins s σ H R I q =>
 cQ (h pins s σ H R I q) fun v s1 h1 => cQ h1 fun itv s2 ⟨it, fp, tn, J, H', e, I', T, a, b, c⟩ => ⟨it, fp, tn, J, H', e, I', ⟨T.obj, T.keep, T.item, T.done, T.self⟩, a, b, c⟩
theorem Hw {ok : Cx -> Prop} {X : Cx} {tg iter elt : Expr} {ifs : List Expr} {scope : Scope} {pos : Pos} {N : List Str} {cap : List (Option Nat)} {wi : TI} {g : TG} {tc : TT} {te : TE} (S : CpScope X scope N cap) (hok : ∀ C s₀ H₀ ex, (∀ a o u, X.H₀ a = some (.frz o u) -> H₀ a = some (.frz o u)) -> ok (b6 X scope N C s₀ H₀ ex)) (hi : L4 ok X tg iter wi)
  (hg : ∀ C s₀ H₀ ex, PG (b6 X scope N C s₀ H₀ ex) tg g) (ht : ∀ C s₀ H₀ ex, DC (b6 X scope N C s₀ H₀ ex) ifs tc) (he : ∀ C s₀ H₀ ex, PE (b6 X scope N C s₀ H₀ ex) elt te)
  (hs : ∀ x, foldedSetIterable iter X.env x = pure x := by intro _; rfl) : PE X (.ListComp elt [⟨tg, iter, ifs, 0⟩] scope pos) (Kq cap wi g tc te) := by
 intro pins s σ H Q I h
 have hfree : ∀ y ∈ scope.names, y.2 = .free -> ∃ c, X.env.cells.lookup y.1 = some c := fun y hy e => I.ok.has _ (S.fr y hy e)
 rw [eval_ListComp]
 refine wpAny_comprehension_free (use := none) rfl hs (lO hfree) S.kind S.nm (cQ (hi pins s σ H _ I h) fun xv s1 h1 => cQ h1 fun itv s2 h2 => ?_)
 obtain ⟨it, fp, tn, J, H2, rfl, I2, T, st2, f2, h2⟩ := h2
 refine wpAny_newObj_type (wpAny_newFunctionEnv S.nocell (by intro y hy; simp at hy) (fun h₁ hns₁ hsb₁ => ?_) S.kind)
 obtain ⟨W, ⟨m0, w0⟩, turn⟩ := h2 s2.heap.objs.size I2.fresh
 dsimp only at hns₁ hsb₁ ⊢
 have I3 : Inv X pins σ (upd H2 s2.heap.objs.size (.lst [])) { s2 with heap := s2.heap.push { cls := .type "list", data := .seq ([] : List Value).toArray } } := I2.zF (t' := s2.toks) (its := []) .nil (Nat.zero_le _)
 have hfp : ∀ b ∈ fp, ∃ o, s2.heap.get? b = some o := fun b hb => by
  obtain ⟨o, e, _⟩ := T.obj 0 _ st2 b hb
  exact ⟨o, e⟩
 have neD : ∀ b ∈ fp, b ≠ s2.heap.objs.size := fun b hb => by
  obtain ⟨o, e⟩ := hfp b hb
  exact Nat.ne_of_lt (Heap.lt_size e)
 have f3 : ∀ b ∈ fp, ju X pins (upd H2 s2.heap.objs.size (.lst [])) b := fun b hb => ⟨by rw [aO (neD b hb)]; exact (f2 b hb).1, (f2 b hb).2⟩
 have hDC : s2.heap.objs.size ≠ (s2.heap.push { cls := .type "list", data := .seq ([] : List Value).toArray }).objs.size := by rw [Heap.size_push]; exact Nat.ne_of_lt (Nat.lt_succ_self _)
 have old : ∀ b o, (s2.heap.push { cls := .type "list", data := .seq ([] : List Value).toArray }).get? b = some o -> h₁.get? b = some o := fun b o e => hsb₁.extBut b o (Nat.ne_of_lt (Heap.lt_size e)) (Heap.get?_push_of_some _ e)
 have I4 := we (tk := s2.toks + ([] : List (Str × Value)).length) (fp := fp) S I3 f3 (fun b hb => by
  obtain ⟨o, e⟩ := hfp b hb
  exact ⟨o, Heap.get?_push_of_some _ e⟩) hns₁ old
 have st4 : tn 0 h₁ := T.keep _ _ _ st2 fun b hb o e => old b o (Heap.get?_push_of_some _ e)
 have hc := hok (s2.heap.push { cls := .type "list", data := .seq ([] : List Value).toArray }).objs.size { s2 with heap := s2.heap.push { cls := .type "list", data := .seq ([] : List Value).toArray } } (upd H2 s2.heap.objs.size (.lst [])) fp fun a o u e => by
  have z := I2.base.frzs a o u e
  rw [aO (fun q => by rw [q, I2.fresh] at z; cases z)]
  exact z
 have stat : ∀ {H' : Hp}, (∀ b ∈ fp, H' b = none) -> ∀ b ∈ fp, ju (b6 X scope N (s2.heap.push { cls := .type "list", data := .seq ([] : List Value).toArray }).objs.size { s2 with heap := s2.heap.push { cls := .type "list", data := .seq ([] : List Value).toArray } } (upd H2 s2.heap.objs.size (.lst [])) fp) [] H' b := fun hn b hb => by
  have ok := I4.ok
  refine ⟨hn b hb, (ok.exf b hb).1, ok.exfs b hb, .inl hb, fun x c e => (ok.exf b hb).2 x c e, fun p hp => nomatch hp⟩
 have loop : ∀ s4 : Shared, s4 = { s2 with heap := h₁, toks := s2.toks + ([] : List (Str × Value)).length } ->
   codeAny (model X.prog X.w) X.A (.compLoop (.ListComp elt [⟨tg, iter, ifs, 0⟩] scope pos) 0 (.ref it) (.ref s2.heap.objs.size) (compEnvC scope (jJ X.env scope.names []) (s2.heap.push { cls := .type "list", data := .seq ([] : List Value).toArray }).objs.size X.env))
    (compPost (model X.prog X.w) X.A X.xe none (EP X pins σ Q) (.ref s2.heap.objs.size) (s2.heap.push { cls := .type "list", data := .seq ([] : List Value).toArray }).objs.size) s4 := by
  rintro s4 rfl
  refine codeAny_loop rfl (fun n s' => ∃ i σ' H', Inv (b6 X scope N (s2.heap.push { cls := .type "list", data := .seq ([] : List Value).toArray }).objs.size { s2 with heap := s2.heap.push { cls := .type "list", data := .seq ([] : List Value).toArray } } (upd H2 s2.heap.objs.size (.lst [])) fp) [] σ' H' s' /\ tn i s'.heap /\ (∀ b ∈ fp, H' b = none) /\ W i n σ' H') (fun n s5 hI => ?_) m0 ⟨0, _, _, I4, st4, fun b hb => (f3 b hb).1, w0⟩
  obtain ⟨i, σ5, H5, I5, st5, fr5, w5⟩ := hI
  show wpAny _ X.A ((compTurn (.ListComp elt [⟨tg, iter, ifs, 0⟩] scope pos) 0 (.ref it) (.ref s2.heap.objs.size) (compEnvC scope (jJ X.env scope.names []) (s2.heap.push { cls := .type "list", data := .seq ([] : List Value).toArray }).objs.size X.env)).onRaise (fun x => do noteFrame x _; theTreesLotGoes x)) _ _ s5
  refine wpAny_noted ?_
  rw [compTurn_list]
  refine wpAny_bind (wpAny_standAt (wpAny_bind ?_))
  rcases turn i n σ5 H5 w5 with ⟨stop, q⟩ | ⟨go, step⟩
  ·refine cQ (T.done (b6 X scope N (s2.heap.push { cls := .type "list", data := .seq ([] : List Value).toArray }).objs.size { s2 with heap := s2.heap.push { cls := .type "list", data := .seq ([] : List Value).toArray } } (upd H2 s2.heap.objs.size (.lst [])) fp) rfl rfl rfl hc i [] s5 σ5 H5 _ I5 (stat fr5) st5 stop) fun r s6 ⟨hr, I6⟩ => ?_
   subst hr
   obtain ⟨m6, hn6, _⟩ := I6.loc
   refine wpAny_pure ⟨m6, hn6, fun h' sb => ?_⟩
   have u6 := I6.base
   have nC : ∀ b o, (s2.heap.push { cls := .type "list", data := .seq ([] : List Value).toArray }).get? b = some o -> b ≠ (s2.heap.push { cls := .type "list", data := .seq ([] : List Value).toArray }).objs.size := fun b o e => Nat.ne_of_lt (Heap.lt_size e)
   refine ⟨.ref s2.heap.objs.size, H5, ?_, rfl, q⟩
   refine I3.yN (ch := fp) I6.os ⟨fun b o e n hb hx => ?_, fun b o e n hb hx => ?_, fun b o e n hx => ?_, fun b o e hx => ?_, u6.tups, u6.frzs, u6.tbls⟩ ?_ I6.bare ?_
   ·exact sb.extBut b o (nC b o e) (u6.keep b o e n hb hx)
   ·obtain ⟨sl, z⟩ := u6.slot b o e n hb hx
    exact ⟨sl, sb.extBut b _ (nC b o e) z⟩
   ·exact u6.free b o e n hx
   ·obtain ⟨o', z⟩ := u6.there b o e hx
    exact ⟨o', sb.extBut b _ (nC b o e) z⟩
   ·intro b o e
    have hb : ∀ c v, H5 c = some v -> c ≠ (s2.heap.push { cls := .type "list", data := .seq ([] : List Value).toArray }).objs.size := fun c v e z => by
     rw [z] at e
     have := I6.free
     rw [show H5 (s2.heap.push { cls := .type "list", data := .seq ([] : List Value).toArray }).objs.size = none from this] at e
     cases e
    refine (I6.hok b o e).stay (fun c v hc q => sb.extBut c v ?_ q) (fun _ q => q) fun _ _ q => q
    rcases hc with z | z
    ·rw [z]; exact hb b o e
    ·exact hb c _ z
   ·intro b hb
    obtain ⟨_, z1, _, z3, z4, z5⟩ := f3 b hb
    exact ⟨z3, z1, z4, z5⟩
  ·refine cQ (T.item (b6 X scope N (s2.heap.push { cls := .type "list", data := .seq ([] : List Value).toArray }).objs.size { s2 with heap := s2.heap.push { cls := .type "list", data := .seq ([] : List Value).toArray } } (upd H2 s2.heap.objs.size (.lst [])) fp) rfl rfl rfl hc i [] s5 σ5 H5 _ I5 (stat fr5) st5 go) fun r s6 ⟨u, hr, h6⟩ => ?_
   subst hr
   refine wpAny_bind (cQ h6 fun _ s7 ⟨x, H7, I7, r7, y7, st7, fr7⟩ => ?_)
   have I7' := I7.pinned (stat fr7) (T.obj _ _ st7)
   refine wpAny_bind (nI (hg _ _ _ fp _ s7 σ5 H7 x u _ I7' r7 (step x H7 y7)) fun _ s8 ⟨σ8, H8, I8, q8⟩ => ?_)
   refine wpAny_bind (nI (ht _ _ _ fp _ s8 σ8 H8 _ I8 q8) fun ok s9 ⟨H9, I9, q9⟩ => ?_)
   have again : ∀ {s10 : Shared} {H10 : Hp}, Inv (b6 X scope N (s2.heap.push { cls := .type "list", data := .seq ([] : List Value).toArray }).objs.size { s2 with heap := s2.heap.push { cls := .type "list", data := .seq ([] : List Value).toArray } } (upd H2 s2.heap.objs.size (.lst [])) fp) ([] ++ jV fp s7.heap) σ8 H10 s10 -> (∃ m', m' < n /\ W (i + 1) m' σ8 H10) ->
     ∃ m, m < n /\ ∃ i σ' H', Inv (b6 X scope N (s2.heap.push { cls := .type "list", data := .seq ([] : List Value).toArray }).objs.size { s2 with heap := s2.heap.push { cls := .type "list", data := .seq ([] : List Value).toArray } } (upd H2 s2.heap.objs.size (.lst [])) fp) [] σ' H' s10 /\ tn i s10.heap /\ (∀ b ∈ fp, H' b = none) /\ W i m σ' H' := fun {s10 H10} I10 ⟨m', hm, w10⟩ => by
    refine ⟨m', hm, i + 1, σ8, H10, I10.gu, T.keep _ _ _ st7 fun b hb o e => (I10.pin (b, o) (List.mem_append_right _ (List.mem_append_right _ (cF hb e)))).1, fun b hb => ?_, w10⟩
    obtain ⟨o, e, d⟩ := T.obj _ _ st7 b hb
    exact (I10.pin (b, o) (List.mem_append_right _ (List.mem_append_right _ (cF hb e)))).2.1
   cases ok with
   | false =>
    rw [if_neg Bool.false_ne_true] at q9
    exact wpAny_pure ⟨rfl, again I9 q9⟩
   | true =>
    rw [if_pos rfl] at q9
    refine wpAny_bind (wpAny_bind (nI (he _ _ _ fp _ s9 σ8 H9 _ I9 q9) fun y s10 ⟨v10, H10, I10, r10, ys, hD, hz, w10⟩ => ?_))
    refine wpAny_bind (nI (kK _ s10 σ8 H10 (.ref s2.heap.objs.size) [v10] _ [y] (fun _ H' => H' = upd H10 s2.heap.objs.size (.lst (ys ++ [v10]))) I10 rfl (.cons r10 .nil) ⟨_, ys, v10, rfl, rfl, hD, hz, rfl⟩) fun _ s11 ⟨_, H11, I11, _, e11⟩ => ?_)
    subst e11
    exact wpAny_pure (wpAny_pure ⟨rfl, again I11 w10⟩)
 exact codeAny_compStart_list (loop _ rfl) (T.self _ 0 _ _ _ st4 (loop _ rfl))
theorem Km {X : Cx} {tg iter elt : Expr} {ifs : List Expr} {scope : Scope} {pos : Pos} {N : List Str} {cap : List (Option Nat)} {wi : TI} {g : TG} {tc : TT} {te : TE} (hc : X.calm = true) (S : CpScope X scope N cap) (hi : PI X tg iter wi)
  (hg : ∀ C s₀ H₀ ex, PG (b6 X scope N C s₀ H₀ ex) tg g) (ht : ∀ C s₀ H₀ ex, DC (b6 X scope N C s₀ H₀ ex) ifs tc) (he : ∀ C s₀ H₀ ex, PE (b6 X scope N C s₀ H₀ ex) elt te)
  (hs : ∀ x, foldedSetIterable iter X.env x = pure x := by intro _; rfl) : PE X (.ListComp elt [⟨tg, iter, ifs, 0⟩] scope pos) (Kq cap wi g tc te) :=
 Hw S (fun _ _ _ _ _ => hc) hi.g hg ht he hs
end L2
namespace L2
open PySem PySem.Spec PyProof.Rows
section
variable {X : Cx}
theorem BE {bs : List Bool} : ∀ {us : List Value}, Vals (bs.map V.bl) us -> LSm.BoolsAre us bs := by
 induction bs with
 | nil => intro us r; cases r; exact .nil
 | cons b bs ih =>
  intro us r
  cases r with
  | cons h t =>
   have e : _ = Value.bool b := h
   subst e
   exact .cons b (ih t)
theorem zA (hc : X.calm = true) : bR X (.builtin "all") (fun xs H Q => ∃ (p : Addr) (bs : List Bool), xs = [.ref p] /\ gy X.K H p (bs.map V.bl) /\ Q (.bl (bs.all id)) H) := by
 intro pins s σ H xs us Q I r h
 obtain ⟨p, bs, rfl, hq, q⟩ := h
 obtain ⟨u, rfl, rx⟩ := vals1 r
 cases rx
 obtain ⟨its, rv, pl, hz⟩ := I.list hq
 have hb := BE rv
 have hl := pl.isList
 have hlt : p < s.heap.objs.size := by obtain ⟨_, e, _⟩ := hl; exact Heap.lt_size e
 refine call_all_walk (wpAny_pyIter_list hl ?_)
 refine ⟨s.heap.objs.size, [s.heap.objs.size, p], [s.heap.objs.size], its.toArray.size, _, _, fun i => (bs[i]?).getD true, rfl, Walks.list (A := X.A.in1) (I.ok.hd hc) _ p (Nat.ne_of_lt hlt) its.toArray,
  ⟨⟨_, Heap.get?_push_size _ rfl, rfl, rfl⟩, hl.push _⟩, fun i v s' Q' E' hP hQ => ?_, fun h' tk hk => ?_⟩
 ·obtain ⟨b, e, rfl⟩ := hb.get i v (by simpa using hP)
  simp only [e, Option.getD_some] at hQ
  exact wpAny_truthy_bool hQ
 ·have e : ((List.range its.toArray.size).all fun i => (bs[i]?).getD true) = bs.all id := by
   rw [List.size_toArray, hb.length]; exact LSm.range_all bs
  rw [e]
  exact ⟨.bl _, H, I.kept (LSm.kept_iter hk), rfl, q⟩
def My : List V -> List V -> Bool
 | [], [] => true
 | x :: xs, y :: ys => Mz x y && My xs ys
 | _, _ => false
theorem zq : fY X (compareOp .IsNot) (fun x y H Q => ∃ a b, x = .bl a /\ y = .bl b /\ Q (.bl (a != b)) H) := by
 intro pins s σ H x y v u Q I rx ry h
 obtain ⟨a, b, rfl, rfl, q⟩ := h
 cases rx; cases ry
 exact isnot_bool ⟨.bl _, H, I, rfl, q⟩
theorem sN : bR X (.type "range") (fun xs H Q => ∃ i j, xs = [.int i, .int j] /\ ∀ p, H p = none -> Q (.ref p) (upd H p (.rng i j))) := by
 intro pins s σ H xs us Q I r h
 obtain ⟨i, j, rfl, q⟩ := h
 obtain ⟨u, w', rfl, ⟨t, rfl⟩, ⟨t', rfl⟩⟩ := vals2 r
 refine call_range_2 ⟨.ref s.heap.objs.size, _, I.laid (o := .rng i j) (fun b o e => Heap.get?_push_of_some _ e) (Nat.le_refl _) ?_, rfl, q _ I.fresh⟩
 exact ⟨t, t', s.toks, Heap.get?_push_size _ rfl⟩
def aS (i j : Int) : List Int := (List.range (j - i).toNat).map fun k : Nat => i + (k : Int)
theorem cP (i j : Int) : (aS i j).length = (j - i).toNat := by unfold aS; rw [List.length_map, List.length_range]
theorem pG {i : Int} {n : Nat} {acc : Array Value} (h : ItemsOf (fun k v => ∃ t, v = Value.int (i + (k : Int) * 1) t) acc n) : Vals (((List.range n).map fun k : Nat => i + (k : Int)).map V.int) acc.toList := by
 obtain ⟨hs, hv⟩ := h
 have gen : ∀ (l : List Value) (b : Nat), (∀ j v, l[j]? = some v -> ∃ t, v = Value.int (i + ((b + j : Nat) : Int)) t) -> Vals (((List.range' b l.length).map fun k : Nat => i + (k : Int)).map V.int) l := by
  intro l
  induction l with
  | nil => intro b _; exact .nil
  | cons v l ih =>
   intro b hb
   rw [List.length_cons, List.range'_succ, List.map_cons, List.map_cons]
   refine .cons ?_ ?_
   ·obtain ⟨t, e⟩ := hb 0 v rfl
    exact ⟨t, by rw [e]; simp⟩
   ·refine ih (b + 1) fun j w hw => ?_
    obtain ⟨t, e⟩ := hb (j + 1) w hw
    exact ⟨t, by rw [e, show b + (j + 1) = b + 1 + j by omega]⟩
 have := gen acc.toList 0 fun j v hj => by
  obtain ⟨t, e⟩ := hv j v (by simpa using hj)
  exact ⟨t, by rw [e, Nat.zero_add, Int.mul_one]⟩
 rw [Array.length_toList, hs, <- List.range_eq_range'] at this
 exact this
theorem z_ {i j : Int} : Builtin.Range.rangeSize i j 1 = (((j - i).toNat : Nat) : Int) := by rw [rangeSize_one]; split <;> omega
theorem qF (hc : X.calm = true) : bR X (.type "list") (fun xs H Q => ∃ p i j, xs = [.ref p] /\ H p = some (.rng i j) /\ (-(2 ^ 62) <= i /\ i < 2 ^ 62 /\ -(2 ^ 62) <= j /\ j < 2 ^ 62) /\ (j - i).toNat <= 1000 /\ ∀ l, H l = none -> Q (.ref l) (upd H l (.lst ((aS i j).map V.int)))) := by
 intro pins s σ H xs us Q I r h
 obtain ⟨p, i, j, rfl, hp, ⟨b1, b2, b3, b4⟩, hn, q⟩ := h
 obtain ⟨u, rfl, rx⟩ := vals1 r
 cases rx
 obtain ⟨t, u', v, e⟩ := I.hok p _ hp
 refine call_list_range (n := (j - i).toNat) (I.ok.hd hc) e (small_one b1 b2 b3 b4) z_ (by omega) fun h' tk acc' c' hk hS hacc => ?_
 refine ⟨.ref s.heap.objs.size, _, I.laid (o := .lst ((aS i j).map V.int)) hk (Nat.le_refl _) ⟨?_, acc'.toList, c', pG hacc, by rw [hS]⟩, rfl, q _ I.fresh⟩
 rw [List.length_map, cP, sizeLine_eq]; omega
end
end L2
namespace L2
open PySem PySem.Spec PyProof.Rows
section
variable {X : Cx}
theorem vn {prog : Program} {w : World} {A : Around} {E : Value -> Shared -> Prop} {s : Shared} {Q : List Value -> Shared -> Prop} {r : Addr} {a b c : Int} {t u v : Tok} {n : Nat} (hh : A.handled = none) (hr : IsRange s.heap r a b c t u v) (hsmall : Builtin.Range.small a b c = true)
  (hn : Builtin.Range.rangeSize a b c = n) (hlen : n <= 2 ^ 24)
  (hQ : ∀ h' tk (acc' : Array Value), (∀ b o, s.heap.get? b = some o -> h'.get? b = some o) -> ItemsOf (fun i v => ∃ t, v = .int (a + i * c) t) acc' n -> Q acc'.toList { s with heap := h', toks := tk }) :
  wpAny (model prog w) A (collect (.ref r)) Q E s := by
 unfold collect
 refine wpAny_bind (wpAny_runValue (codeAny_builtin F.entry_proto_collect ?_))
 rw [Around.under_plainId F.plain_proto_collect _]
 show wpAny _ A.in1 (newList [] >>= fun l => again (.builtin "list.__iadd__" ⟨[l, .ref r], []⟩)) _ _ s
 refine wpAny_bind (wpAny_newObj_type ?_)
 refine wpAny_pure ⟨plainId_quiet F.plain_list_iadd _, codeAny_builtin F.entry_list_iadd ?_⟩
 rw [Around.under_plainId F.plain_list_iadd _]
 show wpAny _ A.in1 (Builtin.List.listExtendWith (.ref s.heap.objs.size) (.ref r) (.ref s.heap.objs.size)) _ _ _
 have hS : (s.heap.push { cls := .type "list", data := .seq ([] : List Value).toArray }).get? s.heap.objs.size = some { cls := .type "list", data := .seq #[] 0 } := Heap.get?_push_size _ rfl
 have fin' : ∀ (h' : Heap) (tk : Nat) (acc' : Array Value) (c' : Nat), (∀ b o, b ≠ s.heap.objs.size -> (s.heap.push { cls := .type "list", data := .seq ([] : List Value).toArray }).get? b = some o -> h'.get? b = some o) ->
   h'.get? s.heap.objs.size = some { cls := .type "list", dict := none, data := .seq acc' c', slots := #[] } -> ItemsOf (fun i v => ∃ t, v = .int (a + i * c) t) acc' n ->
   wpAny (model prog w) A (match Value.ref s.heap.objs.size with
   | Value.ref a => do
    match (<- load a).data with
     | Data.seq xs _ => pure xs.toList
     | _ => unsupported "internal:collect"
   | _ => unsupported "internal:collect") Q E { s with heap := h', toks := tk } := by
  intro h' tk acc' c' hk hS' hacc
  show wpAny _ A (load s.heap.objs.size >>= _) _ _ _
  refine wpAny_bind (wpAny_load hS' ?_)
  refine wpAny_pure ?_
  exact hQ h' tk acc' (fun b o e => hk b o (Nat.ne_of_lt (Heap.lt_size e)) (Heap.get?_push_of_some _ e)) hacc
 refine wpAny_mono (wpAny_extend_range (A := A) (R := fun rr s' => rr = .ok (.ret (.ref s.heap.objs.size)) /\ ∃ h' tk acc' c', s' = { s with heap := h', toks := tk } /\ (∀ b o, b ≠ s.heap.objs.size -> (s.heap.push { cls := .type "list", data := .seq ([] : List Value).toArray }).get? b = some o -> h'.get? b = some o) /\
   h'.get? s.heap.objs.size = some { cls := .type "list", dict := none, data := .seq acc' c', slots := #[] } /\ ItemsOf (fun i v => ∃ t, v = .int (a + i * c) t) acc' n)
  (s := { s with heap := s.heap.push { cls := .type "list", data := .seq ([] : List Value).toArray } }) hh (Heap.get?_push_of_some _ hr) hsmall hn hlen s.heap.objs.size (.ref s.heap.objs.size) 0 hS
  (fun h' tk acc' c' hk hS' hacc => ⟨rfl, h', tk, acc', c', rfl, hk, hS', hacc⟩)) (fun fin s' h => ?_) (fun e s' h => ?_)
 ·cases fin with
  | done f =>
   obtain ⟨e, h', tk, acc', c', rfl, hk, hS', hacc⟩ := h
   cases e
   exact fin' h' tk acc' c' hk hS' hacc
  | again c' => exact ⟨h.1, codeAny_mono h.2 fun r s'' hr => by
    obtain ⟨rfl, h', tk, acc', c', rfl, hk, hS', hacc⟩ := hr
    exact fin' h' tk acc' c' hk hS' hacc⟩
 ·exact absurd h.1 (by simp)
theorem kO (l : Addr) {a b : Int} {t u v : Tok} {n : Nat} (hsmall : Builtin.Range.small a b 1 = true)
  (hn : Builtin.Range.rangeSize a b 1 = n) (hlen : n <= 1000) :
  Meets (Builtin.«tuple.__new__» ⟨[.type "tuple", .ref l], []⟩)
   (fun A R s => A.handled = none /\ IsRange s.heap l a b 1 t u v /\ ∀ (h' : Heap) (tk : Nat) (acc' : Array Value), (∀ b o', s.heap.get? b = some o' -> h'.get? b = some o') -> ItemsOf (fun i v => ∃ t, v = .int (a + i * 1) t) acc' n -> R (.ok (.ret (.ref h'.objs.size))) { s with heap := h'.push { cls := .type "tuple", data := .seq acc' }, toks := tk }) :=
 .of_wp fun prog w A R s h => by
  obtain ⟨hp, g, d, tk, os⟩ := s
  obtain ⟨hh, ht, h⟩ := h
  have hsub := sub_tuple_self
  have hinit := init_tuple_lookup
  have hmh := madeHere_tuple
  have hT : Shared.TypeIs ⟨hp, g, d, tk, os⟩ (.ref l) "range" := ⟨_, ht, rfl⟩
  have hh' : A.in1.handled = none := hh
  wp_walk using AutoSeq1.wpAny_loadPart' ht, wpAny_typeOf hT, vn (A := A.in1) hh' ht hsmall hn (by omega)
  intro h' tk' acc' hk hacc
  show wpAny _ _ (Builtin.Tuple.tupleExact acc'.toList.toArray >>= fun v => ret v) _ _ _
  unfold Builtin.Tuple.tupleExact
  have e : acc'.toList.toArray = acc' := by simp
  refine wpAny_bind (wpAny_newObj_type ?_ (by show acc'.toList.toArray.size <= sizeLine; rw [e, hacc.1, sizeLine_eq]; omega))
  refine wpAny_pure ⟨_, rfl, ?_⟩
  rw [e]
  exact h h' tk' acc' hk hacc
theorem qv (hc : X.calm = true) : bR X (.type "tuple") (fun xs H Q => ∃ p i j, xs = [.ref p] /\ H p = some (.rng i j) /\ (-(2 ^ 62) <= i /\ i < 2 ^ 62 /\ -(2 ^ 62) <= j /\ j < 2 ^ 62) /\ (j - i).toNat <= 1000 /\ ∀ l, H l = none -> Q (.ref l) (upd H l (.tup ((aS i j).map V.int)))) := by
 intro pins s σ H xs us Q I r h
 obtain ⟨p, i, j, rfl, hp, ⟨b1, b2, b3, b4⟩, hn, q⟩ := h
 obtain ⟨u, rfl, rx⟩ := vals1 r
 cases rx
 obtain ⟨t, u', v, e⟩ := I.hok p _ hp
 refine callType_new F.called_tuple (by decide) (F.typeCall_tuple_1 _) (F.newCall_tuple_1 _) (fun obj => F.args_object_init_2 obj _) F.entry_tuple_new
  (kO (n := (j - i).toNat) p (small_one b1 b2 b3 b4) z_ hn) ⟨I.ok.hd hc, e, fun h' tk acc' hk hacc => ⟨⟨_, Heap.get?_push_size _ rfl, rfl⟩, ?_⟩⟩
 have I1 : Inv X pins σ H { s with heap := h', toks := tk } := I.kept hk
 refine ⟨.ref h'.objs.size, _, I1.laid (t' := tk) (o := .tup ((aS i j).map V.int)) (fun b o e => Heap.get?_push_of_some _ e) (Nat.le_refl _) ⟨?_, acc'.toList, pG hacc, ?_⟩, rfl, q _ (I1.hok.fresh (Nat.le_refl _))⟩
 ·rw [List.length_map, cP, sizeLine_eq]; omega
 ·have e : acc'.toList.toArray = acc' := by simp
  rw [e]
  exact fZ.new _ _
def LI (K : PySem.W.Frag) (te : TE) : TE := fun σ H Q => te σ H fun x H1 => ∃ a xs, x = .ref a /\ gy K H1 a xs /\ ∀ p, H1 p = none -> Q (.ref p) (upd H1 p (.lst xs.reverse))
theorem E7 {e : Expr} {te : TE} {p2 pos up cp : Pos} {kk : Nat} (he : PE X e te) : PE X (.Subscript e (.Slice none none (some (.UnaryOp .USub (.Constant (.int 1) kk cp) up)) p2) pos) (LI X.K te) := by
 intro pins s σ H Q I h
 refine Subscript_ (cQ (he pins s σ H _ I h) fun v s1 ⟨x, H1, I1, r1, a, xs, ex, hq, q⟩ => ?_)
 subst ex
 cases r1
 refine wpAny_Slice ?_
 rw [evalPart_none]
 refine wpAny_pure ?_
 refine wpAny_pure ?_
 rw [evalPart_some]
 refine cQ ((Av (a := .Constant (.int 1) kk cp) vQ vK) pins s1 σ H1 (fun v H' => v = .int (-1) /\ H' = H1) I1 ⟨1, rfl, rfl, rfl⟩) fun vs s3 ⟨y, H3, I3, r3, ey, eH⟩ => ?_
 subst ey eH
 obtain ⟨t, rfl⟩ := r3
 have I4 : Inv X pins σ H3 { s3 with heap := s3.heap.push { cls := .type "slice", data := .fields #[.none, .none, .int (-1) t] } } := I3.kept (t' := s3.toks) fun b ob q => Heap.get?_push_of_some _ q
 obtain ⟨its, rv, pl, hz⟩ := I4.list hq
 show wpAny (model X.prog X.w) X.A (subscriptTail e (.Slice none none (some (.UnaryOp .USub (.Constant (.int 1) kk cp) up)) p2) (.ref a) (.ref s3.heap.objs.size)) (EP X pins σ Q) X.xe { s3 with heap := s3.heap.push { cls := .type "slice", data := .fields #[.none, .none, .int (-1) t] } }
 refine tail_any (ops := [.ref a, .ref s3.heap.objs.size]) pl.isList.typeIs slot_list_getitem.lookup ?_ (by with_unfolding_all rfl)
 have hlen := rv.length
 refine wpAny_getItem_list_slice pl.isList (Heap.IsSliceOf.new ..) .none .none (.int (-1) t) (by decide) ?_ (by rw [List.size_toArray] <;> omega)
 rw [PySem.W.krv_pick]
 refine ⟨.ref _, _, I4.zF (t' := s3.toks) (ys := xs.reverse) (its := its.reverse) rv.reverse (by rw [List.length_reverse]; exact hz), rfl, q _ I4.fresh⟩
theorem uq {c : String} : bR X (.builtin "isinstance") (fun xs H Q => ∃ x t b, xs = [x, .ty c] /\ TyOf X.K H x t /\ PySem.W.kitOne X.K t (.type c) = some b /\ Q (.bl b) H) := by
 intro pins s σ H xs us Q I r h
 obtain ⟨x, t, b, rfl, ty, e, q⟩ := h
 obtain ⟨u, w', rfl, rx, rc⟩ := vals2 r
 cases rc
 exact zW I rx ty e fun tk => ⟨.bl b, H, I.tok tk, rfl, q⟩
def Hx (K : PySem.W.Frag) : R2 := fun x y H Q => ∃ a b ys, x = .ref a /\ y = .ref b /\ dZ K H a [] /\ dZ K H b ys /\ Q (.ref b) H
theorem CT : fY X (binaryOp .Add) (Hx X.K) := by
 intro pins s σ H x y v u Q I rx ry h
 obtain ⟨a, b, ys, rfl, rfl, h1, h2, q⟩ := h
 cases rx
 cases ry
 obtain ⟨us, r1, p1, _⟩ := I.tuple h1
 obtain ⟨ws, r2, p2, _⟩ := I.tuple h2
 cases r1
 obtain ⟨⟨cls, dd, data, sl⟩, ho, hc, n, hd⟩ := id p1
 obtain ⟨⟨cls2, dd2, data2, sl2⟩, ho2, hc2, n2, hd2⟩ := id p2
 simp only at hc hd hc2 hd2
 subst hc hd hc2 hd2
 exact concat_meets ⟨_, ho, rfl⟩ ⟨_, ho2, rfl⟩ noFill_tuple_add seq_tuple_add PySem.F.slot_tuple_add PySem.F.entry_tuple_add (PySem.F.args_tuple_add_2 _ _)
   (tuple_addW0 a b _ ws.toArray n n2 dd dd2 sl sl2 (by simp)) ⟨ho, ho2, ⟨.ref b, H, I, rfl, q⟩⟩
end
end L2
namespace L2
open PySem PySem.Spec PyProof.Rows
theorem b_ : bootBuiltins "len" = some (.builtin "len") := by decide +kernel
theorem qc : bootBuiltins "abs" = some (.builtin "abs") := by decide +kernel
theorem Af : bootBuiltins "all" = some (.builtin "all") := by decide +kernel
theorem Hg : bootBuiltins "max" = some (.builtin "max") := by decide +kernel
theorem IE : bootBuiltins "min" = some (.builtin "min") := by decide +kernel
theorem cR : bootBuiltins "isinstance" = some (.builtin "isinstance") := by decide +kernel
theorem wu : bootBuiltins "int" = some (.type "int") := by decide +kernel
theorem xK : bootBuiltins "bool" = some (.type "bool") := by decide +kernel
theorem fS : bootBuiltins "list" = some (.type "list") := by decide +kernel
theorem ji : bootBuiltins "tuple" = some (.type "tuple") := by decide +kernel
theorem qx : bootBuiltins "range" = some (.type "range") := by decide +kernel
structure Blt (mg : Str -> Option Value) : Prop where
 len : mg "len" = none
 abs : mg "abs" = none
 all : mg "all" = none
 any : mg "any" = none
 max : mg "max" = none
 min : mg "min" = none
 sorted : mg "sorted" = none
 isinstance : mg "isinstance" = none
 int : mg "int" = none
 bool : mg "bool" = none
 str : mg "str" = none
 list : mg "list" = none
 tuple : mg "tuple" = none
 range : mg "range" = none
section
variable {X : Cx}
end
theorem sL (i j : Int) : (aS i j).Pairwise (· <= ·) := by
 unfold aS
 rw [List.pairwise_map]
 exact List.pairwise_lt_range.imp fun h => by omega
theorem jv (i j : Int) : (aS i j).Nodup := by
 unfold aS
 rw [List.Nodup, List.pairwise_map]
 exact List.pairwise_lt_range.imp fun h => by omega
theorem cG {i j k : Int} : k ∈ aS i j ↔ i <= k /\ k < j := by
 unfold aS
 rw [List.mem_map]
 constructor
 ·rintro ⟨a, ha, rfl⟩
  have := List.mem_range.mp ha
  omega
 ·rintro ⟨h1, h2⟩
  exact ⟨(k - i).toNat, List.mem_range.mpr (by omega), by omega⟩
theorem oi : ∀ {l m : List Int}, l.Nodup -> (∀ x ∈ l, x ∈ m) -> m.length <= l.length -> l.Perm m
 | [], m, _, _, h => by
  have : m = [] := List.length_eq_zero_iff.mp (Nat.le_zero.mp h)
  rw [this]
 | a :: l, m, nd, hs, hl => by
  have ha : a ∈ m := hs a List.mem_cons_self
  have nd' := List.nodup_cons.mp nd
  have pm : m.Perm (a :: m.erase a) := List.perm_cons_erase ha
  have ih := oi (l := l) (m := m.erase a) nd'.2 (fun x hx => by
   have hxa : x ≠ a := fun e => nd'.1 (e ▸ hx)
   exact (List.mem_erase_of_ne hxa).mpr (hs x (List.mem_cons_of_mem _ hx))) (by
   rw [List.length_erase_of_mem ha]
   simp only [List.length_cons] at hl
   omega)
  exact (List.Perm.cons a ih).trans pm.symm
def Kn (P : Program) (w : World) (K : PySem.W.Frag) (mg : Str -> Option Value) (base : Heap) (k : Nat) (x : Str) (ps : List Str) (sp : Sp) : Prop :=
 ∃ (f : Addr) (fd : FuncData), FnOk P w K mg base iB k f fd ps sp /\ mg x = some (.ref f) /\ PySem.W.keepIn K (.ref f) = true /\ Binds K fd ps []
theorem J7 {X : Cx} {k : Nat} {x : Str} {ps : List Str} {sp : Sp} {e : Expr} {es : List Expr} {t : TA} {p pos : Pos} (G : Kn X.prog X.w X.K X.mg X.base k x ps sp) (hr : Room k X.A) (ha : PA X (e :: es) t) (hg : Gl X x := by rfl)
  (hdb : (x == ("__debug__" : Str)) = false := by decide) (hs : starEach (e :: es) X.env = (false, eval e X.env) :: starEach es X.env := by rfl) (hplain : (backTo pos (starEach es X.env)).any (·.1) = false := by rfl) :
  PE X (.Call (.Name x p) (e :: es) [] pos) (Gi sp [] E0 t) := by
 obtain ⟨f, fd, F, hm, hk, hb⟩ := G
 exact El F hr hg hm hk hb .nil Kg ha hdb hs hplain
def pK (XN fs : List Str) : List Str -> List (Option Nat) -> Prop
 | [], [] => True
 | _ :: N, none :: c => pK XN fs N c
 | x :: N, some j :: c => XN[j]? = some x /\ x ∈ fs /\ pK XN fs N c
 | _, _ => False
theorem pK.len {XN fs : List Str} : ∀ {N : List Str} {c : List (Option Nat)}, pK XN fs N c -> c.length = N.length
 | [], [], _ => rfl
 | _ :: N, none :: c, h => congrArg (· + 1) (pK.len (N := N) (c := c) h)
 | _ :: N, some j :: c, h => congrArg (· + 1) (pK.len (N := N) (c := c) h.2.2)
 | [], _ :: _, h => h.elim
 | _ :: _, [], h => h.elim
theorem pK.cp {XN fs : List Str} : ∀ {N : List Str} {c : List (Option Nat)}, pK XN fs N c -> ∀ (i j : Nat) (x : Str), N[i]? = some x -> c[i]? = some (some j) -> XN[j]? = some x /\ x ∈ fs
 | [], [], _, i, j, x, h1, _ => by simp at h1
 | y :: N, none :: c, h, i, j, x, h1, h2 => by
  cases i with
  | zero => simp at h2
  | succ i => exact pK.cp (N := N) (c := c) h i j x (by simpa using h1) (by simpa using h2)
 | y :: N, some k :: c, h, i, j, x, h1, h2 => by
  cases i with
  | zero =>
   simp at h1 h2
   subst h1 h2
   exact ⟨h.1, h.2.1⟩
  | succ i => exact pK.cp (N := N) (c := c) h.2.2 i j x (by simpa using h1) (by simpa using h2)
 | [], _ :: _, h, _, _, _, _, _ => h.elim
 | _ :: _, [], h, _, _, _, _, _ => h.elim
theorem iH {X : Cx} {scope : Scope} {N : List Str} {cap : List (Option Nat)} (fs : List Str) (kind : scope.kind = .function) (nocell : ∀ y ∈ scope.names, y.2 ≠ .cell) (nm : ∀ y ∈ scope.names, y.2 = .local -> scope.names.lookup y.1 = some .local)
  (nolf : ∀ y ∈ scope.names, y.2 = .free -> scope.names.lookup y.1 ≠ some .local) (hf : ∀ y ∈ scope.names, y.2 = .free -> y.1 ∈ fs) (hfs : ∀ x ∈ fs, (x, NameKind.free) ∈ scope.names) (hk : ∀ x ∈ fs, X.env.kindOf x = some .cell \/ X.env.kindOf x = some .free) (cp : pK X.N fs N cap) : CpScope X scope N cap where
 kind := kind
 nocell := nocell
 nm := nm
 fr := fun y hy e => hk _ (hf y hy e)
 rl := fun y h => by
  have go : ∀ k, (k = NameKind.cell \/ k = NameKind.free) -> (relabel scope X.env).names.lookup y = some k -> (y, NameKind.free) ∈ scope.names := fun k hk e => by
   obtain ⟨⟨n', k'⟩, hm1, hm2⟩ := List.mem_map.mp (qa e)
   dsimp only at hm2
   split at hm2
   ·rename_i hc
    cases hm2
    have : k' = .free := by
     simp only [Bool.and_eq_true] at hc
     simpa using hc.1.1
    subst this
    exact hm1
   ·cases hm2
    rcases hk with rfl | rfl
    ·exact absurd rfl (nocell _ hm1)
    ·exact hm1
  rcases h with h | h
  ·exact go _ (.inl rfl) h
  ·exact go _ (.inr rfl) h
 len := cp.len
 nolf := fun x hx => nolf (x, .free) hx rfl
 cp := fun i j x h1 h2 => by
  obtain ⟨a, b⟩ := cp.cp i j x h1 h2
  exact ⟨a, hfs x b⟩
inductive Kd where
 | non | bl | int | str | lst | tup
 deriving DecidableEq
def Kd.ty : Kd -> Value
 | .non => .type "NoneType" | .bl => .type "bool" | .int => .type "int" | .str => .type "str" | .lst => .type "list" | .tup => .type "tuple"
def Ir (H : Hp) (x : V) : Kd -> Prop
 | .non => x = .non
 | .bl => ∃ b, x = .bl b
 | .int => ∃ i, x = .int i
 | .str => ∃ s, x = .str s
 | .lst => ∃ a xs, x = .ref a /\ H a = some (.lst xs)
 | .tup => ∃ a xs, x = .ref a /\ H a = some (.tup xs)
theorem Ir.LH {K : PySem.W.Frag} {H : Hp} {x : V} {k : Kd} (h : Ir H x k) : TyOf K H x k.ty := by
 cases k with
 | non => cases h; exact .non
 | bl => obtain ⟨b, rfl⟩ := h; exact .bl b
 | int => obtain ⟨b, rfl⟩ := h; exact .int b
 | str => obtain ⟨b, rfl⟩ := h; exact .str b
 | lst => obtain ⟨a, xs, rfl, e⟩ := h; exact .lst e
 | tup => obtain ⟨a, xs, rfl, e⟩ := h; exact .tup e
theorem EI {K : PySem.W.Frag} (k : Kd) : PySem.W.kitOne K k.ty (.type "int") = some (decide (k = .int \/ k = .bl)) := by cases k <;> rfl
theorem BX {K : PySem.W.Frag} (k : Kd) : PySem.W.kitOne K k.ty (.type "bool") = some (decide (k = .bl)) := by cases k <;> rfl
theorem kit_tuple {K : PySem.W.Frag} (k : Kd) : PySem.W.kitOne K k.ty (.type "tuple") = some (decide (k = .tup)) := by cases k <;> rfl
theorem Bx {K : PySem.W.Frag} (k : Kd) : PySem.W.kitOne K k.ty (.type "list") = some (decide (k = .lst)) := by cases k <;> rfl
end L2
namespace L2
open PySem PySem.Spec PyProof.Rows
section
variable {prog : Program} {w : World} {A : Around} {E : Value -> Shared -> Prop} {s : Shared}
theorem m7 {it t : Addr} {i : Nat} {items : Array Value} {x : Value} {Q : Value -> Shared -> Prop} (hit : s.heap.IsTupleIter it t i)
  (ht : s.heap.IsTuple t items) (hx : items[i]? = some x) (hQ : ∀ h', h'.IsTupleIter it t (i + 1) -> Heap.SameBut it s.heap h' -> Q x { s with heap := h' }) :
  wpAny (model prog w) A (Builtin.SmallTypes.nextOf (.ref it)) Q E s := by
 obtain ⟨o, ho, hc, hd⟩ := id hit
 obtain ⟨ol, hol, _, nl, hdl⟩ := ht
 unfold Builtin.SmallTypes.nextOf
 refine wpAny_bind (wpAny_callSpecial?_slot (name := Str.ofString "__next__") hit.typeIs F.slot_tuple_iterator_next
  (wpAny_call_entry F.slot_tuple_iterator_next hit.typeIs F.entry_tuple_iterator_next ?_ (F.args_tuple_iterator_next_1 _)))
 show wpAny _ _ (field (.ref it) 0 >>= _) _ _ s
 refine wpAny_bind (wpAny_field ho hd (x := .ref t) rfl ?_)
 show wpAny _ _ (if (Value.ref t == Value.none) = true then _ else _) _ _ s
 rw [if_neg (show ¬ ((Value.ref t == Value.none) = true) from Bool.false_ne_true)]
 show wpAny _ _ (field (.ref it) 1 >>= _) _ _ s
 refine wpAny_bind (wpAny_field ho hd (x := .int i 0) rfl ?_)
 show wpAny _ _ (seqItems? (.ref t) >>= _) _ _ s
 refine wpAny_bind (wpAny_seqItems hol hdl ?_)
 simp only [Int.toNat_natCast, hx]
 refine wpAny_bind (wpAny_setField ho hd (by simp) (wpAny_pure ⟨x, rfl, wpAny_pure (hQ _ ?_ (Heap.SameBut.update ..))⟩))
 exact ⟨_, Heap.get?_update_self _ ho (Obj.isFreed_of_fields (Obj.data_mapFields hd _)), (Obj.cls_mapFields ..).trans hc, by
  rw [Obj.data_mapFields hd]; simp [rawInt]⟩
theorem nN {it t : Addr} {i : Nat} {items : Array Value} {Q : Value -> Shared -> Prop} (hh : A.handled = none)
  (hit : s.heap.IsTupleIter it t i) (ht : s.heap.IsTuple t items) (hx : items[i]? = none)
  (hE : ∀ h' e, Heap.ExtBut it s.heap h' -> (∃ o, h'.get? e = some o /\ o.cls = .type "StopIteration") -> E (.ref e) { s with heap := h' }) :
  wpAny (model prog w) A (Builtin.SmallTypes.nextOf (.ref it)) Q E s := by
 obtain ⟨o, ho, hc, hd⟩ := id hit
 obtain ⟨ol, hol, _, nl, hdl⟩ := ht
 unfold Builtin.SmallTypes.nextOf
 refine wpAny_bind (wpAny_callSpecial?_slot (name := Str.ofString "__next__") hit.typeIs F.slot_tuple_iterator_next
  (wpAny_call_entry F.slot_tuple_iterator_next hit.typeIs F.entry_tuple_iterator_next ?_ (F.args_tuple_iterator_next_1 _)))
 show wpAny _ _ (field (.ref it) 0 >>= _) _ _ s
 refine wpAny_bind (wpAny_field ho hd (x := .ref t) rfl ?_)
 show wpAny _ _ (if (Value.ref t == Value.none) = true then _ else _) _ _ s
 rw [if_neg (show ¬ ((Value.ref t == Value.none) = true) from Bool.false_ne_true)]
 show wpAny _ _ (field (.ref it) 1 >>= _) _ _ s
 refine wpAny_bind (wpAny_field ho hd (x := .int i 0) rfl ?_)
 show wpAny _ _ (seqItems? (.ref t) >>= _) _ _ s
 refine wpAny_bind (wpAny_seqItems hol hdl ?_)
 simp only [Int.toNat_natCast, hx]
 refine wpAny_bind (wpAny_rule (wpAny_bind (wpAny_setField ho hd (by simp) ?_)))
 show wpAny _ _ (newExc (.type "StopIteration") [] >>= _) _ _ _
 refine wpAny_bind ?_
 simp only [newExc, newTuple]
 refine wpAny_bind (wpAny_newObj_type ?_ (by size_fits))
 refine wpAny_bind (m := firstArgMember _ _) (wpAny_of_eq (a := Value.none) (by first | rfl | (simp only [firstArgMember]; rfl)) ?_)
 refine wpAny_newObj_type ?_ (by size_fits)
 simp only [raiseNew]
 refine wpAny_bind (wpAny_handled ?_)
 first | rw [show A.in1.handled = none from hh] | rw [hh]
 refine wpAny_bind (wpAny_pure (wpAny_throw ?_))
 exact hE _ _ (((Heap.SameBut.update ..).extBut.push _).push _) ⟨_, Heap.get?_push_size _ rfl, rfl⟩
end
theorem Bm {prog : Program} {w : World} {A : Around} (hh : A.handled = none) (it l : Addr) (hne : l ≠ it) (items : Array Value) :
  Draws prog w A it [it, l] items.size (fun i v => items[i]? = some v) (fun i h => h.IsTupleIter it l i /\ h.IsTuple l items) where
 live := fun _ _ st => let ⟨o, ho, _⟩ := st.1; ⟨o, ho⟩
 frame := fun _ _ _ st hk => ⟨st.1.at fun o e => hk it (by simp) o e, let ⟨o, ho, r⟩ := st.2; ⟨o, hk l (by simp) o ho, r⟩⟩
 item := fun i s Q E hi st hQ => by
  refine m7 st.1 st.2 (x := items[i]) (by simp [hi]) fun h' hit' hs' => ?_
  exact hQ _ h' s.toks (by simp [hi]) ⟨hit', let ⟨o, ho, r⟩ := st.2; ⟨o, hs'.extBut l o hne ho, r⟩⟩ hs'
 done := fun s Q E st hE => nN hh st.1 st.2 (by simp) hE
theorem uM (l : Addr) (items : Array Value) :
  Meets (Builtin.«enumerate.__new__» ⟨[.type "enumerate", .ref l], []⟩) (fun _ R s => s.heap.IsTuple l items /\
   R (.ok (.ret (.ref (s.heap.push { cls := .type "tuple_iterator", data := .fields #[.ref l, .int 0 0] }).objs.size)))
    { s with heap := (s.heap.push { cls := .type "tuple_iterator", data := .fields #[.ref l, .int 0 0] }).push { cls := .type "enumerate", data := .fields #[.none, .bool false, .ref s.heap.objs.size, rawInt 0, .none, .none] } }) :=
 .of_wp fun prog w A R s h => by
  obtain ⟨hp, g, d, tk, os⟩ := s; obtain ⟨hl, h⟩ := h
  have hsub := sub_enumerate
  obtain ⟨ol, hol, hcl, nl, hdl⟩ := id hl
  wp_walk using AutoSeq1.wpAny_loadPart' hol
  refine wpAny_stack_any fun st => wpAny_pure ?_
  split
  ·rename_i c _ _ _ _ _
   cases (c == Value.type "enumerate")
   ·wp_walk using AutoSeq1.wpAny_loadPart' hol, wpAny_pyIter_tuple hl
    exact ⟨_, rfl, h⟩
   ·wp_walk using AutoSeq1.wpAny_loadPart' hol, wpAny_pyIter_tuple hl
    exact ⟨_, rfl, h⟩
  ·wp_walk using AutoSeq1.wpAny_loadPart' hol, wpAny_pyIter_tuple hl
   exact ⟨_, rfl, h⟩
def LP (K : PySem.W.Frag) (a : Addr) : It :=
 ⟨fun i H => ∃ xs x, dZ K H a xs /\ xs[i]? = some x, fun i H x H' => ∃ T, H T = none /\ x = .ref T /\ ∀ xs y, dZ K H a xs -> xs[i]? = some y -> H' = upd H T (.tup [.int i, y]), fun i H => ∃ xs, dZ K H a xs /\ xs.length = i⟩
theorem wA {P : Program} {w : World} {K : PySem.W.Frag} {elts : List Expr} {x1 : Nat} {tpos : Pos} (a e it : Addr) (hei : e ≠ it) : Turn P w K (.Tuple elts x1 tpos) (LP K a) [e, it] e (fun i h => (∃ old, IsEnum h e it i old) /\ h.IsTupleIter it a i) where
 mem := by simp
 obj := fun i h st b hb => by
  obtain ⟨⟨old, st1⟩, st2⟩ := st
  have hb' : b = e \/ b = it := by simpa using hb
  rcases hb' with rfl | rfl
  ·exact ⟨_, st1, fun v z => by cases z⟩
  ·obtain ⟨o, e, c, d⟩ := st2
   exact ⟨o, e, fun v z => by rw [d] at z; cases z⟩
 keep := fun i h h' st k => by
  obtain ⟨⟨old, st1⟩, st2⟩ := st
  exact ⟨⟨old, k e (by simp) _ st1⟩, st2.at fun o ho => k it (by simp) o ho⟩
 item := by
  intro X hP hw hK hc i pins s σ H E I hf st hg
  subst hP hw hK
  obtain ⟨⟨old, st1⟩, st2⟩ := st
  obtain ⟨xs, x, hq, hx⟩ := hg
  obtain ⟨its, rv, p, hz⟩ := I.tuple hq
  obtain ⟨u, hu, ru⟩ := rv.get hx
  have hia : a ≠ it := by
   obtain ⟨o, ho, hc1, _⟩ := p
   obtain ⟨o2, ho2, hc2, _⟩ := st2
   intro z
   rw [z, ho2] at ho
   cases ho
   rw [hc1] at hc2
   exact absurd (Value.type.inj hc2) (by decide)
  have hea : e ≠ a := by
   obtain ⟨o, ho, hc1, _⟩ := p
   intro z
   rw [<- z, st1] at ho
   cases ho
   exact absurd (Value.type.inj hc1) (by decide)
  have hlt : i < its.toArray.size := by
   rw [List.size_toArray]
   exact (List.getElem?_eq_some_iff.mp hu).1
  refine wpAny_pyNext_enum_itemD (Bm (A := X.A.in1) (I.ok.hd hc) it a hia its.toArray) st1 ⟨st2, p⟩ hlt hei (by simp [hei, hea]) fun x' h' tk hP hout hst hT hsz hk => ?_
  have ex : x' = u := by
   have : its.toArray[i]? = some u := by simpa using hu
   rw [this] at hP
   exact (Option.some.inj hP).symm
  subst ex
  refine ⟨_, rfl, wpAny_letOwnedTupleGo_enum hout fun h2 he2 hs2 => ?_⟩
  have fT : H s.heap.objs.size = none := I.hok.fresh (Nat.le_refl _)
  have hel : e < s.heap.objs.size := Heap.lt_size st1
  have hil : it < s.heap.objs.size := by obtain ⟨o, ho, _⟩ := st2; exact Heap.lt_size ho
  have k2 : ∀ b o, b ≠ e -> b ≠ it -> s.heap.get? b = some o -> h2.get? b = some o := fun b o h1 h3 q => hs2.extBut b o h1 (hk b o h1 h3 q)
  have hT2 : h2.get? s.heap.objs.size = some { cls := .type "tuple", data := .seq #[.int i tk, x'] } := hs2.extBut _ _ (Nat.ne_of_gt hel) hT
  obtain ⟨e0, e1, e2, e3, e4, e5⟩ := hf e (by simp)
  obtain ⟨i0, i1, i2, i3, i4, i5⟩ := hf it (by simp)
  have nT : ∀ b o, s.heap.get? b = some o -> b ≠ s.heap.objs.size := fun b o q => Nat.ne_of_lt (Heap.lt_size q)
  have ne_tr : ∀ c v, H c = some v -> c ≠ e /\ c ≠ it := fun c v q => ⟨(fun z => by rw [z, e0] at q; cases q), (fun z => by rw [z, i0] at q; cases q)⟩
  have I2 : Inv X pins σ (upd H s.heap.objs.size (.tup [.int i, x])) { s with heap := h2, toks := tk + 1 } := by
   refine I.step (g' := s.gens) (d' := s.drawn) (ch := [e, it]) (fun b hb => ?_) (fun b o _ _ hch q _ => ?_) (fun b o _ _ hch q _ => ?_) (fun b o hch q n => ?_) (fun b o hch q => ?_) (fun b ys q => ?_) (fun b o u' q => ?_) (fun b ps q => ?_) (fun m hm => ?_) (fun b u' q => ?_) I.bare
   ·have hb' : b = e \/ b = it := by simpa using hb
    rcases hb' with rfl | rfl
    ·exact ⟨e3, e1, e4, e5⟩
    ·exact ⟨i3, i1, i4, i5⟩
   ·exact k2 b o (fun z => hch (by simp [z])) (fun z => hch (by simp [z])) q
   ·exact ⟨o.slots, k2 b o (fun z => hch (by simp [z])) (fun z => hch (by simp [z])) q⟩
   ·rw [aO (nT b o q)]; exact n
   ·exact ⟨o, k2 b o (fun z => hch (by simp [z])) (fun z => hch (by simp [z])) q⟩
   ·rw [aO (aV q fT)]; exact q
   ·rw [aO (aV q fT)]; exact q
   ·exact ⟨#[], by rw [aO (aV q fT), q]; simp⟩
   ·obtain ⟨o, es, ep, ho, r⟩ := hm
    exact ⟨o, es, ep, k2 _ o (Ne.symm e1) (Ne.symm i1) ho, r⟩
   ·by_cases z : b = s.heap.objs.size
    ·subst z
     rw [bL] at q
     cases q
     exact ⟨by show 2 <= sizeLine; decide, [.int i tk, x'], .cons ⟨tk, rfl⟩ (.cons ru .nil), ⟨_, hT2, rfl, rfl, 0, rfl⟩⟩
    ·rw [aO z] at q
     refine (I.hok b u' q).stay (fun c v hc q' => k2 c v ?_ ?_ q') (fun c q' => ?_) fun c ys q' => ?_
     ·rcases hc with z | z
      ·rw [z]; exact (ne_tr b u' q).1
      ·exact (ne_tr c _ z).1
     ·rcases hc with z | z
      ·rw [z]; exact (ne_tr b u' q).2
      ·exact (ne_tr c _ z).2
     ·rw [aO (aV q' fT)]; exact q'
     ·rw [aO (aV q' fT)]; exact q'
  refine ⟨.ref s.heap.objs.size, _, I2, rfl, ⟨s.heap.objs.size, fT, rfl, fun ys y hy hyi => ?_⟩, ⟨⟨x', by simpa using he2⟩, ?_⟩, fun b hb => ?_⟩
  ·rw [I.nQ hy hq] at hyi
   rw [hx] at hyi
   cases hyi
   rfl
  ·exact hst.1.at fun o ho => hs2.extBut it o (Ne.symm hei) ho
  ·have hb' : b = e \/ b = it := by simpa using hb
   rcases hb' with rfl | rfl
   ·rw [aO (Nat.ne_of_lt hel)]; exact e0
   ·rw [aO (Nat.ne_of_lt hil)]; exact i0
 done := by
  intro X hP hw hK hc i pins s σ H E I hf st hg
  subst hP hw hK
  obtain ⟨⟨old, st1⟩, st2⟩ := st
  obtain ⟨xs, hq, hx⟩ := hg
  obtain ⟨its, rv, p, hz⟩ := I.tuple hq
  obtain ⟨i0, i1, i2, i3, i4, i5⟩ := hf it (by simp)
  have hia : a ≠ it := by
   obtain ⟨o, ho, hc1, _⟩ := p
   obtain ⟨o2, ho2, hc2, _⟩ := st2
   intro z
   rw [z, ho2] at ho
   cases ho
   rw [hc1] at hc2
   exact absurd (Value.type.inj hc2) (by decide)
  have hl := rv.length
  have ei : its.toArray.size = i := by rw [List.size_toArray, <- hl, hx]
  exact wpAny_pyNext_enum_endD (Bm (A := X.A.in1) (I.ok.hd hc) it a hia its.toArray) st1 ⟨by rw [ei]; exact st2, p⟩ fun h' eb => ⟨rfl, I.turned (t' := s.toks) (fun b o hb q => eb b o hb q) i0 i1 i3 i4 i5⟩
 self := fun _ _ _ _ _ st h => let ⟨⟨_, st1⟩, _⟩ := st; wpAny_pyIter_enum st1 h
theorem m9 : bootBuiltins "enumerate" = some (.type "enumerate") := by decide +kernel
section
variable {X : Cx}
def JH (K : PySem.W.Frag) (ta : TA) : TI := fun σ H R => ta σ H fun vs H1 => ∃ a xs, vs = [.ref a] /\ dZ K H1 a xs /\ R (LP K a) H1
theorem A_ {elts : List Expr} {x1 : Nat} {tpos : Pos} {a : Expr} {ta : TA} {p pos : Pos} (hg : Gl X "enumerate") (hm : X.mg "enumerate" = none) (ha : PA X [a] ta) (hs : starEach [a] X.env = [(false, eval a X.env)] := by rfl) : PI X (.Tuple elts x1 tpos) (.Call (.Name "enumerate" p) [a] [] pos) (JH X.K ta) := by
 intro pins s σ H R I h
 refine Call_ (mh I hg hm m9 (PyProof.Rows.callWith_type1 (cQ (ha pos pins s σ H _ I h) fun us s1 ⟨vs, H1, I1, r1, q1⟩ => ?_) hs rfl))
 obtain ⟨t, xs, e, hq, q⟩ := q1
 subst e
 obtain ⟨u, rfl, rx⟩ := vals1 r1
 cases rx
 obtain ⟨its, rv, pt, hz⟩ := I1.tuple hq
 refine callType_new F.called_enumerate (by decide) (F.typeCall_enumerate_1 _) (F.newCall_enumerate_1 _) (fun obj => F.args_object_init_2 obj _) F.entry_enumerate_new (uM t its.toArray) ⟨pt, ⟨_, Heap.get?_push_size _ rfl, rfl⟩, ?_⟩
 have I2 : Inv X pins σ H1 { s1 with heap := s1.heap.push { cls := .type "tuple_iterator", data := .fields #[.ref t, .int 0 0] } } := I1.kept (t' := s1.toks) fun b o e => Heap.get?_push_of_some _ e
 have I3 : Inv X pins σ H1 { s1 with heap := (s1.heap.push { cls := .type "tuple_iterator", data := .fields #[.ref t, .int 0 0] }).push { cls := .type "enumerate", data := .fields #[.none, .bool false, .ref s1.heap.objs.size, rawInt 0, .none, .none] } } := I2.kept (t' := s1.toks) fun b o e => Heap.get?_push_of_some _ e
 have he : IsEnum ((s1.heap.push { cls := .type "tuple_iterator", data := .fields #[.ref t, .int 0 0] }).push { cls := .type "enumerate", data := .fields #[.none, .bool false, .ref s1.heap.objs.size, rawInt 0, .none, .none] }) (s1.heap.push { cls := .type "tuple_iterator", data := .fields #[.ref t, .int 0 0] }).objs.size s1.heap.objs.size 0 .none := Heap.get?_push_size _ rfl
 have hit : ((s1.heap.push { cls := .type "tuple_iterator", data := .fields #[.ref t, .int 0 0] }).push { cls := .type "enumerate", data := .fields #[.none, .bool false, .ref s1.heap.objs.size, rawInt 0, .none, .none] }).IsTupleIter s1.heap.objs.size t 0 := ⟨_, Heap.get?_push_of_some _ (Heap.get?_push_size _ rfl), rfl, rfl⟩
 have hne : (s1.heap.push { cls := .type "tuple_iterator", data := .fields #[.ref t, .int 0 0] }).objs.size ≠ s1.heap.objs.size := by rw [Heap.size_push]; exact Nat.ne_of_gt (Nat.lt_succ_self _)
 refine wpAny_pyIter_enum he ⟨_, [_, s1.heap.objs.size], _, _, H1, rfl, I3, wA t _ s1.heap.objs.size hne, ⟨⟨.none, he⟩, hit⟩, fun b hb => ?_, q⟩
 have hb' : b = (s1.heap.push { cls := .type "tuple_iterator", data := .fields #[.ref t, .int 0 0] }).objs.size \/ b = s1.heap.objs.size := by simpa using hb
 rcases hb' with rfl | rfl
 ·exact I1.rW (by rw [Heap.size_push]; exact Nat.le_succ _) (I2.hok.fresh (Nat.le_refl _))
 ·exact I1.rW (Nat.le_refl _) (I1.hok.fresh (Nat.le_refl _))
end
end L2
namespace L2
open PySem PySem.Spec PyProof.Rows
section
variable {prog : Program} {w : World} {A : Around} {E : Value -> Shared -> Prop} {s : Shared}
theorem wk (n : Nat) : Builtin.Slice.sliceAdjust none none (-1) (n : Int) = ((n : Int) - 1, -1) := by
 unfold Builtin.Slice.sliceAdjust
 rfl
theorem vO (n : Nat) : Builtin.Slice.slicePlaces ((n : Int) - 1) (-1) (-1) = n := by
 unfold Builtin.Slice.slicePlaces
 have h1 : ¬ ((-1 : Int) > 0) := by decide
 simp only [h1, if_false]
 by_cases h : n = 0
 ·subst h; simp
 ·rw [if_pos (by omega)]
  rw [show (- -1 : Int) = 1 by decide, Int.ediv_one]
  omega
theorem nM {sl : Addr} {t : Tok} {n : Nat} {Q : Int × Int × Nat -> Shared -> Prop} (hs : s.heap.IsSliceOf sl .none .none (.int (-1) t))
  (h : Q ((n : Int) - 1, -1, n) s) : wpAny (model prog w) A (Builtin.Slice.sliceApplied (.ref sl) (pure (n : Int))) Q E s := by
 obtain ⟨os, hos, hcs, hds⟩ := id hs
 unfold Builtin.Slice.sliceApplied Builtin.Slice.sliceFields
 refine wpAny_bind (wpAny_bind (wpAny_field hos hds (x := .none) rfl (wpAny_bind (wpAny_field hos hds (x := .none) rfl (wpAny_bind (wpAny_field hos hds (x := .int (-1) t) rfl (wpAny_pure ?_)))))))
 refine wpAny_bind (slicePart_int ?_)
 show wpAny _ _ (if ((-1 : Int) == 0) = true then _ else _) _ _ s
 rw [if_neg (by decide)]
 refine wpAny_bind (slicePart_none (wpAny_bind (slicePart_none (wpAny_bind (wpAny_pure ?_)))))
 show wpAny _ _ (match Builtin.Slice.sliceAdjust none none (-1) (n : Int) with | (lo, hi) => pure (lo, (-1 : Int), Builtin.Slice.slicePlaces lo hi (-1))) _ _ s
 rw [wk n]
 show wpAny _ _ (pure ((n : Int) - 1, (-1 : Int), Builtin.Slice.slicePlaces ((n : Int) - 1) (-1) (-1))) _ _ s
 rw [vO]
 exact wpAny_pure h
theorem Dw (xs : Array Value) : ((List.range xs.size).filterMap fun (m : Nat) => xs[((xs.size : Int) - 1 + (m : Int) * (-1)).toNat]?).toArray = xs.toList.reverse.toArray := by
 have e : (fun (m : Nat) => xs[((xs.size : Int) - 1 + (m : Int) * (-1)).toNat]?) = (fun x => xs[x]?) ∘ fun k => xs.size - 1 - k := by
  funext m
  have : ((xs.size : Int) - 1 + (m : Int) * (-1)).toNat = xs.size - 1 - m := by omega
  show xs[((xs.size : Int) - 1 + (m : Int) * (-1)).toNat]? = xs[xs.size - 1 - m]?
  rw [this]
 rw [e, <- List.filterMap_map, PySem.W.krv_range, List.filterMap_reverse, PySem.W.krv_all]
theorem mX {t sl : Addr} {items : Array Value} {tk : Tok} {Q : Value -> Shared -> Prop} (ht : IsTup s.heap t items) (hs : s.heap.IsSliceOf sl .none .none (.int (-1) tk))
  (h : Q (.ref s.heap.objs.size) { s with heap := s.heap.push { cls := .type "tuple", data := .seq items.toList.reverse.toArray } })
  (hsz : items.size <= sizeLine) : wpAny (model prog w) A (getItem (.ref t) (.ref sl)) Q E s := by
 have htake : sizeOk (.seq items.toList.reverse.toArray) := by
  show items.toList.reverse.toArray.size <= sizeLine
  rw [List.size_toArray, List.length_reverse, Array.length_toList]
  exact hsz
 obtain ⟨os, hos, hcs, hds⟩ := id hs
 have hTs : s.TypeIs (.ref sl) "slice" := ⟨os, hos, hcs⟩
 unfold getItem
 try with_reducible refine wpAny_holding ?_
 first | refine wpAny_bind (wpAny_pure ?_) | skip
 refine wpAny_bind (wpAny_sequenceKey ht.typeIs (by decide) ?_)
 refine wpAny_bind (wpAny_callSpecial?_slot (name := Str.ofString "__getitem__") ht.typeIs PyProof.Rows.slot_tuple_getitem
  (wpAny_call_entry PyProof.Rows.slot_tuple_getitem ht.typeIs entry_tuple_getitem ?_ (args_tuple_getitem _ _)))
 show wpAny _ _ (Builtin.Tuple.tupleItemsOf (.ref t) >>= _) _ _ s
 refine wpAny_bind (tupleItemsOf_ ht ?_)
 refine wpAny_bind (wpAny_typeOf hTs ?_)
 rw [if_pos (by decide)]
 refine wpAny_bind (nM hs ?_)
 have hno : ¬ ((((items.size : Int) - 1) == 0 && (-1 : Int) == 1 && items.size == items.size) = true) := by
  intro q
  rw [Bool.and_eq_true, Bool.and_eq_true] at q
  exact absurd q.1.2 (by decide)
 show wpAny _ _ (if (((items.size : Int) - 1) == 0 && (-1 : Int) == 1 && items.size == items.size) = true then _ else _) _ _ s
 rw [if_neg hno, Dw]
 first
  | exact wpAny_bind (m := Builtin.Tuple.tupleExact _) (wpAny_newObj_type (wpAny_pure ⟨_, rfl, wpAny_pure h⟩) htake)
  | exact wpAny_bind (m := Builtin.Tuple.tupleExact _) (wpAny_newObj_type (wpAny_bind (wpAny_pure (wpAny_pure ⟨_, rfl, wpAny_pure h⟩))) htake)
  | exact wpAny_bind (wpAny_bind (m := Builtin.Tuple.tupleExact _) (wpAny_newObj_type (wpAny_pure (wpAny_pure ⟨_, rfl, wpAny_pure h⟩)) htake))
  | exact wpAny_bind (wpAny_bind (m := Builtin.Tuple.tupleExact _) (wpAny_newObj_type (wpAny_pure ⟨_, rfl, wpAny_pure h⟩) htake))
end
section
variable {X : Cx}
def JA (K : PySem.W.Frag) (te : TE) : TE := fun σ H Q => te σ H fun x H1 => ∃ a xs, x = .ref a /\ dZ K H1 a xs /\ ∀ p, H1 p = none -> Q (.ref p) (upd H1 p (.tup xs.reverse))
theorem yf {e : Expr} {te : TE} {p2 pos up cp : Pos} {kk : Nat} (he : PE X e te) : PE X (.Subscript e (.Slice none none (some (.UnaryOp .USub (.Constant (.int 1) kk cp) up)) p2) pos) (JA X.K te) := by
 intro pins s σ H Q I h
 refine Subscript_ (cQ (he pins s σ H _ I h) fun v s1 ⟨x, H1, I1, r1, a, xs, ex, hq, q⟩ => ?_)
 subst ex
 cases r1
 refine wpAny_Slice ?_
 rw [evalPart_none]
 refine wpAny_pure ?_
 refine wpAny_pure ?_
 rw [evalPart_some]
 refine cQ ((Av (a := .Constant (.int 1) kk cp) vQ vK) pins s1 σ H1 (fun v H' => v = .int (-1) /\ H' = H1) I1 ⟨1, rfl, rfl, rfl⟩) fun vs s3 ⟨y, H3, I3, r3, ey, eH⟩ => ?_
 subst ey eH
 obtain ⟨t, rfl⟩ := r3
 have I4 : Inv X pins σ H3 { s3 with heap := s3.heap.push { cls := .type "slice", data := .fields #[.none, .none, .int (-1) t] } } := I3.kept (t' := s3.toks) fun b ob q => Heap.get?_push_of_some _ q
 obtain ⟨its, rv, pl, hz⟩ := I4.tuple hq
 show wpAny (model X.prog X.w) X.A (subscriptTail e (.Slice none none (some (.UnaryOp .USub (.Constant (.int 1) kk cp) up)) p2) (.ref a) (.ref s3.heap.objs.size)) (EP X pins σ Q) X.xe { s3 with heap := s3.heap.push { cls := .type "slice", data := .fields #[.none, .none, .int (-1) t] } }
 refine tail_any (ops := [.ref a, .ref s3.heap.objs.size]) pl.typeIs PyProof.Rows.slot_tuple_getitem.lookup ?_ (by with_unfolding_all rfl)
 have hlen := rv.length
 refine mX pl (Heap.IsSliceOf.new ..) ?_ (by rw [List.size_toArray] <;> omega)
 refine ⟨.ref _, _, I4.laid (t' := s3.toks) (o := .tup xs.reverse) (fun b o e => Heap.get?_push_of_some _ e) (Nat.le_refl _) ⟨by rw [List.length_reverse]; exact hz, its.reverse, rv.reverse, ?_⟩, rfl, q _ I4.fresh⟩
 exact fZ.new _ _
end
end L2
namespace L2
open PySem PySem.Spec PyProof.Rows
theorem sF (elt t1 i1 t2 i2 : Expr) (f1 f2 : List Expr) (scope : Scope) (pos : Pos) (it acc : Value) (env : Env) :
  compTurn (.ListComp elt [⟨t1, i1, f1, 0⟩, ⟨t2, i2, f2, 0⟩] scope pos) 0 it acc env = (do
   standAt i1.pos
   match <- pyNext it with
   | none => pure (.done .next)
   | some v =>
    letOwnedTupleGo t1 it v
    assign t1 env v
    let mut ok := true
    for c in f1 do
     if ok then ok <- isTrue c env (eval c env)
    if ok then
     let x <- eval i2 env
     standAt i2.pos
     let x <- foldedSetIterable i2 env x
     let _ <- runOwn (.compStart (.ListComp elt [⟨t1, i1, f1, 0⟩, ⟨t2, i2, f2, 0⟩] scope pos) 1 (<- holding [x] (pyIter x)) acc env) env
    again (.compLoop (.ListComp elt [⟨t1, i1, f1, 0⟩, ⟨t2, i2, f2, 0⟩] scope pos) 0 it acc env)) := by rfl
theorem rY (elt t1 i1 t2 i2 : Expr) (f1 f2 : List Expr) (scope : Scope) (pos : Pos) (it acc : Value) (env : Env) :
  compTurn (.ListComp elt [⟨t1, i1, f1, 0⟩, ⟨t2, i2, f2, 0⟩] scope pos) 1 it acc env = (do
   standAt i2.pos
   match <- pyNext it with
   | none => pure (.done .next)
   | some v =>
    letOwnedTupleGo t2 it v
    assign t2 env v
    let mut ok := true
    for c in f2 do
     if ok then ok <- isTrue c env (eval c env)
    if ok then
     (do let _ <- call (.builtin "list.append") [acc, <- eval elt env])
    again (.compLoop (.ListComp elt [⟨t1, i1, f1, 0⟩, ⟨t2, i2, f2, 0⟩] scope pos) 1 it acc env)) := by rfl
section
variable {prog : Program} {w : World} {A : Around} {R : Result -> Shared -> Prop} {s : Shared}
theorem jL {elt t1 i1 t2 i2 : Expr} {f1 f2 : List Expr} {scope : Scope} {pos : Pos} {it acc : Value} {env : Env}
  (h0 : codeAny (model prog w) A (.compLoop (.ListComp elt [⟨t1, i1, f1, 0⟩, ⟨t2, i2, f2, 0⟩] scope pos) 1 it acc env) R s)
  (h : wpAny (model prog w) A (pyIter it) (fun it' s' => codeAny (model prog w) A (.compLoop (.ListComp elt [⟨t1, i1, f1, 0⟩, ⟨t2, i2, f2, 0⟩] scope pos) 1 it' acc env) R s')
   (notedBy (model prog w) A env fun x s' => R (.error x) s') s) :
  codeAny (model prog w) A (.compStart (.ListComp elt [⟨t1, i1, f1, 0⟩, ⟨t2, i2, f2, 0⟩] scope pos) 1 it acc env) R s := by
 refine codeAny_of_tree ?_
 show wpAny _ _ ((compStart (.ListComp elt [⟨t1, i1, f1, 0⟩, ⟨t2, i2, f2, 0⟩] scope pos) 1 it acc env).onRaise (fun x => do noteFrame x env; standAt theWindowsPlace)) _ _ s
 refine wpAny_notedAt ?_
 unfold compStart
 show wpAny _ _ (ask >>= _) _ _ s
 refine wpAny_bind (wpAny_askSetting (wpAny_ite ?_))
 split
 ·first
   | exact wpAny_bind (wpAny_pure (wpAny_pure (And.intro rfl h0)))
   | exact wpAny_pure (And.intro rfl h0)
 ·first
   | exact wpAny_bind (wpAny_rule (wpAny_bind (wpAny_standAt (wpAny_bind (wpAny_mono h (fun it' s' h' => wpAny_pure (And.intro rfl h')) fun _ _ x => x)))))
   | (refine wpAny_bind (wpAny_rule ?_); show wpAny _ _ (standAt i2.pos >>= _) _ _ s; exact wpAny_bind (wpAny_standAt (wpAny_bind (wpAny_mono h (fun it' s' h' => wpAny_pure (And.intro rfl h')) fun _ _ x => x))))
end
def BZ (g : TG) (tc : TT) (te : TE) (D : Addr) (Nn : L2.St -> Hp -> Prop) (σ : L2.St) (J : It) (H1 : Hp) : Prop :=
 ∃ V : Nat -> Nat -> L2.St -> Hp -> Prop, (∃ m, V 0 m σ H1) /\ ∀ i m σ' H', V i m σ' H' ->
  (J.stop i H' /\ Nn σ' H') \/ (J.go i H' /\ ∀ x H2, J.yld i H' x H2 -> g x σ' H2 fun σ3 H3 => tc σ3 H3 fun b H4 =>
   if b = true then te σ3 H4 fun y H5 => ∃ ys, H5 D = some (.lst ys) /\ ys.length < sizeLine /\ ∃ m', m' < m /\ V (i + 1) m' σ3 (upd H5 D (.lst (ys ++ [y])))
   else ∃ m', m' < m /\ V (i + 1) m' σ3 H4)
theorem vV {Z : Cx} {t1 i1 tg i2 elt : Expr} {f1 ifs : List Expr} {scope : Scope} {pos : Pos} {J : It} {fp : List Addr} {it D : Addr} {tn : Nat -> Heap -> Prop} {pins : List (Addr × Obj)} {σ : L2.St} {H : Hp} {s : Shared} {g : TG} {tc : TT} {te : TE} {Nn : L2.St -> Hp -> Prop}
  (hc : Z.calm = true) (hxe : Z.xe = fun _ _ => False) (T : Turn Z.prog Z.w Z.K tg J fp it tn) (I : Inv Z pins σ H s) (st : tn 0 s.heap) (hf : ∀ b ∈ fp, ju Z pins H b) (hg : PG Z tg g) (ht : DC Z ifs tc) (he : PE Z elt te) (goal : BZ g tc te D Nn σ J H) :
  codeAny (model Z.prog Z.w) Z.A (.compLoop (.ListComp elt [⟨t1, i1, f1, 0⟩, ⟨tg, i2, ifs, 0⟩] scope pos) 1 (.ref it) (.ref D) Z.env) (fun r s' => r = .ok .next /\ ∃ σ' H', Inv Z pins σ' H' s' /\ Nn σ' H') s := by
 obtain ⟨V, ⟨m0, v0⟩, turn⟩ := goal
 have stat : ∀ {H' : Hp}, (∀ b ∈ fp, H' b = none) -> ∀ b ∈ fp, ju Z pins H' b := fun hn b hb => ⟨hn b hb, (hf b hb).2⟩
 refine codeAny_loop rfl (fun n s' => ∃ i σ' H', Inv Z pins σ' H' s' /\ tn i s'.heap /\ (∀ b ∈ fp, H' b = none) /\ V i n σ' H') (fun n s5 hI => ?_) m0 ⟨0, σ, H, I, st, fun b hb => (hf b hb).1, v0⟩
 obtain ⟨i, σ5, H5, I5, st5, fr5, w5⟩ := hI
 show wpAny _ Z.A ((compTurn (.ListComp elt [⟨t1, i1, f1, 0⟩, ⟨tg, i2, ifs, 0⟩] scope pos) 1 (.ref it) (.ref D) Z.env).onRaise (fun x => do noteFrame x _; theTreesLotGoes x)) _ _ s5
 refine wpAny_noted ?_
 rw [rY]
 refine wpAny_bind (wpAny_standAt (wpAny_bind ?_))
 rcases turn i n σ5 H5 w5 with ⟨stop, q⟩ | ⟨go, step⟩
 ·refine cQ (T.done Z rfl rfl rfl hc i pins s5 σ5 H5 _ I5 (stat fr5) st5 stop) fun r s6 ⟨hr, I6⟩ => ?_
  subst hr
  exact wpAny_pure ⟨rfl, σ5, H5, I6, q⟩
 ·refine cQ (T.item Z rfl rfl rfl hc i pins s5 σ5 H5 _ I5 (stat fr5) st5 go) fun r s6 ⟨u, hr, h6⟩ => ?_
  subst hr
  refine wpAny_bind (cQ h6 fun _ s7 ⟨x, H7, I7, r7, y7, st7, fr7⟩ => ?_)
  have I7' := I7.pinned (stat fr7) (T.obj _ _ st7)
  have toF : ∀ {α : Type} {t : Sem α} {Q Q' : α -> Shared -> Prop} {E : Value -> Shared -> Prop} {s : Shared}, wpAny (model Z.prog Z.w) Z.A t Q Z.xe s -> (∀ a s, Q a s -> Q' a s) -> wpAny (model Z.prog Z.w) Z.A t Q' E s := fun h hQ => by
   rw [hxe] at h
   exact nI h hQ
  refine wpAny_bind (toF (hg _ s7 σ5 H7 x u _ I7' r7 (step x H7 y7)) fun _ s8 ⟨σ8, H8, I8, q8⟩ => ?_)
  refine wpAny_bind (toF (ht _ s8 σ8 H8 _ I8 q8) fun ok s9 ⟨H9, I9, q9⟩ => ?_)
  have again : ∀ {s10 : Shared} {H10 : Hp}, Inv Z (pins ++ jV fp s7.heap) σ8 H10 s10 -> (∃ m', m' < n /\ V (i + 1) m' σ8 H10) ->
    ∃ m, m < n /\ ∃ i σ' H', Inv Z pins σ' H' s10 /\ tn i s10.heap /\ (∀ b ∈ fp, H' b = none) /\ V i m σ' H' := fun {s10 H10} I10 ⟨m', hm, w10⟩ => by
   refine ⟨m', hm, i + 1, σ8, H10, I10.gu, T.keep _ _ _ st7 fun b hb o e => (I10.pin (b, o) (List.mem_append_right _ (List.mem_append_right _ (cF hb e)))).1, fun b hb => ?_, w10⟩
   obtain ⟨o, e, d⟩ := T.obj _ _ st7 b hb
   exact (I10.pin (b, o) (List.mem_append_right _ (List.mem_append_right _ (cF hb e)))).2.1
  cases ok with
  | false =>
   rw [if_neg Bool.false_ne_true] at q9
   exact wpAny_pure ⟨rfl, again I9 q9⟩
  | true =>
   rw [if_pos rfl] at q9
   refine wpAny_bind (wpAny_bind (toF (he _ s9 σ8 H9 _ I9 q9) fun y s10 ⟨v10, H10, I10, r10, ys, hD, hz, w10⟩ => ?_))
   refine wpAny_bind (toF (kK _ s10 σ8 H10 (.ref D) [v10] _ [y] (fun _ H' => H' = upd H10 D (.lst (ys ++ [v10]))) I10 rfl (.cons r10 .nil) ⟨_, ys, v10, rfl, rfl, hD, hz, rfl⟩) fun _ s11 ⟨_, H11, I11, _, e11⟩ => ?_)
   subst e11
   exact wpAny_pure (wpAny_pure ⟨rfl, again I11 w10⟩)
def DM (cap : List (Option Nat)) (g : TG) (tc : TT) (wi2 : TI) (g2 : TG) (tc2 : TT) (te : TE) (σ : L2.St) (Q : VK) (J : It) (H1 : Hp) : Prop := ∀ D, H1 D = none ->
 ∃ W : Nat -> Nat -> L2.St -> Hp -> Prop, (∃ m, W 0 m (cap.map (EC σ)) (upd H1 D (.lst []))) /\ ∀ i m σ' H', W i m σ' H' ->
  (J.stop i H' /\ Q (.ref D) H') \/ (J.go i H' /\ ∀ x H2, J.yld i H' x H2 -> g x σ' H2 fun σ3 H3 => tc σ3 H3 fun b H4 =>
   if b = true then wi2 σ3 H4 (BZ g2 tc2 te D (fun σ5 H5 => ∃ m', m' < m /\ W (i + 1) m' σ5 H5) σ3)
   else ∃ m', m' < m /\ W (i + 1) m' σ3 H4)
def Lb (cap : List (Option Nat)) (wi : TI) (g : TG) (tc : TT) (wi2 : TI) (g2 : TG) (tc2 : TT) (te : TE) : TE := fun σ H Q => wi σ H (DM cap g tc wi2 g2 tc2 te σ Q)
theorem Ib {X : Cx} {tg iter tg2 iter2 elt : Expr} {ifs ifs2 : List Expr} {scope : Scope} {pos : Pos} {N : List Str} {cap : List (Option Nat)} {wi wi2 : TI} {g g2 : TG} {tc tc2 : TT} {te : TE} (hc : X.calm = true) (S : CpScope X scope N cap) (hi : PI X tg iter wi)
  (hg : ∀ C s₀ H₀ ex, PG (b6 X scope N C s₀ H₀ ex) tg g) (ht : ∀ C s₀ H₀ ex, DC (b6 X scope N C s₀ H₀ ex) ifs tc) (hi2 : ∀ C s₀ H₀ ex, PI (b6 X scope N C s₀ H₀ ex) tg2 iter2 wi2)
  (hg2 : ∀ C s₀ H₀ ex, PG (b6 X scope N C s₀ H₀ ex) tg2 g2) (ht2 : ∀ C s₀ H₀ ex, DC (b6 X scope N C s₀ H₀ ex) ifs2 tc2) (he : ∀ C s₀ H₀ ex, PE (b6 X scope N C s₀ H₀ ex) elt te)
  (hs : ∀ x, foldedSetIterable iter X.env x = pure x := by intro _; rfl) (hs2 : ∀ env x, foldedSetIterable iter2 env x = pure x := by intro _ _; rfl) : PE X (.ListComp elt [⟨tg, iter, ifs, 0⟩, ⟨tg2, iter2, ifs2, 0⟩] scope pos) (Lb cap wi g tc wi2 g2 tc2 te) := by
 intro pins s σ H Q I h
 have hfree : ∀ y ∈ scope.names, y.2 = .free -> ∃ c, X.env.cells.lookup y.1 = some c := fun y hy e => I.ok.has _ (S.fr y hy e)
 rw [eval_ListComp]
 refine wpAny_comprehension_free (use := none) rfl hs (lO hfree) S.kind S.nm (cQ (hi pins s σ H _ I h) fun xv s1 h1 => cQ h1 fun itv s2 h2 => ?_)
 obtain ⟨it, fp, tn, J, H2, rfl, I2, T, st2, f2, h2⟩ := h2
 refine wpAny_newObj_type (wpAny_newFunctionEnv S.nocell (by intro y hy; simp at hy) (fun h₁ hns₁ hsb₁ => ?_) S.kind)
 obtain ⟨W, ⟨m0, w0⟩, turn⟩ := h2 s2.heap.objs.size I2.fresh
 dsimp only at hns₁ hsb₁ ⊢
 have I3 : Inv X pins σ (upd H2 s2.heap.objs.size (.lst [])) { s2 with heap := s2.heap.push { cls := .type "list", data := .seq ([] : List Value).toArray } } := I2.zF (t' := s2.toks) (its := []) .nil (Nat.zero_le _)
 have hfp : ∀ b ∈ fp, ∃ o, s2.heap.get? b = some o := fun b hb => by
  obtain ⟨o, e, _⟩ := T.obj 0 _ st2 b hb
  exact ⟨o, e⟩
 have neD : ∀ b ∈ fp, b ≠ s2.heap.objs.size := fun b hb => by
  obtain ⟨o, e⟩ := hfp b hb
  exact Nat.ne_of_lt (Heap.lt_size e)
 have f3 : ∀ b ∈ fp, ju X pins (upd H2 s2.heap.objs.size (.lst [])) b := fun b hb => ⟨by rw [aO (neD b hb)]; exact (f2 b hb).1, (f2 b hb).2⟩
 have hDC : s2.heap.objs.size ≠ (s2.heap.push { cls := .type "list", data := .seq ([] : List Value).toArray }).objs.size := by rw [Heap.size_push]; exact Nat.ne_of_lt (Nat.lt_succ_self _)
 have old : ∀ b o, (s2.heap.push { cls := .type "list", data := .seq ([] : List Value).toArray }).get? b = some o -> h₁.get? b = some o := fun b o e => hsb₁.extBut b o (Nat.ne_of_lt (Heap.lt_size e)) (Heap.get?_push_of_some _ e)
 have I4 := we (tk := s2.toks + ([] : List (Str × Value)).length) (fp := fp) S I3 f3 (fun b hb => by
  obtain ⟨o, e⟩ := hfp b hb
  exact ⟨o, Heap.get?_push_of_some _ e⟩) hns₁ old
 have st4 : tn 0 h₁ := T.keep _ _ _ st2 fun b hb o e => old b o (Heap.get?_push_of_some _ e)
 have stat : ∀ {H' : Hp}, (∀ b ∈ fp, H' b = none) -> ∀ b ∈ fp, ju (b6 X scope N (s2.heap.push { cls := .type "list", data := .seq ([] : List Value).toArray }).objs.size { s2 with heap := s2.heap.push { cls := .type "list", data := .seq ([] : List Value).toArray } } (upd H2 s2.heap.objs.size (.lst [])) fp) [] H' b := fun hn b hb => by
  have ok := I4.ok
  refine ⟨hn b hb, (ok.exf b hb).1, ok.exfs b hb, .inl hb, fun x c e => (ok.exf b hb).2 x c e, fun p hp => nomatch hp⟩
 have loop : ∀ s4 : Shared, s4 = { s2 with heap := h₁, toks := s2.toks + ([] : List (Str × Value)).length } ->
   codeAny (model X.prog X.w) X.A (.compLoop (.ListComp elt [⟨tg, iter, ifs, 0⟩, ⟨tg2, iter2, ifs2, 0⟩] scope pos) 0 (.ref it) (.ref s2.heap.objs.size) (compEnvC scope (jJ X.env scope.names []) (s2.heap.push { cls := .type "list", data := .seq ([] : List Value).toArray }).objs.size X.env))
    (compPost (model X.prog X.w) X.A X.xe none (EP X pins σ Q) (.ref s2.heap.objs.size) (s2.heap.push { cls := .type "list", data := .seq ([] : List Value).toArray }).objs.size) s4 := by
  rintro s4 rfl
  refine codeAny_loop rfl (fun n s' => ∃ i σ' H', Inv (b6 X scope N (s2.heap.push { cls := .type "list", data := .seq ([] : List Value).toArray }).objs.size { s2 with heap := s2.heap.push { cls := .type "list", data := .seq ([] : List Value).toArray } } (upd H2 s2.heap.objs.size (.lst [])) fp) [] σ' H' s' /\ tn i s'.heap /\ (∀ b ∈ fp, H' b = none) /\ W i n σ' H') (fun n s5 hI => ?_) m0 ⟨0, _, _, I4, st4, fun b hb => (f3 b hb).1, w0⟩
  obtain ⟨i, σ5, H5, I5, st5, fr5, w5⟩ := hI
  show wpAny _ X.A ((compTurn (.ListComp elt [⟨tg, iter, ifs, 0⟩, ⟨tg2, iter2, ifs2, 0⟩] scope pos) 0 (.ref it) (.ref s2.heap.objs.size) (compEnvC scope (jJ X.env scope.names []) (s2.heap.push { cls := .type "list", data := .seq ([] : List Value).toArray }).objs.size X.env)).onRaise (fun x => do noteFrame x _; theTreesLotGoes x)) _ _ s5
  refine wpAny_noted ?_
  rw [sF]
  refine wpAny_bind (wpAny_standAt (wpAny_bind ?_))
  rcases turn i n σ5 H5 w5 with ⟨stop, q⟩ | ⟨go, step⟩
  ·refine cQ (T.done (b6 X scope N (s2.heap.push { cls := .type "list", data := .seq ([] : List Value).toArray }).objs.size { s2 with heap := s2.heap.push { cls := .type "list", data := .seq ([] : List Value).toArray } } (upd H2 s2.heap.objs.size (.lst [])) fp) rfl rfl rfl hc i [] s5 σ5 H5 _ I5 (stat fr5) st5 stop) fun r s6 ⟨hr, I6⟩ => ?_
   subst hr
   obtain ⟨m6, hn6, _⟩ := I6.loc
   refine wpAny_pure ⟨m6, hn6, fun h' sb => ?_⟩
   have u6 := I6.base
   have nC : ∀ b o, (s2.heap.push { cls := .type "list", data := .seq ([] : List Value).toArray }).get? b = some o -> b ≠ (s2.heap.push { cls := .type "list", data := .seq ([] : List Value).toArray }).objs.size := fun b o e => Nat.ne_of_lt (Heap.lt_size e)
   refine ⟨.ref s2.heap.objs.size, H5, ?_, rfl, q⟩
   refine I3.yN (ch := fp) I6.os ⟨fun b o e n hb hx => ?_, fun b o e n hb hx => ?_, fun b o e n hx => ?_, fun b o e hx => ?_, u6.tups, u6.frzs, u6.tbls⟩ ?_ I6.bare ?_
   ·exact sb.extBut b o (nC b o e) (u6.keep b o e n hb hx)
   ·obtain ⟨sl, z⟩ := u6.slot b o e n hb hx
    exact ⟨sl, sb.extBut b _ (nC b o e) z⟩
   ·exact u6.free b o e n hx
   ·obtain ⟨o', z⟩ := u6.there b o e hx
    exact ⟨o', sb.extBut b _ (nC b o e) z⟩
   ·intro b o e
    have hb : ∀ c v, H5 c = some v -> c ≠ (s2.heap.push { cls := .type "list", data := .seq ([] : List Value).toArray }).objs.size := fun c v e z => by
     rw [z] at e
     have := I6.free
     rw [show H5 (s2.heap.push { cls := .type "list", data := .seq ([] : List Value).toArray }).objs.size = none from this] at e
     cases e
    refine (I6.hok b o e).stay (fun c v hc q => sb.extBut c v ?_ q) (fun _ q => q) fun _ _ q => q
    rcases hc with z | z
    ·rw [z]; exact hb b o e
    ·exact hb c _ z
   ·intro b hb
    obtain ⟨_, z1, _, z3, z4, z5⟩ := f3 b hb
    exact ⟨z3, z1, z4, z5⟩
  ·refine cQ (T.item (b6 X scope N (s2.heap.push { cls := .type "list", data := .seq ([] : List Value).toArray }).objs.size { s2 with heap := s2.heap.push { cls := .type "list", data := .seq ([] : List Value).toArray } } (upd H2 s2.heap.objs.size (.lst [])) fp) rfl rfl rfl hc i [] s5 σ5 H5 _ I5 (stat fr5) st5 go) fun r s6 ⟨u, hr, h6⟩ => ?_
   subst hr
   refine wpAny_bind (cQ h6 fun _ s7 ⟨x, H7, I7, r7, y7, st7, fr7⟩ => ?_)
   have I7' := I7.pinned (stat fr7) (T.obj _ _ st7)
   refine wpAny_bind (nI (hg _ _ _ fp _ s7 σ5 H7 x u _ I7' r7 (step x H7 y7)) fun _ s8 ⟨σ8, H8, I8, q8⟩ => ?_)
   refine wpAny_bind (nI (ht _ _ _ fp _ s8 σ8 H8 _ I8 q8) fun ok s9 ⟨H9, I9, q9⟩ => ?_)
   have again : ∀ {s10 : Shared} {H10 : Hp} {σ10 : L2.St}, Inv (b6 X scope N (s2.heap.push { cls := .type "list", data := .seq ([] : List Value).toArray }).objs.size { s2 with heap := s2.heap.push { cls := .type "list", data := .seq ([] : List Value).toArray } } (upd H2 s2.heap.objs.size (.lst [])) fp) ([] ++ jV fp s7.heap) σ10 H10 s10 -> (∃ m', m' < n /\ W (i + 1) m' σ10 H10) ->
     ∃ m, m < n /\ ∃ i σ' H', Inv (b6 X scope N (s2.heap.push { cls := .type "list", data := .seq ([] : List Value).toArray }).objs.size { s2 with heap := s2.heap.push { cls := .type "list", data := .seq ([] : List Value).toArray } } (upd H2 s2.heap.objs.size (.lst [])) fp) [] σ' H' s10 /\ tn i s10.heap /\ (∀ b ∈ fp, H' b = none) /\ W i m σ' H' := fun {s10 H10 σ10} I10 ⟨m', hm, w10⟩ => by
    refine ⟨m', hm, i + 1, σ10, H10, I10.gu, T.keep _ _ _ st7 fun b hb o e => (I10.pin (b, o) (List.mem_append_right _ (List.mem_append_right _ (cF hb e)))).1, fun b hb => ?_, w10⟩
    obtain ⟨o, e, d⟩ := T.obj _ _ st7 b hb
    exact (I10.pin (b, o) (List.mem_append_right _ (List.mem_append_right _ (cF hb e)))).2.1
   cases ok with
   | false =>
    rw [if_neg Bool.false_ne_true] at q9
    exact wpAny_pure ⟨rfl, again I9 q9⟩
   | true =>
    rw [if_pos rfl] at q9
    refine wpAny_bind (nI (hi2 _ _ _ fp _ s9 σ8 H9 _ I9 q9) fun xv s10 h10 => wpAny_bind (wpAny_standAt ?_))
    rw [hs2]
    refine wpAny_bind (wpAny_pure (wpAny_bind (wpAny_holding (nI h10 fun itv s11 h11 => ?_))))
    obtain ⟨it2, fp2, tn2, J2, H11, rfl, I11, T2, st11, f11, goal⟩ := h11
    have hcz := hc
    have loop2 := (fun (Z : Cx) (h1 : Z.calm = true) (h2 : Z.xe = fun _ _ => False) T2 I11 => vV (Z := Z) (t1 := tg) (i1 := iter) (f1 := ifs) (i2 := iter2) (scope := scope) (pos := pos) h1 h2 T2 I11) _ (show (b6 X scope N _ _ _ fp).calm = true from hcz) rfl T2 I11 st11 f11 (hg2 _ _ _ fp) (ht2 _ _ _ fp) (he _ _ _ fp) goal
    refine wpAny_bind (wpAny_runOwn (codeAny_mono (jL loop2 (T2.self _ 0 _ _ _ st11 loop2)) fun r s12 hr12 => ?_))
    obtain ⟨hr, σ12, H12, I12, n12⟩ := hr12
    subst hr
    exact wpAny_pure ⟨rfl, again I12 n12⟩
 exact codeAny_compStart_list (loop _ rfl) (T.self _ 0 _ _ _ st4 (loop _ rfl))
end L2
namespace L2
open PySem PySem.Spec PyProof.Rows
open PySem.SeqAt
open PySem.AutoSeq1 (wpAny_loadPart')
open PySem.MeetsSeq PySem.MeetsSeq2 PySem.MeetsSeq3 PySem.SeqAt
theorem ints_get : ∀ {vs : List Value} {ns : List Int} {i : Nat}, IntsAre vs ns -> i < vs.length -> ∃ a t, vs[i]? = some (.int a t) /\ ns.drop i = a :: ns.drop (i + 1)
 | _, _, _, .nil, h => absurd h (by simp)
 | _, _, 0, .cons a t _, _ => ⟨a, t, rfl, rfl⟩
 | _, _, i + 1, .cons a t q, h => by
  obtain ⟨b, u, e, f⟩ := ints_get q (i := i) (by simpa using h)
  exact ⟨b, u, by simpa using e, by simpa using f⟩
theorem Ay (A : Around) (s : Shared) (a : Int) (t : Tok) (c : Int) (u : Tok) (prog : Program) (w : World) (E : Value -> Shared -> Prop) (Q : Value -> Shared -> Prop) (h : Q (.bool (decide (c < a))) s) :
  wpAny (model prog w) A (richCompare .Gt (.int a t) (.int c u)) Q E s :=
 (PyProof.Rows.gt_int h : wpAny (model prog w) A (compareOp .Gt (.int a t) (.int c u)) Q E s)
theorem Aw (l b : Addr) (items items2 : Array Value) (n n2 : Nat) (dd dd2 : Option Addr) (sl sl2 : Array (Option Value)) (ns ms : List Int) (hi : IntsAre items.toList ns) (hj : IntsAre items2.toList ms) (k : Nat) :
  ∀ i : Nat, items.size - i = k -> i <= items.size -> i <= items2.size -> Meets (Builtin.«list.__eq__.loop» ⟨[.ref l, .ref b, rawInt i, rawInt 4], []⟩)
   (fun _ R s => s.heap.get? l = some { cls := .type "list", dict := dd, data := .seq items n, slots := sl } /\ s.heap.get? b = some { cls := .type "list", dict := dd2, data := .seq items2 n2, slots := sl2 } /\
    R (.ok (.ret (.bool (HT.lexLt (ms.drop i) (ns.drop i))))) s) := by
 have z1 : items.size = ns.length := by rw [<- hi.length]; simp
 have z2 : items2.size = ms.length := by rw [<- hj.length]; simp
 have fin : ∀ i : Nat, i <= items.size -> i <= items2.size -> (i = items.size \/ i = items2.size) -> HT.lexLt (ms.drop i) (ns.drop i) = decide (items.size > items2.size) := fun i h1 h2 h => by
  rcases h with h | h
  ·rw [List.drop_eq_nil_of_le (show ns.length <= i by omega), decide_eq_false (by omega)]
   cases ms.drop i <;> rfl
  ·rw [List.drop_eq_nil_of_le (show ms.length <= i by omega)]
   by_cases c : i < ns.length
   ·rw [decide_eq_true (by omega), List.drop_eq_getElem_cons c]; rfl
   ·rw [decide_eq_false (by omega), List.drop_eq_nil_of_le (by omega)]; rfl
 induction k with
 | zero =>
  intro i hk h1 h2 prog w A R s h
  obtain ⟨hp, g, d, tk, os⟩ := s; obtain ⟨hl, hb, h⟩ := h
  wp_walk using wpAny_loadPart' hl, wpAny_loadPart' hb
  have hi1 : items[((i : Nat) : Int).toNat]? = none := by simp; omega
  rw [hi1]
  wp_walk using wpAny_loadPart' hl, wpAny_loadPart' hb
  rw [fin i h1 h2 (by omega)] at h
  exact h
 | succ k ih =>
  intro i hk h1 h2 prog w A R s h
  obtain ⟨hp, g, d, tk, os⟩ := s; obtain ⟨hl, hb, h⟩ := h
  wp_walk using wpAny_loadPart' hl, wpAny_loadPart' hb
  obtain ⟨a, t, ea, da⟩ := ints_get hi (i := i) (by simp; omega)
  have hi1 : items[((i : Nat) : Int).toNat]? = some (.int a t) := by simpa using ea
  rw [hi1]
  by_cases c : i < items2.size
  ·obtain ⟨a', t', ea', da'⟩ := ints_get hj (i := i) (by simp; omega)
   have hi2 : items2[((i : Nat) : Int).toNat]? = some (.int a' t') := by simpa using ea'
   rw [hi2]
   have hc : ((i : Int) + 1) = ((i + 1 : Nat) : Int) := by push_cast; rfl
   rw [da, da', HT.lK] at h
   obtain ⟨e, he, hiff⟩ := HT.tV A.in1 ⟨hp, g, d, tk, os⟩ a t a' t'
   refine wpAny_bind (he prog w _ _ ?_)
   cases e with
   | true =>
    rw [if_pos (hiff.mp rfl).symm] at h
    wp_walk
    rw [hc]
    exact ⟨plainId_quiet plain_eq_loop _, codeAny_builtin entry_eq_loop (by
     rw [Around.under_plainId plain_eq_loop _]
     exact ih (i + 1) (by omega) (by omega) (by omega) prog w A R _ ⟨hl, hb, h⟩)⟩
   | false =>
    rw [if_neg (fun q => absurd (hiff.mpr q.symm) Bool.false_ne_true)] at h
    wp_walk using wpAny_loadPart' hl, wpAny_loadPart' hb
    rw [hi1, hi2]
    have hri := Ay A.in1 ⟨hp, g, d, tk, os⟩ a t a' t' prog w
    wp_walk using hri
    exact h
  ·have hi2 : items2[((i : Nat) : Int).toNat]? = none := by simp; omega
   rw [hi2]
   wp_walk using wpAny_loadPart' hl, wpAny_loadPart' hb
   rw [fin i h1 h2 (by omega)] at h
   exact h
theorem Aa (l b : Addr) (items items2 : Array Value) (n n2 : Nat) (dd dd2 : Option Addr) (sl sl2 : Array (Option Value)) (ns ms : List Int) (hi : IntsAre items.toList ns) (hj : IntsAre items2.toList ms) :
  Meets (Builtin.«list.__gt__» ⟨[.ref l, .ref b], []⟩)
   (fun A R s => s.heap.get? l = some { cls := .type "list", dict := dd, data := .seq items n, slots := sl } /\ s.heap.get? b = some { cls := .type "list", dict := dd2, data := .seq items2 n2, slots := sl2 } /\
    R (.ok (.ret (.bool (HT.lexLt ms ns)))) s) := by
 intro prog w A R s h
 obtain ⟨hp, g, d, tk, os⟩ := s; obtain ⟨hl, hb, h⟩ := h
 have f3 := AutoSeq1.sub_list_list
 wp_walk using wpAny_loadPart' hl, wpAny_loadPart' hb
 exact ⟨plainId_quiet plain_eq_loop _, codeAny_builtin entry_eq_loop (by
  rw [Around.under_plainId plain_eq_loop _]
  exact Aw l b items items2 n n2 dd dd2 sl sl2 ns ms hi hj _ 0 rfl (Nat.zero_le _) (Nat.zero_le _) prog w A R _ ⟨hl, hb, h⟩)⟩
section
variable {prog : Program} {w : World} {A : Around} {E : Value -> Shared -> Prop} {s : Shared}
theorem Cq {l b : Addr} {items items2 : Array Value} {ns ms : List Int} {Q : Value -> Shared -> Prop} (hl : s.heap.IsList l items) (hb : s.heap.IsList b items2) (hi : IntsAre items.toList ns) (hj : IntsAre items2.toList ms)
  (hu : A.units < cLine) (h : Q (.bool (HT.lexLt ms ns)) s) : wpAny (model prog w) A (compareOp .Gt (.ref l) (.ref b)) Q E s := by
 obtain ⟨⟨cls, dd, data, sl⟩, ho, hc, n, hd⟩ := id hl
 obtain ⟨⟨cls2, dd2, data2, sl2⟩, ho2, hc2, n2, hd2⟩ := id hb
 simp only at hc hd hc2 hd2
 subst hc hd hc2 hd2
 exact richCompare_meets_room (op := .Gt) ⟨_, ho, rfl⟩ ⟨_, ho2, rfl⟩ PySem.F.slot_list_gt PySem.F.entry_list_gt (PySem.F.args_list_gt_2 _ _) (Aa l b items items2 n n2 dd dd2 sl sl2 ns ms hi hj)
  ⟨ho, ho2, show Value.bool (HT.lexLt ms ns) ≠ Value.notImplemented /\ Q (.bool (HT.lexLt ms ns)) s from ⟨(fun x => nomatch x), h⟩⟩ hu
end
section
variable {X : Cx}
theorem BA : fY X (binaryOp .FloorDiv) (rI (fun _ j => 0 < j /\ j < 18446744073709551616) fun i j => .int (i / j)) := KL fun i j _ _ _ _ _ hc q => by
 have h1 : (0 : Int) < j := hc.1
 have h2 : j < 18446744073709551616 := hc.2
 refine floordiv_int (by omega) (by rw [Int.fdiv_eq_ediv_of_nonneg i (by omega)]; exact q) (.inl (PyProof.noPylong_of_log2 ?_))
 exact Nat.lt_of_lt_of_le ((Nat.log2_lt (by omega)).mpr (show j.natAbs < 2 ^ 64 by omega)) (by decide)
def LC (K : PySem.W.Frag) : R2 := fun x y H Q => ∃ a b ns ms, x = .ref a /\ y = .ref b /\ gy K H a (ns.map V.int) /\ gy K H b (ms.map V.int) /\ Q (.bl (HT.lexLt ms ns)) H
theorem Gx (hu : X.A.units < cLine) : fY X (compareOp .Gt) (LC X.K) := by
 intro pins s σ H x y v u Q I rx ry h
 obtain ⟨a, b, ns, ms, rfl, rfl, ha, hb, q⟩ := h
 cases rx
 cases ry
 obtain ⟨its, r1, ⟨o1, n1, g1, c1, d1, s1⟩, _⟩ := I.list ha
 obtain ⟨its2, r2, ⟨o2, n2, g2, c2, d2, s2⟩, _⟩ := I.list hb
 have i1 : IntsAre its.toArray.toList ns := intsAre_of r1
 have i2 : IntsAre its2.toArray.toList ms := intsAre_of r2
 exact Cq ⟨o1, g1, c1, n1, s1⟩ ⟨o2, g2, c2, n2, s2⟩ i1 i2 hu ⟨.bl (HT.lexLt ms ns), H, I, rfl, q⟩
end
end L2
namespace L2
open PySem PySem.Spec PyProof.Rows
def LN (x : Str) : It := ⟨fun i _ => i < x.cps.size, fun i H v H' => H' = H /\ ∃ c, x.cps[i]? = some c /\ v = .str ⟨#[c]⟩, fun i _ => i = x.cps.size⟩
theorem C5 {P : Program} {w : World} {K : PySem.W.Frag} {tg : Expr} (x : Str) (t : Tok) (it : Addr) : Turn P w K tg (LN x) [it] it (fun i h => h.IsStrIter it "str_ascii_iterator" x t i) where
 mem := by simp
 obj := fun i h st b hb => by
  have e : b = it := by simpa using hb
  subst e
  obtain ⟨o, e, c, d⟩ := st
  exact ⟨o, e, fun v z => by rw [d] at z; cases z⟩
 keep := fun i h h' st k => let ⟨o, ho, r⟩ := st; ⟨o, k it (by simp) o ho, r⟩
 item := by
  intro X hP hw hK hc i pins s σ H E I hf st hg
  subst hP hw hK
  obtain ⟨f0, f1, f2, f3, f4, f5⟩ := hf it (by simp)
  have W := Walks.strAscii (prog := X.prog) (w := X.w) (I.ok.hd hc) it x t
  refine W.item i s _ _ hg st fun v h' tk hv st' kk => ?_
  obtain ⟨c, u, hcx, rfl⟩ := hv
  have I1 : Inv X pins σ H { s with heap := h', toks := tk } := I.turned (fun b o hb e => kk b o (by simpa using hb) e) f0 f1 f3 f4 f5
  obtain ⟨o, e, cc, d⟩ := id st'
  exact ⟨_, rfl, yk (s := { s with heap := h', toks := tk }) e cc d (by decide) ⟨.str ⟨#[c]⟩, H, I1, ⟨u, rfl⟩, ⟨rfl, c, hcx, rfl⟩, st', fun b hb => (hf b hb).1⟩⟩
 done := by
  intro X hP hw hK hc i pins s σ H E I hf st hg
  subst hP hw hK
  obtain ⟨f0, f1, f2, f3, f4, f5⟩ := hf it (by simp)
  have hg : i = x.cps.size := hg
  subst hg
  have W := Walks.strAscii (prog := X.prog) (w := X.w) (I.ok.hd hc) it x t
  exact W.done s _ _ st fun h' tk kk => ⟨rfl, I.turned (fun b o hb e => kk b o (by simpa using hb) e) f0 f1 f3 f4 f5⟩
 self := fun _ _ _ _ _ st h => wpAny_pyIter_striter_ascii st h
section
variable {X : Cx} {tg : Expr}
def Lp (tl : TE) : TI := fun σ H R => tl σ H fun x H1 => ∃ y : Str, x = .str y /\ y.cps.all (· < 128) = true /\ R (LN y) H1
theorem Hq {l : Expr} {tl : TE} (hl : PE X l tl) : PI X tg l (Lp tl) := by
 intro pins s σ H R I h
 refine cQ (hl pins s σ H _ I h) fun v s1 ⟨x, H1, I1, r1, q1⟩ => ?_
 obtain ⟨y, e, ha, q⟩ := q1
 subst e
 obtain ⟨t, rfl⟩ := r1
 refine wpAny_pyIter_ascii ha ?_
 refine ⟨s1.heap.objs.size, [s1.heap.objs.size], _, _, H1, rfl, I1.kept (t' := s1.toks) fun b o e => Heap.get?_push_of_some _ e, C5 y t _, ⟨_, Heap.get?_push_size _ rfl, rfl, rfl⟩, fun b hb => ?_, q⟩
 have e : b = s1.heap.objs.size := by simpa using hb
 subst e
 exact I1.rW (Nat.le_refl _) (I1.hok.fresh (Nat.le_refl _))
theorem zy : bR X (.type "int") (fun xs H Q => ∃ (y : Str) (n : Int), xs = [.str y] /\ y.length <= 640 /\ PySem.intText? y = some n /\ Q (.int n) H) := by
 intro pins s σ H xs us Q I rv h
 obtain ⟨y, n, rfl, hl, hn, q⟩ := h
 obtain ⟨w, rfl, rw'⟩ := vals1 rv
 obtain ⟨u, rfl⟩ := rw'
 exact PySem.W.KIN.call_text hn hl ⟨.int n, H, I.tok _, ⟨_, rfl⟩, q⟩
end
end L2
namespace L2
open PySem PySem.Spec PyProof.Rows
section
variable {κ : Type} [DecidableEq κ]
def mF (kvs : List (κ × V)) (k : κ) : Option V := (kvs.find? fun kv => decide (kv.1 = k)).map (·.2)
def putK (kvs : List (κ × V)) (k : κ) (v : V) : List (κ × V) :=
 if (kvs.any fun kv => decide (kv.1 = k)) = true then kvs.map (fun kv => if kv.1 = k then (kv.1, v) else kv) else kvs ++ [(k, v)]
theorem ng {p : κ × V} {r : List (κ × V)} {k : κ} (e : p.1 = k) : mF (p :: r) k = some p.2 := by simp [mF, List.find?_cons, e]
theorem m8 {p : κ × V} {r : List (κ × V)} {k : κ} (e : ¬ p.1 = k) : mF (p :: r) k = mF r k := by simp [mF, List.find?_cons, e]
theorem pW (k : κ) : ∀ kvs : List (κ × V), (kvs.any fun kv => decide (kv.1 = k)) = (mF kvs k).isSome
 | [] => rfl
 | p :: r => by
  rw [List.any_cons]
  by_cases e : p.1 = k
  ·simp only [ng e, decide_eq_true e, Bool.true_or, Option.isSome_some]
  ·rw [m8 e, decide_eq_false e, Bool.false_or]; exact pW k r
theorem oF (kvs : List (κ × V)) (k : κ) (v : V) : (putK kvs k v).length <= kvs.length + 1 := by
 unfold putK
 split
 ·rw [List.length_map]; omega
 ·rw [List.length_append, List.length_cons, List.length_nil]; omega
theorem pZ.nH {o : Option V} {u : Option Value} (r : pZ o u) : o.isSome = u.isSome := by
 cases o with
 | none => cases u with
  | none => rfl
  | some _ => exact (show False from r).elim
 | some _ => cases u with
  | none => exact (show False from r).elim
  | some _ => rfl
theorem KV.val {kvs : List (κ × V)} {vs : List (κ × Value)} (r : KV kvs vs) (k : κ) : pZ (mF kvs k) (valueAt vs k) := by
 unfold KV at r
 induction r with
 | nil => exact True.intro
 | @cons p q ps qs h t ih =>
  obtain ⟨h1, h2⟩ := h
  by_cases e : p.1 = k
  ·have e' : q.1 = k := h1.symm.trans e
   have b : valueAt (q :: qs) k = some q.2 := by simp [valueAt, List.find?_cons, e']
   rw [ng e, b]; exact h2
  ·have e' : ¬ q.1 = k := fun z => e (h1.trans z)
   have b : valueAt (q :: qs) k = valueAt qs k := by simp [valueAt, List.find?_cons, e']
   rw [m8 e, b]; exact ih
theorem KV.any {kvs : List (κ × V)} {vs : List (κ × Value)} (r : KV kvs vs) (k : κ) : (kvs.any fun kv => decide (kv.1 = k)) = vs.any fun kv => decide (kv.1 = k) := by
 unfold KV at r
 induction r with
 | nil => rfl
 | cons h t ih => rw [List.any_cons, List.any_cons, ih, h.1]
theorem KV.repl {kvs : List (κ × V)} {vs : List (κ × Value)} (r : KV kvs vs) (k : κ) {y : V} {u : Value} (ry : RelV y u) :
  KV (kvs.map fun kv => if kv.1 = k then (kv.1, y) else kv) (vs.map fun kv => if kv.1 = k then (kv.1, u) else kv) := by
 unfold KV at r ⊢
 induction r with
 | nil => exact .nil
 | @cons p q ps qs h t ih =>
  rw [List.map_cons, List.map_cons]
  refine .cons ?_ ih
  obtain ⟨h1, h2⟩ := h
  by_cases e : p.1 = k
  ·rw [if_pos e, if_pos (h1.symm.trans e)]; exact ⟨h1, ry⟩
  ·rw [if_neg e, if_neg (fun z => e (h1.trans z))]; exact ⟨h1, h2⟩
theorem KV.put {kvs : List (κ × V)} {vs : List (κ × Value)} (r : KV kvs vs) (k : κ) {y : V} {u : Value} (ry : RelV y u) : KV (putK kvs k y) (stored vs k u) := by
 unfold putK stored
 rw [r.any k]
 by_cases e : (vs.any fun kv => decide (kv.1 = k)) = true
 ·rw [if_pos e, if_pos e]; exact r.repl k ry
 ·rw [if_neg e, if_neg e]; exact Paired.snoc r ⟨rfl, ry⟩
theorem KV.length {kvs : List (κ × V)} {vs : List (κ × Value)} (r : KV kvs vs) : kvs.length = vs.length := Paired.length r
end
theorem wH {P : Program} {w : World} {k : Key} {u : Value} (r : RelV (kV k) u) : (d7 P w).is k u = true := by
 cases k with
 | inl i => obtain ⟨t, e⟩ := (show ∃ t, u = Value.int i t from r); subst e; exact t8 P w i t
 | inr x => obtain ⟨t, e⟩ := (show ∃ t, u = Value.str x t from r); subst e; exact t7 P w x t
theorem qW {P : Program} {w : World} : ∀ {ks : List Key} {us : List Value}, Vals (ks.map kV) us -> ItemsAre (d7 P w) ks us
 | [], _, r => by rw [List.map_nil] at r; cases r; exact .nil
 | k :: ks, _, r => by
  rw [List.map_cons] at r
  cases r with
  | cons h t => exact .cons (wH h) (qW t)
abbrev KT (H : Hp) : List (List Key × V) -> List (List Key × Addr × Value) -> Prop := Paired fun p q => p.1 = q.1 /\ H q.2.1 = some (.tup (p.1.map kV)) /\ RelV p.2 q.2.2
theorem KT.val {H : Hp} {kvs : List (List Key × V)} {xs : List (List Key × Addr × Value)} (r : KT H kvs xs) (k : List Key) : pZ (mF kvs k) ((atKey xs k).map (·.2)) := by
 induction r with
 | nil => exact True.intro
 | @cons p q ps qs h t ih =>
  obtain ⟨h1, _, h2⟩ := h
  by_cases e : p.1 = k
  ·have e' : q.1 = k := h1.symm.trans e
   have b : atKey (q :: qs) k = some q.2 := by simp [atKey, List.find?_cons, e']
   rw [ng e, b]; exact h2
  ·have e' : ¬ q.1 = k := fun z => e (h1.trans z)
   have b : atKey (q :: qs) k = atKey qs k := by simp [atKey, List.find?_cons, e']
   rw [m8 e, b]; exact ih
theorem KT.repl {H : Hp} {kvs : List (List Key × V)} {xs : List (List Key × Addr × Value)} (r : KT H kvs xs) (k : List Key) {y : V} {u : Value} (ry : RelV y u) :
  KT H (kvs.map fun kv => if kv.1 = k then (kv.1, y) else kv) (xs.map (putAt k u)) := by
 induction r with
 | nil => exact .nil
 | @cons p q ps qs h t ih =>
  rw [List.map_cons, List.map_cons]
  refine .cons ?_ ih
  obtain ⟨h1, h2, h3⟩ := h
  unfold putAt
  by_cases e : p.1 = k
  ·rw [if_pos e, if_pos (h1.symm.trans e)]; exact ⟨h1, h2, ry⟩
  ·rw [if_neg e, if_neg (fun z => e (h1.trans z))]; exact ⟨h1, h2, h3⟩
theorem KT.put {H : Hp} {kvs : List (List Key × V)} {xs : List (List Key × Addr × Value)} (r : KT H kvs xs) (k : List Key) {b : Addr} {y : V} {u : Value} (hb : H b = some (.tup (k.map kV))) (ry : RelV y u) :
  KT H (putK kvs k y) (storedH xs k b u) := by
 have e : (kvs.any fun kv => decide (kv.1 = k)) = (atKey xs k).isSome := by
  rw [pW, (r.val k).nH, Option.isSome_map]
 unfold putK storedH
 rw [e]
 by_cases q : (atKey xs k).isSome = true
 ·rw [if_pos q, if_pos q]; exact r.repl k ry
 ·rw [if_neg q, if_neg q]; exact Paired.snoc r ⟨rfl, hb, ry⟩
theorem KT.keeps {H H' : Hp} {kvs : List (List Key × V)} {xs : List (List Key × Addr × Value)} (r : KT H kvs xs) (ht : ∀ b ys, H b = some (.tup ys) -> H' b = some (.tup ys)) : KT H' kvs xs :=
 Paired.HF r fun _ _ z => ⟨z.1, ht _ _ z.2.1, z.2.2⟩
section
variable {P : Program} {w : World} {H : Hp} {h : Heap} {a : Addr}
theorem Fp {u : HO} (ok : mD P w H h) (e : Rd H a u) : cZ P w H h a u := e.ok ok
theorem yc {kvs : List (Key × V)} (ok : mD P w H h) (e : Rd H a (.dK kvs)) : kvs.length <= sizeLine /\ (a == sysModules) = false /\ ∃ vs, KV kvs vs /\ h.DictOf (d7 P w) a vs :=
 show cZ P w H h a (.dK kvs) from Fp ok e
theorem Jd {kvs : List (Key × V)} (ok : mD P w H h) (e : H a = some (.dK kvs)) : kvs.length <= sizeLine /\ (a == sysModules) = false /\ ∃ vs, KV kvs vs /\ h.DictOf (d7 P w) a vs := yc ok (.inl e)
theorem pB {ks : List Key} (ok : mD P w H h) (e : H a = some (.tup (ks.map kV))) : (tupleKind (d7 P w)).is h ks a := by
 obtain ⟨_, its, r, o, h1, h2, _, n, h3⟩ := (show cZ P w H h a (.tup (ks.map kV)) from ok a _ e)
 exact ⟨o, its.toArray, n, h1, h2, h3, by simpa using qW r⟩
theorem xH {kvs : List (List Key × V)} (ok : mD P w H h) (e : Rd H a (.dT kvs)) : kvs.length <= sizeLine /\ (a == sysModules) = false /\
  ∃ xs, KT H kvs xs /\ h.DictOfH (tupleKind (d7 P w)) a xs := by
 obtain ⟨z, y, xs, r, o, es, ep, h1, h2, h3, h4, h5⟩ := (show cZ P w H h a (.dT kvs) from Fp ok e)
 refine ⟨z, y, xs, r, o, es, ep, h1, h2, h3, h4, fun x hx => ?_, h5⟩
 have all : ∀ {l : List (List Key × V)} {m : List (List Key × Addr × Value)}, KT H l m -> ∀ x ∈ m, (tupleKind (d7 P w)).is h x.1 x.2.1 := by
  intro l m q
  induction q with
  | nil => intro x hx; exact nomatch hx
  | @cons p q ps qs hq t ih =>
   intro x hx
   rcases List.mem_cons.mp hx with e | hx
   ·subst e
    exact pB ok (by rw [<- hq.1]; exact hq.2.1)
   ·exact ih x hx
 exact all r x hx
theorem FI {kvs : List (List Key × V)} (ok : mD P w H h) (e : H a = some (.dT kvs)) : kvs.length <= sizeLine /\ (a == sysModules) = false /\
  ∃ xs, KT H kvs xs /\ h.DictOfH (tupleKind (d7 P w)) a xs := xH ok (.inl e)
end
def sE (H : Hp) (a : Addr) (y : V) (r : Option V) : Prop :=
 (∃ kvs k, Rd H a (.dK kvs) /\ y = kV k /\ r = mF kvs k) \/ ∃ kvs k b, Rd H a (.dT kvs) /\ y = .ref b /\ H b = some (.tup (k.map kV)) /\ r = mF kvs k
def C7 (H : Hp) (a : Addr) (y v : V) (H' : Hp) : Prop :=
 (∃ kvs k, H a = some (.dK kvs) /\ y = kV k /\ kvs.length < sizeLine /\ H' = upd H a (.dK (putK kvs k v))) \/
 ∃ kvs k b, H a = some (.dT kvs) /\ y = .ref b /\ H b = some (.tup (k.map kV)) /\ kvs.length < sizeLine /\ H' = upd H a (.dT (putK kvs k v))
theorem sE.t {H : Hp} {a b : Addr} {kvs : List (List Key × V)} {k : List Key} (e : H a = some (.dT kvs)) (eb : H b = some (.tup (k.map kV))) : sE H a (.ref b) (mF kvs k) := .inr ⟨kvs, k, b, .inl e, rfl, eb, rfl⟩
theorem C7.t {H : Hp} {a b : Addr} {kvs : List (List Key × V)} {k : List Key} {v : V} (e : H a = some (.dT kvs)) (eb : H b = some (.tup (k.map kV))) (hl : kvs.length < sizeLine) :
  C7 H a (.ref b) v (upd H a (.dT (putK kvs k v))) := .inr ⟨kvs, k, b, e, rfl, eb, hl, rfl⟩
section
variable {X : Cx} {pins : List (Addr × Obj)} {σ : St} {H : Hp} {s : Shared} {a : Addr} {y v : V} {u r : Value} {o : Option V} {A : Around} {E : Value -> Shared -> Prop}
theorem Inv.big (I : Inv X pins σ H s) : sysModules < s.heap.objs.size := by
 have h : mainGlobals < s.heap.objs.size := (I.mod.glob.keeps I.bk).lt
 exact Nat.lt_trans (by decide) h
theorem zH {Q : Value -> Shared -> Prop} (hu : A.units + 1 < cLine) (I : Inv X pins σ H s) (g : sE H a y (some v)) (ry : RelV y u) (h : ∀ w' s', Inv X pins σ H s' -> RelV v w' -> Q w' s') :
  wpAny (model X.prog X.w) A (getItem (.ref a) u) Q E s := by
 rcases g with ⟨kvs, k, e, ey, l⟩ | ⟨kvs, k, b, e, ey, eb, l⟩
 ·subst ey
  obtain ⟨z, hd, vs, rel, dd⟩ := yc I.hok e
  obtain ⟨w', hw, rw'⟩ := pZ.some_of (v := v) (o := valueAt vs k) (by rw [l]; exact rel.val k)
  exact wpAny_getItem_of (wH ry) dd.mapOf hw (h w' _ (I.tok _) rw')
 ·subst ey
  cases (show u = Value.ref b from ry)
  obtain ⟨z, hd, xs, rel, dd⟩ := xH I.hok e
  obtain ⟨w', hw, rw'⟩ := pZ.some_of (v := v) (o := (atKey xs k).map (·.2)) (by rw [l]; exact rel.val k)
  obtain ⟨p, hp, hp2⟩ := Option.map_eq_some_iff.mp hw
  refine wpAny_getItem_heap (tupleKind_room_in1 hu) (pB I.hok eb) dd hp ?_
  rw [hp2]
  exact h w' _ (I.tok _) rw'
theorem D4 {Q : Value -> Shared -> Prop} (hu : A.units + 1 < cLine) (I : Inv X pins σ H s) (g : sE H a y o) (ry : RelV y u) (h : ∀ s', Inv X pins σ H s' -> Q (.bool (!o.isSome)) s') :
  wpAny (model X.prog X.w) A (compareOp .NotIn u (.ref a)) Q E s := by
 rcases g with ⟨kvs, k, e, ey, l⟩ | ⟨kvs, k, b, e, ey, eb, l⟩
 ·subst ey
  obtain ⟨z, hd, vs, rel, dd⟩ := yc I.hok e
  refine wpAny_notIn_of (wH ry) hd dd.mapOf ?_
  rw [<- (rel.val k).nH, <- l]
  exact h _ (I.tok _)
 ·subst ey
  cases (show u = Value.ref b from ry)
  obtain ⟨z, hd, xs, rel, dd⟩ := xH I.hok e
  refine wpAny_notIn_heap (tupleKind_room_in1 hu) (pB I.hok eb) hd dd ?_
  have q := (rel.val k).nH
  rw [Option.isSome_map] at q
  rw [<- q, <- l]
  exact h _ (I.tok _)
theorem sZ {h' : Heap} {t' : Nat} {ob : HO} (I : Inv X pins σ H s) (mu : Kl (H a)) (hs : Heap.SameBut a s.heap h') (he : ∃ q, h'.get? a = some q) (new : cZ X.prog X.w (upd H a ob) h' a ob) :
  Inv X pins σ (upd H a ob) { s with heap := h', toks := t' } :=
 I.write (x := a) (e := a) mu (.inl rfl) (fun b q hb z => (hs.2 b hb).trans z) he new
theorem G7 {P : Program} {w : World} {H' : Hp} {h' : Heap} {kvs : List (Key × V)} {vs : List (Key × Value)} (z : kvs.length <= sizeLine) (hd : (a == sysModules) = false) (rel : KV kvs vs) (dd : h'.DictOf (d7 P w) a vs) :
  cZ P w H' h' a (.dK kvs) := ⟨z, hd, vs, rel, dd⟩
theorem zp {H' : Hp} {Q : Unit -> Shared -> Prop} (hu : A.units + 1 < cLine) (I : Inv X pins σ H s) (g : C7 H a y v H') (ry : RelV y u) (rv : RelV v r) (h : ∀ s', Inv X pins σ H' s' -> Q () s') :
  wpAny (model X.prog X.w) A (setItem (.ref a) u r) Q E s := by
 rcases g with ⟨kvs, k, e, ey, l, eH⟩ | ⟨kvs, k, b, e, ey, eb, l, eH⟩
 ·subst ey eH
  obtain ⟨z, hd, vs, rel, dd⟩ := Jd I.hok e
  have hz : vs.length <= sizeLine := by rw [<- rel.length]; exact z
  have hl : (putK kvs k v).length <= sizeLine := by have := oF kvs k v; omega
  refine wpAny_setItem_pairs (hsz := hz) (wH ry) dd fun h' dd' hs => h _ ?_
  have he : ∃ q, h'.get? a = some q := let ⟨q, _, _, hq, _⟩ := dd'; ⟨q, hq⟩
  exact sZ I (by rw [e]; exact True.intro) hs he (G7 hl hd (rel.put k rv) dd')
 ·subst ey eH
  cases (show u = Value.ref b from ry)
  obtain ⟨z, hd, xs, rel, dd⟩ := FI I.hok e
  have hz : xs.length <= sizeLine := by rw [<- Paired.length rel]; exact z
  have hl : (putK kvs k v).length <= sizeLine := by have := oF kvs k v; omega
  refine wpAny_setItem_heap (hsz := hz) (tupleKind_room_in1 hu) (pB I.hok eb) dd fun h' dd' hs => h _ ?_
  obtain ⟨q, es, ep, hq, h2, h3, h4, _, h5⟩ := dd'
  refine sZ I (by rw [e]; exact True.intro) hs ⟨q, hq⟩ ⟨hl, hd, _, (rel.put k eb rv).keeps fun c ys ec => ?_, q, es, ep, hq, h2, h3, h4, h5⟩
  rw [aO (FY ec e (fun z => nomatch z))]
  exact ec
end
section
variable {X : Cx} {pins : List (Addr × Obj)} {σ : St} {H : Hp} {s : Shared} {a : Addr} {kvs : List (Key × V)} {k : Key} {u : Value} {A : Around} {E : Value -> Shared -> Prop}
end
theorem vq {X : Cx} {pins : List (Addr × Obj)} {σ : St} {H : Hp} {s : Shared} {a : Addr} {y : V} {o : Option V} (I : Inv X pins σ H s) (g : sE H a y o) : s.TypeIs (.ref a) "dict" := by
 rcases g with ⟨kvs, k, e, _, _⟩ | ⟨kvs, k, b, e, _, _, _⟩
 ·obtain ⟨_, _, vs, _, dd⟩ := yc I.hok e
  exact dd.typeIs
 ·obtain ⟨_, _, xs, _, dd⟩ := xH I.hok e
  exact dd.typeIs
section
variable {X : Cx} {o i e value : Expr} {pos pos' tpos : Pos} {td ty tv : TE}
end
theorem Cc {P : Program} {w : World} {H : Hp} (h : Heap) (hb : sysModules < h.objs.size) : cZ P w H (h.push { cls := .type "dict", data := .dict #[] }) h.objs.size (.dT []) :=
 ⟨Nat.zero_le _, beq_eq_false_iff_ne.mpr (Ne.symm (Nat.ne_of_lt hb)), [], .nil, _, #[], 0, Heap.get?_push_size _ rfl, ⟨rfl, rfl, rfl⟩, rfl, rfl, List.nodup_nil⟩
section
variable {X : Cx} {pos : Pos}
end
structure M1 (X : Cx) (o : Expr) (m : Str) (apos : Pos) (e : Expr) (cpos : Pos) : Prop where
 base : attributeBase o m X.env (eval o X.env) = eval o X.env
 few : ((backTo cpos (starEach [e] X.env)).all (fun x => !x.1) && (backToKw cpos (keywordEach [] X.env)).all (fun x => x.1.isSome)
  && decide (([e] : List Expr).length + ([] : List Keyword).length + (if ([] : List Keyword).isEmpty then 0 else 1) < 30)) = true
 line : (apos.endLine == cpos.line) = true
 trees : backTo cpos (starEach [e] X.env) = [(false, eval e X.env)]
structure M2 (X : Cx) (o : Expr) (m : Str) (apos : Pos) (e f : Expr) (cpos : Pos) : Prop where
 base : attributeBase o m X.env (eval o X.env) = eval o X.env
 few : ((backTo cpos (starEach [e, f] X.env)).all (fun x => !x.1) && (backToKw cpos (keywordEach [] X.env)).all (fun x => x.1.isSome)
  && decide (([e, f] : List Expr).length + ([] : List Keyword).length + (if ([] : List Keyword).isEmpty then 0 else 1) < 30)) = true
 line : (apos.endLine == cpos.line) = true
 trees : backTo cpos (starEach [e, f] X.env) = [(false, eval e X.env), (false, eval f X.env)]
section
variable {X : Cx} {pins : List (Addr × Obj)} {σ : St} {H : Hp} {s : Shared} {a : Addr} {y d : V} {u r : Value} {o : Option V} {A : Around} {E : Value -> Shared -> Prop}
end
section
variable {X : Cx} {o e f : Expr} {apos cpos : Pos} {td ty tx : TE}
end
section
variable {X : Cx} {pins : List (Addr × Obj)} {σ : St} {H : Hp} {s : Shared} {a : Addr} {kvs : List (Key × V)} {A : Around} {E : Value -> Shared -> Prop}
end
section
variable {X : Cx} {pins : List (Addr × Obj)} {σ : St} {H : Hp} {s : Shared} {a : Addr} {y : V} {u : Value} {A : Around} {E : Value -> Shared -> Prop}
end
end L2
namespace L2
open PySem PySem.Spec PyProof.Rows
section
variable {X : Cx}
theorem DL (hu : X.A.units + 1 < cLine) : Ii X (fun x y H Q => ∃ a v, x = .ref a /\ sE H a y (some v) /\ Q v H) := by
 intro value slice pins s σ H x y v u Q I rx ry h hs
 obtain ⟨a, z, rfl, g, q⟩ := h
 cases rx
 have hT := vq I g
 unfold subscriptTail
 refine wpAny_bind ?_
 rw [getitemInPython_of_ne hT.not_modules]
 refine wpAny_bind (wpAny_specialOf hT PySem.F.slot_dict_getitem.lookup ?_)
 have fin : wpAny (model X.prog X.w) X.A (subscripted slice false (.ref a) u) (fun r s₃ => wpAny (model X.prog X.w) X.A (letTemporaryGo value (.ref a) r >>= fun _ => pure r) (EP X pins σ Q) X.xe s₃) X.xe s := by
  rw [hs]
  exact wpAny_operating (zH hu I g ry fun w' s3 I3 rw' => wpAny_bind (wpAny_letTemporaryGo (wpAny_pure ⟨z, H, I3, rw', q⟩)))
 first
  | exact wpAny_pure (wpAny_bind fin)
  | exact wpAny_bind (wpAny_pure (wpAny_bind fin))
  | exact wpAny_bind fin
theorem zB (hu : X.A.units + 1 < cLine) : fY X (compareOp .NotIn) (fun y x H Q => ∃ a o, x = .ref a /\ sE H a y o /\ Q (.bl (!o.isSome)) H) := by
 intro pins s σ H y x v u Q I ry rx h
 obtain ⟨a, o, rfl, g, q⟩ := h
 cases rx
 exact D4 hu I g ry fun s3 I3 => ⟨.bl (!o.isSome), H, I3, rfl, q⟩
theorem set_dict (hu : X.A.units + 1 < cLine) : Dh X (fun o i v H Q => ∃ a H', o = .ref a /\ C7 H a i v H' /\ Q H') := by
 intro pins s σ H o i v ov iv u Q I ro ri rv h
 obtain ⟨a, H', rfl, g, q⟩ := h
 cases ro
 exact zp hu I g ri rv fun s4 I4 => ⟨H', I4, q⟩
def G5 (tk tv : TE) : TE := fun σ H Q => ∀ p, H p = none -> tk σ (upd H p (.dT [])) fun x H1 => tv σ H1 fun y H2 => H2 p = some (.dT []) /\ ∃ b ks, x = .ref b /\ H2 b = some (.tup (ks.map kV)) /\ Q (.ref p) (upd H2 p (.dT [(ks, y)]))
theorem Ar {k v : Expr} {pos : Pos} {tk tv : TE} (hu : X.A.units + 1 < cLine) (hk : PE X k tk) (hv : PE X v tv) : PE X (.Dict [some k] [v] pos) (G5 tk tv) := by
 intro pins s σ H Q I q
 have hn := I.hok.fresh (Nat.le_refl s.heap.objs.size)
 have I1 := I.laid (a := s.heap.objs.size) (o := .dT []) (h' := s.heap.push { cls := .type "dict", data := .dict #[] }) (t' := s.toks) (fun _ _ q => Heap.get?_push_of_some _ q) (Nat.le_refl _) (Cc s.heap I.big)
 refine wpAny_Dict_any rfl rfl (by simp) (show 1 <= 15 by decide) ?_
 refine pairTrees_cons_walk (cQ (hk pins _ σ _ _ I1 (q _ hn)) fun kv s1 ⟨x, H1, I2, rx, q1⟩ => cQ (hv pins s1 σ H1 _ I2 q1) fun vv s2 ⟨y, H2, I3, ry, e, b, ks, ex, eb, q2⟩ => pairTrees_nil_walk ?_)
 subst ex
 cases rx
 obtain ⟨z, hd, xs, rel, dd⟩ := FI I3.hok e
 cases rel
 unfold storeAll
 rw [List.forIn_cons]
 refine wpAny_bind (wpAny_bind (wpAny_dictSet_heap (hsz := by simp) (show X.A.units < cLine by omega) (pB I3.hok eb) dd fun h' dd' hs => wpAny_pure ?_))
 dsimp only
 rw [List.forIn_nil]
 refine wpAny_pure ⟨.ref s.heap.objs.size, _, ?_, rfl, q2⟩
 obtain ⟨q', es, ep, hq, h2, h3, h4, _, h5⟩ := dd'
 refine sZ I3 (by rw [e]; exact True.intro) hs ⟨q', hq⟩ ⟨by show 1 <= sizeLine; decide, hd, _, (KT.put (kvs := []) .nil ks eb ry).keeps fun c ys ec => ?_, q', es, ep, hq, h2, h3, h4, h5⟩
 rw [aO (FY ec e (fun z => nomatch z))]
 exact ec
end
end L2
namespace L2
open PySem PySem.Spec PyProof.Rows
section
variable {P : Program} {w : World} {A : Around} {E : Value -> Shared -> Prop} {s : Shared} {it d : Addr} {i ep : Nat} {es : Array DictEntry} {o : Obj} {k0 v0 : Value}
end
section
variable {X : Cx}
end
end L2
namespace L2
open PySem PySem.Spec PyProof.Rows
section
variable {X : Cx}
end
end L2
namespace L2
open PySem PySem.Spec PyProof.Rows
def C0 (e : Addr) (h : Heap) : Prop := ∃ o vs, h.get? e = some o /\ o.data = .fields vs /\ vs[2]? = some .none /\ o.dict = none
section
variable {e : Addr} {α β : Type}
end
end L2
namespace L2
open PySem PySem.Spec PyProof.Rows
structure Fly (l : List Env) (g : Heap) (pn : List (Addr × Obj)) (H : Hp) (e : Addr) (cls : Value) (h : Heap) : Prop where
 ex : ∃ (B : Heap) (a0 : Value), Heap.FlyingW B l e cls a0 h /\ (∀ a u, H a = some u -> ∃ o, B.get? a = some o) /\ (∀ b o, g.get? b = some o -> b ∉ frs l -> ∃ o', B.get? b = some o') /\ (∀ p ∈ pn, ∃ o', B.get? p.1 = some o') /\ C0 e h
structure Made (X : Cx) (H : Hp) (e : Addr) (cls : Value) (g : Heap) (h : Heap) : Prop where
 ex : ∃ (g' : Heap) (vs : List Value), Heap.MadeExcOf g' h e cls vs /\ g'.FunFrames X.base X.stack /\ (∀ a u, H a = some u -> ∃ o, g'.get? a = some o) /\ (∀ b o, g.get? b = some o -> ∃ o', g'.get? b = some o') /\ (∀ p ∈ X.pn, ∃ o', g'.get? p.1 = some o')
def HL (X : Cx) (H : Hp) (e : Addr) (cls : Value) (s' : Shared) : Prop := Made X H e cls X.s₀.heap s'.heap \/ Fly X.stack X.s₀.heap X.pn H e cls s'.heap
section
variable {X : Cx} {pins : List (Addr × Obj)} {σ : L2.St} {H : Hp} {s' : Shared} {e : Addr} {cls : Value}
end
section
variable {P : Program} {w : World} {K : PySem.W.Frag} {mg : Str -> Option Value} {base : Heap} {N : List Str} {qual : Str} {scope : Scope} {f : Addr} {cd : Value} {A : Around} {outer : List Env} {s : Shared} {H : Hp} {E : XK}
def EX (X : Cx) : XK := fun cls _ H' => X.ex = [] /\ ∀ pins σ' s' e, Inv X pins σ' H' s' -> HL X H' e cls s' -> X.xe (.ref e) s'
end
end L2
namespace L2
open PySem PySem.Spec PyProof.Rows
inductive FParts (X : Cx) : List Expr -> List (Str ⊕ TE) -> Prop
 | nil : FParts X [] []
 | txt {x : Str} {j pos} {es : List Expr} {ps : List (Str ⊕ TE)} (h : FParts X es ps) : FParts X (.Constant (.str x) j pos :: es) (.inl x :: ps)
 | val {e : Expr} {pos : Pos} {t : TE} {es : List Expr} {ps : List (Str ⊕ TE)} (he : PE X e t) (h : FParts X es ps) : FParts X (.FormattedValue e (-1) none pos :: es) (.inr t :: ps)
end L2
namespace L2
open PySem PySem.Spec PyProof.Rows
def xu : HO := .ext fun _ => True
structure XO (C : Addr) (o : Obj) : Prop where
 cls : o.cls = .ref C
 dict : o.dict = none
 ctx : ∃ vs, o.data = .fields vs /\ vs[2]? = some .none
structure Fr0 (X : Cx) (e : Addr) : Prop where
 no : ∀ o, X.s₀.heap.get? e ≠ some o
 tup : ∀ xs, X.H₀ e ≠ some (.tup xs)
 frz : ∀ o u, X.H₀ e ≠ some (.frz o u)
 tbl : ∀ ps, X.H₀ e ≠ some (.tbl ps)
section
variable {X : Cx} {pins : List (Addr × Obj)} {σ : L2.St} {H : Hp} {s' : Shared} {e : Addr} {cls : Value}
end
section
variable {X : Cx} {pn' pins : List (Addr × Obj)} {xe' : Value -> Shared -> Prop} {σ : L2.St} {H : Hp} {s' : Shared} {e C : Addr} {B h6 : Heap} {a0 : Value}
end
section
variable {X : Cx} {pins : List (Addr × Obj)} {σ : L2.St} {H : Hp} {s : Shared}
end
section
variable {M : Model} {A : Around} {E : Value -> Shared -> Prop} {h : Heap} {g : Array GenState} {d : Drawn} {t : Nat} {os : OsState} {C N D N' : Addr} {nm q nm' q' : Str} {bs bm bs' bm' : List Value} {hdct hdct' : Bool} {sn sn' : List Str} {sub sub' : List Value} {ab ab' : Bool} {col col' : Option Bool} {dd dd' : Option Addr} {k0 k1 k2 k3 k5 k0' k1' k2' k3' k5' : Option Value} {newId newId' : String}
end
def mroIn (K : PySem.W.Frag) (C : Addr) : Option (List Value) := match K.lookup C with
 | some ⟨.type "type", _, .cls cd, sl⟩ => (match cd.mro, sl.toList with
  | .ref C' :: bm, [_, _, _, _, some (.builtin _), _] => if C' = C /\ cd.hasDel = false then some bm else none
  | _, _ => none)
 | _ => none
structure ClsAt (h : Heap) (C : Addr) (bm : List Value) : Prop where
 ex : ∃ nm q N bs hdct sn sub ab col dd k0 k1 k2 k3 k5 newId, h.get? C = some (excClassObj nm q C N bs bm hdct sn sub ab col dd k0 k1 k2 k3 k5 newId)
section
variable {X : Cx} {pins pins' : List (Addr × Obj)} {xe' : Value -> Shared -> Prop} {σ : L2.St} {H : Hp} {s' : Shared} {e C Dc : Addr} {bm bmD : List Value} {x n : Str} {i : Nat} {De : Ends} {b0 : Stmt} {suite : List Stmt} {np hp : Pos}
end
end L2
namespace L2
open PySem PySem.Spec PyProof.Rows
open PySem.W in
structure XCls (K : PySem.W.Frag) (C : Addr) : Prop where
 ga : findIn K (.ref C) "__getattribute__" = some (some (.builtin "BaseException.__getattribute__"))
 gt : findIn K (.ref C) "__getattr__" = some none
 fc : findObj K C none "__class__" = some (.bind (.builtin "getset_descriptor.__get__") (.builtin "object.__class__"))
 ob : PySem.W.mroIn K C (.type "object") = some true
 bs : subIn K (.ref C) (.type "BaseException") = some true
section
open PySem.W
variable {K : PySem.W.Frag} {C a : Addr} {ox : Obj} {prog : Program} {w : World} {A : Around} {E : Value -> Shared -> Prop} {h : Heap} {g : Array GenState} {d : Drawn} {t : Nat} {os : OsState}
end
section
variable {X : Cx} {C : Addr} {pins : List (Addr × Obj)} {σ : L2.St} {H : Hp} {s : Shared}
end
end L2
namespace L2
open PySem PySem.Spec PyProof.Rows
section
variable {prog : Program} {w : World} {A : Around} {E : Value -> Shared -> Prop} {s : Shared} {e n : Addr} {oe on : Obj} {vs ns : Array Value}
end
section
variable {X : Cx} {e C : Addr} {oe : Obj}
end
end L2
namespace L2
open PySem PySem.Spec PyProof.Rows
def HJ (A : Around) : Around := { A with handled := none }
def Jl (k : Nat) (A : Around) : Prop := Room k (HJ A)
structure Hnd (A : Around) (H : Hp) (e : Addr) (oe : Obj) (C : Addr) : Prop where
 hh : A.handled = some (.ref e)
 h0 : H e = some (.frz oe xu)
 xo : XO C oe
structure FnOkH (P : Program) (w : World) (K : PySem.W.Frag) (mg : Str -> Option Value) (base : Heap) (k : Nat) (f : Addr) (fd : FuncData) (ps : List Str) (sp : Sp) : Prop where
 len : ∀ vs H Q E, sp vs H Q E -> vs.length = ps.length
 run : ∀ (A : Around) (outer : List Env) (s : Shared) (H : Hp) (args : Args) (us : List Value) (vs : List V) (Q : VK) (e : Addr) (oe : Obj) (C : Addr), Jl k A -> Hnd A H e oe C -> Env0 P w K mg base A outer s H -> BindsTo s fd args (ps.zip us) -> Vals vs us -> sp vs H Q E0 ->
  codeAny (model P w) A (.call (.ref f) args) (CR iB outer P w H s Q E0) s
end L2
namespace L2
open PySem PySem.Spec PyProof.Rows PySem.SeqAt
section
variable {X : Cx}
end
end L2
namespace L2
open PySem PySem.Spec PyProof.Rows PySem.SeqAt
section
variable {X : Cx} {pos : Pos} {a b : Expr}
end
end L2
namespace L2
open PySem PySem.Spec PyProof.Rows PySem.SeqAt
section
variable {X : Cx}
end
end L2
namespace L2
open PySem PySem.Spec PyProof.Rows PySem.SeqAt
section
variable {prog : Program} {w : World} {A : Around} {E : Value -> Shared -> Prop} {s : Shared}
end
section
variable {prog : Program} {w : World} {A : Around} {E : Value -> Shared -> Prop} {s : Shared}
end
section
variable {X : Cx}
end
end L2
namespace L2
open PySem PySem.Spec PyProof.Rows
def IF (K : PySem.W.Frag) (a : Addr) : It :=
 ⟨fun i H => ∃ xs x, gy K H a xs /\ xs[i]? = some x, fun i H x H' => ∃ T, H T = none /\ x = .ref T /\ ∀ xs y, gy K H a xs -> xs[i]? = some y -> H' = upd H T (.tup [.int i, y]), fun i H => ∃ xs, gy K H a xs /\ xs.length = i⟩
theorem vY {P : Program} {w : World} {K : PySem.W.Frag} {elts : List Expr} {x1 : Nat} {tpos : Pos} (a e it : Addr) (hei : e ≠ it) : Turn P w K (.Tuple elts x1 tpos) (IF K a) [e, it] e (fun i h => (∃ old, IsEnum h e it i old) /\ h.IsListIter it a i) where
 mem := by simp
 obj := fun i h st b hb => by
  obtain ⟨⟨old, st1⟩, st2⟩ := st
  have hb' : b = e \/ b = it := by simpa using hb
  rcases hb' with rfl | rfl
  ·exact ⟨_, st1, fun v z => by cases z⟩
  ·obtain ⟨o, e, c, d⟩ := st2
   exact ⟨o, e, fun v z => by rw [d] at z; cases z⟩
 keep := fun i h h' st k => by
  obtain ⟨⟨old, st1⟩, st2⟩ := st
  exact ⟨⟨old, k e (by simp) _ st1⟩, st2.at fun o ho => k it (by simp) o ho⟩
 item := by
  intro X hP hw hK hc i pins s σ H E I hf st hg
  subst hP hw hK
  obtain ⟨⟨old, st1⟩, st2⟩ := st
  obtain ⟨xs, x, hq, hx⟩ := hg
  obtain ⟨its, rv, p, hz⟩ := I.list hq
  obtain ⟨u, hu, ru⟩ := rv.get hx
  have hia : a ≠ it := by
   obtain ⟨o, ho, hc1, _⟩ := p.isList
   obtain ⟨o2, ho2, hc2, _⟩ := st2
   intro z
   rw [z, ho2] at ho
   cases ho
   rw [hc1] at hc2
   exact absurd (Value.type.inj hc2) (by decide)
  have hea : e ≠ a := by
   obtain ⟨o, ho, hc1, _⟩ := p.isList
   intro z
   rw [<- z, st1] at ho
   cases ho
   exact absurd (Value.type.inj hc1) (by decide)
  have hlt : i < its.toArray.size := by
   rw [List.size_toArray]
   exact (List.getElem?_eq_some_iff.mp hu).1
  refine wpAny_pyNext_enum_itemD (Draws.list (A := X.A.in1) (I.ok.hd hc) it a hia its.toArray) st1 ⟨st2, p.isList⟩ hlt hei (by simp [hei, hea]) fun x' h' tk hP hout hst hT hsz hk => ?_
  have ex : x' = u := by
   have : its.toArray[i]? = some u := by simpa using hu
   rw [this] at hP
   exact (Option.some.inj hP).symm
  subst ex
  refine ⟨_, rfl, wpAny_letOwnedTupleGo_enum hout fun h2 he2 hs2 => ?_⟩
  have fT : H s.heap.objs.size = none := I.hok.fresh (Nat.le_refl _)
  have hel : e < s.heap.objs.size := Heap.lt_size st1
  have hil : it < s.heap.objs.size := by obtain ⟨o, ho, _⟩ := st2; exact Heap.lt_size ho
  have k2 : ∀ b o, b ≠ e -> b ≠ it -> s.heap.get? b = some o -> h2.get? b = some o := fun b o h1 h3 q => hs2.extBut b o h1 (hk b o h1 h3 q)
  have hT2 : h2.get? s.heap.objs.size = some { cls := .type "tuple", data := .seq #[.int i tk, x'] } := hs2.extBut _ _ (Nat.ne_of_gt hel) hT
  obtain ⟨e0, e1, e2, e3, e4, e5⟩ := hf e (by simp)
  obtain ⟨i0, i1, i2, i3, i4, i5⟩ := hf it (by simp)
  have nT : ∀ b o, s.heap.get? b = some o -> b ≠ s.heap.objs.size := fun b o q => Nat.ne_of_lt (Heap.lt_size q)
  have ne_tr : ∀ c v, H c = some v -> c ≠ e /\ c ≠ it := fun c v q => ⟨(fun z => by rw [z, e0] at q; cases q), (fun z => by rw [z, i0] at q; cases q)⟩
  have I2 : Inv X pins σ (upd H s.heap.objs.size (.tup [.int i, x])) { s with heap := h2, toks := tk + 1 } := by
   refine I.step (g' := s.gens) (d' := s.drawn) (ch := [e, it]) (fun b hb => ?_) (fun b o _ _ hch q _ => ?_) (fun b o _ _ hch q _ => ?_) (fun b o hch q n => ?_) (fun b o hch q => ?_) (fun b ys q => ?_) (fun b o u' q => ?_) (fun b ps q => ?_) (fun m hm => ?_) (fun b u' q => ?_) I.bare
   ·have hb' : b = e \/ b = it := by simpa using hb
    rcases hb' with rfl | rfl
    ·exact ⟨e3, e1, e4, e5⟩
    ·exact ⟨i3, i1, i4, i5⟩
   ·exact k2 b o (fun z => hch (by simp [z])) (fun z => hch (by simp [z])) q
   ·exact ⟨o.slots, k2 b o (fun z => hch (by simp [z])) (fun z => hch (by simp [z])) q⟩
   ·rw [aO (nT b o q)]; exact n
   ·exact ⟨o, k2 b o (fun z => hch (by simp [z])) (fun z => hch (by simp [z])) q⟩
   ·rw [aO (aV q fT)]; exact q
   ·rw [aO (aV q fT)]; exact q
   ·exact ⟨#[], by rw [aO (aV q fT), q]; simp⟩
   ·obtain ⟨o, es, ep, ho, r⟩ := hm
    exact ⟨o, es, ep, k2 _ o (Ne.symm e1) (Ne.symm i1) ho, r⟩
   ·by_cases z : b = s.heap.objs.size
    ·subst z
     rw [bL] at q
     cases q
     exact ⟨by show 2 <= sizeLine; decide, [.int i tk, x'], .cons ⟨tk, rfl⟩ (.cons ru .nil), ⟨_, hT2, rfl, rfl, 0, rfl⟩⟩
    ·rw [aO z] at q
     refine (I.hok b u' q).stay (fun c v hc q' => k2 c v ?_ ?_ q') (fun c q' => ?_) fun c ys q' => ?_
     ·rcases hc with z | z
      ·rw [z]; exact (ne_tr b u' q).1
      ·exact (ne_tr c _ z).1
     ·rcases hc with z | z
      ·rw [z]; exact (ne_tr b u' q).2
      ·exact (ne_tr c _ z).2
     ·rw [aO (aV q' fT)]; exact q'
     ·rw [aO (aV q' fT)]; exact q'
  refine ⟨.ref s.heap.objs.size, _, I2, rfl, ⟨s.heap.objs.size, fT, rfl, fun ys y hy hyi => ?_⟩, ⟨⟨x', by simpa using he2⟩, ?_⟩, fun b hb => ?_⟩
  ·rw [I.t9 hy hq] at hyi
   rw [hx] at hyi
   cases hyi
   rfl
  ·exact hst.1.at fun o ho => hs2.extBut it o (Ne.symm hei) ho
  ·have hb' : b = e \/ b = it := by simpa using hb
   rcases hb' with rfl | rfl
   ·rw [aO (Nat.ne_of_lt hel)]; exact e0
   ·rw [aO (Nat.ne_of_lt hil)]; exact i0
 done := by
  intro X hP hw hK hc i pins s σ H E I hf st hg
  subst hP hw hK
  obtain ⟨⟨old, st1⟩, st2⟩ := st
  obtain ⟨xs, hq, hx⟩ := hg
  obtain ⟨its, rv, p, hz⟩ := I.list hq
  obtain ⟨i0, i1, i2, i3, i4, i5⟩ := hf it (by simp)
  have hia : a ≠ it := by
   obtain ⟨o, ho, hc1, _⟩ := p.isList
   obtain ⟨o2, ho2, hc2, _⟩ := st2
   intro z
   rw [z, ho2] at ho
   cases ho
   rw [hc1] at hc2
   exact absurd (Value.type.inj hc2) (by decide)
  have hl := rv.length
  have ei : its.toArray.size = i := by rw [List.size_toArray, <- hl, hx]
  exact wpAny_pyNext_enum_endD (Draws.list (A := X.A.in1) (I.ok.hd hc) it a hia its.toArray) st1 ⟨by rw [ei]; exact st2, p.isList⟩ fun h' eb => ⟨rfl, I.turned (t' := s.toks) (fun b o hb q => eb b o hb q) i0 i1 i3 i4 i5⟩
 self := fun _ _ _ _ _ st h => let ⟨⟨_, st1⟩, _⟩ := st; wpAny_pyIter_enum st1 h
section
variable {X : Cx}
def Gw (K : PySem.W.Frag) (ta : TA) : TI := fun σ H R => ta σ H fun vs H1 => ∃ a xs, vs = [.ref a] /\ gy K H1 a xs /\ R (IF K a) H1
theorem CA {elts : List Expr} {x1 : Nat} {tpos : Pos} {a : Expr} {ta : TA} {p pos : Pos} (hg : Gl X "enumerate") (hm : X.mg "enumerate" = none) (ha : PA X [a] ta) (hs : starEach [a] X.env = [(false, eval a X.env)] := by rfl) : PI X (.Tuple elts x1 tpos) (.Call (.Name "enumerate" p) [a] [] pos) (Gw X.K ta) := by
 intro pins s σ H R I h
 refine Call_ (mh I hg hm m9 (PyProof.Rows.callWith_type1 (cQ (ha pos pins s σ H _ I h) fun us s1 ⟨vs, H1, I1, r1, q1⟩ => ?_) hs rfl))
 obtain ⟨t, xs, e, hq, q⟩ := q1
 subst e
 obtain ⟨u, rfl, rx⟩ := vals1 r1
 cases rx
 obtain ⟨its, rv, pt, hz⟩ := I1.list hq
 refine call_enumerate_list pt.isList fun h' he hit hsz hk => ?_
 have I3 : Inv X pins σ H1 { s1 with heap := h' } := I1.kept (t' := s1.toks) hk
 have hne : s1.heap.objs.size + 1 ≠ s1.heap.objs.size := by omega
 refine wpAny_pyIter_enum he ⟨_, [_, s1.heap.objs.size], _, _, H1, rfl, I3, vY t _ s1.heap.objs.size hne, ⟨⟨.none, he⟩, hit⟩, fun b hb => ?_, q⟩
 have hb' : b = s1.heap.objs.size + 1 \/ b = s1.heap.objs.size := by simpa using hb
 rcases hb' with rfl | rfl
 ·exact I1.rW (Nat.le_succ _) (I1.hok.fresh (Nat.le_succ _))
 ·exact I1.rW (Nat.le_refl _) (I1.hok.fresh (Nat.le_refl _))
end
end L2
namespace L2
open PySem PySem.Spec PyProof.Rows
theorem GV {X : Cx} {use : Option (Value -> Sem Unit)} {Q' : Value -> Shared -> Prop} {tg iter elt : Expr} {ifs : List Expr} {scope : Scope} {pos : Pos} {N : List Str} {cap : List (Option Nat)} {wi : TI} {g : TG} {tc : TT} {te : TE} (hc : X.calm = true) (S : CpScope X scope N cap) (hi : PI X tg iter wi)
  (hg : ∀ C s₀ H₀ ex, PG (b6 X scope N C s₀ H₀ ex) tg g) (ht : ∀ C s₀ H₀ ex, DC (b6 X scope N C s₀ H₀ ex) ifs tc) (he : ∀ C s₀ H₀ ex, PE (b6 X scope N C s₀ H₀ ex) elt te)
  (hs : ∀ x, foldedSetIterable iter X.env x = pure x := by intro _; rfl) : ∀ (pins : List (Addr × Obj)) (s : Shared) (σ : St) (H : Hp) (Q : VK), Inv X pins σ H s -> Kq cap wi g tc te σ H Q ->
  (∀ (s6 : Shared) (C D : Addr) (H5 : Hp) (m : Str -> Option Value), s6.heap.Ns C m -> ju X pins H5 C -> (∀ h', Heap.SameBut C s6.heap h' -> Inv X pins σ H5 { s6 with heap := h' }) -> Q (.ref D) H5 -> ∀ v, compPost (model X.prog X.w) X.A X.xe use Q' (.ref D) C (.ok v) s6) ->
  wpAny (model X.prog X.w) X.A (comprehension (.ListComp elt [⟨tg, iter, ifs, 0⟩] scope pos) scope X.env (firstIterPos [⟨tg, iter, ifs, 0⟩] pos) (newList []) (firstAsync [⟨tg, iter, ifs, 0⟩]) (firstIter [⟨tg, iter, ifs, 0⟩] X.env) use) Q' X.xe s := by
 intro pins s σ H Q I h hfin
 have hfree : ∀ y ∈ scope.names, y.2 = .free -> ∃ c, X.env.cells.lookup y.1 = some c := fun y hy e => I.ok.has _ (S.fr y hy e)
 refine wpAny_comprehension_free (use := use) rfl hs (lO hfree) S.kind S.nm (cQ (hi pins s σ H _ I h) fun xv s1 h1 => cQ h1 fun itv s2 h2 => ?_)
 obtain ⟨it, fp, tn, J, H2, rfl, I2, T, st2, f2, h2⟩ := h2
 refine wpAny_newObj_type (wpAny_newFunctionEnv S.nocell (by intro y hy; simp at hy) (fun h₁ hns₁ hsb₁ => ?_) S.kind)
 obtain ⟨W, ⟨m0, w0⟩, turn⟩ := h2 s2.heap.objs.size I2.fresh
 dsimp only at hns₁ hsb₁ ⊢
 have I3 : Inv X pins σ (upd H2 s2.heap.objs.size (.lst [])) { s2 with heap := s2.heap.push { cls := .type "list", data := .seq ([] : List Value).toArray } } := I2.zF (t' := s2.toks) (its := []) .nil (Nat.zero_le _)
 have hfp : ∀ b ∈ fp, ∃ o, s2.heap.get? b = some o := fun b hb => by
  obtain ⟨o, e, _⟩ := T.obj 0 _ st2 b hb
  exact ⟨o, e⟩
 have neD : ∀ b ∈ fp, b ≠ s2.heap.objs.size := fun b hb => by
  obtain ⟨o, e⟩ := hfp b hb
  exact Nat.ne_of_lt (Heap.lt_size e)
 have f3 : ∀ b ∈ fp, ju X pins (upd H2 s2.heap.objs.size (.lst [])) b := fun b hb => ⟨by rw [aO (neD b hb)]; exact (f2 b hb).1, (f2 b hb).2⟩
 have hDC : s2.heap.objs.size ≠ (s2.heap.push { cls := .type "list", data := .seq ([] : List Value).toArray }).objs.size := by rw [Heap.size_push]; exact Nat.ne_of_lt (Nat.lt_succ_self _)
 have old : ∀ b o, (s2.heap.push { cls := .type "list", data := .seq ([] : List Value).toArray }).get? b = some o -> h₁.get? b = some o := fun b o e => hsb₁.extBut b o (Nat.ne_of_lt (Heap.lt_size e)) (Heap.get?_push_of_some _ e)
 have I4 := we (tk := s2.toks + ([] : List (Str × Value)).length) (fp := fp) S I3 f3 (fun b hb => by
  obtain ⟨o, e⟩ := hfp b hb
  exact ⟨o, Heap.get?_push_of_some _ e⟩) hns₁ old
 have st4 : tn 0 h₁ := T.keep _ _ _ st2 fun b hb o e => old b o (Heap.get?_push_of_some _ e)
 have stat : ∀ {H' : Hp}, (∀ b ∈ fp, H' b = none) -> ∀ b ∈ fp, ju (b6 X scope N (s2.heap.push { cls := .type "list", data := .seq ([] : List Value).toArray }).objs.size { s2 with heap := s2.heap.push { cls := .type "list", data := .seq ([] : List Value).toArray } } (upd H2 s2.heap.objs.size (.lst [])) fp) [] H' b := fun hn b hb => by
  have ok := I4.ok
  refine ⟨hn b hb, (ok.exf b hb).1, ok.exfs b hb, .inl hb, fun x c e => (ok.exf b hb).2 x c e, fun p hp => nomatch hp⟩
 have loop : ∀ s4 : Shared, s4 = { s2 with heap := h₁, toks := s2.toks + ([] : List (Str × Value)).length } ->
   codeAny (model X.prog X.w) X.A (.compLoop (.ListComp elt [⟨tg, iter, ifs, 0⟩] scope pos) 0 (.ref it) (.ref s2.heap.objs.size) (compEnvC scope (jJ X.env scope.names []) (s2.heap.push { cls := .type "list", data := .seq ([] : List Value).toArray }).objs.size X.env))
    (compPost (model X.prog X.w) X.A X.xe use Q' (.ref s2.heap.objs.size) (s2.heap.push { cls := .type "list", data := .seq ([] : List Value).toArray }).objs.size) s4 := by
  rintro s4 rfl
  refine codeAny_loop rfl (fun n s' => ∃ i σ' H', Inv (b6 X scope N (s2.heap.push { cls := .type "list", data := .seq ([] : List Value).toArray }).objs.size { s2 with heap := s2.heap.push { cls := .type "list", data := .seq ([] : List Value).toArray } } (upd H2 s2.heap.objs.size (.lst [])) fp) [] σ' H' s' /\ tn i s'.heap /\ (∀ b ∈ fp, H' b = none) /\ W i n σ' H') (fun n s5 hI => ?_) m0 ⟨0, _, _, I4, st4, fun b hb => (f3 b hb).1, w0⟩
  obtain ⟨i, σ5, H5, I5, st5, fr5, w5⟩ := hI
  show wpAny _ X.A ((compTurn (.ListComp elt [⟨tg, iter, ifs, 0⟩] scope pos) 0 (.ref it) (.ref s2.heap.objs.size) (compEnvC scope (jJ X.env scope.names []) (s2.heap.push { cls := .type "list", data := .seq ([] : List Value).toArray }).objs.size X.env)).onRaise (fun x => do noteFrame x _; theTreesLotGoes x)) _ _ s5
  refine wpAny_noted ?_
  rw [compTurn_list]
  refine wpAny_bind (wpAny_standAt (wpAny_bind ?_))
  rcases turn i n σ5 H5 w5 with ⟨stop, q⟩ | ⟨go, step⟩
  ·refine cQ (T.done (b6 X scope N (s2.heap.push { cls := .type "list", data := .seq ([] : List Value).toArray }).objs.size { s2 with heap := s2.heap.push { cls := .type "list", data := .seq ([] : List Value).toArray } } (upd H2 s2.heap.objs.size (.lst [])) fp) rfl rfl rfl hc i [] s5 σ5 H5 _ I5 (stat fr5) st5 stop) fun r s6 ⟨hr, I6⟩ => ?_
   subst hr
   obtain ⟨m6, hn6, _⟩ := I6.loc
   refine wpAny_pure (hfin s6 _ _ H5 m6 hn6 (I3.rW (Nat.le_refl _) I6.free) (fun h' sb => ?_) q _)
   have u6 := I6.base
   have nC : ∀ b o, (s2.heap.push { cls := .type "list", data := .seq ([] : List Value).toArray }).get? b = some o -> b ≠ (s2.heap.push { cls := .type "list", data := .seq ([] : List Value).toArray }).objs.size := fun b o e => Nat.ne_of_lt (Heap.lt_size e)
   refine I3.yN (ch := fp) I6.os ⟨fun b o e n hb hx => ?_, fun b o e n hb hx => ?_, fun b o e n hx => ?_, fun b o e hx => ?_, u6.tups, u6.frzs, u6.tbls⟩ ?_ I6.bare ?_
   ·exact sb.extBut b o (nC b o e) (u6.keep b o e n hb hx)
   ·obtain ⟨sl, z⟩ := u6.slot b o e n hb hx
    exact ⟨sl, sb.extBut b _ (nC b o e) z⟩
   ·exact u6.free b o e n hx
   ·obtain ⟨o', z⟩ := u6.there b o e hx
    exact ⟨o', sb.extBut b _ (nC b o e) z⟩
   ·intro b o e
    have hb : ∀ c v, H5 c = some v -> c ≠ (s2.heap.push { cls := .type "list", data := .seq ([] : List Value).toArray }).objs.size := fun c v e z => by
     rw [z] at e
     have := I6.free
     rw [show H5 (s2.heap.push { cls := .type "list", data := .seq ([] : List Value).toArray }).objs.size = none from this] at e
     cases e
    refine (I6.hok b o e).stay (fun c v hc q => sb.extBut c v ?_ q) (fun _ q => q) fun _ _ q => q
    rcases hc with z | z
    ·rw [z]; exact hb b o e
    ·exact hb c _ z
   ·intro b hb
    obtain ⟨_, z1, _, z3, z4, z5⟩ := f3 b hb
    exact ⟨z3, z1, z4, z5⟩
  ·refine cQ (T.item (b6 X scope N (s2.heap.push { cls := .type "list", data := .seq ([] : List Value).toArray }).objs.size { s2 with heap := s2.heap.push { cls := .type "list", data := .seq ([] : List Value).toArray } } (upd H2 s2.heap.objs.size (.lst [])) fp) rfl rfl rfl hc i [] s5 σ5 H5 _ I5 (stat fr5) st5 go) fun r s6 ⟨u, hr, h6⟩ => ?_
   subst hr
   refine wpAny_bind (cQ h6 fun _ s7 ⟨x, H7, I7, r7, y7, st7, fr7⟩ => ?_)
   have I7' := I7.pinned (stat fr7) (T.obj _ _ st7)
   refine wpAny_bind (nI (hg _ _ _ fp _ s7 σ5 H7 x u _ I7' r7 (step x H7 y7)) fun _ s8 ⟨σ8, H8, I8, q8⟩ => ?_)
   refine wpAny_bind (nI (ht _ _ _ fp _ s8 σ8 H8 _ I8 q8) fun ok s9 ⟨H9, I9, q9⟩ => ?_)
   have again : ∀ {s10 : Shared} {H10 : Hp}, Inv (b6 X scope N (s2.heap.push { cls := .type "list", data := .seq ([] : List Value).toArray }).objs.size { s2 with heap := s2.heap.push { cls := .type "list", data := .seq ([] : List Value).toArray } } (upd H2 s2.heap.objs.size (.lst [])) fp) ([] ++ jV fp s7.heap) σ8 H10 s10 -> (∃ m', m' < n /\ W (i + 1) m' σ8 H10) ->
     ∃ m, m < n /\ ∃ i σ' H', Inv (b6 X scope N (s2.heap.push { cls := .type "list", data := .seq ([] : List Value).toArray }).objs.size { s2 with heap := s2.heap.push { cls := .type "list", data := .seq ([] : List Value).toArray } } (upd H2 s2.heap.objs.size (.lst [])) fp) [] σ' H' s10 /\ tn i s10.heap /\ (∀ b ∈ fp, H' b = none) /\ W i m σ' H' := fun {s10 H10} I10 ⟨m', hm, w10⟩ => by
    refine ⟨m', hm, i + 1, σ8, H10, I10.gu, T.keep _ _ _ st7 fun b hb o e => (I10.pin (b, o) (List.mem_append_right _ (List.mem_append_right _ (cF hb e)))).1, fun b hb => ?_, w10⟩
    obtain ⟨o, e, d⟩ := T.obj _ _ st7 b hb
    exact (I10.pin (b, o) (List.mem_append_right _ (List.mem_append_right _ (cF hb e)))).2.1
   cases ok with
   | false =>
    rw [if_neg Bool.false_ne_true] at q9
    exact wpAny_pure ⟨rfl, again I9 q9⟩
   | true =>
    rw [if_pos rfl] at q9
    refine wpAny_bind (wpAny_bind (nI (he _ _ _ fp _ s9 σ8 H9 _ I9 q9) fun y s10 ⟨v10, H10, I10, r10, ys, hD, hz, w10⟩ => ?_))
    refine wpAny_bind (nI (kK _ s10 σ8 H10 (.ref s2.heap.objs.size) [v10] _ [y] (fun _ H' => H' = upd H10 s2.heap.objs.size (.lst (ys ++ [v10]))) I10 rfl (.cons r10 .nil) ⟨_, ys, v10, rfl, rfl, hD, hz, rfl⟩) fun _ s11 ⟨_, H11, I11, _, e11⟩ => ?_)
    subst e11
    exact wpAny_pure (wpAny_pure ⟨rfl, again I11 w10⟩)
 exact codeAny_compStart_list (loop _ rfl) (T.self _ 0 _ _ _ st4 (loop _ rfl))
theorem B4 {X : Cx} {i : Nat} {y : Str} {py spos : Pos} {tg iter elt : Expr} {ifs : List Expr} {scope : Scope} {pos : Pos} {N : List Str} {cap : List (Option Nat)} {wi : TI} {g : TG} {tc : TT} {te : TE}
  (hN : X.N.Nodup) (hi' : X.N[i]? = some y) (hx : Loc X.env.scope y) (hc : X.calm = true) (S : CpScope X scope N cap) (hi : PI X tg iter wi)
  (hg : ∀ C s₀ H₀ ex, PG (b6 X scope N C s₀ H₀ ex) tg g) (ht : ∀ C s₀ H₀ ex, DC (b6 X scope N C s₀ H₀ ex) ifs tc) (he : ∀ C s₀ H₀ ex, PE (b6 X scope N C s₀ H₀ ex) elt te)
  (hsw : swapsWith (.ListComp elt [⟨tg, iter, ifs, 0⟩] scope pos) (some (.Name y py)) spos.line X.env = pure true)
  (hf : X.fn y = true \/ X.env.scope.names.lookup y = some .local) (hs : ∀ x, foldedSetIterable iter X.env x = pure x := by intro _; rfl) :
  PS X (.Assign [.Name y py] (.ListComp elt [⟨tg, iter, ifs, 0⟩] scope pos) spos) (D7 (Kq cap wi g tc te) (Bs i)) := by
 intro pins s σ H D I h
 rw [exec_Assign_Name_used _ _ _ _ hsw]
 refine wpAny_bind (wpAny_standAt (wpAny_bind ?_))
 show wpAny _ X.A (do let _ <- comprehension (.ListComp elt [⟨tg, iter, ifs, 0⟩] scope pos) scope X.env (firstIterPos [⟨tg, iter, ifs, 0⟩] pos) (newList []) (firstAsync [⟨tg, iter, ifs, 0⟩]) (firstIter [⟨tg, iter, ifs, 0⟩] X.env) (some (assign (.Name y py) X.env))) _ _ s
 refine wpAny_bind (wpAny_mono (GV (Q' := fun _ s' => SP X pins D .next s') hc S hi hg ht he hs pins s σ H _ I h ?_) (fun _ s' hq => wpAny_pure (wpAny_pure hq)) fun _ _ e => e)
 intro s6 C Dd H5 m hn fk inv q v
 have Ia := inv s6.heap (Heap.SameBut.refl _ _)
 obtain ⟨oC, hoC⟩ : ∃ o, s6.heap.get? C = some o /\ ∀ v, o.data ≠ .cell v := by
  obtain ⟨o, es, ep, e, d, _⟩ := hn
  exact ⟨o, e, fun v z => by rw [d] at z; cases z⟩
 have Ip := Ia.pinned (fp := [C]) (fun b hb => by rw [List.mem_singleton] at hb; rw [hb]; exact fk) (fun b hb => by rw [List.mem_singleton] at hb; rw [hb]; exact ⟨oC, hoC⟩)
 show wpAny _ X.A (assign (.Name y py) X.env (.ref Dd)) _ _ s6
 refine cQ (yu hN hi' hx hf _ s6 σ H5 (.ref Dd) (.ref Dd) _ Ip rfl q) fun _ s7 ⟨σ7, H7, I7, q7⟩ => ?_
 have hp := I7.pin (C, oC) (List.mem_append_right _ (List.mem_append_right _ (cF (List.mem_singleton.mpr rfl) hoC.1)))
 refine ⟨m, hn.at' fun o e => by rw [hoC.1] at e; cases e; exact hp.1, fun h' sb => ?_⟩
 have nC : ∀ c v, H7 c = some v -> c ≠ C := fun c v e z => by rw [z, hp.2.1] at e; cases e
 refine ⟨σ7, H7, ?_, q7⟩
 refine I7.gu.yN (ch := [C]) rfl ⟨fun b o e n hb hx => ?_, fun b o e n hb hx => ?_, fun b o e n hx => n, fun b o e hx => ?_, fun _ _ e => e, fun _ _ _ e => e, fun _ _ e => ⟨#[], by rw [Array.append_empty]; exact e⟩⟩ ?_ I7.bare ?_
 ·exact sb.extBut b o (by simpa using hx) e
 ·exact ⟨o.slots, sb.extBut b o (by simpa using hx) e⟩
 ·exact ⟨o, sb.extBut b o (by simpa using hx) e⟩
 ·intro b o e
  refine (I7.hok b o e).stay (fun c v hc q => sb.extBut c v ?_ q) (fun _ q => q) fun _ _ q => q
  rcases hc with z | z
  ·rw [z]; exact nC b o e
  ·exact nC c _ z
 ·intro b hb
  rw [List.mem_singleton] at hb
  rw [hb]
  exact ⟨fk.2.2.2.1, fk.2.1, fk.2.2.2.2.1, fk.2.2.2.2.2⟩
end L2
namespace L2
open PySem PySem.Spec PyProof.Rows
section
variable {X : Cx} {tg : Expr}
end
end L2
namespace L2
open PySem PySem.Spec PyProof.Rows
section
variable {prog : Program} {w : World} {A : Around} {E : Value -> Shared -> Prop} {s : Shared}
end
section
variable {X : Cx} {o e : Expr} {to : TE} {tl : TO} {p2 spos pos : Pos}
end
end L2
namespace Sx
open PySem PyProof.Rows
structure Ord where
 lt : Nat -> Nat -> Bool
 irr : ∀ i, lt i i = false
 tr : ∀ i j k, lt i j = true -> lt j k = true -> lt i k = true
 neg : ∀ i j k, lt i k = true -> lt i j = true \/ lt j k = true
def P (o : Ord) (i j : Nat) : Prop := o.lt i j = true \/ (o.lt j i = false /\ i < j)
def So (o : Ord) (g : Nat -> Nat) (a b : Nat) : Prop := ∀ i j, a <= i -> i < j -> j < b -> P o (g i) (g j)
def Cl (g : Nat -> Nat) (a b : Nat) : Prop := ∀ i, a <= i -> i < b -> a <= g i /\ g i < b
def rev (g : Nat -> Nat) (i j : Nat) : Nat -> Nat := fun k => if i <= k /\ k < j then g (i + j - 1 - k) else g k
def mv (g : Nat -> Nat) (src dst : Nat) : Nat -> Nat := fun k => if k = dst then g src else if dst < k /\ k <= src then g (k - 1) else g k
section
variable {prog : Program} {w : World} {A : Around} {E : Value -> Shared -> Prop} {s : Shared} {o : Ord} {N : Nat} {f : Nat -> Keyed} {kd : SortKind} {g : Nat -> Nat} {p : Array (Nat × Nat × Nat)} {st : SortSt}
structure Sg (N : Nat) (f : Nat -> Keyed) (kd : SortKind) (g : Nat -> Nat) (p : Array (Nat × Nat × Nat)) (st : SortSt) : Prop where
 size : (arrOf st).size = N
 get : ∀ i, i < N -> (arrOf st)[i]? = some (f (g i))
 lt : ∀ i, i < N -> g i < N
 kind : kindOf st = kd
 failed : failedOf st = none
 pend : pendingOf st = p
structure Rn (o : Ord) (g0 g : Nat -> Nat) (a b : Nat) : Prop where
 out : ∀ i, i < a \/ b <= i -> g i = g0 i
 cl : Cl g a b
 so : So o g a b
end
section
variable {prog : Program} {w : World} {A : Around} {E : Value -> Shared -> Prop} {s : Shared} {o : Ord} {N : Nat} {f : Nat -> Keyed} {kd : SortKind} {g g0 : Nat -> Nat} {p : Array (Nat × Nat × Nat)} {st : SortSt}
structure Dc (o : Ord) (g0 g : Nat -> Nat) (a b q : Nat) : Prop where
 out : ∀ i, i < a \/ b <= i -> g i = g0 i
 cl : Cl g a b
 few : a + (q + 1) <= b
 dn : ∀ i j, a <= i -> i < j -> j < b -> i < b - (q + 1) -> P o (g j) (g i)
 id : ∀ i, b - (q + 1) <= i -> i < b -> g i = i
 al : ∀ i j, b - (q + 1) <= i -> i < b -> b - (q + 1) <= j -> j < b -> o.lt i j = false
end
end Sx
namespace Sx
open PySem PyProof.Rows
def wN : Bool -> Keyed -> Array Keyed -> Nat -> Nat -> Nat -> StateT SortSt Sem (Option Nat) := sortPriv% PySem.Builtin.gallop
section
variable {prog : Program} {w : World} {A : Around} {E : Value -> Shared -> Prop} {s : Shared} {st : SortSt}
end
section
variable {prog : Program} {w : World} {A : Around} {E : Value -> Shared -> Prop} {s : Shared} {o : Ord} {N : Nat} {f : Nat -> Keyed} {kd : SortKind} {st : SortSt}
end
end Sx
namespace Sx
open PySem PyProof.Rows
def JZ : Nat -> StateT SortSt Sem Unit := sortPriv% PySem.Builtin.setMinGallop
section
variable {o : Ord} {N : Nat} {f : Nat -> Keyed} {A B hs : List Nat} {ia ib : Nat}
def fa (f : Nat -> Keyed) (l : List Nat) : Array Keyed := (l.map f).toArray
structure Ab (o : Ord) (N : Nat) (A B : List Nat) : Prop where
 sa : A.Pairwise (P o)
 sb : B.Pairwise (P o)
 lt : ∀ x ∈ A, ∀ y ∈ B, x < y
 nb : ∀ y ∈ B, y < N
 na : ∀ x ∈ A, x < N
structure Mg (o : Ord) (A B hs : List Nat) (ia ib : Nat) : Prop where
 la : ia <= A.length
 lb : ib <= B.length
 len : hs.length = ia + ib
 so : hs.Pairwise (P o)
 mem : ∀ x ∈ hs, x ∈ A \/ x ∈ B
 ua : ∀ x ∈ hs, ∀ y ∈ A.drop ia, P o x y
 ub : ∀ x ∈ hs, ∀ y ∈ B.drop ib, P o x y
def Res (o : Ord) (f : Nat -> Keyed) (A B : List Nat) (out : Array Keyed) : Prop := ∃ hs : List Nat, out = fa f hs /\ hs.length = A.length + B.length /\ hs.Pairwise (P o) /\ ∀ x ∈ hs, x ∈ A \/ x ∈ B
end
structure Sm (st st' : SortSt) : Prop where
 a : arrOf st' = arrOf st
 k : kindOf st' = kindOf st
 p : pendingOf st' = pendingOf st
 f : failedOf st' = failedOf st
abbrev G := Option (Array Keyed) × Array Keyed × Nat × Nat × Nat × Nat × Nat
def T3 (a b out : Array Keyed) (ia ib mg ac bc : Nat) : StateT SortSt Sem (ForInStep G) := do
 let x <- elem' a ia
 if (ia + 1 + 1 == a.size) = true then pure (ForInStep.done (some (out.push x ++ b.extract ib b.size ++ a.extract (ia + 1) a.size), out.push x, ia + 1, ib, mg, ac, bc))
 else if (decide (ac < 7) && decide (bc < 7)) = true then pure (ForInStep.done (none, out.push x, ia + 1, ib, mg, ac, bc))
 else pure (ForInStep.yield (none, out.push x, ia + 1, ib, mg, ac, bc))
def T2 (a b out : Array Keyed) (ia ib mg ac bc : Nat) : StateT SortSt Sem (ForInStep G) := do
 let x <- elem' b ib
 if (ib + 1 == b.size) = true then pure (ForInStep.done (some (out.push x ++ a.extract ia a.size ++ b.extract (ib + 1) b.size), out.push x, ia, ib + 1, mg, ac, bc))
 else
  let y <- elem' a ia
  let r <- wN true y b (ib + 1) (b.size - (ib + 1)) 0
  match r with
  | some k =>
   if k > 0 then
    if (ib + 1 + k == b.size) = true then pure (ForInStep.done (some (out.push x ++ b.extract (ib + 1) (ib + 1 + k) ++ a.extract ia a.size ++ b.extract (ib + 1 + k) b.size), out.push x ++ b.extract (ib + 1) (ib + 1 + k), ia, ib + 1 + k, mg, ac, k))
    else T3 a b (out.push x ++ b.extract (ib + 1) (ib + 1 + k)) ia (ib + 1 + k) mg ac k
   else T3 a b (out.push x) ia (ib + 1) mg ac k
  | _ => pure (ForInStep.done (some (out.push x ++ a.extract ia a.size ++ b.extract (ib + 1) b.size), out.push x, ia, ib + 1, mg, ac, bc))
def T1 (a b out : Array Keyed) (ia ib mg ac bc : Nat) : StateT SortSt Sem (ForInStep G) := do
 JZ mg
 let x <- elem' b ib
 let r <- wN false x a ia (a.size - ia) 0
 match r with
 | some k =>
  if k > 0 then
   if (ia + k + 1 == a.size) = true then pure (ForInStep.done (some (out ++ a.extract ia (ia + k) ++ b.extract ib b.size ++ a.extract (ia + k) a.size), out ++ a.extract ia (ia + k), ia + k, ib, mg, k, bc))
   else if (ia + k == a.size) = true then pure (ForInStep.done (some (out ++ a.extract ia (ia + k) ++ a.extract (ia + k) a.size ++ b.extract ib b.size), out ++ a.extract ia (ia + k), ia + k, ib, mg, k, bc))
   else T2 a b (out ++ a.extract ia (ia + k)) (ia + k) ib mg k bc
  else T2 a b out ia ib mg k bc
 | _ => pure (ForInStep.done (some (out ++ a.extract ia a.size ++ b.extract ib b.size), out, ia, ib, mg, ac, bc))
section
variable {prog : Program} {w : World} {A : Around} {E : Value -> Shared -> Prop} {s : Shared} {o : Ord} {N : Nat} {f : Nat -> Keyed} {kd : SortKind} {st st0 : SortSt} {X Y hs : List Nat} {ia ib : Nat}
end
end Sx
namespace Sx
open PySem PyProof.Rows
section
variable {o : Ord} {N : Nat} {f : Nat -> Keyed} {A B ts : List Nat} {na nb : Nat}
structure Mh (o : Ord) (A B ts : List Nat) (na nb : Nat) : Prop where
 la : na <= A.length
 lb : nb <= B.length
 len : ts.length + na + nb = A.length + B.length
 so : ts.Pairwise (P o)
 mem : ∀ x ∈ ts, x ∈ A \/ x ∈ B
 ua : ∀ y ∈ A.take na, ∀ x ∈ ts, P o y x
 ub : ∀ y ∈ B.take nb, ∀ x ∈ ts, P o y x
end
abbrev H := Option (Array Keyed) × Nat × Nat × Array Keyed × Nat × Nat × Nat
def U3 (a b out : Array Keyed) (na nb mg ac bc : Nat) : StateT SortSt Sem (ForInStep H) := do
 let x <- elem' a (na - 1)
 if (na - 1 == 0) = true then pure (ForInStep.done (some (a.extract 0 (na - 1) ++ b.extract 0 nb ++ (out.push x).reverse), na - 1, nb, out.push x, mg, ac, bc))
 else if (decide (ac < 7) && decide (bc < 7)) = true then pure (ForInStep.done (none, na - 1, nb, out.push x, mg, ac, bc))
 else pure (ForInStep.yield (none, na - 1, nb, out.push x, mg, ac, bc))
section
variable {prog : Program} {w : World} {A : Around} {E : Value -> Shared -> Prop} {s : Shared} {o : Ord} {N : Nat} {f : Nat -> Keyed} {kd : SortKind} {st st0 : SortSt} {X Y ts : List Nat} {na nb : Nat}
def Oh (o : Ord) (X Y : List Nat) (n : Nat) (ts : List Nat) (na nb : Nat) : Prop := Mh o X Y ts na nb /\ 1 <= na /\ 2 <= nb /\ na + nb + n <= X.length + Y.length
def H2 (o : Ord) (f : Nat -> Keyed) (X Y : List Nat) (n : Nat) (st0 : SortSt) : ForInStep H -> SortSt -> Prop := fun r st' => Sm st0 st' /\ match r with
 | .done c => (∃ r z, c = (some r, z) /\ Res o f X Y r) \/ ∃ ts na nb mg ac bc, c = (none, na, nb, fa f ts.reverse, mg, ac, bc) /\ Oh o X Y n ts na nb
 | .yield c => ∃ ts na nb mg ac bc, c = (none, na, nb, fa f ts.reverse, mg, ac, bc) /\ Oh o X Y n ts na nb
end
end Sx
namespace Sx
open PySem PyProof.Rows
section
variable {o : Ord} {N : Nat} {f : Nat -> Keyed} {g : Nat -> Nat}
end
section
variable {prog : Program} {w : World} {A : Around} {E : Value -> Shared -> Prop} {s : Shared} {o : Ord} {N : Nat} {f : Nat -> Keyed} {kd : SortKind} {g : Nat -> Nat} {st : SortSt}
end
end Sx
namespace Sx
open PySem PyProof.Rows
abbrev pr (x : Nat × Nat × Nat) : Nat × Nat := (x.1, x.2.1)
def Ji (o : Ord) (g : Nat -> Nat) : List (Nat × Nat) -> Nat -> Nat -> Prop
 | [], a, b => a = b
 | x :: l, a, b => x.1 = a /\ 1 <= x.2 /\ Cl g a (a + x.2) /\ So o g a (a + x.2) /\ Ji o g l (a + x.2) b
def PA (o : Ord) (g : Nat -> Nat) (p : Array (Nat × Nat × Nat)) (b : Nat) : Prop := Ji o g (p.toList.map pr) 0 b
section
variable {o : Ord} {g : Nat -> Nat}
theorem Dp {p : Array (Nat × Nat × Nat)} {i : Nat} (h : i + 1 < p.size) : ∃ l1 x y l2, p = (l1 ++ x :: y :: l2).toArray /\ l1.length = i := by
 have h' : i + 1 < p.toList.length := h
 refine ⟨p.toList.take i, p.toList[i], p.toList[i + 1], p.toList.drop (i + 2), ?_, by rw [List.length_take]; omega⟩
 apply Array.toList_inj.mp
 show p.toList = _
 conv => lhs; rw [<- List.take_append_drop i p.toList, List.drop_eq_getElem_cons (show i < p.toList.length by omega), List.drop_eq_getElem_cons h']
end
section
variable {prog : Program} {w : World} {A : Around} {E : Value -> Shared -> Prop} {s : Shared} {o : Ord} {N : Nat} {f : Nat -> Keyed} {kd : SortKind} {g : Nat -> Nat} {p : Array (Nat × Nat × Nat)} {st : SortSt}
end
end Sx
namespace Sx
open PySem PyProof.Rows
abbrev vv (vs : List Value) (i : Nat) : Keyed := (vs.getD i .none, vs.getD i .none)
section
variable {prog : Program} {w : World} {A : Around} {E : Value -> Shared -> Prop} {s : Shared} {o : Ord} {kd : SortKind}
end
section
variable {prog : Program} {w : World} {A : Around} {E : Value -> Shared -> Prop} {s : Shared}
end
end Sx
namespace Sx
open PySem PyProof.Rows
theorem Er : ∀ a : List Int, HT.lexLt a a = false
 | [] => HT.lq
 | x :: a => by rw [HT.lK, if_pos rfl]; exact Er a
section
variable {prog : Program} {w : World} {A : Around} {E : Value -> Shared -> Prop} {s : Shared}
end
end Sx
namespace L2
open PySem PySem.Spec PyProof.Rows
section
variable {X : Cx}
end
end L2
namespace Sx
open PySem PyProof.Rows
open PySem.AutoSeq1 (wpAny_loadPart')
open PySem.MeetsSeq PySem.MeetsSeq2 PySem.MeetsSeq3
section
variable {prog : Program} {w : World} {A : Around} {E : Value -> Shared -> Prop} {s : Shared}
end
end Sx
namespace L2
open PySem PySem.Spec PyProof.Rows
section
variable {X : Cx}
end
end L2
namespace Am
open PySem
inductive A where
 | unb | non | bl (b : Bool) | int (i : Int) | str (x : Str) | tup (xs : List A) | frz (xs : List A) | rng (lo hi : Int) | ref (n : Nat) | exn (c : Str) | ty (n : String)
inductive O where
 | lst (xs : List A) | dct (kvs : List (List Int × A)) | dki (kvs : List (Int × A)) | ins (c : Str) (fs : List (Str × A))
abbrev aH := List O
inductive R (α : Type) where
 | ok (a : α) (S : aH) | ex (c : Str) (S : aH) | no
def R.bind {α β : Type} (r : R α) (f : α -> aH -> R β) : R β := match r with
 | .ok a S => f a S
 | .ex c S => .ex c S
 | .no => .no
def R.post {α : Type} (r : R α) (P : α -> aH -> Prop) (E : Str -> aH -> Prop) : Prop := match r with
 | .ok a S => P a S
 | .ex c S => E c S
 | .no => False
theorem aN {α β : Type} {r : R α} {f : α -> aH -> R β} {P : β -> aH -> Prop} {E : Str -> aH -> Prop} (h : (r.bind f).post P E) : r.post (fun a S => (f a S).post P E) E := by
 cases r <;> exact h
theorem zo {α : Type} {r : R α} {P P' : α -> aH -> Prop} {E E' : Str -> aH -> Prop} (h : r.post P E) (hp : ∀ a S, P a S -> P' a S) (he : ∀ c S, E c S -> E' c S) : r.post P' E' := by
 cases r with
 | ok a S => exact hp _ _ h
 | ex c S => exact he _ _ h
 | no => exact h.elim
def gd {α : Type} (c : Prop) [Decidable c] (r : R α) : R α := if c then r else .no
def opt {α β : Type} (o : Option β) (f : β -> R α) : R α := match o with
 | some b => f b
 | none => .no
theorem bA {α : Type} {c : Prop} [Decidable c] {r : R α} {P : α -> aH -> Prop} {E : Str -> aH -> Prop} (h : (gd c r).post P E) : c /\ r.post P E := by
 unfold gd at h
 by_cases hc : c
 ·rw [if_pos hc] at h; exact ⟨hc, h⟩
 ·rw [if_neg hc] at h; exact h.elim
theorem aQ {α β : Type} {o : Option β} {f : β -> R α} {P : α -> aH -> Prop} {E : Str -> aH -> Prop} (h : (opt o f).post P E) : ∃ b, o = some b /\ (f b).post P E := by
 cases o with
 | none => exact h.elim
 | some b => exact ⟨b, rfl, h⟩
theorem DH {α : Type} {c : Prop} [Decidable c] {r : R α} (h : c) : gd c r = r := if_pos h
def au (S : aH) (n : Nat) : Option (List A) := match S[n]? with
 | some (.lst xs) => some xs
 | _ => none
theorem aU {S : aH} {n : Nat} {xs : List A} (h : au S n = some xs) : S[n]? = some (.lst xs) := by
 unfold au at h
 split at h
 ·rename_i e; cases h; exact e
 ·cases h
theorem qb {S : aH} {n : Nat} {xs : List A} (h : S[n]? = some (.lst xs)) : au S n = some xs := by
 unfold au; rw [h]
inductive RS where
 | nx (τ : List A) (S : aH) | rt (a : A) (S : aH) | bk (τ : List A) (S : aH) | ct (τ : List A) (S : aH) | ex (c : Str) (S : aH) | no
abbrev Ex := List A -> aH -> R A
abbrev jF := List A -> aH -> R (List A)
abbrev Te := List A -> aH -> R Bool
abbrev Sm := List A -> aH -> RS
abbrev Tg := A -> List A -> aH -> R (List A)
end Am
namespace Am
open PySem L2
section
variable (K : PySem.W.Frag) (ρ : List Addr) (H : Hp)
def Lh (K : PySem.W.Frag) (c : Str) (C : Addr) : Prop := PySem.W.nsIn K mainGlobals c = some (some (.ref C))
def Fz (K : PySem.W.Frag) (H : Hp) (a : Addr) (vs : List V) : Prop :=
 (∃ o, H a = some (.frz o (.lst vs))) \/ ∃ (o : Obj) (its : Array Value) (n : Nat), K.lookup a = some o /\ o.cls = .type "list" /\ o.dict = none /\ o.data = .seq its n /\ its.size <= sizeLine /\ Vals vs its.toList
mutual
inductive AV : A -> V -> Prop
 | non : AV .non .non
 | bl (b : Bool) : AV (.bl b) (.bl b)
 | int (i : Int) : AV (.int i) (.int i)
 | str (x : Str) : AV (.str x) (.str x)
 | ty (n : String) : AV (.ty n) (.ty n)
 | tup {a : Addr} {xs : List A} {vs : List V} (h : H a = some (.tup vs)) (r : AVs xs vs) : AV (.tup xs) (.ref a)
 | frz {a : Addr} {xs : List A} {vs : List V} (h : Fz K H a vs) (r : AVs xs vs) : AV (.frz xs) (.ref a)
 | rng {a : Addr} {lo hi : Int} (h : H a = some (.rng lo hi)) : AV (.rng lo hi) (.ref a)
 | ref {a : Addr} {n : Nat} (h : ρ[n]? = some a) : AV (.ref n) (.ref a)
 | exn {a C : Addr} {c : Str} {oe : Obj} (n : Lh K c C) (h : H a = some (.frz oe xu)) (x : XO C oe) : AV (.exn c) (.ref a)
inductive AVs : List A -> List V -> Prop
 | nil : AVs [] []
 | cons {x : A} {v : V} {xs : List A} {vs : List V} (h : AV x v) (t : AVs xs vs) : AVs (x :: xs) (v :: vs)
end
def DV : List (List Int × A) -> List (List Key × V) -> Prop
 | [], [] => True
 | p :: r, q :: r' => (q.1 = p.1.map Sum.inl /\ AV K ρ H p.2 q.2) /\ DV r r'
 | _, _ => False
def DI : List (Int × A) -> List (Key × V) -> Prop
 | [], [] => True
 | p :: r, q :: r' => (q.1 = Sum.inl p.1 /\ AV K ρ H p.2 q.2) /\ DI r r'
 | _, _ => False
def OR (a : Addr) : O -> Prop
 | .lst xs => ∃ vs, H a = some (.lst vs) /\ AVs K ρ H xs vs
 | .dct kvs => ∃ ks, H a = some (.dT ks) /\ DV K ρ H kvs ks
 | .dki kvs => ∃ ks, H a = some (.dK ks) /\ DI K ρ H kvs ks
 | .ins _ _ => ∃ o u, H a = some (.frz o u)
structure Rel (S : aH) : Prop where
 len : ρ.length = S.length
 nd : ρ.Nodup
 «at» : ∀ (n : Nat) (a : Addr) (o : O), ρ[n]? = some a -> S[n]? = some o -> OR K ρ H a o
end
def Mn : HO -> Prop
 | .tup _ => True
 | .rng _ _ => True
 | .frz _ _ => True
 | _ => False
structure Ext0 (ρ ρ' : List Addr) (H H' : Hp) : Prop where
 pre : ρ <+: ρ'
 im : ∀ a u, Mn u -> H a = some u -> H' a = some u
structure Ext (ρ ρ' : List Addr) (H H' : Hp) : Prop extends Ext0 ρ ρ' H H' where
 fr : ∀ a u, H a = some u -> a ∉ ρ -> H' a = some u
 nw : ∀ a, a ∈ ρ' -> a ∈ ρ \/ H a = none
theorem Ext.refl {ρ : List Addr} {H : Hp} : Ext ρ ρ H H := ⟨⟨List.prefix_refl _, fun _ _ _ h => h⟩, fun _ _ h _ => h, fun _ h => .inl h⟩
theorem Ext.trans {ρ ρ1 ρ2 : List Addr} {H H1 H2 : Hp} (a : Ext ρ ρ1 H H1) (b : Ext ρ1 ρ2 H1 H2) : Ext ρ ρ2 H H2 := ⟨⟨a.pre.trans b.pre, fun x u i h => b.im x u i (a.im x u i h)⟩, fun x u h n => b.fr x u (a.fr x u h n) fun z => (a.nw x z).elim n fun z => by (rw [z] at h; cases h), fun x h => by
 by_cases hx : x ∈ ρ
 ·exact .inl hx
 ·right
  cases q : H x with
  | none => rfl
  | some u =>
   rcases b.nw x h with z | z
   ·exact ((a.nw x z).elim hx fun z => by (rw [z] at q; cases q)).elim
   ·rw [a.fr x u q hx] at z; cases z⟩
theorem Ext0.get {ρ ρ' : List Addr} {H H' : Hp} (e : Ext0 ρ ρ' H H') {n : Nat} {a : Addr} (h : ρ[n]? = some a) : ρ'[n]? = some a := by
 obtain ⟨t, rfl⟩ := e.pre
 rw [List.getElem?_append_left (List.getElem?_eq_some_iff.mp h).1]
 exact h
section
variable {K : PySem.W.Frag} {ρ ρ' : List Addr} {H H' : Hp}
theorem Ext0.KD (e : Ext0 ρ ρ' H H') {a : Addr} {vs : List V} (h : dZ K H a vs) : dZ K H' a vs := by
 rcases h with (h | ⟨o, h⟩) | h
 ·exact .inl (.inl (e.im _ _ trivial h))
 ·exact .inl (.inr ⟨o, e.im _ _ trivial h⟩)
 ·exact .inr h
theorem Ext0.fz (e : Ext0 ρ ρ' H H') {a : Addr} {vs : List V} (h : Fz K H a vs) : Fz K H' a vs := by
 rcases h with ⟨o, h⟩ | h
 ·exact .inl ⟨o, e.im _ _ trivial h⟩
 ·exact .inr h
theorem Fz.DW {a : Addr} {vs : List V} (h : Fz K H a vs) : gy K H a vs := by
 rcases h with ⟨o, h⟩ | h
 ·exact .inl (.inr ⟨o, h⟩)
 ·exact .inr h
mutual
theorem AV.eF (e : Ext0 ρ ρ' H H') : ∀ {x : A} {v : V}, AV K ρ H x v -> AV K ρ' H' x v
 | _, _, .non => .non
 | _, _, .bl b => .bl b
 | _, _, .int i => .int i
 | _, _, .str x => .str x
 | _, _, .ty x => .ty x
 | _, _, .tup h r => .tup (e.im _ _ trivial h) (AVs.eF e r)
 | _, _, .frz h r => .frz (e.fz h) (AVs.eF e r)
 | _, _, .rng h => .rng (e.im _ _ trivial h)
 | _, _, .ref h => .ref (e.get h)
 | _, _, .exn n h x => .exn n (e.im _ _ trivial h) x
theorem AVs.eF (e : Ext0 ρ ρ' H H') : ∀ {xs : List A} {vs : List V}, AVs K ρ H xs vs -> AVs K ρ' H' xs vs
 | _, _, .nil => .nil
 | _, _, .cons h t => .cons (AV.eF e h) (AVs.eF e t)
end
theorem DV.eF (e : Ext0 ρ ρ' H H') : ∀ {xs : List (List Int × A)} {vs : List (List Key × V)}, DV K ρ H xs vs -> DV K ρ' H' xs vs
 | [], [], _ => trivial
 | _ :: _, _ :: _, ⟨⟨a, b⟩, r⟩ => ⟨⟨a, AV.eF e b⟩, DV.eF e r⟩
theorem DV.ext {x : List (List Int × A)} {v : List (List Key × V)} (h : DV K ρ H x v) (e : Ext ρ ρ' H H') : DV K ρ' H' x v := DV.eF e.toExt0 h
theorem DI.eF (e : Ext0 ρ ρ' H H') : ∀ {xs : List (Int × A)} {vs : List (Key × V)}, DI K ρ H xs vs -> DI K ρ' H' xs vs
 | [], [], _ => trivial
 | _ :: _, _ :: _, ⟨⟨a, b⟩, r⟩ => ⟨⟨a, AV.eF e b⟩, DI.eF e r⟩
theorem DI.ext {x : List (Int × A)} {v : List (Key × V)} (h : DI K ρ H x v) (e : Ext ρ ρ' H H') : DI K ρ' H' x v := DI.eF e.toExt0 h
theorem AV.ext {x : A} {v : V} (h : AV K ρ H x v) (e : Ext ρ ρ' H H') : AV K ρ' H' x v := AV.eF e.toExt0 h
theorem AVs.ext {x : List A} {v : List V} (h : AVs K ρ H x v) (e : Ext ρ ρ' H H') : AVs K ρ' H' x v := AVs.eF e.toExt0 h
theorem AVs.length : ∀ {xs : List A} {vs : List V}, AVs K ρ H xs vs -> xs.length = vs.length
 | _, _, .nil => rfl
 | _, _, .cons _ t => congrArg (· + 1) (AVs.length t)
theorem AVs.append : ∀ {xs ys : List A} {vs ws : List V}, AVs K ρ H xs vs -> AVs K ρ H ys ws -> AVs K ρ H (xs ++ ys) (vs ++ ws)
 | _, _, _, _, .nil, s => s
 | _, _, _, _, .cons h t, s => .cons h (AVs.append t s)
theorem AVs.take : ∀ {xs : List A} {vs : List V} (n : Nat), AVs K ρ H xs vs -> AVs K ρ H (xs.take n) (vs.take n)
 | _, _, 0, _ => .nil
 | _, _, _ + 1, .nil => .nil
 | _, _, n + 1, .cons h t => .cons h (AVs.take n t)
theorem AVs.drop : ∀ {xs : List A} {vs : List V} (n : Nat), AVs K ρ H xs vs -> AVs K ρ H (xs.drop n) (vs.drop n)
 | _, _, 0, r => r
 | _, _, _ + 1, .nil => .nil
 | _, _, n + 1, .cons _ t => AVs.drop n t
theorem AVs.reverse : ∀ {xs : List A} {vs : List V}, AVs K ρ H xs vs -> AVs K ρ H xs.reverse vs.reverse
 | _, _, .nil => .nil
 | _, _, .cons h t => by rw [List.reverse_cons, List.reverse_cons]; exact (AVs.reverse t).append (.cons h .nil)
theorem AVs.get : ∀ {xs : List A} {vs : List V} {i : Nat} {x : A}, AVs K ρ H xs vs -> xs[i]? = some x -> ∃ v, vs[i]? = some v /\ AV K ρ H x v
 | _, _, _, _, .nil, e => by simp at e
 | _, _, 0, _, .cons h _, e => by simp at e; subst e; exact ⟨_, rfl, h⟩
 | _, _, i + 1, x, .cons _ t, e => by
  obtain ⟨u, h1, h2⟩ := AVs.get (i := i) (x := x) t (by simpa using e)
  exact ⟨u, by simpa using h1, h2⟩
theorem AVs.set {x : A} {v : V} (h : AV K ρ H x v) : ∀ {xs : List A} {vs : List V} (i : Nat), AVs K ρ H xs vs -> AVs K ρ H (xs.set i x) (vs.set i v)
 | _, _, _, .nil => .nil
 | _, _, 0, .cons _ t => .cons h t
 | _, _, i + 1, .cons q t => .cons q (AVs.set h i t)
theorem AVs.one {x : A} {v : V} (h : AV K ρ H x v) : AVs K ρ H [x] [v] := .cons h .nil
theorem mJ : ∀ (ns : List Int), AVs K ρ H (ns.map .int) (ns.map .int)
 | [] => .nil
 | n :: ns => .cons (.int n) (mJ ns)
theorem Rel.lay {S : aH} {p : Addr} {xs : List A} {vs : List V} (R : Rel K ρ H S) (hp : H p = none) (r : AVs K ρ H xs vs) : Ext ρ (ρ ++ [p]) H (upd H p (.lst vs)) /\ Rel K (ρ ++ [p]) (upd H p (.lst vs)) (S ++ [.lst xs]) /\ (ρ ++ [p])[S.length]? = some p := by
 have ex : Ext ρ (ρ ++ [p]) H (upd H p (.lst vs)) := ⟨⟨List.prefix_append _ _, fun a u _ h => by rw [aO (aV h hp)]; exact h⟩, fun a u h _ => by rw [aO (aV h hp)]; exact h, fun a h => by
  rcases List.mem_append.mp h with z | z
  ·exact .inl z
  ·have e : a = p := by simpa using z
   rw [e]; exact .inr hp⟩
 have np : ∀ (n : Nat) (a : Addr), ρ[n]? = some a -> a ≠ p := by
  intro n a e z
  subst z
  have hn : n < S.length := by rw [<- R.len]; exact (List.getElem?_eq_some_iff.mp e).1
  have := R.at n a S[n] e (List.getElem?_eq_getElem hn)
  cases ho : S[n] with
  | lst xs => rw [ho] at this; obtain ⟨vs, h, _⟩ := this; rw [hp] at h; cases h
  | dct _ | dki _ => rw [ho] at this; obtain ⟨vs, h, _⟩ := this; rw [hp] at h; cases h
  | ins _ _ => rw [ho] at this; obtain ⟨_, _, h⟩ := this; rw [hp] at h; cases h
 have last : (ρ ++ [p])[S.length]? = some p := by rw [<- R.len]; simp
 refine ⟨ex, ⟨by simp [R.len], ?_, ?_⟩, last⟩
 ·rw [List.nodup_append]
  refine ⟨R.nd, by simp, fun a ha b hb e => ?_⟩
  have : b = p := by simpa using hb
  obtain ⟨n, hn, e'⟩ := List.mem_iff_getElem.mp ha
  exact np n a (by rw [List.getElem?_eq_getElem hn, e']) (e.trans this)
 ·intro n a o h1 h2
  by_cases hn : n < S.length
  ·rw [List.getElem?_append_left (by rw [R.len]; exact hn)] at h1
   rw [List.getElem?_append_left hn] at h2
   have := R.at n a o h1 h2
   cases o with
   | lst ys => obtain ⟨ws, e, q⟩ := this; exact ⟨ws, by rw [aO (np n a h1)]; exact e, q.ext ex⟩
   | dct _ | dki _ => obtain ⟨ws, e, q⟩ := this; exact ⟨ws, by rw [aO (np n a h1)]; exact e, q.ext ex⟩
   | ins _ _ => obtain ⟨oo, uu, e⟩ := this; exact ⟨oo, uu, by rw [aO (np n a h1)]; exact e⟩
  ·have e : n = S.length := by
    have := (List.getElem?_eq_some_iff.mp h2).1
    simp at this
    omega
   subst e
   rw [last] at h1
   cases h1
   simp at h2
   subst h2
   exact ⟨vs, bL, r.ext ex⟩
theorem Rel.im {S : aH} {p : Addr} {u : HO} (R : Rel K ρ H S) (hp : H p = none) : Ext ρ ρ H (upd H p u) /\ Rel K ρ (upd H p u) S := by
 have ex : Ext ρ ρ H (upd H p u) := ⟨⟨List.prefix_refl _, fun a u _ h => by rw [aO (aV h hp)]; exact h⟩, fun a u h _ => by rw [aO (aV h hp)]; exact h, fun _ h => .inl h⟩
 refine ⟨ex, R.len, R.nd, fun n a o h1 h2 => ?_⟩
 have := R.at n a o h1 h2
 cases o with
 | lst ys => obtain ⟨ws, e, q⟩ := this; exact ⟨ws, by rw [aO (aV e hp)]; exact e, q.ext ex⟩
 | dct _ | dki _ => obtain ⟨ws, e, q⟩ := this; exact ⟨ws, by rw [aO (aV e hp)]; exact e, q.ext ex⟩
 | ins _ _ => obtain ⟨oo, uu, e⟩ := this; exact ⟨oo, uu, by rw [aO (aV e hp)]; exact e⟩
theorem Rel.put {S : aH} {n : Nat} {a : Addr} {xs ys : List A} {ws : List V} (R : Rel K ρ H S) (ha : ρ[n]? = some a) (hS : S[n]? = some (.lst xs)) (r : AVs K ρ H ys ws) : Ext ρ ρ H (upd H a (.lst ws)) /\ Rel K ρ (upd H a (.lst ws)) (S.set n (.lst ys)) := by
 obtain ⟨vs, e, _⟩ := R.at n a _ ha hS
 have ex : Ext ρ ρ H (upd H a (.lst ws)) := ⟨⟨List.prefix_refl _, fun b u i h => by
  have : b ≠ a := by
   intro z; subst z; rw [e] at h; cases h; exact i
  rw [aO this]; exact h⟩, fun b u h n => by
  rw [aO (fun z => n (by rw [z]; exact List.mem_of_getElem? ha))]; exact h, fun _ h => .inl h⟩
 refine ⟨ex, by rw [List.length_set]; exact R.len, R.nd, fun m b o h1 h2 => ?_⟩
 by_cases hm : m = n
 ·subst hm
  rw [ha] at h1; cases h1
  rw [List.getElem?_set_self (List.getElem?_eq_some_iff.mp hS).1] at h2
  cases h2
  exact ⟨ws, bL, r.ext ex⟩
 ·rw [List.getElem?_set_ne (Ne.symm hm)] at h2
  have nb : b ≠ a := fun z => by
   subst z
   obtain ⟨l1, e1⟩ := List.getElem?_eq_some_iff.mp ha
   obtain ⟨l2, e2⟩ := List.getElem?_eq_some_iff.mp h1
   exact hm ((List.getElem_inj R.nd).mp (e2.trans e1.symm))
  have := R.at m b o h1 h2
  cases o with
  | lst ys => obtain ⟨ws', e', q⟩ := this; exact ⟨ws', by rw [aO nb]; exact e', q.ext ex⟩
  | dct _ | dki _ => obtain ⟨ws', e', q⟩ := this; exact ⟨ws', by rw [aO nb]; exact e', q.ext ex⟩
  | ins _ _ => obtain ⟨oo, uu, e'⟩ := this; exact ⟨oo, uu, by rw [aO nb]; exact e'⟩
theorem Rel.lst {S : aH} {n : Nat} {a : Addr} {xs : List A} (R : Rel K ρ H S) (ha : ρ[n]? = some a) (hS : S[n]? = some (.lst xs)) : ∃ vs, H a = some (.lst vs) /\ AVs K ρ H xs vs := R.at n a _ ha hS
structure SR (K : PySem.W.Frag) (ρ : List Addr) (H : Hp) (τ : List A) (σ : St) : Prop where
 len : τ.length = σ.length
 «at» : ∀ (i : Nat) (a : A), τ[i]? = some a -> a = .unb \/ ∃ v, σ[i]? = some (some v) /\ AV K ρ H a v
theorem SR.eF {τ : List A} {σ : St} (s : SR K ρ H τ σ) (e : Ext0 ρ ρ' H H') : SR K ρ' H' τ σ := ⟨s.len, fun i a h => by
 rcases s.at i a h with z | ⟨v, h1, h2⟩
 ·exact .inl z
 ·exact .inr ⟨v, h1, AV.eF e h2⟩⟩
theorem SR.ext {τ : List A} {σ : St} (s : SR K ρ H τ σ) (e : Ext ρ ρ' H H') : SR K ρ' H' τ σ := s.eF e.toExt0
theorem Rel.out {S : aH} {D : Addr} {vs ws : List V} (R : Rel K ρ H S) (hD : H D = some (.lst vs)) (hn : D ∉ ρ) : Ext0 ρ ρ H (upd H D (.lst ws)) /\ Rel K ρ (upd H D (.lst ws)) S := by
 have ex : Ext0 ρ ρ H (upd H D (.lst ws)) := ⟨List.prefix_refl _, fun b u i h => by
  have : b ≠ D := by
   intro z; subst z; rw [hD] at h; cases h; exact i
  rw [aO this]; exact h⟩
 refine ⟨ex, R.len, R.nd, fun n a o h1 h2 => ?_⟩
 have na : a ≠ D := fun z => hn (by rw [<- z]; exact List.mem_of_getElem? h1)
 have := R.at n a o h1 h2
 cases o with
 | lst ys => obtain ⟨ws', e, q⟩ := this; exact ⟨ws', by rw [aO na]; exact e, AVs.eF ex q⟩
 | dct _ | dki _ => obtain ⟨ws', e, q⟩ := this; exact ⟨ws', by rw [aO na]; exact e, q.eF ex⟩
 | ins _ _ => obtain ⟨oo, uu, e⟩ := this; exact ⟨oo, uu, by rw [aO na]; exact e⟩
theorem Rel.take {S : aH} {D : Addr} {xs : List A} {vs : List V} (R : Rel K ρ H S) (hD : H D = some (.lst vs)) (hn : D ∉ ρ) (r : AVs K ρ H xs vs) : Rel K (ρ ++ [D]) H (S ++ [.lst xs]) /\ (ρ ++ [D])[S.length]? = some D := by
 have ex : Ext0 ρ (ρ ++ [D]) H H := ⟨List.prefix_append _ _, fun _ _ _ h => h⟩
 have last : (ρ ++ [D])[S.length]? = some D := by rw [<- R.len]; simp
 refine ⟨⟨by simp [R.len], ?_, fun n a o h1 h2 => ?_⟩, last⟩
 ·rw [List.nodup_append]
  refine ⟨R.nd, by simp, fun a ha b hb e => ?_⟩
  have : b = D := by simpa using hb
  exact hn (by rw [<- this, <- e]; exact ha)
 ·by_cases hs : n < S.length
  ·rw [List.getElem?_append_left (by rw [R.len]; exact hs)] at h1
   rw [List.getElem?_append_left hs] at h2
   have := R.at n a o h1 h2
   cases o with
   | lst ys => obtain ⟨ws, e, q⟩ := this; exact ⟨ws, e, AVs.eF ex q⟩
   | dct _ | dki _ => obtain ⟨ws, e, q⟩ := this; exact ⟨ws, e, q.eF ex⟩
   | ins _ _ => obtain ⟨oo, uu, e⟩ := this; exact ⟨oo, uu, e⟩
  ·have e : n = S.length := by
    have := (List.getElem?_eq_some_iff.mp h2).1
    simp at this
    omega
   subst e
   rw [last] at h1
   cases h1
   simp at h2
   subst h2
   exact ⟨vs, hD, AVs.eF ex r⟩
theorem SR.set {τ : List A} {σ : St} {i : Nat} {a : A} {v : V} (s : SR K ρ H τ σ) (h : AV K ρ H a v) : SR K ρ H (τ.set i a) (σ.set i (some v)) := by
 refine ⟨by simp [s.len], fun j b e => ?_⟩
 by_cases hj : j = i
 ·subst hj
  have hl : j < τ.length := by
   have := (List.getElem?_eq_some_iff.mp e).1
   simpa using this
  rw [List.getElem?_set_self hl] at e
  cases e
  exact .inr ⟨v, List.getElem?_set_self (by rw [<- s.len]; exact hl), h⟩
 ·rw [List.getElem?_set_ne (Ne.symm hj)] at e
  rw [List.getElem?_set_ne (Ne.symm hj)]
  exact s.at j b e
end
end Am
namespace Am
open PySem PySem.Spec PyProof.Rows L2
def XE (X : Cx) (ρ : List Addr) (H : Hp) : Str -> aH -> Prop := fun c S' => ∀ (C : Addr) (ρ' : List Addr) (H' : Hp), Lh X.K c C -> Ext ρ ρ' H H' -> Rel X.K ρ' H' S' -> EX X (.ref C) none H'
theorem XE.ext {X : Cx} {ρ ρ' : List Addr} {H H' : Hp} {c : Str} {S : aH} (h : XE X ρ H c S) (e : Ext ρ ρ' H H') : XE X ρ' H' c S := fun C ρ2 H2 n e2 => h C ρ2 H2 n (e.trans e2)
def oM (X : Cx) (ρ : List Addr) (H : Hp) (Q : VK) : A -> aH -> Prop := fun a S' => ∀ ρ' H' v, Ext ρ ρ' H H' -> Rel X.K ρ' H' S' -> AV X.K ρ' H' a v -> Q v H'
def KO (X : Cx) (ρ : List Addr) (H : Hp) (Q : Bool -> Hp -> Prop) : Bool -> aH -> Prop := fun b S' => ∀ ρ' H', Ext ρ ρ' H H' -> Rel X.K ρ' H' S' -> Q b H'
def MB (X : Cx) (ρ : List Addr) (H : Hp) (Q : List V -> Hp -> Prop) : List A -> aH -> Prop := fun as S' => ∀ ρ' H' vs, Ext ρ ρ' H H' -> Rel X.K ρ' H' S' -> AVs X.K ρ' H' as vs -> Q vs H'
theorem oM.ext {X : Cx} {ρ ρ' : List Addr} {H H' : Hp} {Q : VK} {a : A} {S : aH} (h : oM X ρ H Q a S) (e : Ext ρ ρ' H H') : oM X ρ' H' Q a S := fun ρ2 H2 v e2 => h ρ2 H2 v (e.trans e2)
theorem KO.ext {X : Cx} {ρ ρ' : List Addr} {H H' : Hp} {Q : Bool -> Hp -> Prop} {a : Bool} {S : aH} (h : KO X ρ H Q a S) (e : Ext ρ ρ' H H') : KO X ρ' H' Q a S := fun ρ2 H2 e2 => h ρ2 H2 (e.trans e2)
theorem aJ {α : Type} {X : Cx} {ρ ρ' : List Addr} {H H' : Hp} {r : R α} {P P' : α -> aH -> Prop} (h : r.post P (XE X ρ H)) (e : Ext ρ ρ' H H') (hp : ∀ a S, P a S -> P' a S) : r.post P' (XE X ρ' H') := zo h hp fun _ _ z => z.ext e
def tE (X : Cx) (c : Ex) : TE := fun σ H Q => ∃ ρ S τ, Rel X.K ρ H S /\ SR X.K ρ H τ σ /\ (c τ S).post (oM X ρ H Q) (XE X ρ H)
def tT (X : Cx) (c : Te) : TT := fun σ H Q => ∃ ρ S τ, Rel X.K ρ H S /\ SR X.K ρ H τ σ /\ (c τ S).post (KO X ρ H Q) (XE X ρ H)
def tL (X : Cx) (c : jF) : TA := fun σ H Q => ∃ ρ S τ, Rel X.K ρ H S /\ SR X.K ρ H τ σ /\ (c τ S).post (MB X ρ H Q) (XE X ρ H)
def AE (X : Cx) (e : Expr) (c : Ex) : Prop := PE X e (tE X c)
def AT (X : Cx) (e : Expr) (c : Te) : Prop := PT X e (tT X c)
def AW (X : Cx) (e : Expr) (c : Te) : Prop := PW X e (tT X c)
def AL (X : Cx) (es : List Expr) (c : jF) : Prop := PA X es (tL X c)
theorem PE.imp {X : Cx} {e : Expr} {t t' : TE} (h : PE X e t) (i : ∀ σ H Q, t' σ H Q -> t σ H Q) : PE X e t' := fun pins s σ H Q I q => h pins s σ H Q I (i σ H Q q)
theorem PT.imp {X : Cx} {e : Expr} {t t' : TT} (h : PT X e t) (i : ∀ σ H Q, t' σ H Q -> t σ H Q) : PT X e t' := fun pins s σ H Q I q => h pins s σ H Q I (i σ H Q q)
theorem PW.imp {X : Cx} {e : Expr} {t t' : TT} (h : PW X e t) (i : ∀ σ H Q, t' σ H Q -> t σ H Q) : PW X e t' := fun w pins s σ H Q I q => h w pins s σ H Q I (i σ H Q q)
theorem PA.imp {X : Cx} {e : List Expr} {t t' : TA} (h : PA X e t) (i : ∀ σ H Q, t' σ H Q -> t σ H Q) : PA X e t' := fun p pins s σ H Q I q => h p pins s σ H Q I (i σ H Q q)
theorem AW.at {X : Cx} {e : Expr} {c : Te} (h : AW X e c) : AT X e c := h _
def A.fX : A -> Bool
 | .unb => true
 | _ => false
def ah (i : Nat) : Ex := fun τ S => if (τ.getD i .unb).fX then .no else .ok (τ.getD i .unb) S
def eC (a : A) : Ex := fun _ S => .ok a S
section
variable {X : Cx} {pos : Pos} {a b : Expr}
theorem aa (i : Nat) {x : Str} (hN : X.N[i]? = some x := by rfl) (hv : J_ X.env.scope x := by first | exact Or.inl rfl | exact Or.inr (Or.inl rfl) | exact Or.inr (Or.inr rfl)) (hd : (x == ("__debug__" : Str)) = false := by decide)
  (hcd : (x == ("__classdict__" : Str)) = false := by decide) : AE X (.Name x pos) (ah i) := PE.imp (HA hN hv hd hcd) fun σ H Q ⟨ρ, S, τ, R, r, h⟩ => by
 unfold ah at h
 cases hi : τ[i]? with
 | none =>
  rw [List.getD_eq_getElem?_getD, hi] at h
  exact h.elim
 | some x =>
  rw [List.getD_eq_getElem?_getD, hi] at h
  rcases r.at i x hi with z | ⟨v, e, q⟩
  ·subst z; exact h.elim
  ·refine ⟨v, e, ?_⟩
   cases x <;> first | (exact h ρ H v .refl R q) | exact h.elim
theorem aF {i : Int} {j pos} : AE X (.Constant (.int i) j pos) (eC (.int i)) := PE.imp vK fun σ H Q ⟨ρ, S, τ, R, r, h⟩ => h ρ H _ .refl R (.int i)
theorem j0 {i : Bool} {j pos} : AE X (.Constant (.bool i) j pos) (eC (.bl i)) := PE.imp JG fun σ H Q ⟨ρ, S, τ, R, r, h⟩ => h ρ H _ .refl R (.bl i)
theorem A1 {j pos} : AE X (.Constant .none j pos) (eC .non) := PE.imp Iw fun σ H Q ⟨ρ, S, τ, R, r, h⟩ => h ρ H _ .refl R .non
theorem pe {x : Str} {i : Int} {t : Tok} (hm : X.mg x = some (.int i t)) (hg : Gl X x := by rfl) (hd : (x == ("__debug__" : Str)) = false := by decide) : AE X (.Name x pos) (eC (.int i)) :=
 PE.imp (Ey (v := .int i) hg hm ⟨t, rfl⟩ hd) fun σ H Q ⟨ρ, S, τ, R, r, h⟩ => h ρ H _ .refl R (.int i)
def aA (f : A -> A -> aH -> R A) (ca cb : Ex) : Ex := fun τ S => (ca τ S).bind fun a S1 => (cb τ S1).bind fun b S2 => f a b S2
def r2 (X : Cx) (f : A -> A -> aH -> R A) : R2 := fun x y H Q => ∃ ρ S a b, Rel X.K ρ H S /\ AV X.K ρ H a x /\ AV X.K ρ H b y /\ (f a b S).post (oM X ρ H Q) (XE X ρ H)
def r1 (X : Cx) (f : A -> aH -> R A) : V -> Hp -> VK -> Prop := fun x H Q => ∃ ρ S a, Rel X.K ρ H S /\ AV X.K ρ H a x /\ (f a S).post (oM X ρ H Q) (XE X ρ H)
def rN (X : Cx) (f : List A -> aH -> R A) : List V -> Hp -> VK -> Prop := fun xs H Q => ∃ ρ S as, Rel X.K ρ H S /\ AVs X.K ρ H as xs /\ (f as S).post (oM X ρ H Q) (XE X ρ H)
theorem fY.imp {f : Value -> Value -> Sem Value} {r r' : R2} (h : fY X f r) (i : ∀ x y H Q, r' x y H Q -> r x y H Q) : fY X f r' := fun pins s σ H x y v u Q I rx ry q => h pins s σ H x y v u Q I rx ry (i _ _ _ _ q)
theorem bR.imp {f : Value} {r r' : List V -> Hp -> VK -> Prop} (h : bR X f r) (i : ∀ x H Q, r' x H Q -> r x H Q) : bR X f r' := fun pins s σ H x v Q I rx q => h pins s σ H x v Q I rx (i _ _ _ q)
theorem mE {f : A -> A -> aH -> R A} {ca cb : Ex} {σ : L2.St} {H : Hp} {Q : VK} (h : tE X (aA f ca cb) σ H Q) : JI (r2 X f) (tE X ca) (tE X cb) σ H Q := by
 obtain ⟨ρ, S, τ, R, r, h⟩ := h
 refine ⟨ρ, S, τ, R, r, aJ (aN h) .refl fun a S1 h1 ρ1 H1 x e1 R1 v1 => ⟨ρ1, S1, τ, R1, r.ext e1, aJ (aN h1) e1 fun b S2 h2 ρ2 H2 y e2 R2 v2 => ?_⟩⟩
 exact ⟨ρ2, S2, a, b, R2, v1.ext e2, v2, aJ h2 (e1.trans e2) fun c S3 h3 => h3.ext (e1.trans e2)⟩
theorem aI {op : Operator} {f : A -> A -> aH -> R A} {ca cb : Ex} (ho : fY X (binaryOp op) (r2 X f)) (ha : AE X a ca) (hb : AE X b cb) : AE X (.BinOp a op b pos) (aA f ca cb) :=
 PE.imp (JX ho ha hb) fun σ H Q h => mE h
theorem j_ {op : CmpOp} {f : A -> A -> aH -> R A} {ca cb : Ex} (ho : fY X (compareOp op) (r2 X f)) (ha : AE X a ca) (hb : AE X b cb) (hm : behindInMarks op b = false := by first | exact Bb _ | with_unfolding_all rfl) : AE X (.Compare a [op] [b] pos) (aA f ca cb) :=
 PE.imp (E2 ho ha hb hm) fun σ H Q h => mE h
def A.IZ : A -> aH -> Option Bool
 | .non, _ => some false
 | .bl b, _ => some b
 | .int i, _ => some (i != 0)
 | .str x, _ => if x.length <= sizeLine then some ((x.length : Int) != 0) else none
 | .tup xs, _ => some (!xs.isEmpty)
 | .frz xs, _ => some (!xs.isEmpty)
 | .ref n, S => (au S n).map fun xs => !xs.isEmpty
 | _, _ => none
def kN (c : Ex) : Te := fun τ S => (c τ S).bind fun a S1 => opt (a.IZ S1) fun b => .ok b S1
def jf (c : Ex) : Te := fun τ S => (c τ S).bind fun a S1 => match a with
 | .bl b => .ok b S1
 | _ => .no
theorem qP {K : PySem.W.Frag} {ρ : List Addr} {H : Hp} {b : Bool} {v : V} (h : AV K ρ H (.bl b) v) : v = .bl b := by cases h; rfl
theorem bG {op : CmpOp} {f : A -> A -> aH -> R A} {ca cb : Ex} (ho : fY X (compareOp op) (r2 X f)) (ha : AE X a ca) (hb : AE X b cb) (hm : behindInMarks op b = false := by first | exact Bb _ | with_unfolding_all rfl) : AT X (.Compare a [op] [b] pos) (jf (aA f ca cb)) :=
 PT.imp (EO ho ha hb hm) fun σ H Q ⟨ρ, S, τ, R, r, h⟩ => by
  refine mE ⟨ρ, S, τ, R, r, aJ (aN h) .refl fun c S1 h1 ρ1 H1 x e1 R1 v1 => ?_⟩
  cases c with
  | bl k => cases qP v1; exact ⟨k, rfl, h1 ρ1 H1 e1 R1⟩
  | _ => exact h1.elim
theorem Ho {K : PySem.W.Frag} {ρ : List Addr} {H : Hp} {S : aH} {x : A} {v : V} {b : Bool} (R : Rel K ρ H S) (h : AV K ρ H x v) (e : x.IZ S = some b) : GL K v H b := by
 have emp : ∀ {xs : List A} {vs : List V}, AVs K ρ H xs vs -> (!xs.isEmpty) = !vs.isEmpty := fun r => by cases r <;> rfl
 cases h with
 | non => exact (Option.some.inj e).symm
 | bl b => exact (Option.some.inj e).symm
 | int i => exact (Option.some.inj e).symm
 | str x =>
  by_cases hx : x.length <= sizeLine
  ·exact ⟨hx, by have := (if_pos hx).symm.trans e; exact (Option.some.inj this).symm⟩
  ·have := (if_neg hx).symm.trans e; cases this
 | tup h r => exact .inr (.inl ⟨_, dZ.of h, by rw [<- emp r]; exact (Option.some.inj e).symm⟩)
 | frz h r => exact .inl ⟨_, h.DW, by rw [<- emp r]; exact (Option.some.inj e).symm⟩
 | rng h => cases e
 | ty n => cases e
 | exn n h x => cases e
 | @ref a n h =>
  have e : (au S n).map (fun xs => !xs.isEmpty) = some b := e
  obtain ⟨xs, hn, e⟩ := Option.map_eq_some_iff.mp e
  obtain ⟨vs, h1, h2⟩ := R.lst h (aU hn)
  exact .inl ⟨vs, gy.of h1, by rw [<- emp h2]; exact e.symm⟩
theorem fR {ca : Ex} (ha : AE X a ca) (he : ∀ whole, isTrue a X.env whole = (do let v <- whole; standAt a.pos; holding [v] (truthy v)) := by intro _; rfl) : AT X a (kN ca) :=
 PT.imp (A8 ha he) fun σ H Q ⟨ρ, S, τ, R, r, h⟩ => ⟨ρ, S, τ, R, r, aJ (aN h) .refl fun c S1 h1 ρ1 H1 x e1 R1 v1 => by
  obtain ⟨b, hb, h1⟩ := aQ h1
  exact ⟨b, Ho R1 v1 hb, h1 ρ1 H1 e1 R1⟩⟩
def mP (c : Te) : Te := fun τ S => (c τ S).bind fun b S1 => .ok (!b) S1
def qD (c d : Te) : Te := fun τ S => (c τ S).bind fun b S1 => match b with | true => d τ S1 | false => .ok false S1
def DZ (c d : Te) : Te := fun τ S => (c τ S).bind fun b S1 => match b with | true => .ok true S1 | false => d τ S1
theorem gC {c : Te} (h : AT X a c) : AT X (.UnaryOp .Not a pos) (mP c) := PT.imp (IQ h) fun σ H Q ⟨ρ, S, τ, R, r, h⟩ => ⟨ρ, S, τ, R, r, aJ (aN h) .refl fun b S1 h1 => h1⟩
theorem and_imp {c d : Te} {σ : L2.St} {H : Hp} {Q : Bool -> Hp -> Prop} (h : tT X (qD c d) σ H Q) : JJ (tT X c) (tT X d) σ H Q := by
 obtain ⟨ρ, S, τ, R, r, h⟩ := h
 refine ⟨ρ, S, τ, R, r, aJ (aN h) .refl fun b S1 h1 ρ1 H1 e1 R1 => ?_⟩
 cases b with
 | true =>
  rw [if_pos rfl]
  exact ⟨ρ1, S1, τ, R1, r.ext e1, aJ h1 e1 fun _ _ z => z.ext e1⟩
 | false =>
  rw [if_neg Bool.false_ne_true]
  exact h1 ρ1 H1 e1 R1
theorem or_imp {c d : Te} {σ : L2.St} {H : Hp} {Q : Bool -> Hp -> Prop} (h : tT X (DZ c d) σ H Q) : L1 (tT X c) (tT X d) σ H Q := by
 obtain ⟨ρ, S, τ, R, r, h⟩ := h
 refine ⟨ρ, S, τ, R, r, aJ (aN h) .refl fun b S1 h1 ρ1 H1 e1 R1 => ?_⟩
 cases b with
 | false =>
  rw [if_neg Bool.false_ne_true]
  exact ⟨ρ1, S1, τ, R1, r.ext e1, aJ h1 e1 fun _ _ z => z.ext e1⟩
 | true =>
  rw [if_pos rfl]
  exact h1 ρ1 H1 e1 R1
variable {rest : List Expr}
theorem mG {c : Te} (h : AT X a c) : AW X (.BoolOp .And [a] pos) c := DQ h
theorem ql {c : Te} (h : AT X a c) : AW X (.BoolOp .Or [a] pos) c := G9 h
theorem nk {c d : Te} (h : AT X a c) (h2 : AW X (.BoolOp .And (b :: rest) pos) d) : AW X (.BoolOp .And (a :: b :: rest) pos) (qD c d) := PW.imp (G_ h h2) fun _ _ _ q => and_imp q
theorem rf {c d : Te} (h : AT X a c) (h2 : AW X (.BoolOp .Or (b :: rest) pos) d) : AW X (.BoolOp .Or (a :: b :: rest) pos) (DZ c d) := PW.imp (Jc h h2) fun _ _ _ q => or_imp q
def vE (c d : Ex) : Ex := fun τ S => (c τ S).bind fun a S1 => match a with | .bl true => d τ S1 | .bl false => .ok (.bl false) S1 | _ => .no
def KN (c d : Ex) : Ex := fun τ S => (c τ S).bind fun a S1 => match a with | .bl true => .ok (.bl true) S1 | .bl false => d τ S1 | _ => .no
def Fc (c : Ex) : Ex := fun τ S => (c τ S).bind fun a S1 => match a with | .bl b => .ok (.bl !b) S1 | _ => .no
theorem pR {op} {c : Ex} (h : AE X a c) : AE X (.BoolOp op [a] pos) c := GG h
theorem sY {c d : Ex} (h : AE X a c) (h2 : AE X (.BoolOp .And (b :: rest) pos) d) : AE X (.BoolOp .And (a :: b :: rest) pos) (vE c d) := PE.imp (Ie h h2) fun σ H Q ⟨ρ, S, τ, R, r, h⟩ => by
 refine ⟨ρ, S, τ, R, r, aJ (aN h) .refl fun b S1 h1 ρ1 H1 x e1 R1 v1 => ?_⟩
 cases b with
 | bl k =>
  cases qP v1
  refine ⟨k, rfl, ?_⟩
  cases k with
  | true =>
   rw [if_pos rfl]
   exact ⟨ρ1, S1, τ, R1, r.ext e1, aJ h1 e1 fun _ _ z => z.ext e1⟩
  | false =>
   rw [if_neg Bool.false_ne_true]
   exact h1 ρ1 H1 _ e1 R1 (.bl false)
 | _ => exact h1.elim
theorem Je {c d : Ex} (h : AE X a c) (h2 : AE X (.BoolOp .Or (b :: rest) pos) d) : AE X (.BoolOp .Or (a :: b :: rest) pos) (KN c d) := PE.imp (JV h h2) fun σ H Q ⟨ρ, S, τ, R, r, h⟩ => by
 refine ⟨ρ, S, τ, R, r, aJ (aN h) .refl fun b S1 h1 ρ1 H1 x e1 R1 v1 => ?_⟩
 cases b with
 | bl k =>
  cases qP v1
  refine ⟨k, rfl, ?_⟩
  cases k with
  | false =>
   rw [if_neg Bool.false_ne_true]
   exact ⟨ρ1, S1, τ, R1, r.ext e1, aJ h1 e1 fun _ _ z => z.ext e1⟩
  | true =>
   rw [if_pos rfl]
   exact h1 ρ1 H1 _ e1 R1 (.bl true)
 | _ => exact h1.elim
theorem AU {c : Ex} (h : AE X a c) : AE X (.UnaryOp .Not a pos) (Fc c) := PE.imp (HS h) fun σ H Q ⟨ρ, S, τ, R, r, h⟩ => by
 refine ⟨ρ, S, τ, R, r, aJ (aN h) .refl fun b S1 h1 ρ1 H1 x e1 R1 v1 => ?_⟩
 cases b with
 | bl k =>
  cases qP v1
  exact ⟨k, rfl, h1 ρ1 H1 _ e1 R1 (.bl _)⟩
 | _ => exact h1.elim
def Ms (t : Te) (c d : Ex) : Ex := fun τ S => (t τ S).bind fun b S1 => match b with | true => c τ S1 | false => d τ S1
def aM : jF := fun _ S => .ok [] S
def aq (c : Ex) (d : jF) : jF := fun τ S => (c τ S).bind fun a S1 => (d τ S1).bind fun as S2 => .ok (a :: as) S2
theorem az : AL X [] aM := PA.imp qk fun σ H Q ⟨ρ, S, τ, R, r, h⟩ => h ρ H _ .refl R .nil
theorem af {e : Expr} {es : List Expr} {c : Ex} {d : jF} (ha : AE X e c) (hr : AL X es d) (hs : starEach (e :: es) X.env = (false, eval e X.env) :: starEach es X.env := by rfl) : AL X (e :: es) (aq c d) :=
 PA.imp (kI ha hr hs) fun σ H Q ⟨ρ, S, τ, R, r, h⟩ => by
  refine ⟨ρ, S, τ, R, r, aJ (aN h) .refl fun a S1 h1 ρ1 H1 x e1 R1 v1 => ⟨ρ1, S1, τ, R1, r.ext e1, aJ (aN h1) e1 fun as S2 h2 ρ2 H2 xs e2 R2 v2 => ?_⟩⟩
  exact h2 ρ2 H2 _ (e1.trans e2) R2 (.cons (v1.ext e2) v2)
def jM (d : jF) : Ex := fun τ S => (d τ S).bind fun as S1 => gd (as.length <= sizeLine) (.ok (.tup as) S1)
def newL (as : List A) (S : aH) : R A := gd (as.length <= sizeLine) (.ok (.ref S.length) (S ++ [.lst as]))
def gr (d : jF) : Ex := fun τ S => (d τ S).bind fun as S1 => newL as S1
theorem jA {ρ ρ0 : List Addr} {H H0 : Hp} {S : aH} {as : List A} {vs : List V} {Q : VK} (R : Rel X.K ρ H S) (r : AVs X.K ρ H as vs) (e : Ext ρ0 ρ H0 H) (h : oM X ρ0 H0 Q (.tup as) S) : ∀ p, H p = none -> Q (.ref p) (upd H p (.tup vs)) := fun p hp => by
 obtain ⟨ex, R'⟩ := R.im (u := .tup vs) hp
 exact h ρ _ _ (e.trans ex) R' (.tup bL (r.ext ex))
theorem gn {ρ ρ0 : List Addr} {H H0 : Hp} {S : aH} {as : List A} {vs : List V} {Q : VK} (R : Rel X.K ρ H S) (r : AVs X.K ρ H as vs) (e : Ext ρ0 ρ H0 H) (h : oM X ρ0 H0 Q (.ref S.length) (S ++ [.lst as])) : ∀ p, H p = none -> Q (.ref p) (upd H p (.lst vs)) := fun p hp => by
 obtain ⟨ex, R', g⟩ := R.lay hp r
 exact h _ _ _ (e.trans ex) R' (.ref g)
theorem Ep {ρ ρ0 : List Addr} {H H0 : Hp} {S : aH} {as : List A} {vs : List V} {Q : VK} (R : Rel X.K ρ H S) (r : AVs X.K ρ H as vs) (e : Ext ρ0 ρ H0 H) (h : (newL as S).post (oM X ρ0 H0 Q) (XE X ρ0 H0)) : vs.length <= sizeLine /\ ∀ p, H p = none -> Q (.ref p) (upd H p (.lst vs)) := by
 obtain ⟨hl, h⟩ := bA h
 exact ⟨by rw [<- r.length]; exact hl, gn R r e h⟩
theorem jn {es : List Expr} {d : jF} {x1} (h : AL X es d) : AE X (.Tuple es x1 pos) (jM d) := PE.imp (G2 h) fun σ H Q ⟨ρ, S, τ, R, r, h⟩ => by
 refine ⟨ρ, S, τ, R, r, aJ (aN h) .refl fun as S1 h1 ρ1 H1 xs e1 R1 v1 => ?_⟩
 obtain ⟨hl, h1⟩ := bA h1
 exact ⟨by rw [<- v1.length]; exact hl, jA R1 v1 e1 h1⟩
theorem cV {es : List Expr} {d : jF} (h : AL X es d) : AE X (.List es pos) (gr d) := PE.imp (Hl h) fun σ H Q ⟨ρ, S, τ, R, r, h⟩ =>
 ⟨ρ, S, τ, R, r, aJ (aN h) .refl fun as S1 h1 ρ1 H1 xs e1 R1 v1 => Ep R1 v1 e1 h1⟩
end
end Am
namespace Am
open PySem PySem.Spec PyProof.Rows L2
section
variable {X : Cx} {pos : Pos} {a b : Expr}
def aSub (a b : A) (S : aH) : R A := match a, b with
 | .int i, .int j => .ok (.int (i - j)) S
 | _, _ => .no
theorem cX : fY X (binaryOp .Sub) (r2 X aSub) := fY.imp GJ fun x y H Q ⟨ρ, S, a, b, R, va, vb, h⟩ => by
 cases va <;> first | exact h.elim | (cases vb <;> first | exact h.elim | exact ⟨_, _, rfl, rfl, h _ _ _ .refl R (.int _)⟩)
def uF (i j : Int) : Bool := (decide (-(2 ^ 64) < i) && decide (i < 2 ^ 64)) || (decide (-(2 ^ 64) < j) && decide (j < 2 ^ 64))
theorem mulOk_of {i j : Int} (h : uF i j = true) : Ek i j := by
 unfold uF at h
 simp only [Bool.or_eq_true, Bool.and_eq_true, decide_eq_true_eq] at h
 exact h
def jo (a b : A) (S : aH) : R A := match a, b with
 | .int i, .int j => gd (uF i j) (.ok (.int (i * j)) S)
 | .ref n, .int k => opt (au S n) fun xs => gd (-(2 ^ 63) <= k /\ k < 2 ^ 63 /\ xs.length * k.toNat <= sizeLine) (.ok (.ref S.length) (S ++ [.lst (List.replicate k.toNat xs).flatten]))
 | _, _ => .no
theorem AVs.rep {K : PySem.W.Frag} {ρ : List Addr} {H : Hp} {xs : List A} {vs : List V} (r : AVs K ρ H xs vs) : ∀ k : Nat, AVs K ρ H (List.replicate k xs).flatten (List.replicate k vs).flatten
 | 0 => .nil
 | k + 1 => by rw [List.replicate_succ, List.replicate_succ, List.flatten_cons, List.flatten_cons]; exact r.append (AVs.rep r k)
theorem pT : fY X (binaryOp .Mult) (r2 X jo) := fun pins s σ H x y v u Q I rx ry ⟨ρ, S, a, b, R, va, vb, h⟩ => by
 cases va with
 | int i =>
  cases vb with
  | int j =>
   obtain ⟨hm, h⟩ := bA h
   exact GZ pins s σ H _ _ v u Q I rx ry ⟨i, j, rfl, rfl, mulOk_of hm, h _ _ _ .refl R (.int _)⟩
  | _ => exact h.elim
 | @ref p n hp =>
  cases vb with
  | int k =>
   obtain ⟨xs, hn, h⟩ := aQ h
   obtain ⟨hc, h⟩ := bA h
   obtain ⟨vs, h1, h2⟩ := R.lst hp (aU hn)
   exact HQ pins s σ H _ _ v u Q I rx ry ⟨p, k, vs, rfl, rfl, h1, hc.1, hc.2.1, by rw [<- h2.length]; exact hc.2.2, gn R (h2.rep _) .refl h⟩
  | _ => exact h.elim
 | _ => exact h.elim
def vg (a b : A) (S : aH) : R A := match a, b with
 | .int i, .int j => gd (0 < j /\ j < 18446744073709551616) (.ok (.int (i / j)) S)
 | _, _ => .no
theorem vJ : fY X (binaryOp .FloorDiv) (r2 X vg) := fY.imp BA fun x y H Q ⟨ρ, S, a, b, R, va, vb, h⟩ => by
 cases va <;> first | exact h.elim | (cases vb <;> first | exact h.elim | exact ⟨_, _, rfl, rfl, (bA h).1, (bA h).2 _ _ _ .refl R (.int _)⟩)
def oH (a b : A) (S : aH) : R A := match a, b with
 | .int i, .int j => gd (0 < j) (.ok (.int (i % j)) S)
 | _, _ => .no
theorem qM : fY X (binaryOp .Mod) (r2 X oH) := fY.imp GH fun x y H Q ⟨ρ, S, a, b, R, va, vb, h⟩ => by
 cases va <;> first | exact h.elim | (cases vb <;> first | exact h.elim | exact ⟨_, _, rfl, rfl, (bA h).1, (bA h).2 _ _ _ .refl R (.int _)⟩)
def DR (a b : A) (S : aH) : R A := match a, b with
 | .int i, .int j => gd (0 <= j /\ j <= 1000000 /\ i.natAbs < 2 ^ 64) (.ok (.int (i ^ j.toNat)) S)
 | _, _ => .no
theorem JY : fY X (binaryOp .Pow) (r2 X DR) := fY.imp GO fun x y H Q ⟨ρ, S, a, b, R, va, vb, h⟩ => by
 cases va <;> first | exact h.elim | (cases vb <;> first | exact h.elim | exact ⟨_, _, rfl, rfl, (bA h).1, (bA h).2 _ _ _ .refl R (.int _)⟩)
def aW (a b : A) (S : aH) : R A := match a, b with
 | .int i, .int j => .ok (.int (i + j)) S
 | .tup xs, .tup ys => gd (xs.length + ys.length <= sizeLine) (.ok (.tup (xs ++ ys)) S)
 | .str x, .str y => gd (x.length + y.length <= sizeLine) (.ok (.str (x ++ y)) S)
 | .ref n, .ref m => opt (au S n) fun xs => opt (au S m) fun ys => gd (xs.length + ys.length <= sizeLine) (.ok (.ref S.length) (S ++ [.lst (xs ++ ys)]))
 | _, _ => .no
theorem AVs.nil_inv {K : PySem.W.Frag} {ρ : List Addr} {H : Hp} {xs : List A} {vs : List V} (r : AVs K ρ H xs vs) : xs = [] ↔ vs = [] := by cases r <;> simp
theorem br : fY X (binaryOp .Add) (r2 X aW) := fun pins s σ H x y v u Q I rx ry ⟨ρ, S, a, b, R, va, vb, h⟩ => by
 cases va with
 | int i =>
  cases vb with
  | int j => exact Io pins s σ H _ _ v u Q I rx ry ⟨i, j, rfl, rfl, h _ _ _ .refl R (.int _)⟩
  | _ => exact h.elim
 | str x =>
  cases vb with
  | str y =>
   obtain ⟨hc, h⟩ := bA h
   exact v8 pins s σ H _ _ v u Q I rx ry ⟨x, y, rfl, rfl, hc, h _ _ _ .refl R (.str _)⟩
  | _ => exact h.elim
 | @tup p xs vs h1 r1 =>
  cases vb with
  | @tup q ys ws h2 r2 =>
   obtain ⟨hc, h⟩ := bA h
   by_cases hv : vs = []
   ·have hx := r1.nil_inv.mpr hv
    subst hv hx
    exact CT pins s σ H _ _ v u Q I rx ry ⟨p, q, ws, rfl, rfl, dZ.of h1, dZ.of h2, h _ _ _ .refl R (.tup h2 r2)⟩
   ·refine DS pins s σ H _ _ v u Q I rx ry ⟨p, q, vs, ws, rfl, rfl, dZ.of h1, dZ.of h2, hv, by rw [<- r1.length, <- r2.length]; exact hc, fun e => ?_, fun _ => jA R (r1.append r2) .refl h⟩
    have hy := r2.nil_inv.mpr e
    subst hy
    rw [List.append_nil] at h
    exact h _ _ _ .refl R (.tup h1 r1)
  | _ => exact h.elim
 | @ref p n hp =>
  cases vb with
  | @ref q m hq =>
   obtain ⟨xs, hn, h⟩ := aQ h
   obtain ⟨ys, hm, h⟩ := aQ h
   obtain ⟨hc, h⟩ := bA h
   obtain ⟨vs, h1, h2⟩ := R.lst hp (aU hn)
   obtain ⟨ws, h3, h4⟩ := R.lst hq (aU hm)
   exact IL pins s σ H _ _ v u Q I rx ry ⟨p, q, vs, ws, rfl, rfl, h1, h3, by rw [<- h2.length, <- h4.length]; exact hc, gn R (h2.append h4) .refl h⟩
  | _ => exact h.elim
 | _ => exact h.elim
def A.ints : List A -> Option (List Int)
 | [] => some []
 | .int i :: xs => (A.ints xs).map (i :: ·)
 | _ => none
theorem jt {K : PySem.W.Frag} {ρ : List Addr} {H : Hp} : ∀ {xs : List A} {vs : List V} {bs : List Int}, AVs K ρ H xs vs -> A.ints xs = some bs -> vs = bs.map V.int
 | _, _, _, .nil, e => by cases e; rfl
 | _, _, _, .cons (x := .int b) h t, e => by
  obtain ⟨cs, e1, rfl⟩ := Option.map_eq_some_iff.mp e
  cases h
  rw [jt t e1]; rfl
 | _, _, _, .cons (x := .unb) h t, e => nomatch e
 | _, _, _, .cons (x := .non) h t, e => nomatch e
 | _, _, _, .cons (x := .bl _) h t, e => nomatch e
 | _, _, _, .cons (x := .str _) h t, e => nomatch e
 | _, _, _, .cons (x := .tup _) h t, e => nomatch e
 | _, _, _, .cons (x := .frz _) h t, e => nomatch e
 | _, _, _, .cons (x := .rng _ _) h t, e => nomatch e
 | _, _, _, .cons (x := .ref _) h t, e => nomatch e
 | _, _, _, .cons (x := .exn _) h t, e => nomatch e
 | _, _, _, .cons (x := .ty _) h t, e => nomatch e
def H_ (a b : A) (S : aH) : R A := match a, b with
 | .int i, .int j => .ok (.bl (decide (i < j))) S
 | .tup xs, .tup ys => opt (A.ints xs) fun ns => opt (A.ints ys) fun ms => .ok (.bl (HT.lexLt ns ms)) S
 | _, _ => .no
theorem Hj (hu : X.A.units + 64 < cLine) : fY X (compareOp .Lt) (r2 X H_) := fun pins s σ H x y v u Q I rx ry ⟨ρ, S, a, b, R, va, vb, h⟩ => by
 cases va with
 | int i =>
  cases vb with
  | int j => exact Kf pins s σ H _ _ v u Q I rx ry ⟨i, j, rfl, rfl, h _ _ _ .refl R (.bl _)⟩
  | _ => exact h.elim
 | tup hx rx' =>
  cases vb with
  | tup hy ry' =>
   obtain ⟨ns, e1, h⟩ := aQ h
   obtain ⟨ms, e2, h⟩ := aQ h
   have z1 := jt rx' e1
   have z2 := jt ry' e2
   subst z1 z2
   exact HM (by omega) pins s σ H _ _ v u Q I rx ry ⟨_, _, ns, ms, rfl, rfl, dZ.of hx, dZ.of hy, h _ _ _ .refl R (.bl _)⟩
  | _ => exact h.elim
 | _ => exact h.elim
def KH (a b : A) (S : aH) : R A := match a, b with
 | .int i, .int j => .ok (.bl (decide (i <= j))) S
 | _, _ => .no
theorem LW : fY X (compareOp .LtE) (r2 X KH) := fY.imp Jh fun x y H Q ⟨ρ, S, a, b, R, va, vb, h⟩ => by
 cases va <;> first | exact h.elim | (cases vb <;> first | exact h.elim | exact ⟨_, _, rfl, rfl, h _ _ _ .refl R (.bl _)⟩)
def sq (a b : A) (S : aH) : R A := match a, b with
 | .int i, .int j => .ok (.bl (decide (j < i))) S
 | .ref n, .ref m => opt (au S n) fun xs => opt (au S m) fun ys => opt (A.ints xs) fun ns => opt (A.ints ys) fun ms => .ok (.bl (HT.lexLt ms ns)) S
 | _, _ => .no
theorem pN (hu : X.A.units + 64 < cLine) : fY X (compareOp .Gt) (r2 X sq) := fun pins s σ H x y v u Q I rx ry ⟨ρ, S, a, b, R, va, vb, h⟩ => by
 cases va with
 | int i =>
  cases vb with
  | int j => exact Jx pins s σ H _ _ v u Q I rx ry ⟨i, j, rfl, rfl, h _ _ _ .refl R (.bl _)⟩
  | _ => exact h.elim
 | @ref p n hp =>
  cases vb with
  | @ref q m hq =>
   obtain ⟨xs, hn, h⟩ := aQ h
   obtain ⟨ys, hm, h⟩ := aQ h
   obtain ⟨ns, e1, h⟩ := aQ h
   obtain ⟨ms, e2, h⟩ := aQ h
   obtain ⟨vs, h1, h2⟩ := R.lst hp (aU hn)
   obtain ⟨ws, h3, h4⟩ := R.lst hq (aU hm)
   have z1 := jt h2 e1
   have z2 := jt h4 e2
   subst z1 z2
   exact Gx (by omega) pins s σ H _ _ v u Q I rx ry ⟨p, q, ns, ms, rfl, rfl, gy.of h1, gy.of h3, h _ _ _ .refl R (.bl _)⟩
  | _ => exact h.elim
 | _ => exact h.elim
def Kx (a b : A) (S : aH) : R A := match a, b with
 | .int i, .int j => .ok (.bl (decide (j <= i))) S
 | _, _ => .no
theorem Li : fY X (compareOp .GtE) (r2 X Kx) := fY.imp JN fun x y H Q ⟨ρ, S, a, b, R, va, vb, h⟩ => by
 cases va <;> first | exact h.elim | (cases vb <;> first | exact h.elim | exact ⟨_, _, rfl, rfl, h _ _ _ .refl R (.bl _)⟩)
def CP (neg : Bool) (a b : A) (S : aH) : R A := match a, b with
 | .bl i, .bl j => .ok (.bl (if neg then i != j else i == j)) S
 | .non, .non => .ok (.bl (!neg)) S
 | .unb, .non => .no
 | .exn _, .non => .no
 | _, .non => .ok (.bl neg) S
 | _, _ => .no
theorem EJ : fY X (compareOp .IsNot) (r2 X (CP true)) := fun pins s σ H x y v u Q I rx ry ⟨ρ, S, a, b, R, va, vb, h⟩ => by
 cases vb with
 | non =>
  refine DX pins s σ H _ _ v u Q I rx ry ⟨rfl, ?_⟩
  cases va <;> first | exact h _ _ _ .refl R (.bl _) | exact h.elim
 | bl j =>
  cases va with
  | bl i => exact zq pins s σ H _ _ v u Q I rx ry ⟨i, j, rfl, rfl, h _ _ _ .refl R (.bl _)⟩
  | _ => exact h.elim
 | _ => cases va <;> exact h.elim
def CC (f : A -> aH -> R A) (c : Ex) : Ex := fun τ S => (c τ S).bind fun a S1 => f a S1
def vN (a : A) (S : aH) : R A := match a with
 | .int i => .ok (.int (-i)) S
 | _ => .no
theorem JD : KI X (unaryOp .USub) (r1 X vN) := fun pins s σ H x v Q I rx ⟨ρ, S, a, R, va, h⟩ => by
 cases va with
 | int i => exact vQ pins s σ H _ v Q I rx ⟨i, rfl, h _ _ _ .refl R (.int _)⟩
 | _ => exact h.elim
theorem GA {f : A -> aH -> R A} {c : Ex} {σ : L2.St} {H : Hp} {Q : VK} (h : tE X (CC f c) σ H Q) : Mb (r1 X f) (tE X c) σ H Q := by
 obtain ⟨ρ, S, τ, R, r, h⟩ := h
 exact ⟨ρ, S, τ, R, r, aJ (aN h) .refl fun a S1 h1 ρ1 H1 x e1 R1 v1 => ⟨ρ1, S1, a, R1, v1, aJ h1 e1 fun c S3 h3 => h3.ext e1⟩⟩
theorem sM {c : Ex} (h : AE X a c) : AE X (.UnaryOp .USub a pos) (CC vN c) := PE.imp (Av JD h) fun _ _ _ q => GA q
def cI (a b : A) (S : aH) : R A := match a, b with
 | .tup xs, .int i => opt (d8 xs i) fun x => .ok x S
 | .frz xs, .int i => opt (d8 xs i) fun x => .ok x S
 | .ref n, .int i => opt (au S n) fun xs => opt (d8 xs i) fun x => .ok x S
 | .str z, .int i => gd (z.length <= sizeLine) (opt (d8 z.cps.toList i) fun c => .ok (.str ⟨#[c]⟩) S)
 | _, _ => .no
theorem AVs.d8 {K : PySem.W.Frag} {ρ : List Addr} {H : Hp} {xs : List A} {vs : List V} {i : Int} {x : A} (r : AVs K ρ H xs vs) (h : L2.d8 xs i = some x) : ∃ v, L2.d8 vs i = some v /\ AV K ρ H x v := by
 unfold L2.d8 at h ⊢
 rw [<- r.length]
 cases hj : oW xs.length i with
 | none => rw [hj] at h; cases h
 | some j =>
  rw [hj] at h
  exact r.get h
theorem JQ : Ii X (r2 X cI) := fun value slice pins s σ H x y v u Q I rx ry ⟨ρ, S, a, b, R, va, vb, h⟩ hs => by
 cases va with
 | @tup p xs vs h1 r1 =>
  cases vb with
  | int i =>
   obtain ⟨x, hx, h⟩ := aQ h
   obtain ⟨z, e, q⟩ := r1.d8 hx
   exact Ij value slice pins s σ H _ _ v u Q I rx ry ⟨p, vs, i, z, rfl, rfl, dZ.of h1, e, h _ _ _ .refl R q⟩ hs
  | _ => exact h.elim
 | @frz p xs vs h1 r1 =>
  cases vb with
  | int i =>
   obtain ⟨x, hx, h⟩ := aQ h
   obtain ⟨z, e, q⟩ := r1.d8 hx
   exact wM value slice pins s σ H _ _ v u Q I rx ry ⟨p, vs, i, z, rfl, rfl, h1.DW, e, h _ _ _ .refl R q⟩ hs
  | _ => exact h.elim
 | @ref p n hp =>
  cases vb with
  | int i =>
   obtain ⟨xs, hn, h⟩ := aQ h
   obtain ⟨x, hx, h⟩ := aQ h
   obtain ⟨vs, h1, r1⟩ := R.lst hp (aU hn)
   obtain ⟨z, e, q⟩ := r1.d8 hx
   exact wM value slice pins s σ H _ _ v u Q I rx ry ⟨p, vs, i, z, rfl, rfl, gy.of h1, e, h _ _ _ .refl R q⟩ hs
  | _ => exact h.elim
 | str z =>
  cases vb with
  | int i =>
   obtain ⟨hz, h⟩ := bA h
   obtain ⟨c, hc, h⟩ := aQ h
   exact Gy value slice pins s σ H _ _ v u Q I rx ry ⟨z, i, c, rfl, rfl, hz, hc, h _ _ _ .refl R (.str _)⟩ hs
  | _ => exact h.elim
 | _ => exact h.elim
theorem bf {ca cb : Ex} (ha : AE X a ca) (hb : AE X b cb) (hs : sJ b := by exact fun _ _ => rfl) : AE X (.Subscript a b pos) (aA cI ca cb) := PE.imp (FJ JQ ha hb hs) fun σ H Q h => mE h
end
end Am
namespace Am
open PySem PySem.Spec PyProof.Rows L2
def jd (f : A -> A -> Option Bool) : List A -> List A -> Option Bool
 | [], [] => some true
 | x :: xs, y :: ys => (f x y).bind fun p => (jd f xs ys).map fun q => p && q
 | _, _ => some false
def mC (S : aH) : Nat -> A -> A -> Option Bool
 | 0, _, _ => none
 | n + 1, a, b => match a, b with
  | .non, .non => some true
  | .bl x, .bl y => some (x == y)
  | .bl x, .int y => some ((if x then 1 else 0) == y)
  | .int x, .bl y => some (x == (if y then 1 else 0))
  | .int x, .int y => some (x == y)
  | .str x, .str y => some (x == y)
  | .non, .bl _ => some false
  | .non, .int _ => some false
  | .non, .str _ => some false
  | .bl _, .non => some false
  | .bl _, .str _ => some false
  | .int _, .non => some false
  | .int _, .str _ => some false
  | .str _, .non => some false
  | .str _, .bl _ => some false
  | .str _, .int _ => some false
  | .tup xs, .tup ys => jd (mC S n) xs ys
  | .ref i, .ref j => (au S i).bind fun xs => (au S j).bind fun ys => jd (mC S n) xs ys
  | .ref i, .tup _ => (au S i).map fun _ => false
  | .tup _, .ref j => (au S j).map fun _ => false
  | .ref i, .non => (au S i).map fun _ => false
  | .ref i, .int _ => (au S i).map fun _ => false
  | .ref i, .bl _ => (au S i).map fun _ => false
  | .ref i, .str _ => (au S i).map fun _ => false
  | .non, .ref i => (au S i).map fun _ => false
  | .int _, .ref i => (au S i).map fun _ => false
  | .bl _, .ref i => (au S i).map fun _ => false
  | .str _, .ref i => (au S i).map fun _ => false
  | .tup _, .non => some false
  | .tup _, .int _ => some false
  | .tup _, .bl _ => some false
  | .tup _, .str _ => some false
  | .non, .tup _ => some false
  | .int _, .tup _ => some false
  | .bl _, .tup _ => some false
  | .str _, .tup _ => some false
  | _, _ => none
section
variable {X : Cx} {pins : List (Addr × Obj)} {σ : L2.St} {H : Hp} {s : Shared} {ρ : List Addr} {S : aH}
theorem ym {a : Addr} {vs ws : List V} (I : Inv X pins σ H s) (h : dZ X.K H a vs) (h' : H a = some (.lst ws)) : False := by
 rcases h with (h | ⟨o, h⟩) | ⟨o, its, n, hk, _⟩
 ·rw [h] at h'; cases h'
 ·rw [h] at h'; cases h'
 ·rw [(I.bs a o (I.mod.kin a o hk)).2] at h'; cases h'
theorem pC {f : A -> A -> Option Bool} (hf : ∀ a b x k, AV X.K ρ H a x -> AV X.K ρ H b x -> f a b = some k -> k = true) : ∀ {xs ys : List A} {vs : List V} {k : Bool}, AVs X.K ρ H xs vs -> AVs X.K ρ H ys vs -> jd f xs ys = some k -> k = true
 | _, _, _, _, .nil, .nil, h => (Option.some.inj h).symm
 | _, _, _, _, .cons (x := x) h t, .cons (x := y) h' t', e => by
  unfold jd at e
  cases e1 : f x y with
  | none => rw [e1] at e; cases e
  | some p =>
   rw [e1] at e
   obtain ⟨q, e2, e3⟩ := Option.map_eq_some_iff.mp e
   rw [<- e3, hf _ _ _ p h h' e1, pC hf t t' e2]; rfl
theorem tw (I : Inv X pins σ H s) (R : Rel X.K ρ H S) : ∀ (n : Nat) (a b : A) (x : V) (k : Bool), AV X.K ρ H a x -> AV X.K ρ H b x -> mC S n a b = some k -> k = true
 | 0, _, _, _, _, _, _, e => nomatch e
 | n + 1, a, b, x, k, ha, hb, e => by
  cases ha with
  | non => cases hb; exact (Option.some.inj e).symm
  | bl i => cases hb; exact (Option.some.inj e).symm.trans (beq_self_eq_true i)
  | int i => cases hb; exact (Option.some.inj e).symm.trans (beq_self_eq_true i)
  | str i => cases hb; exact (Option.some.inj e).symm.trans (beq_self_eq_true i)
  | ty i => cases hb; cases e
  | @tup p xs vs h1 r1 =>
   cases hb with
   | @tup _ ys ws h2 r2 =>
    have := I.nQ (dZ.of h1) (dZ.of h2)
    subst this
    exact pC (tw I R n) r1 r2 e
   | frz _ _ => cases e
   | rng _ => cases e
   | exn _ _ _ => cases e
   | @ref _ m h2 =>
    obtain ⟨ys, e1, _⟩ := Option.map_eq_some_iff.mp e
    obtain ⟨vs', h3, _⟩ := R.lst h2 (aU e1)
    exact (ym I (dZ.of h1) h3).elim
  | frz h1 r1 => cases hb <;> cases e
  | rng h1 => cases hb <;> cases e
  | exn n1 h1 x1 => cases hb <;> cases e
  | @ref p i h1 =>
   cases hb with
   | @tup _ ys ws h2 r2 =>
    obtain ⟨ys, e1, _⟩ := Option.map_eq_some_iff.mp e
    obtain ⟨vs', h3, _⟩ := R.lst h1 (aU e1)
    exact (ym I (dZ.of h2) h3).elim
   | frz _ _ => cases e
   | rng _ => cases e
   | exn _ _ _ => cases e
   | @ref _ m h2 =>
    obtain ⟨xs, e1, e⟩ := Option.bind_eq_some_iff.mp e
    obtain ⟨ys, e2, e⟩ := Option.bind_eq_some_iff.mp e
    obtain ⟨vs, h3, r1⟩ := R.lst h1 (aU e1)
    obtain ⟨ws, h4, r2⟩ := R.lst h2 (aU e2)
    rw [h3] at h4
    cases h4
    exact pC (tw I R n) r1 r2 e
def qC (f : A -> A -> Option Bool) (xs ys : List A) (j : Nat) : Bool := match xs[j]?, ys[j]? with
 | some x, some y => (f x y).getD true
 | _, _ => true
theorem kH {f : A -> A -> Option Bool} : ∀ {xs ys : List A} {k : Bool}, jd f xs ys = some k -> k = ((List.range (min xs.length ys.length)).all (qC f xs ys) && xs.length == ys.length) /\ ∀ j x y, xs[j]? = some x -> ys[j]? = some y -> f x y = some (qC f xs ys j)
 | [], [], k, e => ⟨(Option.some.inj e).symm, fun j x y h => by simp at h⟩
 | [], _ :: _, k, e => ⟨(Option.some.inj e).symm, fun j x y h => by simp at h⟩
 | _ :: _, [], k, e => ⟨(Option.some.inj e).symm, fun j x y _ h => by simp at h⟩
 | x :: xs, y :: ys, k, e => by
  unfold jd at e
  cases e1 : f x y with
  | none => rw [e1] at e; cases e
  | some p =>
   rw [e1] at e
   obtain ⟨q, e2, e3⟩ := Option.map_eq_some_iff.mp e
   obtain ⟨h1, h2⟩ := kH e2
   have p0 : qC f (x :: xs) (y :: ys) 0 = p := by simp [qC, e1]
   have ps : ∀ j, qC f (x :: xs) (y :: ys) (j + 1) = qC f xs ys j := fun j => by simp [qC]
   refine ⟨?_, fun j a b ha hb => ?_⟩
   ·rw [<- e3, h1, List.length_cons, List.length_cons, Nat.succ_min_succ, List.range_succ_eq_map, List.all_cons, List.all_map, p0]
    have : (qC f (x :: xs) (y :: ys) ∘ Nat.succ) = qC f xs ys := funext ps
    rw [this, Bool.and_assoc]
    simp
   ·cases j with
    | zero =>
     simp at ha hb
     subst ha hb
     rw [p0]; exact e1
    | succ j => rw [ps]; exact h2 j a b (by simpa using ha) (by simpa using hb)
theorem oZ {f : A -> A -> Option Bool} {B : Around} (hf : ∀ a b x y u v k, AV X.K ρ H a x -> AV X.K ρ H b y -> RelV x u -> RelV y v -> f a b = some k -> SeqAt.EqAt B s u v k) {xs ys : List A} {vs ws : List V} {us ts : List Value} {k : Bool}
  (r1 : AVs X.K ρ H xs vs) (r2 : AVs X.K ρ H ys ws) (q1 : Vals vs us) (q2 : Vals ws ts) (e : jd f xs ys = some k) : ∀ j (h1 : j < us.toArray.size) (h2 : j < ts.toArray.size), SeqAt.EqAt B s us.toArray[j] ts.toArray[j] (qC f xs ys j) := by
 intro j h1 h2
 have l1 := r1.length
 have l2 := r2.length
 have l3 := q1.length
 have l4 := q2.length
 have hx : j < xs.length := by simp at h1; omega
 have hy : j < ys.length := by simp at h2; omega
 have e1 : xs[j]? = some xs[j] := List.getElem?_eq_getElem hx
 have e2 : ys[j]? = some ys[j] := List.getElem?_eq_getElem hy
 obtain ⟨x, ex, ax⟩ := r1.get e1
 obtain ⟨y, ey, ay⟩ := r2.get e2
 obtain ⟨u, eu, ru⟩ := q1.get ex
 obtain ⟨t, et, rt⟩ := q2.get ey
 have a1 : us.toArray[j] = u := by
  have : us[j]? = some us.toArray[j] := by simp at h1; simp [h1]
  rw [eu] at this; exact (Option.some.inj this).symm
 have a2 : ts.toArray[j] = t := by
  have : ts[j]? = some ts.toArray[j] := by simp at h2; simp [h2]
  rw [et] at this; exact (Option.some.inj this).symm
 rw [a1, a2]
 exact hf _ _ x y u t _ ax ay ru rt ((kH e).2 j _ _ e1 e2)
theorem in1_units (B : Around) : B.in1.units = B.units + 1 := rfl
theorem AJ (I : Inv X pins σ H s) (R : Rel X.K ρ H S) : ∀ (n : Nat) (B : Around) (a b : A) (x y : V) (u v : Value) (k : Bool), B.units + n < cLine -> AV X.K ρ H a x -> AV X.K ρ H b y -> RelV x u -> RelV y v -> mC S n a b = some k -> SeqAt.RcAt B s u v k /\ SeqAt.EqAt B s u v k
 | 0, _, _, _, _, _, _, _, _, _, _, _, _, _, e => nomatch e
 | n + 1, B, a, b, x, y, u, v, k, hu, ha, hb, rx, ry, e => by
  have hu0 : B.units < cLine := by omega
  have items : ∀ a b x y u v k, AV X.K ρ H a x -> AV X.K ρ H b y -> RelV x u -> RelV y v -> mC S n a b = some k -> SeqAt.EqAt B.in1 s u v k := fun a b x y u v k h1 h2 h3 h4 h5 => (AJ I R n B.in1 a b x y u v k (by rw [in1_units]; omega) h1 h2 h3 h4 h5).2
  have refs : ∀ {p q : Addr} {k : Bool}, AV X.K ρ H a (.ref p) -> AV X.K ρ H b (.ref q) -> mC S (n + 1) a b = some k -> SeqAt.RcAt B s (.ref p) (.ref q) k -> SeqAt.RcAt B s (.ref p) (.ref q) k /\ SeqAt.EqAt B s (.ref p) (.ref q) k := by
   intro p q k h1 h2 e h
   refine ⟨h, ?_⟩
   by_cases hp : p = q
   ·subst hp
    have := tw I R (n + 1) a b _ k h1 h2 e
    subst this
    exact .same _
   ·exact .of_refs hp h
  have tl : ∀ {p : Addr} {xs : List A} {vs : List V}, dZ X.K H p vs -> AVs X.K ρ H xs vs -> ∃ us : List Value, Vals vs us /\ s.heap.IsTuple p us.toArray := fun h1 r1 => by
   obtain ⟨us, q, p, _⟩ := I.tuple h1
   exact ⟨us, q, p⟩
  have ll : ∀ {p : Addr} {i : Nat} {xs : List A}, ρ[i]? = some p -> au S i = some xs -> ∃ (vs : List V) (us : List Value), AVs X.K ρ H xs vs /\ Vals vs us /\ s.heap.IsList p us.toArray := fun h1 e1 => by
   obtain ⟨vs, h3, r1⟩ := R.lst h1 (aU e1)
   obtain ⟨us, q, p, _⟩ := I.list (gy.of h3)
   exact ⟨vs, us, r1, q, p.isList⟩
  cases ha with
  | non =>
   obtain rfl : u = Value.none := rx
   cases hb with
   | non => obtain rfl : v = Value.none := ry; cases Option.some.inj e; exact ⟨.none_none, .same _⟩
   | bl j => obtain rfl : v = Value.bool j := ry; cases Option.some.inj e; exact ⟨.none_bool _, .none_bool _⟩
   | int j => obtain ⟨t, rfl⟩ : ∃ t, v = Value.int j t := ry; cases Option.some.inj e; exact ⟨.none_int _ _, .none_int _ _⟩
   | str j => obtain ⟨t, rfl⟩ : ∃ t, v = Value.str j t := ry; cases Option.some.inj e; exact ⟨.none_str _ _, .none_str _ _⟩
   | tup h2 r2 => obtain ⟨us, _, p⟩ := tl (dZ.of h2) r2; cases (show v = Value.ref _ from ry); cases Option.some.inj e; exact ⟨.none_tuple p hu0, .none_tuple p hu0⟩
   | ref h2 => obtain ⟨xs, e1, e2⟩ := Option.map_eq_some_iff.mp e; obtain ⟨_, us, _, _, p⟩ := ll h2 e1; cases (show v = Value.ref _ from ry); cases e2; exact ⟨.none_list p hu0, .none_list p hu0⟩
   | _ => cases e
  | bl i =>
   obtain rfl : u = Value.bool i := rx
   cases hb with
   | non => obtain rfl : v = Value.none := ry; cases Option.some.inj e; exact ⟨.bool_none _, .bool_none _⟩
   | bl j => obtain rfl : v = Value.bool j := ry; cases Option.some.inj e; exact ⟨.bool_bool _ _, .bool_bool _ _⟩
   | int j => obtain ⟨t, rfl⟩ : ∃ t, v = Value.int j t := ry; cases Option.some.inj e; exact ⟨.bool_int _ _ _, .bool_int _ _ _⟩
   | str j => obtain ⟨t, rfl⟩ : ∃ t, v = Value.str j t := ry; cases Option.some.inj e; exact ⟨.bool_str _ _ _, .bool_str _ _ _⟩
   | tup h2 r2 => obtain ⟨us, _, p⟩ := tl (dZ.of h2) r2; cases (show v = Value.ref _ from ry); cases Option.some.inj e; exact ⟨.bool_tuple _ p hu0, .bool_tuple _ p hu0⟩
   | ref h2 => obtain ⟨xs, e1, e2⟩ := Option.map_eq_some_iff.mp e; obtain ⟨_, us, _, _, p⟩ := ll h2 e1; cases (show v = Value.ref _ from ry); cases e2; exact ⟨.bool_list _ p hu0, .bool_list _ p hu0⟩
   | _ => cases e
  | int i =>
   obtain ⟨t0, rfl⟩ : ∃ t, u = Value.int i t := rx
   cases hb with
   | non => obtain rfl : v = Value.none := ry; cases Option.some.inj e; exact ⟨.int_none _ _, .int_none _ _⟩
   | bl j => obtain rfl : v = Value.bool j := ry; cases Option.some.inj e; exact ⟨.int_bool _ _ _, .int_bool _ _ _⟩
   | int j => obtain ⟨t, rfl⟩ : ∃ t, v = Value.int j t := ry; cases Option.some.inj e; exact ⟨.int_int _ _ _ _, .int_int _ _ _ _⟩
   | str j => obtain ⟨t, rfl⟩ : ∃ t, v = Value.str j t := ry; cases Option.some.inj e; exact ⟨.int_str _ _ _ _, .int_str _ _ _ _⟩
   | tup h2 r2 => obtain ⟨us, _, p⟩ := tl (dZ.of h2) r2; cases (show v = Value.ref _ from ry); cases Option.some.inj e; exact ⟨.int_tuple _ _ p hu0, .int_tuple _ _ p hu0⟩
   | ref h2 => obtain ⟨xs, e1, e2⟩ := Option.map_eq_some_iff.mp e; obtain ⟨_, us, _, _, p⟩ := ll h2 e1; cases (show v = Value.ref _ from ry); cases e2; exact ⟨.int_list _ _ p hu0, .int_list _ _ p hu0⟩
   | _ => cases e
  | str i =>
   obtain ⟨t0, rfl⟩ : ∃ t, u = Value.str i t := rx
   cases hb with
   | non => obtain rfl : v = Value.none := ry; cases Option.some.inj e; exact ⟨.str_none _ _, .str_none _ _⟩
   | bl j => obtain rfl : v = Value.bool j := ry; cases Option.some.inj e; exact ⟨.str_bool _ _ _, .str_bool _ _ _⟩
   | int j => obtain ⟨t, rfl⟩ : ∃ t, v = Value.int j t := ry; cases Option.some.inj e; exact ⟨.str_int _ _ _ _, .str_int _ _ _ _⟩
   | str j => obtain ⟨t, rfl⟩ : ∃ t, v = Value.str j t := ry; cases Option.some.inj e; exact ⟨.str_str _ _ _ _, .str_str _ _ _ _⟩
   | tup h2 r2 => obtain ⟨us, _, p⟩ := tl (dZ.of h2) r2; cases (show v = Value.ref _ from ry); cases Option.some.inj e; exact ⟨.str_tuple _ _ p hu0, .str_tuple _ _ p hu0⟩
   | ref h2 => obtain ⟨xs, e1, e2⟩ := Option.map_eq_some_iff.mp e; obtain ⟨_, us, _, _, p⟩ := ll h2 e1; cases (show v = Value.ref _ from ry); cases e2; exact ⟨.str_list _ _ p hu0, .str_list _ _ p hu0⟩
   | _ => cases e
  | @tup p xs vs h1 r1 =>
   obtain rfl : u = Value.ref p := rx
   obtain ⟨us, q1, p1⟩ := tl (dZ.of h1) r1
   cases hb with
   | non => obtain rfl : v = Value.none := ry; cases Option.some.inj e; exact ⟨.tuple_none p1 hu0, .tuple_none p1 hu0⟩
   | bl j => obtain rfl : v = Value.bool j := ry; cases Option.some.inj e; exact ⟨.tuple_bool _ p1 hu0, .tuple_bool _ p1 hu0⟩
   | int j => obtain ⟨t, rfl⟩ : ∃ t, v = Value.int j t := ry; cases Option.some.inj e; exact ⟨.tuple_int _ _ p1 hu0, .tuple_int _ _ p1 hu0⟩
   | str j => obtain ⟨t, rfl⟩ : ∃ t, v = Value.str j t := ry; cases Option.some.inj e; exact ⟨.tuple_str _ _ p1 hu0, .tuple_str _ _ p1 hu0⟩
   | @tup q ys ws h2 r2 =>
    obtain rfl : v = Value.ref q := ry
    obtain ⟨ts, q2, p2⟩ := tl (dZ.of h2) r2
    have e' : jd (mC S n) xs ys = some k := e
    refine refs (.tup h1 r1) (.tup h2 r2) e ?_
    rw [(kH e').1]
    have := SeqAt.RcAt.tuples p1 p2 hu0 (oZ items r1 r2 q1 q2 e')
    rw [List.size_toArray, List.size_toArray, <- q1.length, <- q2.length, <- r1.length, <- r2.length] at this
    exact this
   | @ref q j h2 =>
    obtain rfl : v = Value.ref q := ry
    obtain ⟨ys, e1, e2⟩ := Option.map_eq_some_iff.mp e
    obtain ⟨_, ts, _, _, p2⟩ := ll h2 e1
    refine refs (.tup h1 r1) (.ref h2) e ?_
    rw [<- e2]
    exact .tuple_list p1 p2 hu0
   | _ => cases e
  | @ref p i h1 =>
   obtain rfl : u = Value.ref p := rx
   cases hb with
   | non => obtain ⟨xs, e1, e2⟩ := Option.map_eq_some_iff.mp e; obtain ⟨_, us, _, _, p1⟩ := ll h1 e1; obtain rfl : v = Value.none := ry; cases e2; exact ⟨.list_none p1 hu0, .list_none p1 hu0⟩
   | bl j => obtain ⟨xs, e1, e2⟩ := Option.map_eq_some_iff.mp e; obtain ⟨_, us, _, _, p1⟩ := ll h1 e1; obtain rfl : v = Value.bool j := ry; cases e2; exact ⟨.list_bool _ p1 hu0, .list_bool _ p1 hu0⟩
   | int j => obtain ⟨xs, e1, e2⟩ := Option.map_eq_some_iff.mp e; obtain ⟨_, us, _, _, p1⟩ := ll h1 e1; obtain ⟨t, rfl⟩ : ∃ t, v = Value.int j t := ry; cases e2; exact ⟨.list_int _ _ p1 hu0, .list_int _ _ p1 hu0⟩
   | str j => obtain ⟨xs, e1, e2⟩ := Option.map_eq_some_iff.mp e; obtain ⟨_, us, _, _, p1⟩ := ll h1 e1; obtain ⟨t, rfl⟩ : ∃ t, v = Value.str j t := ry; cases e2; exact ⟨.list_str _ _ p1 hu0, .list_str _ _ p1 hu0⟩
   | @tup q ys ws h2 r2 =>
    obtain rfl : v = Value.ref q := ry
    obtain ⟨ts, q2, p2⟩ := tl (dZ.of h2) r2
    obtain ⟨xs, e1, e2⟩ := Option.map_eq_some_iff.mp e
    obtain ⟨_, us, _, _, p1⟩ := ll h1 e1
    refine refs (.ref h1) (.tup h2 r2) e ?_
    rw [<- e2]
    exact .list_tuple p1 p2 hu0
   | @ref q j h2 =>
    obtain rfl : v = Value.ref q := ry
    have e0 := e
    obtain ⟨xs, e1, e⟩ := Option.bind_eq_some_iff.mp e
    obtain ⟨ys, e2, e'⟩ := Option.bind_eq_some_iff.mp e
    obtain ⟨vs, us, r1, q1, p1⟩ := ll h1 e1
    obtain ⟨ws, ts, r2, q2, p2⟩ := ll h2 e2
    refine refs (.ref h1) (.ref h2) e0 ?_
    have l1 := r1.length
    have l2 := r2.length
    have l3 := q1.length
    have l4 := q2.length
    rw [(kH e').1]
    by_cases hl : xs.length = ys.length
    ·have := SeqAt.RcAt.lists p1 p2 (by simp; omega) hu0 (oZ items r1 r2 q1 q2 e')
     rw [List.size_toArray, <- l3, <- l1] at this
     rw [<- hl, Nat.min_self, beq_self_eq_true, Bool.and_true]
     exact this
    ·have : (xs.length == ys.length) = false := by simpa using hl
     rw [this, Bool.and_false]
     exact .lists_lengths p1 p2 (by simp; omega) hu0
   | _ => cases e
  | _ => cases hb <;> cases e
theorem Im (I : Inv X pins σ H s) (R : Rel X.K ρ H S) : ∀ (n : Nat) (B : Around) (a b : A) (x y : V) (u v : Value) (k : Bool), B.units + n < cLine -> AV X.K ρ H a x -> AV X.K ρ H b y -> RelV x u -> RelV y v -> mC S n a b = some k -> SeqAt.RcNeAt B s u v (!k)
 | 0, _, _, _, _, _, _, _, _, _, _, _, _, _, e => nomatch e
 | n + 1, B, a, b, x, y, u, v, k, hu, ha, hb, rx, ry, e => by
  have hu0 : B.units < cLine := by omega
  have items : ∀ a b x y u v k, AV X.K ρ H a x -> AV X.K ρ H b y -> RelV x u -> RelV y v -> mC S n a b = some k -> SeqAt.EqAt B.in1 s u v k := fun a b x y u v k h1 h2 h3 h4 h5 => (AJ I R n B.in1 a b x y u v k (by rw [in1_units]; omega) h1 h2 h3 h4 h5).2
  have tl : ∀ {p : Addr} {xs : List A} {vs : List V}, dZ X.K H p vs -> AVs X.K ρ H xs vs -> ∃ us : List Value, Vals vs us /\ s.heap.IsTuple p us.toArray := fun h1 r1 => by
   obtain ⟨us, q, p, _⟩ := I.tuple h1
   exact ⟨us, q, p⟩
  have ll : ∀ {p : Addr} {i : Nat} {xs : List A}, ρ[i]? = some p -> au S i = some xs -> ∃ (vs : List V) (us : List Value), AVs X.K ρ H xs vs /\ Vals vs us /\ s.heap.IsList p us.toArray := fun h1 e1 => by
   obtain ⟨vs, h3, r1⟩ := R.lst h1 (aU e1)
   obtain ⟨us, q, p, _⟩ := I.list (gy.of h3)
   exact ⟨vs, us, r1, q, p.isList⟩
  cases ha with
  | non =>
   obtain rfl : u = Value.none := rx
   cases hb with
   | non => obtain rfl : v = Value.none := ry; cases Option.some.inj e; exact SeqAt.RcNeAt.none_none
   | bl j => obtain rfl : v = Value.bool j := ry; cases Option.some.inj e; exact SeqAt.RcNeAt.none_bool _
   | int j => obtain ⟨t, rfl⟩ : ∃ t, v = Value.int j t := ry; cases Option.some.inj e; exact SeqAt.RcNeAt.none_int _ _
   | str j => obtain ⟨t, rfl⟩ : ∃ t, v = Value.str j t := ry; cases Option.some.inj e; exact SeqAt.RcNeAt.none_str _ _
   | tup h2 r2 => obtain ⟨us, _, p⟩ := tl (dZ.of h2) r2; cases (show v = Value.ref _ from ry); cases Option.some.inj e; exact SeqAt.RcNeAt.none_tuple p hu0
   | ref h2 => obtain ⟨xs, e1, e2⟩ := Option.map_eq_some_iff.mp e; obtain ⟨_, us, _, _, p⟩ := ll h2 e1; cases (show v = Value.ref _ from ry); cases e2; exact SeqAt.RcNeAt.none_list p hu0
   | _ => cases e
  | bl i =>
   obtain rfl : u = Value.bool i := rx
   cases hb with
   | non => obtain rfl : v = Value.none := ry; cases Option.some.inj e; exact SeqAt.RcNeAt.bool_none _
   | bl j => obtain rfl : v = Value.bool j := ry; cases Option.some.inj e; exact SeqAt.RcNeAt.bool_bool _ _
   | int j => obtain ⟨t, rfl⟩ : ∃ t, v = Value.int j t := ry; cases Option.some.inj e; exact SeqAt.RcNeAt.bool_int _ _ _
   | str j => obtain ⟨t, rfl⟩ : ∃ t, v = Value.str j t := ry; cases Option.some.inj e; exact SeqAt.RcNeAt.bool_str _ _ _
   | tup h2 r2 => obtain ⟨us, _, p⟩ := tl (dZ.of h2) r2; cases (show v = Value.ref _ from ry); cases Option.some.inj e; exact SeqAt.RcNeAt.bool_tuple _ p hu0
   | ref h2 => obtain ⟨xs, e1, e2⟩ := Option.map_eq_some_iff.mp e; obtain ⟨_, us, _, _, p⟩ := ll h2 e1; cases (show v = Value.ref _ from ry); cases e2; exact SeqAt.RcNeAt.bool_list _ p hu0
   | _ => cases e
  | int i =>
   obtain ⟨t0, rfl⟩ : ∃ t, u = Value.int i t := rx
   cases hb with
   | non => obtain rfl : v = Value.none := ry; cases Option.some.inj e; exact SeqAt.RcNeAt.int_none _ _
   | bl j => obtain rfl : v = Value.bool j := ry; cases Option.some.inj e; exact SeqAt.RcNeAt.int_bool _ _ _
   | int j => obtain ⟨t, rfl⟩ : ∃ t, v = Value.int j t := ry; cases Option.some.inj e; exact SeqAt.RcNeAt.int_int _ _ _ _
   | str j => obtain ⟨t, rfl⟩ : ∃ t, v = Value.str j t := ry; cases Option.some.inj e; exact SeqAt.RcNeAt.int_str _ _ _ _
   | tup h2 r2 => obtain ⟨us, _, p⟩ := tl (dZ.of h2) r2; cases (show v = Value.ref _ from ry); cases Option.some.inj e; exact SeqAt.RcNeAt.int_tuple _ _ p hu0
   | ref h2 => obtain ⟨xs, e1, e2⟩ := Option.map_eq_some_iff.mp e; obtain ⟨_, us, _, _, p⟩ := ll h2 e1; cases (show v = Value.ref _ from ry); cases e2; exact SeqAt.RcNeAt.int_list _ _ p hu0
   | _ => cases e
  | str i =>
   obtain ⟨t0, rfl⟩ : ∃ t, u = Value.str i t := rx
   cases hb with
   | non => obtain rfl : v = Value.none := ry; cases Option.some.inj e; exact SeqAt.RcNeAt.str_none _ _
   | bl j => obtain rfl : v = Value.bool j := ry; cases Option.some.inj e; exact SeqAt.RcNeAt.str_bool _ _ _
   | int j => obtain ⟨t, rfl⟩ : ∃ t, v = Value.int j t := ry; cases Option.some.inj e; exact SeqAt.RcNeAt.str_int _ _ _ _
   | str j => obtain ⟨t, rfl⟩ : ∃ t, v = Value.str j t := ry; cases Option.some.inj e; exact SeqAt.RcNeAt.str_str _ _ _ _
   | tup h2 r2 => obtain ⟨us, _, p⟩ := tl (dZ.of h2) r2; cases (show v = Value.ref _ from ry); cases Option.some.inj e; exact SeqAt.RcNeAt.str_tuple _ _ p hu0
   | ref h2 => obtain ⟨xs, e1, e2⟩ := Option.map_eq_some_iff.mp e; obtain ⟨_, us, _, _, p⟩ := ll h2 e1; cases (show v = Value.ref _ from ry); cases e2; exact SeqAt.RcNeAt.str_list _ _ p hu0
   | _ => cases e
  | @tup p xs vs h1 r1 =>
   obtain rfl : u = Value.ref p := rx
   obtain ⟨us, q1, p1⟩ := tl (dZ.of h1) r1
   cases hb with
   | non => obtain rfl : v = Value.none := ry; cases Option.some.inj e; exact SeqAt.RcNeAt.tuple_none p1 hu0
   | bl j => obtain rfl : v = Value.bool j := ry; cases Option.some.inj e; exact SeqAt.RcNeAt.tuple_bool _ p1 hu0
   | int j => obtain ⟨t, rfl⟩ : ∃ t, v = Value.int j t := ry; cases Option.some.inj e; exact SeqAt.RcNeAt.tuple_int _ _ p1 hu0
   | str j => obtain ⟨t, rfl⟩ : ∃ t, v = Value.str j t := ry; cases Option.some.inj e; exact SeqAt.RcNeAt.tuple_str _ _ p1 hu0
   | @tup q ys ws h2 r2 =>
    obtain rfl : v = Value.ref q := ry
    obtain ⟨ts, q2, p2⟩ := tl (dZ.of h2) r2
    have e' : jd (mC S n) xs ys = some k := e
    rw [(kH e').1]
    have := SeqAt.RcNeAt.tuples p1 p2 hu0 (oZ items r1 r2 q1 q2 e')
    rw [List.size_toArray, List.size_toArray, <- q1.length, <- q2.length, <- r1.length, <- r2.length] at this
    exact this
   | @ref q j h2 =>
    obtain rfl : v = Value.ref q := ry
    obtain ⟨ys, e1, e2⟩ := Option.map_eq_some_iff.mp e
    obtain ⟨_, ts, _, _, p2⟩ := ll h2 e1
    rw [<- e2]
    exact SeqAt.RcNeAt.tuple_list p1 p2 hu0
   | _ => cases e
  | @ref p i h1 =>
   obtain rfl : u = Value.ref p := rx
   cases hb with
   | non => obtain ⟨xs, e1, e2⟩ := Option.map_eq_some_iff.mp e; obtain ⟨_, us, _, _, p1⟩ := ll h1 e1; obtain rfl : v = Value.none := ry; cases e2; exact SeqAt.RcNeAt.list_none p1 hu0
   | bl j => obtain ⟨xs, e1, e2⟩ := Option.map_eq_some_iff.mp e; obtain ⟨_, us, _, _, p1⟩ := ll h1 e1; obtain rfl : v = Value.bool j := ry; cases e2; exact SeqAt.RcNeAt.list_bool _ p1 hu0
   | int j => obtain ⟨xs, e1, e2⟩ := Option.map_eq_some_iff.mp e; obtain ⟨_, us, _, _, p1⟩ := ll h1 e1; obtain ⟨t, rfl⟩ : ∃ t, v = Value.int j t := ry; cases e2; exact SeqAt.RcNeAt.list_int _ _ p1 hu0
   | str j => obtain ⟨xs, e1, e2⟩ := Option.map_eq_some_iff.mp e; obtain ⟨_, us, _, _, p1⟩ := ll h1 e1; obtain ⟨t, rfl⟩ : ∃ t, v = Value.str j t := ry; cases e2; exact SeqAt.RcNeAt.list_str _ _ p1 hu0
   | @tup q ys ws h2 r2 =>
    obtain rfl : v = Value.ref q := ry
    obtain ⟨ts, q2, p2⟩ := tl (dZ.of h2) r2
    obtain ⟨xs, e1, e2⟩ := Option.map_eq_some_iff.mp e
    obtain ⟨_, us, _, _, p1⟩ := ll h1 e1
    rw [<- e2]
    exact SeqAt.RcNeAt.list_tuple p1 p2 hu0
   | @ref q j h2 =>
    obtain rfl : v = Value.ref q := ry
    have e0 := e
    obtain ⟨xs, e1, e⟩ := Option.bind_eq_some_iff.mp e
    obtain ⟨ys, e2, e'⟩ := Option.bind_eq_some_iff.mp e
    obtain ⟨vs, us, r1, q1, p1⟩ := ll h1 e1
    obtain ⟨ws, ts, r2, q2, p2⟩ := ll h2 e2
    have l1 := r1.length
    have l2 := r2.length
    have l3 := q1.length
    have l4 := q2.length
    rw [(kH e').1]
    by_cases hl : xs.length = ys.length
    ·have := SeqAt.RcNeAt.lists p1 p2 (by simp; omega) hu0 (oZ items r1 r2 q1 q2 e')
     rw [List.size_toArray, <- l3, <- l1] at this
     rw [<- hl, Nat.min_self, beq_self_eq_true, Bool.and_true]
     exact this
    ·have : (xs.length == ys.length) = false := by simpa using hl
     rw [this, Bool.and_false]
     exact SeqAt.RcNeAt.lists_lengths p1 p2 (by simp; omega) hu0
   | _ => cases e
  | _ => cases hb <;> cases e
end
section
variable {X : Cx}
def iW (neg : Bool) (a b : A) (S : aH) : R A := opt (mC S 12 a b) fun k => .ok (.bl (if neg then !k else k)) S
theorem jK (hu : X.A.units + 64 < cLine) : fY X (compareOp .Eq) (r2 X (iW false)) := fun pins s σ H x y v u Q I rx ry ⟨ρ, S, a, b, R, va, vb, h⟩ => by
 obtain ⟨k, e, h⟩ := aQ h
 exact (AJ I R 12 X.A a b x y v u k (by omega) va vb rx ry e).1 _ _ _ _ ⟨.bl _, H, I, rfl, h _ _ _ .refl R (.bl _)⟩
theorem Hy (hu : X.A.units + 64 < cLine) : fY X (compareOp .NotEq) (r2 X (iW true)) := fun pins s σ H x y v u Q I rx ry ⟨ρ, S, a, b, R, va, vb, h⟩ => by
 obtain ⟨k, e, h⟩ := aQ h
 exact Im I R 12 X.A a b x y v u k (by omega) va vb rx ry e _ _ _ _ ⟨.bl _, H, I, rfl, h _ _ _ .refl R (.bl _)⟩
end
end Am
namespace Am
open PySem PySem.Spec PyProof.Rows L2
section
variable {X : Cx} {pos : Pos} {a b : Expr}
abbrev Pt := List A -> aH -> R (Option Int)
def cE : Pt := fun _ S => .ok none S
def cj (c : Ex) : Pt := fun τ S => (c τ S).bind fun a S1 => match a with
 | .int i => .ok (some i) S1
 | _ => .no
def tO (X : Cx) (c : Pt) : TO := fun σ H Q => ∃ ρ S τ, Rel X.K ρ H S /\ SR X.K ρ H τ σ /\ (c τ S).post (fun o S' => ∀ ρ' H', Ext ρ ρ' H H' -> Rel X.K ρ' H' S' -> Q o H') (XE X ρ H)
def AO (X : Cx) (e : Option Expr) (c : Pt) : Prop := PO X e (tO X c)
theorem bV : AO X none cE := fun pins s σ H Q I ⟨ρ, S, τ, R, r, h⟩ => E9 pins s σ H Q I (h ρ H .refl R)
theorem bI {c : Ex} (ha : AE X a c) : AO X (some a) (cj c) := fun pins s σ H Q I ⟨ρ, S, τ, R, r, h⟩ => Ff ha pins s σ H Q I ⟨ρ, S, τ, R, r, aJ (aN h) .refl fun x S1 h1 ρ1 H1 v e1 R1 v1 => by
 cases v1 <;> first | exact h1.elim | exact ⟨_, rfl, h1 ρ1 H1 e1 R1⟩⟩
def eN (xs : List A) (lo hi : Option Int) : List A := (xs.drop (HT.fy xs.length 0 lo)).take (HT.fy xs.length xs.length hi - HT.fy xs.length 0 lo)
theorem AVs.cut {K : PySem.W.Frag} {ρ : List Addr} {H : Hp} {xs : List A} {vs : List V} (r : AVs K ρ H xs vs) (lo hi : Option Int) : AVs K ρ H (eN xs lo hi) (vf vs lo hi) := by
 unfold eN vf
 rw [r.length]
 exact (r.drop _).take _
def zS (a : A) (lo hi : Option Int) (S : aH) : R A := match a with
 | .ref n => opt (au S n) fun xs => .ok (.ref S.length) (S ++ [.lst (eN xs lo hi)])
 | .frz xs => .ok (.ref S.length) (S ++ [.lst (eN xs lo hi)])
 | .tup xs => gd (¬ (HT.fy xs.length 0 lo = 0 /\ HT.fy xs.length xs.length hi = xs.length)) (.ok (.tup (eN xs lo hi)) S)
 | _ => .no
def lC (c : Ex) (lo hi : Pt) : Ex := fun τ S => (c τ S).bind fun a S1 => (lo τ S1).bind fun l S2 => (hi τ S2).bind fun u S3 => zS a l u S3
def rS (X : Cx) : V -> Option Int -> Option Int -> Hp -> VK -> Prop := fun x lo hi H Q => ∃ ρ S a, Rel X.K ρ H S /\ AV X.K ρ H a x /\ (zS a lo hi S).post (oM X ρ H Q) (XE X ρ H)
theorem HD : KQ X (rS X) := fun pins s σ H x v vl vu lo hi sl Q I rx hs pl pu ⟨ρ, S, a, R, va, h⟩ => by
 cases va with
 | @tup p xs vs h1 r1 =>
  obtain ⟨hc, h⟩ := bA h
  exact HV pins s σ H _ v vl vu lo hi sl Q I rx hs pl pu ⟨p, vs, rfl, (dZ.of h1), by rw [<- r1.length]; exact hc, jA R (r1.cut lo hi) .refl h⟩
 | @frz p xs vs h1 r1 => exact xM pins s σ H _ v vl vu lo hi sl Q I rx hs pl pu ⟨p, vs, rfl, h1.DW, gn R (r1.cut lo hi) .refl h⟩
 | @ref p n hp =>
  obtain ⟨xs, hn, h⟩ := aQ h
  obtain ⟨vs, h1, r1⟩ := R.lst hp (aU hn)
  exact xM pins s σ H _ v vl vu lo hi sl Q I rx hs pl pu ⟨p, vs, rfl, gy.of h1, gn R (r1.cut lo hi) .refl h⟩
 | _ => exact h.elim
theorem eE {e : Expr} {lo hi : Option Expr} {p2 : Pos} {c : Ex} {cl ch : Pt} (he : AE X e c) (hl : AO X lo cl) (hh : AO X hi ch) : AE X (.Subscript e (.Slice lo hi none p2) pos) (lC c cl ch) := PE.imp (C3 HD he hl hh) fun σ H Q ⟨ρ, S, τ, R, r, h⟩ => by
 refine ⟨ρ, S, τ, R, r, aJ (aN h) .refl fun a S1 h1 ρ1 H1 x e1 R1 v1 => ⟨ρ1, S1, τ, R1, r.ext e1, aJ (aN h1) e1 fun l S2 h2 ρ2 H2 e2 R2 => ⟨ρ2, S2, τ, R2, r.ext (e1.trans e2), aJ (aN h2) (e1.trans e2) fun u S3 h3 ρ3 H3 e3 R3 => ?_⟩⟩⟩
 exact ⟨ρ3, S3, a, R3, v1.ext (e2.trans e3), aJ h3 (e1.trans (e2.trans e3)) fun _ _ z => z.ext (e1.trans (e2.trans e3))⟩
def wo (a : A) (S : aH) : R A := match a with
 | .ref n => opt (au S n) fun xs => .ok (.ref S.length) (S ++ [.lst xs.reverse])
 | .tup xs => .ok (.tup xs.reverse) S
 | _ => .no
theorem AK {e : Expr} {p2 up cp : Pos} {kk : Nat} {c : Ex} (he : AE X e c) : AE X (.Subscript e (.Slice none none (some (.UnaryOp .USub (.Constant (.int 1) kk cp) up)) p2) pos) (CC wo c) := fun pins s σ H Q I ⟨ρ, S, τ, R, r, h⟩ => by
 have hb := aN h
 cases hc : c τ S with
 | no => rw [hc] at hb; exact hb.elim
 | ex x S1 =>
  rw [hc] at hb
  exact yf he pins s σ H Q I ⟨ρ, S, τ, R, r, by rw [hc]; exact hb⟩
 | ok a S1 =>
  rw [hc] at hb
  have hb : (wo a S1).post (oM X ρ H Q) (XE X ρ H) := hb
  cases a with
  | tup xs =>
   refine yf he pins s σ H Q I ⟨ρ, S, τ, R, r, ?_⟩
   rw [hc]
   intro ρ1 H1 x e1 R1 v1
   cases v1 with
   | tup h1 r1 => exact ⟨_, _, rfl, (dZ.of h1), jA R1 r1.reverse e1 hb⟩
  | ref n =>
   refine E7 he pins s σ H Q I ⟨ρ, S, τ, R, r, ?_⟩
   rw [hc]
   intro ρ1 H1 x e1 R1 v1
   obtain ⟨xs, hn, h⟩ := aQ hb
   cases v1 with
   | ref hp =>
    obtain ⟨vs, h1, r1⟩ := R1.lst hp (aU hn)
    exact ⟨_, _, rfl, gy.of h1, gn R1 r1.reverse e1 h⟩
  | _ => exact hb.elim
def aX (f : List A -> aH -> R A) (d : jF) : Ex := fun τ S => (d τ S).bind fun as S1 => f as S1
theorem uC {f : List A -> aH -> R A} {d : jF} {σ : L2.St} {H : Hp} {Q : VK} (h : tE X (aX f d) σ H Q) : Lx (rN X f) (tL X d) σ H Q := by
 obtain ⟨ρ, S, τ, R, r, h⟩ := h
 exact ⟨ρ, S, τ, R, r, aJ (aN h) .refl fun as S1 h1 ρ1 H1 vs e1 R1 v1 => ⟨ρ1, S1, as, R1, v1, aJ h1 e1 fun _ _ z => z.ext e1⟩⟩
variable {x : Str} {p : Pos} {e : Expr} {es : List Expr} {id T : String} {f : List A -> aH -> R A} {d : jF}
theorem aR (hc : bR X (.builtin id) (rN X f)) (hm : X.mg x = none) (hv : bootBuiltins x = some (.builtin id)) (ha : AL X (e :: es) d) (hg : Gl X x := by rfl) (hn : x ≠ "__name__" := by decide) (hdb : (x == ("__debug__" : Str)) = false := by decide)
  (he : starEach (e :: es) X.env = (false, eval e X.env) :: starEach es X.env := by rfl) (hpl : (backTo pos (starEach es X.env)).any (·.1) = false := by rfl) : AE X (.Call (.Name x p) (e :: es) [] pos) (aX f d) :=
 PE.imp (AQ hc hg hm hv ha hn hdb he hpl) fun _ _ _ h => uC h
theorem bK (hc : bR X (.type T) (rN X f)) (hm : X.mg x = none) (hv : bootBuiltins x = some (.type T)) (ha : AL X (e :: es) d) (hg : Gl X x := by rfl) (hn : x ≠ "__name__" := by decide) (hdb : (x == ("__debug__" : Str)) = false := by decide)
  (he : starEach (e :: es) X.env = (false, eval e X.env) :: starEach es X.env := by rfl) (hpl : (backTo pos (starEach es X.env)).any (·.1) = false := by rfl) : AE X (.Call (.Name x p) (e :: es) [] pos) (aX f d) :=
 PE.imp (zu hc hg hm hv ha hn hdb he hpl) fun _ _ _ h => uC h
theorem pI (hm : X.mg x = none) (hv : bootBuiltins x = some (.type T)) (hg : Gl X x := by rfl) (hn : x ≠ "__name__" := by decide) (hdb : (x == ("__debug__" : Str)) = false := by decide) : AE X (.Name x pos) (eC (.ty T)) :=
 PE.imp (Es (v := .ty T) hg hm hv rfl hn hdb) fun σ H Q ⟨ρ, S, τ, R, r, h⟩ => h ρ H _ .refl R (.ty T)
def A.seq (S : aH) : A -> Option (List A)
 | .tup xs => some xs
 | .frz xs => some xs
 | .ref n => au S n
 | _ => none
theorem Eb {K : PySem.W.Frag} {ρ : List Addr} {H : Hp} {x : A} {vs : List V} (h : AVs K ρ H [x] vs) : ∃ v, vs = [v] /\ AV K ρ H x v := by
 cases h with
 | cons h t => cases t; exact ⟨_, rfl, h⟩
theorem K9 {K : PySem.W.Frag} {ρ : List Addr} {H : Hp} {x y : A} {vs : List V} (h : AVs K ρ H [x, y] vs) : ∃ v w, vs = [v, w] /\ AV K ρ H x v /\ AV K ρ H y w := by
 cases h with
 | cons h t => obtain ⟨w, rfl, h'⟩ := Eb t; exact ⟨_, _, rfl, h, h'⟩
def f1 (g : A -> aH -> R A) : List A -> aH -> R A := fun as S => match as with
 | [x] => g x S
 | _ => .no
def f2 (g : A -> A -> aH -> R A) : List A -> aH -> R A := fun as S => match as with
 | [x, y] => g x y S
 | _ => .no
theorem Fd {g : A -> aH -> R A} {as : List A} {S : aH} {P : A -> aH -> Prop} {E : Str -> aH -> Prop} (h : (f1 g as S).post P E) : ∃ x, as = [x] /\ (g x S).post P E := by
 match as, h with
 | [], h => exact h.elim
 | [x], h => exact ⟨x, rfl, h⟩
 | _ :: _ :: _, h => exact h.elim
theorem DK {g : A -> A -> aH -> R A} {as : List A} {S : aH} {P : A -> aH -> Prop} {E : Str -> aH -> Prop} (h : (f2 g as S).post P E) : ∃ x y, as = [x, y] /\ (g x y S).post P E := by
 match as, h with
 | [], h => exact h.elim
 | [_], h => exact h.elim
 | [x, y], h => exact ⟨x, y, rfl, h⟩
 | _ :: _ :: _ :: _, h => exact h.elim
theorem IX {g : A -> aH -> R A} {vs : List V} {H : Hp} {Q : VK} (h : rN X (f1 g) vs H Q) : ∃ v, vs = [v] /\ ∃ ρ S x, Rel X.K ρ H S /\ AV X.K ρ H x v /\ (g x S).post (oM X ρ H Q) (XE X ρ H) := by
 obtain ⟨ρ, S, as, R, v, h⟩ := h
 obtain ⟨x, rfl, h⟩ := Fd h
 obtain ⟨w, rfl, hv⟩ := Eb v
 exact ⟨w, rfl, ρ, S, x, R, hv, h⟩
theorem KJ {g : A -> A -> aH -> R A} {vs : List V} {H : Hp} {Q : VK} (h : rN X (f2 g) vs H Q) : ∃ v w, vs = [v, w] /\ ∃ ρ S x y, Rel X.K ρ H S /\ AV X.K ρ H x v /\ AV X.K ρ H y w /\ (g x y S).post (oM X ρ H Q) (XE X ρ H) := by
 obtain ⟨ρ, S, as, R, v, h⟩ := h
 obtain ⟨x, y, rfl, h⟩ := DK h
 obtain ⟨w, w', rfl, hv, hv'⟩ := K9 v
 exact ⟨w, w', rfl, ρ, S, x, y, R, hv, hv', h⟩
def eK (x : A) (S : aH) : R A := match x with
 | .str x => gd (x.length <= sizeLine) (.ok (.int x.length) S)
 | .tup xs => .ok (.int xs.length) S
 | .frz xs => .ok (.int xs.length) S
 | .ref n => opt (au S n) fun xs => .ok (.int xs.length) S
 | _ => .no
theorem dB : bR X (.builtin "len") (rN X (f1 eK)) := bR.imp B3 fun vs H Q h0 => by
 obtain ⟨w, rfl, ρ, S, x, R, hv, h⟩ := IX h0
 clear h0
 cases hv with
 | str z =>
  obtain ⟨hz, h⟩ := bA h
  exact ⟨_, _, rfl, ⟨hz, rfl⟩, h _ _ _ .refl R (.int _)⟩
 | @tup p xs us h1 r => exact ⟨_, us.length, rfl, .inr ⟨us, (dZ.of h1), rfl⟩, by rw [<- r.length]; exact h _ _ _ .refl R (.int _)⟩
 | @frz p xs us h1 r => exact ⟨_, us.length, rfl, .inl ⟨us, h1.DW, rfl⟩, by rw [<- r.length]; exact h _ _ _ .refl R (.int _)⟩
 | ref hp =>
  obtain ⟨xs, hn, h⟩ := aQ h
  obtain ⟨us, h1, r⟩ := R.lst hp (aU hn)
  exact ⟨_, us.length, rfl, .inl ⟨us, gy.of h1, rfl⟩, by rw [<- r.length]; exact h _ _ _ .refl R (.int _)⟩
 | _ => exact h.elim
def sC (x : A) (S : aH) : R A := match x with
 | .int i => .ok (.int (if i < 0 then -i else i)) S
 | _ => .no
theorem u9 : bR X (.builtin "abs") (rN X (f1 sC)) := bR.imp CI fun vs H Q h0 => by
 obtain ⟨w, rfl, ρ, S, x, R, hv, h⟩ := IX h0
 clear h0
 cases hv <;> first | exact h.elim | exact ⟨_, rfl, h _ _ _ .refl R (.int _)⟩
def A5 (x y : A) (S : aH) : R A := match x, y with
 | .int i, .int j => .ok (.int (if j > i then j else i)) S
 | _, _ => .no
theorem Hf (hc : X.calm = true) : bR X (.builtin "max") (rN X (f2 A5)) := bR.imp (zK hc) fun vs H Q h0 => by
 obtain ⟨w, w', rfl, ρ, S, x, y, R, hv, hv', h⟩ := KJ h0
 clear h0
 cases hv <;> first | exact h.elim | (cases hv' <;> first | exact h.elim | exact ⟨_, _, rfl, h _ _ _ .refl R (.int _)⟩)
def Dg (x y : A) (S : aH) : R A := match x, y with
 | .int i, .int j => .ok (.int (if j < i then j else i)) S
 | _, _ => .no
theorem G8 (hc : X.calm = true) : bR X (.builtin "min") (rN X (f2 Dg)) := bR.imp (zl hc) fun vs H Q h0 => by
 obtain ⟨w, w', rfl, ρ, S, x, y, R, hv, hv', h⟩ := KJ h0
 clear h0
 cases hv <;> first | exact h.elim | (cases hv' <;> first | exact h.elim | exact ⟨_, _, rfl, h _ _ _ .refl R (.int _)⟩)
def vp (x : A) (S : aH) : R A := match x with
 | .int i => .ok (.int i) S
 | .bl k => .ok (.int (if k then 1 else 0)) S
 | .str y => opt (PySem.intText? y) fun n => gd (y.length <= 640) (.ok (.int n) S)
 | _ => .no
theorem IT : bR X (.type "int") (rN X (f1 vp)) := fun pins s σ H xs us Q I rv h0 => by
 obtain ⟨w, rfl, ρ, S, x, R, hv, h⟩ := IX h0
 clear h0
 cases hv with
 | int i => exact qX pins s σ H _ us Q I rv (.inl ⟨i, rfl, h _ _ _ .refl R (.int _)⟩)
 | bl k => exact qX pins s σ H _ us Q I rv (.inr ⟨k, rfl, h _ _ _ .refl R (.int _)⟩)
 | str y =>
  obtain ⟨n, hn, h⟩ := aQ h
  obtain ⟨hl, h⟩ := bA h
  exact zy pins s σ H _ us Q I rv ⟨y, n, rfl, hl, hn, h _ _ _ .refl R (.int _)⟩
 | _ => exact h.elim
def mY (x y : A) (S : aH) : R A := match x, y with
 | .int i, .int j => .ok (.rng i j) S
 | _, _ => .no
theorem pO : bR X (.type "range") (rN X (f2 mY)) := bR.imp sN fun vs H Q h0 => by
 obtain ⟨w, w', rfl, ρ, S, x, y, R, hv, hv', h⟩ := KJ h0
 clear h0
 cases hv with
 | int i =>
  cases hv' with
  | int j =>
   refine ⟨i, j, rfl, fun p hp => ?_⟩
   obtain ⟨ex, R'⟩ := R.im (u := .rng i j) hp
   exact h ρ _ _ ex R' (.rng bL)
  | _ => exact h.elim
 | _ => exact h.elim
def n_ (i j : Int) : Prop := (-(2 ^ 62) <= i /\ i < 2 ^ 62 /\ -(2 ^ 62) <= j /\ j < 2 ^ 62) /\ (j - i).toNat <= 1000
instance (i j : Int) : Decidable (n_ i j) := by unfold n_; infer_instance
def ir (x : A) (S : aH) : R A := match x with
 | .rng i j => gd (n_ i j) (.ok (.ref S.length) (S ++ [.lst ((aS i j).map .int)]))
 | .tup xs => .ok (.ref S.length) (S ++ [.lst xs])
 | .frz xs => .ok (.ref S.length) (S ++ [.lst xs])
 | .ref n => opt (au S n) fun xs => .ok (.ref S.length) (S ++ [.lst xs])
 | _ => .no
theorem jQ (hc : X.calm = true) : bR X (.type "list") (rN X (f1 ir)) := fun pins s σ H vs us Q I rx h0 => by
 obtain ⟨w, rfl, ρ, S, x, R, hv, h⟩ := IX h0
 clear h0
 cases hv with
 | @rng p i j hp =>
  obtain ⟨hc', h⟩ := bA h
  exact qF hc pins s σ H _ us Q I rx ⟨p, i, j, rfl, hp, hc'.1, hc'.2, gn R (mJ _) .refl h⟩
 | @tup p xs vs h1 r => exact jk pins s σ H _ us Q I rx ⟨p, vs, rfl, .inr (dZ.of h1), gn R r .refl h⟩
 | @frz p xs vs h1 r => exact jk pins s σ H _ us Q I rx ⟨p, vs, rfl, .inl h1.DW, gn R r .refl h⟩
 | @ref p n hp =>
  obtain ⟨xs, hn, h⟩ := aQ h
  obtain ⟨vs, h1, r⟩ := R.lst hp (aU hn)
  exact jk pins s σ H _ us Q I rx ⟨p, vs, rfl, .inl (gy.of h1), gn R r .refl h⟩
 | _ => exact h.elim
def iM (x : A) (S : aH) : R A := match x with
 | .rng i j => gd (n_ i j) (.ok (.tup ((aS i j).map .int)) S)
 | .tup xs => .ok (.tup xs) S
 | .frz xs => .ok (.tup xs) S
 | .ref n => opt (au S n) fun xs => .ok (.tup xs) S
 | _ => .no
theorem kG (hc : X.calm = true) : bR X (.type "tuple") (rN X (f1 iM)) := fun pins s σ H vs us Q I rx h0 => by
 obtain ⟨w, rfl, ρ, S, x, R, hv, h⟩ := IX h0
 clear h0
 cases hv with
 | @rng p i j hp =>
  obtain ⟨hc', h⟩ := bA h
  exact qv hc pins s σ H _ us Q I rx ⟨p, i, j, rfl, hp, hc'.1, hc'.2, jA R (mJ _) .refl h⟩
 | @tup p xs vs h1 r => exact iN pins s σ H _ us Q I rx ⟨p, vs, rfl, .inr ⟨(dZ.of h1), h _ _ _ .refl R (.tup h1 r)⟩⟩
 | @frz p xs vs h1 r => exact iN pins s σ H _ us Q I rx ⟨p, vs, rfl, .inl ⟨h1.DW, jA R r .refl h⟩⟩
 | @ref p n hp =>
  obtain ⟨xs, hn, h⟩ := aQ h
  obtain ⟨vs, h1, r⟩ := R.lst hp (aU hn)
  exact iN pins s σ H _ us Q I rx ⟨p, vs, rfl, .inl ⟨gy.of h1, jA R r .refl h⟩⟩
 | _ => exact h.elim
def A.Eu : List A -> Option (List Bool)
 | [] => some []
 | .bl b :: xs => (A.Eu xs).map (b :: ·)
 | _ => none
theorem Dv {K : PySem.W.Frag} {ρ : List Addr} {H : Hp} : ∀ {xs : List A} {vs : List V} {bs : List Bool}, AVs K ρ H xs vs -> A.Eu xs = some bs -> vs = bs.map V.bl
 | _, _, _, .nil, e => by cases e; rfl
 | _, _, _, .cons (x := .bl b) h t, e => by
  obtain ⟨cs, e1, rfl⟩ := Option.map_eq_some_iff.mp e
  cases h
  rw [Dv t e1]; rfl
 | _, _, _, .cons (x := .unb) h t, e => nomatch e
 | _, _, _, .cons (x := .non) h t, e => nomatch e
 | _, _, _, .cons (x := .int _) h t, e => nomatch e
 | _, _, _, .cons (x := .str _) h t, e => nomatch e
 | _, _, _, .cons (x := .tup _) h t, e => nomatch e
 | _, _, _, .cons (x := .frz _) h t, e => nomatch e
 | _, _, _, .cons (x := .rng _ _) h t, e => nomatch e
 | _, _, _, .cons (x := .ref _) h t, e => nomatch e
 | _, _, _, .cons (x := .exn _) h t, e => nomatch e
 | _, _, _, .cons (x := .ty _) h t, e => nomatch e
def BS (x : A) (S : aH) : R A := match x with
 | .ref n => opt (au S n) fun xs => opt (A.Eu xs) fun bs => .ok (.bl (bs.all fun b => b)) S
 | _ => .no
theorem FD (hc : X.calm = true) : bR X (.builtin "all") (rN X (f1 BS)) := bR.imp (zA hc) fun vs H Q h0 => by
 obtain ⟨w, rfl, ρ, S, x, R, hv, h⟩ := IX h0
 clear h0
 cases hv with
 | @ref p n hp =>
  obtain ⟨xs, hn, h⟩ := aQ h
  obtain ⟨bs, hb, h⟩ := aQ h
  obtain ⟨vs, h1, r⟩ := R.lst hp (aU hn)
  rw [Dv r hb] at h1
  exact ⟨p, bs, rfl, gy.of h1, h _ _ _ .refl R (.bl _)⟩
 | _ => exact h.elim
def insI (x : Int) : List Int -> List Int
 | [] => [x]
 | y :: ys => if x <= y then x :: y :: ys else y :: insI x ys
def sortI : List Int -> List Int
 | [] => []
 | x :: xs => insI x (sortI xs)
def IG (x : A) (S : aH) : R A := opt (x.seq S) fun xs => opt (A.ints xs) fun ns => gd (ns.length < 64) (.ok (.ref S.length) (S ++ [.lst ((sortI ns).map .int)]))
def A.kd : A -> aH -> Option Kd
 | .non, _ => some .non
 | .bl _, _ => some .bl
 | .int _, _ => some .int
 | .str _, _ => some .str
 | .tup _, _ => some .tup
 | .ref n, S => (au S n).map fun _ => .lst
 | _, _ => none
theorem D9 {K : PySem.W.Frag} (k : Kd) : PySem.W.kitOne K k.ty (.type "str") = some (decide (k = .str)) := by cases k <;> rfl
def o7 (k : Kd) (c : String) : Option Bool := if c = "int" then some (decide (k = .int \/ k = .bl)) else if c = "bool" then some (decide (k = .bl)) else if c = "tuple" then some (decide (k = .tup)) else if c = "list" then some (decide (k = .lst)) else if c = "str" then some (decide (k = .str)) else none
theorem yz {K : PySem.W.Frag} {k : Kd} {c : String} {b : Bool} (h : o7 k c = some b) : PySem.W.kitOne K k.ty (.type c) = some b := by
 unfold o7 at h
 split at h
 ·rename_i e; subst e; rw [<- h]; exact EI k
 ·split at h
  ·rename_i e; subst e; rw [<- h]; exact BX k
  ·split at h
   ·rename_i e; subst e; rw [<- h]; exact kit_tuple k
   ·split at h
    ·rename_i e; subst e; rw [<- h]; exact Bx k
    ·split at h
     ·rename_i e; subst e; rw [<- h]; exact D9 k
     ·cases h
def se (x y : A) (S : aH) : R A := match y with
 | .ty c => opt (x.kd S) fun k => opt (o7 k c) fun b => .ok (.bl b) S
 | _ => .no
theorem JT {K : PySem.W.Frag} {ρ : List Addr} {H : Hp} {S : aH} {x : A} {v : V} {k : Kd} (R : Rel K ρ H S) (h : AV K ρ H x v) (e : x.kd S = some k) : (∃ p vs, v = .ref p /\ dZ K H p vs /\ k = .tup) \/ Ir H v k := by
 cases h with
 | non => cases e; exact .inr rfl
 | bl b => cases e; exact .inr ⟨b, rfl⟩
 | int i => cases e; exact .inr ⟨i, rfl⟩
 | str i => cases e; exact .inr ⟨i, rfl⟩
 | tup h r => cases e; exact .inl ⟨_, _, rfl, (dZ.of h), rfl⟩
 | ref h =>
  obtain ⟨xs, e1, e2⟩ := Option.map_eq_some_iff.mp e
  obtain ⟨vs, h1, _⟩ := R.lst h (aU e1)
  cases e2
  exact .inr ⟨_, vs, rfl, h1⟩
 | _ => cases e
theorem qu : bR X (.builtin "isinstance") (rN X (f2 se)) := fun pins s σ H vs us Q I rx h0 => by
 obtain ⟨w, w', rfl, ρ, S, x, y, R, hv, hv', h⟩ := KJ h0
 clear h0
 cases hv' with
 | ty c =>
  obtain ⟨k, hk, h⟩ := aQ h
  obtain ⟨b, hb, hq⟩ := aQ h
  have hq : oM X ρ H Q (.bl b) S := hq
  clear h
  rcases JT R hv hk with ⟨p, vs, rfl, ht, rfl⟩ | hd
  ·match us, rx with
   | [_, _], .cons r1 (.cons r2 .nil) =>
    obtain ⟨its, q, ⟨o, h1, h2, _⟩, _⟩ := I.tuple ht
    cases (show _ = Value.ref p from r1)
    cases (show _ = Value.type c from r2)
    exact PySem.W.kia_one PySem.W.kitx_tuple I.tB ⟨o, h1, h2⟩ (yz hb) (fun z => nomatch z) fun tk => ⟨.bl b, H, I.tok _, rfl, hq _ _ _ .refl R (.bl _)⟩
  ·exact uq (c := c) pins s σ H _ us Q I rx ⟨w, _, b, rfl, hd.LH, yz hb, hq _ _ _ .refl R (.bl _)⟩
 | _ => exact h.elim
end
end Am
namespace Am
open PySem PySem.Spec PyProof.Rows L2
def JK (x : List Int) : List (List Int) -> List (List Int)
 | [] => [x]
 | y :: ys => if HT.lexLt y x = true then y :: JK x ys else x :: y :: ys
def FL : List (List Int) -> List (List Int)
 | [] => []
 | x :: xs => JK x (FL xs)
def L5 : List A -> Option (List (List Int))
 | [] => some []
 | .tup xs :: r => match A.ints xs with
  | some (k :: ks) => (L5 r).map fun rs => (k :: ks) :: rs
  | _ => none
 | _ => none
section
variable {X : Cx}
def G6 (n : Nat) (S : aH) : R A := opt (au S n) fun xs => opt (L5 xs) fun kss => .ok (.ref S.length) (S ++ [.lst ((FL kss).map fun ks => .tup (ks.map .int))])
def Mq (x : A) (S : aH) : Bool := match x with
 | .ref n => match au S n with
  | some (.tup _ :: _) => true
  | _ => false
 | _ => false
def LX (x : A) (S : aH) : R A := match Mq x S with
 | false => IG x S
 | true => match x with
  | .ref n => G6 n S
  | _ => .no
end
end Am
namespace Am
open PySem PySem.Spec PyProof.Rows L2
def Lj (k : Nat -> List Int) (i : Nat) : List Nat -> List Nat
 | [] => [i]
 | j :: js => if HT.lexLt (k j) (k i) = true then j :: Lj k i js else i :: j :: js
section
variable {X : Cx}
end
end Am
namespace Am
open PySem PySem.Spec PyProof.Rows L2
def RS.post (r : RS) (N : List A -> aH -> Prop) (T : A -> aH -> Prop) (B C : List A -> aH -> Prop) (E : Str -> aH -> Prop) : Prop := match r with
 | .nx τ S => N τ S
 | .rt a S => T a S
 | .bk τ S => B τ S
 | .ct τ S => C τ S
 | .ex c S => E c S
 | .no => False
def RS.of {α : Type} (r : R α) (f : α -> aH -> RS) : RS := match r with
 | .ok a S => f a S
 | .ex c S => .ex c S
 | .no => .no
theorem of_post {α : Type} {r : R α} {f : α -> aH -> RS} {N B C : List A -> aH -> Prop} {T : A -> aH -> Prop} {E : Str -> aH -> Prop} (h : (RS.of r f).post N T B C E) : r.post (fun a S => (f a S).post N T B C E) E := by
 cases r <;> exact h
theorem RS.mono {r : RS} {N B C N' B' C' : List A -> aH -> Prop} {T T' : A -> aH -> Prop} {E E' : Str -> aH -> Prop} (h : r.post N T B C E) (hn : ∀ τ S, N τ S -> N' τ S) (ht : ∀ a S, T a S -> T' a S) (hb : ∀ τ S, B τ S -> B' τ S) (hc : ∀ τ S, C τ S -> C' τ S) (he : ∀ c S, E c S -> E' c S) : r.post N' T' B' C' E' := by
 cases r with
 | nx τ S => exact hn _ _ h
 | rt a S => exact ht _ _ h
 | bk τ S => exact hb _ _ h
 | ct τ S => exact hc _ _ h
 | ex c S => exact he _ _ h
 | no => exact h.elim
def xJ (X : Cx) (ρ : List Addr) (H : Hp) (N : L2.St -> Hp -> Prop) : List A -> aH -> Prop := fun τ' S' => ∀ ρ' H' σ', Ext ρ ρ' H H' -> Rel X.K ρ' H' S' -> SR X.K ρ' H' τ' σ' -> N σ' H'
theorem xJ.ext {X : Cx} {ρ ρ' : List Addr} {H H' : Hp} {N : L2.St -> Hp -> Prop} {τ : List A} {S : aH} (h : xJ X ρ H N τ S) (e : Ext ρ ρ' H H') : xJ X ρ' H' N τ S := fun ρ2 H2 σ2 e2 => h ρ2 H2 σ2 (e.trans e2)
def qS (X : Cx) (ρ : List Addr) (H : Hp) (D : Ends) (r : RS) : Prop := r.post (xJ X ρ H D.nx) (oM X ρ H D.rt) (xJ X ρ H D.bk) (xJ X ρ H D.ct) (XE X ρ H)
theorem qS.ext {X : Cx} {ρ ρ' : List Addr} {H H' : Hp} {D : Ends} {r : RS} (h : qS X ρ H D r) (e : Ext ρ ρ' H H') : qS X ρ' H' D r := RS.mono h (fun _ _ z => z.ext e) (fun _ _ z => z.ext e) (fun _ _ z => z.ext e) (fun _ _ z => z.ext e) fun _ _ z => z.ext e
def tS (X : Cx) (c : Sm) : TS := fun D σ H => ∃ ρ S τ, Rel X.K ρ H S /\ SR X.K ρ H τ σ /\ qS X ρ H D (c τ S)
def AS (X : Cx) (st : Stmt) (c : Sm) : Prop := PS X st (tS X c)
def ET (X : Cx) (sts : List Stmt) (c : Sm) : Prop := tu X sts (tS X c)
def tG (X : Cx) (g : Tg) : TG := fun v σ H Q => ∃ ρ S τ a, Rel X.K ρ H S /\ SR X.K ρ H τ σ /\ AV X.K ρ H a v /\ (g a τ S).post (xJ X ρ H Q) (XE X ρ H)
def AG (X : Cx) (e : Expr) (g : Tg) : Prop := PG X e (tG X g)
abbrev DE := List A -> List A -> aH -> R (List A)
def Mw (X : Cx) (g : DE) : Ft := fun vs σ H Q => ∃ ρ S τ as, Rel X.K ρ H S /\ SR X.K ρ H τ σ /\ AVs X.K ρ H as vs /\ (g as τ S).post (xJ X ρ H Q) (XE X ρ H)
def KA (X : Cx) (es : List Expr) (g : DE) : Prop := Jk X es (Mw X g)
section
variable {X : Cx} {pos : Pos} {a b e : Expr} {st : Stmt} {rest : List Stmt} {c d : Sm}
theorem PS.imp {t t' : TS} (h : PS X st t) (i : ∀ D σ H, t' D σ H -> t D σ H) : PS X st t' := fun pins s σ H D I q => h pins s σ H D I (i D σ H q)
theorem tu.imp {t t' : TS} (h : tu X rest t) (i : ∀ D σ H, t' D σ H -> t D σ H) : tu X rest t' := fun pins s σ H D I q => h pins s σ H D I (i D σ H q)
theorem PG.imp {t t' : TG} (h : PG X e t) (i : ∀ v σ H Q, t' v σ H Q -> t v σ H Q) : PG X e t' := fun pins s σ H v u Q I r q => h pins s σ H v u Q I r (i _ _ _ _ q)
def bJ (i : Nat) : Tg := fun a τ S => .ok (τ.set i a) S
theorem bu {i : Nat} {x : Str} (hN : X.N.Nodup) (hi : X.N[i]? = some x := by rfl) (hx : Loc X.env.scope x := by first | exact Or.inl rfl | exact Or.inr rfl) (hf : X.fn x = true \/ X.env.scope.names.lookup x = some .local := by first | exact .inl rfl | exact .inr rfl | assumption) : AG X (.Name x pos) (bJ i) :=
 PG.imp (yu hN hi hx hf) fun v σ H Q ⟨ρ, S, τ, a, R, r, va, h⟩ => h ρ H _ .refl R (r.set va)
def yE : DE := fun as τ S => match as with
 | [] => .ok τ S
 | _ => .no
def oq (g : Tg) (gs : DE) : DE := fun as τ S => match as with
 | a :: as => (g a τ S).bind fun τ1 S1 => gs as τ1 S1
 | [] => .no
theorem iI : KA X [] yE := fun pins s σ H vs us Q I r ⟨ρ, S, τ, as, R, sr, va, h⟩ => EU pins s σ H vs us Q I r (by
 cases va with
 | nil => exact ⟨rfl, h ρ H σ .refl R sr⟩
 | cons _ _ => exact h.elim)
theorem cg {es : List Expr} {g : Tg} {gs : DE} (h1 : AG X e g) (h2 : KA X es gs) (hs : (assignEach (e :: es) X.env).map (·.2) = assign e X.env :: (assignEach es X.env).map (·.2) := by rfl) : KA X (e :: es) (oq g gs) :=
 fun pins s σ H vs us Q I r ⟨ρ, S, τ, as, R, sr, va, h⟩ => BN h1 h2 hs pins s σ H vs us Q I r (by
  cases va with
  | nil => exact h.elim
  | cons ha hr => exact ⟨_, _, rfl, ρ, S, τ, _, R, sr, ha, aJ (aN h) .refl fun τ1 S1 h1 ρ1 H1 σ1 e1 R1 sr1 => ⟨ρ1, S1, τ1, _, R1, sr1, hr.ext e1, aJ h1 e1 fun _ _ z => z.ext e1⟩⟩)
def wG (n : Nat) (gs : DE) : Tg := fun a τ S => match a with
 | .tup xs => gd (xs.length = n) (gs xs τ S)
 | _ => .no
theorem jZ {es : List Expr} {k n : Nat} {gs : DE} (hc : X.calm = true) (h : KA X es gs) (hn : (assignEach es X.env).length = n := by rfl) (hst : (assignEach es X.env).findIdx? (·.1) = none := by rfl) : AG X (.Tuple es k pos) (wG n gs) :=
 PG.imp (IP hc h hn hst) fun v σ H Q ⟨ρ, S, τ, a, R, r, va, h⟩ => by
  cases va with
  | tup h1 r1 =>
   obtain ⟨hl, h⟩ := bA h
   exact ⟨_, _, rfl, dZ.of h1, by rw [<- r1.length]; exact hl, ρ, S, τ, _, R, r, r1, h⟩
  | _ => exact h.elim
def uc (o i v : A) (S : aH) : R Unit := match o, i with
 | .ref n, .int k => opt (au S n) fun xs => opt (oW xs.length k) fun j => .ok () (S.set n (.lst (xs.set j v)))
 | _, _ => .no
def Mp (X : Cx) : Co := fun o i v H Q => ∃ ρ S ao ai av, Rel X.K ρ H S /\ AV X.K ρ H ao o /\ AV X.K ρ H ai i /\ AV X.K ρ H av v /\ (uc ao ai av S).post (fun _ S' => ∀ ρ' H', Ext ρ ρ' H H' -> Rel X.K ρ' H' S' -> Q H') (XE X ρ H)
theorem D5 : Dh X (Mp X) := fun pins s σ H o i v ov iv u Q I ro ri rv ⟨ρ, S, ao, ai, av, R, h1, h2, h3, h⟩ => by
 cases h1 with
 | @ref p n hp =>
  cases h2 with
  | int k =>
   obtain ⟨xs, hn, h⟩ := aQ h
   obtain ⟨j, hj, h⟩ := aQ h
   obtain ⟨vs, e, r⟩ := R.lst hp (aU hn)
   obtain ⟨ex, R'⟩ := R.put hp (aU hn) (r.set h3 j)
   exact set_list pins s σ H _ _ v ov iv u Q I ro ri rv ⟨p, vs, k, j, rfl, rfl, e, by rw [<- r.length]; exact hj, h _ _ ex R'⟩
  | _ => exact h.elim
 | _ => exact h.elim
def zP (co ci : Ex) : Tg := fun a τ S => (co τ S).bind fun o S1 => (ci τ S1).bind fun i S2 => (uc o i a S2).bind fun _ S3 => .ok τ S3
theorem g8 {o i : Expr} {co ci : Ex} (ho : AE X o co) (hi : AE X i ci)
  (ha : ∀ v, assign (.Subscript o i pos) X.env v = (do
   let ov <- holding [v] (eval o X.env)
   let iv <- holding [v, ov] (eval i X.env)
   standAt pos
   holding [v, ov, iv] (setItem ov iv v)
   release [v, ov, iv] []) := by intro _; rfl) : AG X (.Subscript o i pos) (zP co ci) := PG.imp (AN ho hi D5 ha) fun v σ H Q ⟨ρ, S, τ, a, R, r, va, h⟩ => by
 refine ⟨ρ, S, τ, R, r, aJ (aN h) .refl fun o S1 h1 ρ1 H1 x e1 R1 v1 => ⟨ρ1, S1, τ, R1, r.ext e1, aJ (aN h1) e1 fun i S2 h2 ρ2 H2 y e2 R2 v2 => ?_⟩⟩
 refine ⟨ρ2, S2, o, i, a, R2, v1.ext e2, v2, va.ext (e1.trans e2), aJ (aN h2) (e1.trans e2) fun _ S3 h3 ρ3 H3 e3 R3 => ?_⟩
 exact h3 ρ3 H3 σ ((e1.trans e2).trans e3) R3 (r.ext ((e1.trans e2).trans e3))
def iC : Sm := fun τ S => .nx τ S
def bq (c d : Sm) : Sm := fun τ S => match c τ S with
 | .nx τ' S' => d τ' S'
 | r => r
theorem b7 : ET X [] iC := tu.imp Em fun D σ H ⟨ρ, S, τ, R, r, h⟩ => h ρ H σ .refl R r
theorem DU {D : Ends} {σ : L2.St} {H : Hp} (h : tS X (bq c d) D σ H) : Ka (tS X c) (tS X d) D σ H := by
 obtain ⟨ρ, S, τ, R, r, h⟩ := h
 refine ⟨ρ, S, τ, R, r, ?_⟩
 unfold bq at h
 cases hc : c τ S with
 | nx τ1 S1 =>
  rw [hc] at h
  exact fun ρ1 H1 σ1 e1 R1 r1 => ⟨ρ1, S1, τ1, R1, r1, qS.ext h e1⟩
 | rt a S1 => rw [hc] at h; exact h
 | bk τ1 S1 => rw [hc] at h; exact h
 | ct τ1 S1 => rw [hc] at h; exact h
 | ex x S1 => rw [hc] at h; exact h
 | no => rw [hc] at h; exact h
theorem aE (h1 : AS X st c) (h2 : ET X rest d) : ET X (st :: rest) (bq c d) := tu.imp (Al h1 h2) fun D σ H h => DU h
theorem aL (h1 : AS X st c) : ET X [st] c := Ez h1
def HB : Sm := fun τ S => .bk τ S
def JS : Sm := fun τ S => .ct τ S
def jS (e : Ex) : Sm := fun τ S => .of (e τ S) fun _ S1 => .nx τ S1
theorem gQ {f : Ex} (he : AE X e f) (hs : swapsWith e none pos.line X.env = pure false := by rfl) : AS X (.Expr e pos) (jS f) := PS.imp (EY he hs) fun D σ H ⟨ρ, S, τ, R, r, h⟩ =>
 ⟨ρ, S, τ, R, r, aJ (of_post h) .refl fun a S1 h1 ρ1 H1 x e1 R1 v1 => h1 ρ1 H1 σ e1 R1 (r.ext e1)⟩
def bM (e : Ex) : Sm := fun τ S => .of (e τ S) fun a S1 => .rt a S1
theorem bg {f : Ex} (he : AE X e f) : AS X (.Return (some e) pos) (bM f) := PS.imp (G3 he) fun D σ H ⟨ρ, S, τ, R, r, h⟩ => ⟨ρ, S, τ, R, r, aJ (of_post h) .refl fun a S1 h1 => h1⟩
def J3 : Sm := fun τ S => .rt .non S
def qA (t : Te) (c d : Sm) : Sm := fun τ S => .of (t τ S) fun b S1 => match b with | true => c τ S1 | false => d τ S1
theorem fm {t : Te} {ca cb : List Stmt} (ht : AT X e t) (ha : ET X ca c) (hb : ET X cb d) : AS X (.If e ca cb pos) (qA t c d) := PS.imp (J5 ht ha hb) fun D σ H ⟨ρ, S, τ, R, r, h⟩ => by
 refine ⟨ρ, S, τ, R, r, aJ (of_post h) .refl fun b S1 h1 ρ1 H1 e1 R1 => ?_⟩
 cases b with
 | true => rw [if_pos rfl]; exact ⟨ρ1, S1, τ, R1, r.ext e1, qS.ext h1 e1⟩
 | false => rw [if_neg Bool.false_ne_true]; exact ⟨ρ1, S1, τ, R1, r.ext e1, qS.ext h1 e1⟩
def bD (e : Ex) (g : Tg) : Sm := fun τ S => .of (e τ S) fun a S1 => .of (g a τ S1) fun τ' S2 => .nx τ' S2
theorem DT {f : Ex} {g : Tg} {D : Ends} {σ : L2.St} {H : Hp} (h : tS X (bD f g) D σ H) : D7 (tE X f) (tG X g) D σ H := by
 obtain ⟨ρ, S, τ, R, r, h⟩ := h
 exact ⟨ρ, S, τ, R, r, aJ (of_post h) .refl fun a S1 h1 ρ1 H1 x e1 R1 v1 => ⟨ρ1, S1, τ, a, R1, r.ext e1, v1, aJ (of_post h1) e1 fun τ2 S2 h2 => xJ.ext h2 e1⟩⟩
theorem ku {tg : Expr} {f : Ex} {g : Tg} (he : AE X e f) (hg : AG X tg g) (hs : swapsWithSole [tg] e pos.line X.env = pure false := by rfl) (hw : swappedStores [tg] e X.env = pure none := by rfl)
  (h1 : (assignEach [tg] X.env).map (·.2) = [assign tg X.env] := by rfl) : AS X (.Assign [tg] e pos) (bD f g) := PS.imp (GY he hg hs hw h1) fun D σ H h => DT h
theorem bh {i : Nat} {x : Str} {f : Ex} {pos' : Pos} (hN : X.N.Nodup) (he : AE X e f) (hi : X.N[i]? = some x := by rfl) (hx : Loc X.env.scope x := by first | exact Or.inl rfl | exact Or.inr rfl) (hs : swapsWith e (some (.Name x pos')) pos.line X.env = pure false := by rfl) (hf : X.fn x = true \/ X.env.scope.names.lookup x = some .local := by first | exact .inl rfl | exact .inr rfl | assumption) :
  AS X (.Assign [.Name x pos'] e pos) (bD f (bJ i)) := PS.imp (G4 hN hi hx he hs hf) fun D σ H ⟨ρ, S, τ, R, r, h⟩ =>
 ⟨ρ, S, τ, R, r, aJ (of_post h) .refl fun a S1 h1 ρ1 H1 x e1 R1 v1 => h1 ρ1 H1 _ e1 R1 ((r.ext e1).set v1)⟩
def Le (i j : Nat) (c : jF) : Sm := fun τ S => .of (c τ S) fun as S1 => match as with
 | [a, b] => .nx ((τ.set i a).set j b) S1
 | _ => .no
def ip (X : Cx) (f : A -> A -> aH -> R A) : Ke := fun x y H Q => ∃ ρ S a b, Rel X.K ρ H S /\ AV X.K ρ H a x /\ AV X.K ρ H b y /\ (f a b S).post (oM X ρ H Q) (XE X ρ H)
def GF (a b : A) (S : aH) : R A := match a, b with
 | .int i, .int j => .ok (.int (i + j)) S
 | _, _ => .no
theorem Ew : IW X .Add (ip X GF) := fun pins s σ H x y v u Q I r1 r2 ⟨ρ, S, a, b, R, va, vb, h⟩ => by
 cases va with
 | int i =>
  cases vb with
  | int j => exact Hh pins s σ H _ _ v u Q I r1 r2 ⟨i, j, rfl, rfl, h _ _ _ .refl R (.int _)⟩
  | _ => exact h.elim
 | _ => exact h.elim
theorem EM : IW X .Sub (ip X aSub) := fun pins s σ H x y v u Q I r1 r2 ⟨ρ, S, a, b, R, va, vb, h⟩ => by
 cases va with
 | int i =>
  cases vb with
  | int j => exact Iu pins s σ H _ _ v u Q I r1 r2 ⟨i, j, rfl, rfl, h _ _ _ .refl R (.int _)⟩
  | _ => exact h.elim
 | _ => exact h.elim
def z0 (i : Nat) (f : A -> A -> aH -> R A) (e : Ex) : Sm := fun τ S => if (τ.getD i .unb).fX then .no else .of (e τ S) fun b S1 => .of (f (τ.getD i .unb) b S1) fun c S2 => .nx (τ.set i c) S2
theorem z9 {i : Nat} {x : Str} {c : Ex} {op : Operator} {f : A -> A -> aH -> R A} {pos' : Pos} (hN : X.N.Nodup) (he : AE X e c) (ho : IW X op (ip X f)) (hi : X.N[i]? = some x := by rfl) (hx : Loc X.env.scope x := by first | exact Or.inl rfl | exact Or.inr rfl) (hf : X.fn x = true \/ X.env.scope.names.lookup x = some .local := by first | exact .inl rfl | exact .inr rfl | assumption) :
  AS X (.AugAssign (.Name x pos') op e pos) (z0 i f c) := PS.imp (Ik hN hi hx he ho hf) fun D σ H ⟨ρ, S, τ, R, r, h⟩ => by
 have key : ∀ x, τ[i]? = some x -> x.fX = false -> (RS.of (c τ S) fun b S1 => .of (f x b S1) fun c S2 => .nx (τ.set i c) S2).post (xJ X ρ H D.nx) (oM X ρ H D.rt) (xJ X ρ H D.bk) (xJ X ρ H D.ct) (XE X ρ H) ->
   ∃ x, σ[i]? = some (some x) /\ tE X c σ H fun y H1 => ip X f x y H1 fun z H2 => D.nx (σ.set i (some z)) H2 := by
  intro x hi hx h
  rcases r.at i x hi with z | ⟨v, e, q⟩
  ·subst z; cases hx
  ·refine ⟨v, e, ρ, S, τ, R, r, aJ (of_post h) .refl fun b S1 h1 ρ1 H1 y e1 R1 v1 => ⟨ρ1, S1, x, b, R1, q.ext e1, v1, aJ (of_post h1) e1 fun w S2 h2 ρ2 H2 z e2 R2 v2 => ?_⟩⟩
   exact h2 ρ2 H2 _ (e1.trans e2) R2 ((r.ext (e1.trans e2)).set v2)
 unfold z0 qS at h
 rw [List.getD_eq_getElem?_getD] at h
 cases hi : τ[i]? with
 | none => rw [hi] at h; exact h.elim
 | some x =>
  rw [hi] at h
  cases hx : x.fX with
  | true => rw [show (some x).getD .unb = x from rfl, hx] at h; exact h.elim
  | false => rw [show (some x).getD .unb = x from rfl, hx] at h; exact key x hi hx h
def EW (a b : A) (S : aH) : R A := match a, b with
 | .ref n, .int i => opt (au S n) fun xs => gd (0 <= i) (opt (xs[i.toNat]?) fun x => .ok x S)
 | _, _ => .no
def J0 (co ci ce : Ex) (f : A -> A -> aH -> R A) : Sm := fun τ S => .of (co τ S) fun o S1 => .of (ci τ S1) fun i S2 => .of (EW o i S2) fun x S3 => .of (ce τ S3) fun y S4 => .of (f x y S4) fun z S5 => .of (uc o i z S5) fun _ S6 => .nx τ S6
def dX (t : Te) (c : Sm) : Nat -> Sm
 | 0 => fun _ _ => .no
 | n + 1 => fun τ S => .of (t τ S) fun b S1 => match b with
  | false => .nx τ S1
  | true => match c τ S1 with
   | .nx τ' S' => dX t c n τ' S'
   | .ct τ' S' => dX t c n τ' S'
   | .bk τ' S' => .nx τ' S'
   | r => r
theorem kj (n : Nat) {t : Te} {body : List Stmt} (hp : PassesOwn (model X.prog X.w) X.A X.env X.xe) (ht : AT X e t) (hb : ET X body c) : AS X (.While e body [] pos) (dX t c n) := PS.imp (CB hp ht hb) fun D σ H ⟨ρ, S, τ, R, r, h⟩ => by
 refine ⟨fun m σ' H' => ∃ ρ' S' τ', Ext ρ ρ' H H' /\ Rel X.K ρ' H' S' /\ SR X.K ρ' H' τ' σ' /\ qS X ρ' H' D (dX t c m τ' S'), ⟨n, ρ, S, τ, .refl, R, r, h⟩, ?_⟩
 rintro m σ1 H1 ⟨ρ1, S1, τ1, e1, R1, r1, h1⟩
 cases m with
 | zero => exact h1.elim
 | succ m =>
  refine ⟨ρ1, S1, τ1, R1, r1, aJ (of_post h1) .refl fun b S2 h2 ρ2 H2 e2 R2 => ?_⟩
  cases b with
  | false => rw [if_neg Bool.false_ne_true]; exact h2 ρ2 H2 σ1 e2 R2 (r1.ext e2)
  | true =>
   rw [if_pos rfl]
   refine ⟨fun σ' H' => ∃ ρ' S' τ', Ext ρ ρ' H H' /\ Rel X.K ρ' H' S' /\ SR X.K ρ' H' τ' σ' /\ qS X ρ' H' D (dX t c m τ' S'), fun σ' H' z => ⟨m, Nat.lt_succ_self _, z⟩, ρ2, S2, τ1, R2, r1.ext e2, ?_⟩
   have h2 : qS X ρ1 H1 D (match c τ1 S2 with
    | .nx τ' S' => dX t c m τ' S'
    | .ct τ' S' => dX t c m τ' S'
    | .bk τ' S' => .nx τ' S'
    | r => r) := h2
   cases hc : c τ1 S2 with
   | nx τ3 S3 => rw [hc] at h2; exact fun ρ3 H3 σ3 e3 R3 r3 => ⟨ρ3, S3, τ3, (e1.trans e2).trans e3, R3, r3, qS.ext h2 (e2.trans e3)⟩
   | ct τ3 S3 => rw [hc] at h2; exact fun ρ3 H3 σ3 e3 R3 r3 => ⟨ρ3, S3, τ3, (e1.trans e2).trans e3, R3, r3, qS.ext h2 (e2.trans e3)⟩
   | bk τ3 S3 => rw [hc] at h2; exact xJ.ext h2 e2
   | rt a S3 => rw [hc] at h2; exact oM.ext h2 e2
   | ex x S3 => rw [hc] at h2; exact XE.ext h2 e2
   | no => rw [hc] at h2; exact h2
end
end Am
namespace L2
open PySem PySem.Spec PyProof.Rows
section
variable {X : Cx}
end
end L2
namespace Am
open PySem PySem.Spec PyProof.Rows L2
section
variable {X : Cx}
end
end Am
namespace Am
open PySem PySem.Spec PyProof.Rows L2
section
variable {X : Cx} {o e : Expr} {p2 spos pos : Pos} {co ci : Ex}
end
end Am
namespace Am
open PySem PySem.Spec PyProof.Rows L2
structure Src where
 k : Nat
 get : Nat -> aH -> Option A
 fin : aH -> Bool
structure JR (K : PySem.W.Frag) (s : Src) (J : It) (ρ0 : List Addr) (H0 : Hp) : Prop where
 go : ∀ (i : Nat) (S : aH) (H : Hp) (ρ : List Addr) (x : A), Ext0 ρ0 ρ H0 H -> Rel K ρ H S -> s.get i S = some x -> J.go i H /\ ∀ v H', J.yld i H v H' -> Ext ρ ρ H H' /\ Rel K ρ H' S /\ AV K ρ H' x v
 stop : ∀ (S : aH) (H : Hp) (ρ : List Addr), Ext0 ρ0 ρ H0 H -> Rel K ρ H S -> s.fin S = true -> J.stop s.k H
abbrev Ic := List A -> aH -> R Src
def tI (X : Cx) (c : Ic) : TI := fun σ H Q => ∃ ρ S τ, Rel X.K ρ H S /\ SR X.K ρ H τ σ /\ (c τ S).post (fun s S' => ∀ ρ' H' J, Ext ρ ρ' H H' -> Rel X.K ρ' H' S' -> JR X.K s J ρ' H' -> Q J H') (XE X ρ H)
def AI (X : Cx) (tg iter : Expr) (c : Ic) : Prop := PI X tg iter (tI X c)
def nK (xs : List A) : Src := ⟨xs.length, fun i _ => xs[i]?, fun _ => true⟩
def eG (n k : Nat) : Src := ⟨k, fun i S => (au S n).bind (·[i]?), fun S => match au S n with
 | some ys => decide (ys.length <= k)
 | none => false⟩
def cT (lo hi : Int) : Src := ⟨(hi - lo).toNat, fun i _ => if i < (hi - lo).toNat then some (.int (lo + i)) else none, fun _ => true⟩
def j8 (c : Ex) : Ic := fun τ S => (c τ S).bind fun a S1 => match a with
 | .tup xs => .ok (nK xs) S1
 | .frz xs => .ok (nK xs) S1
 | .ref n => opt (au S1 n) fun xs => .ok (eG n xs.length) S1
 | .str x => gd (x.cps.all (· < 128) = true) (.ok (nK (x.cps.toList.map fun c => .str ⟨#[c]⟩)) S1)
 | _ => .no
section
variable {X : Cx} {pos : Pos} {tg e a b : Expr}
theorem Hu {K : PySem.W.Frag} {ρ0 : List Addr} {H0 : Hp} {p : Addr} {xs : List A} {vs : List V} (h : dZ K H0 p vs) (r : AVs K ρ0 H0 xs vs) : JR K (nK xs) (Lz K p) ρ0 H0 where
 go := fun i S H ρ x e R g => by
  obtain ⟨v, ev, av⟩ := (AVs.eF e r).get g
  have hs := e.KD h
  refine ⟨⟨vs, v, hs, ev⟩, fun w H' ⟨e1, y⟩ => ?_⟩
  subst e1
  have := y vs hs
  rw [ev] at this
  cases this
  exact ⟨.refl, R, av⟩
 stop := fun S H ρ e R _ => ⟨vs, e.KD h, by rw [<- r.length]; exact Nat.le_refl _⟩
theorem Hv {K : PySem.W.Frag} {ρ0 : List Addr} {H0 : Hp} {p : Addr} {xs : List A} {vs : List V} (h : Fz K H0 p vs) (r : AVs K ρ0 H0 xs vs) : JR K (nK xs) (KG K p) ρ0 H0 where
 go := fun i S H ρ x e R g => by
  obtain ⟨v, ev, av⟩ := (AVs.eF e r).get g
  have hs := (e.fz h).DW
  refine ⟨⟨vs, v, hs, ev⟩, fun w H' ⟨e1, y⟩ => ?_⟩
  subst e1
  have := y vs hs
  rw [ev] at this
  cases this
  exact ⟨.refl, R, av⟩
 stop := fun S H ρ e R _ => ⟨vs, (e.fz h).DW, by rw [<- r.length]; exact Nat.le_refl _⟩
theorem IS {K : PySem.W.Frag} {ρ0 : List Addr} {H0 : Hp} {p : Addr} {n k : Nat} (h : ρ0[n]? = some p) : JR K (eG n k) (KG K p) ρ0 H0 where
 go := fun i S H ρ x e R g => by
  obtain ⟨ys, hn, hx⟩ := Option.bind_eq_some_iff.mp (show (au S n).bind (·[i]?) = some x from g)
  obtain ⟨vs, h1, r⟩ := R.lst (e.get h) (aU hn)
  obtain ⟨v, ev, av⟩ := r.get hx
  refine ⟨⟨vs, v, gy.of h1, ev⟩, fun w H' ⟨e1, y⟩ => ?_⟩
  subst e1
  have := y vs (gy.of h1)
  rw [ev] at this
  cases this
  exact ⟨.refl, R, av⟩
 stop := fun S H ρ e R g => by
  have g : (match au S n with
   | some ys => decide (ys.length <= k)
   | none => false) = true := g
  cases hn : au S n with
  | none => rw [hn] at g; cases g
  | some ys =>
   rw [hn] at g
   obtain ⟨vs, h1, r⟩ := R.lst (e.get h) (aU hn)
   exact ⟨vs, gy.of h1, by rw [<- r.length]; exact of_decide_eq_true g⟩
theorem Ae {K : PySem.W.Frag} {ρ0 : List Addr} {H0 : Hp} {lo hi : Int} : JR K (cT lo hi) (Kc lo (hi - lo).toNat) ρ0 H0 where
 go := fun i S H ρ x e R g => by
  have g : (if i < (hi - lo).toNat then some (A.int (lo + i)) else none) = some x := g
  by_cases hi' : i < (hi - lo).toNat
  ·rw [if_pos hi'] at g
   cases g
   refine ⟨hi', fun w H' ⟨e1, y⟩ => ?_⟩
   subst e1 y
   exact ⟨.refl, R, .int _⟩
  ·rw [if_neg hi'] at g; cases g
 stop := fun S H ρ e R _ => Nat.le_refl _
theorem HW {K : PySem.W.Frag} {ρ0 : List Addr} {H0 : Hp} {x : Str} : JR K (nK (x.cps.toList.map fun c => A.str ⟨#[c]⟩)) (LN x) ρ0 H0 where
 go := fun i S H ρ y e R g => by
  have g : (x.cps.toList.map fun c => A.str ⟨#[c]⟩)[i]? = some y := g
  rw [List.getElem?_map] at g
  obtain ⟨c, hc, rfl⟩ := Option.map_eq_some_iff.mp g
  rw [Array.getElem?_toList] at hc
  refine ⟨(Array.getElem?_eq_some_iff.mp hc).1, fun w H' ⟨e1, c', hc', y'⟩ => ?_⟩
  rw [hc] at hc'
  cases hc'
  subst e1 y'
  exact ⟨.refl, R, .str _⟩
 stop := fun S H ρ e R _ => by
  show (x.cps.toList.map fun c => A.str ⟨#[c]⟩).length = x.cps.size
  rw [List.length_map, Array.length_toList]
theorem jl {c : Ex} (he : AE X e c) : AI X tg e (j8 c) := fun pins s σ H Q I ⟨ρ, S, τ, R, r, h⟩ => by
 have hb := aN h
 cases hc : c τ S with
 | no => rw [hc] at hb; exact hb.elim
 | ex x S1 =>
  rw [hc] at hb
  exact Bt he pins s σ H Q I ⟨ρ, S, τ, R, r, by rw [hc]; exact hb⟩
 | ok a S1 =>
  rw [hc] at hb
  cases a with
  | tup xs =>
   refine Bt he pins s σ H Q I ⟨ρ, S, τ, R, r, ?_⟩
   rw [hc]
   intro ρ1 H1 x e1 R1 v1
   cases v1 with
   | tup h1 r1 => exact ⟨_, rfl, ⟨_, (dZ.of h1)⟩, hb ρ1 H1 _ e1 R1 (Hu (dZ.of h1) r1)⟩
  | frz xs =>
   refine xT he pins s σ H Q I ⟨ρ, S, τ, R, r, ?_⟩
   rw [hc]
   intro ρ1 H1 x e1 R1 v1
   cases v1 with
   | frz h1 r1 => exact ⟨_, rfl, ⟨_, h1.DW⟩, hb ρ1 H1 _ e1 R1 (Hv h1 r1)⟩
  | ref n =>
   obtain ⟨xs, hn, hb⟩ := aQ hb
   refine xT he pins s σ H Q I ⟨ρ, S, τ, R, r, ?_⟩
   rw [hc]
   intro ρ1 H1 x e1 R1 v1
   cases v1 with
   | ref hp =>
    obtain ⟨vs, h1, r1⟩ := R1.lst hp (aU hn)
    exact ⟨_, rfl, ⟨_, gy.of h1⟩, hb ρ1 H1 _ e1 R1 (IS hp)⟩
  | str x =>
   obtain ⟨ha, hb⟩ := bA hb
   refine Hq he pins s σ H Q I ⟨ρ, S, τ, R, r, ?_⟩
   rw [hc]
   intro ρ1 H1 v e1 R1 v1
   cases v1 with
   | str => exact ⟨x, rfl, ha, hb ρ1 H1 _ e1 R1 HW⟩
  | _ => exact hb.elim
def bnd (i : Int) : Prop := -(2 ^ 62) <= i /\ i < 2 ^ 62
instance (i : Int) : Decidable (bnd i) := by unfold bnd; infer_instance
def fC (c : Ex) : Ic := fun τ S => (c τ S).bind fun a S1 => match a with
 | .int j => gd (bnd j) (.ok (cT 0 j) S1)
 | _ => .no
def fW (c d : Ex) : Ic := fun τ S => (c τ S).bind fun a S1 => (d τ S1).bind fun b S2 => match a, b with
 | .int i, .int j => gd (bnd i /\ bnd j) (.ok (cT i j) S2)
 | _, _ => .no
theorem cY {p : Pos} {c : Ex} (hm : X.mg "range" = none) (ha : AE X a c) (hg : Gl X "range" := by rfl) (hs : starEach [a] X.env = [(false, eval a X.env)] := by rfl) : AI X tg (.Call (.Name "range" p) [a] [] pos) (fC c) := fun pins s σ H Q I ⟨ρ, S, τ, R, r, h⟩ => by
 refine zk hg hm (kI ha qk hs) hs pins s σ H Q I ⟨ρ, S, τ, R, r, aJ (aN h) .refl fun x S1 h1 ρ1 H1 v e1 R1 v1 => ?_⟩
 cases v1 with
 | int j =>
  obtain ⟨hb, h1⟩ := bA h1
  exact ⟨_, rfl, hb.1, hb.2, by have := h1 ρ1 H1 _ e1 R1 Ae; rwa [Int.sub_zero] at this⟩
 | _ => exact h1.elim
theorem gW {p : Pos} {c d : Ex} (hm : X.mg "range" = none) (ha : AE X a c) (hb : AE X b d) (hg : Gl X "range" := by rfl) (hs : starEach [a, b] X.env = [(false, eval a X.env), (false, eval b X.env)] := by rfl) (hs2 : starEach [b] X.env = [(false, eval b X.env)] := by rfl) : AI X tg (.Call (.Name "range" p) [a, b] [] pos) (fW c d) := fun pins s σ H Q I ⟨ρ, S, τ, R, r, h⟩ => by
 refine zT hg hm (kI ha (kI hb qk hs2) (by rw [hs, hs2])) hs hs2 pins s σ H Q I ⟨ρ, S, τ, R, r, aJ (aN h) .refl fun x S1 h1 ρ1 H1 v e1 R1 v1 => ⟨ρ1, S1, τ, R1, r.ext e1, aJ (aN h1) e1 fun y S2 h2 ρ2 H2 w e2 R2 v2 => ?_⟩⟩
 cases v1 with
 | int i =>
  cases v2 with
  | int j =>
   obtain ⟨hb, h2⟩ := bA h2
   exact ⟨_, _, rfl, ⟨hb.1.1, hb.1.2, hb.2.1, hb.2.2⟩, h2 ρ2 H2 _ (e1.trans e2) R2 Ae⟩
  | _ => exact h2.elim
 | _ => exact h2.elim
def uZ (xs : List A) : Src := ⟨xs.length, fun i _ => (xs[i]?).map fun x => .tup [.int i, x], fun _ => true⟩
def Ec (c : Ex) : Ic := fun τ S => (c τ S).bind fun a S1 => match a with
 | .tup xs => .ok (uZ xs) S1
 | _ => .no
theorem IU {K : PySem.W.Frag} {ρ0 : List Addr} {H0 : Hp} {p : Addr} {xs : List A} {vs : List V} (h : dZ K H0 p vs) (r : AVs K ρ0 H0 xs vs) : JR K (uZ xs) (LP K p) ρ0 H0 where
 go := fun i S H ρ x e R g => by
  obtain ⟨y, hy, rfl⟩ := Option.map_eq_some_iff.mp (show (xs[i]?).map (fun x => A.tup [.int i, x]) = some x from g)
  obtain ⟨v, ev, av⟩ := (AVs.eF e r).get hy
  have hs := e.KD h
  refine ⟨⟨vs, v, hs, ev⟩, fun w H' q => ?_⟩
  obtain ⟨pp, hp, rfl, hz⟩ := q
  have hz' := hz vs v hs ev
  subst hz'
  obtain ⟨ex, R'⟩ := R.im (u := .tup [.int i, v]) hp
  exact ⟨ex, R', .tup bL (.cons (.int _) (.cons (av.ext ex) .nil))⟩
 stop := fun S H ρ e R _ => ⟨vs, e.KD h, by rw [<- r.length]; rfl⟩
theorem IK {elts : List Expr} {x1 : Nat} {tpos p : Pos} {c : Ex} (hm : X.mg "enumerate" = none) (ha : AE X a c) (hg : Gl X "enumerate" := by rfl) (hs : starEach [a] X.env = [(false, eval a X.env)] := by rfl) : AI X (.Tuple elts x1 tpos) (.Call (.Name "enumerate" p) [a] [] pos) (Ec c) := fun pins s σ H Q I ⟨ρ, S, τ, R, r, h⟩ => by
 refine A_ hg hm (kI ha qk hs) hs pins s σ H Q I ⟨ρ, S, τ, R, r, aJ (aN h) .refl fun x S1 h1 ρ1 H1 v e1 R1 v1 => ?_⟩
 cases v1 with
 | tup h2 r2 => exact ⟨_, _, rfl, (dZ.of h2), h1 ρ1 H1 _ e1 R1 (IU (dZ.of h2) r2)⟩
 | _ => exact h1.elim
def iK (s : Src) (g : Tg) (c : Sm) : Nat -> Nat -> Sm
 | 0, _ => fun τ S => if s.fin S then .nx τ S else .no
 | k + 1, i => fun τ S => match s.get i S with
  | none => .no
  | some x => .of (g x τ S) fun τ1 S1 => match c τ1 S1 with
   | .nx τ' S' => iK s g c k (i + 1) τ' S'
   | .ct τ' S' => iK s g c k (i + 1) τ' S'
   | .bk τ' S' => .nx τ' S'
   | r => r
def gP (src : Ic) (g : Tg) (c : Sm) : Sm := fun τ S => .of (src τ S) fun s S1 => iK s g c s.k 0 τ S1
theorem fM {iter : Expr} {body : List Stmt} {src : Ic} {g : Tg} {c : Sm} (hp : PassesOwn (model X.prog X.w) X.A X.env X.xe) (hc : X.calm = true) (hi : AI X tg iter src) (hg : AG X tg g) (hb : ET X body c)
  (hs : ∀ x, foldedSetIterable iter X.env x = pure x := by intro _; rfl) : AS X (.For tg iter body [] pos) (gP src g c) := PS.imp (GU hp hc hi hg hb hs) fun D σ H ⟨ρ, S, τ, R, r, h⟩ => by
 refine ⟨ρ, S, τ, R, r, aJ (of_post h) .refl fun s S1 h1 ρ1 H1 J e1 R1 jr => ?_⟩
 refine ⟨fun i m σ' H' => m + i = s.k /\ ∃ ρ' S' τ', Ext ρ1 ρ' H1 H' /\ Rel X.K ρ' H' S' /\ SR X.K ρ' H' τ' σ' /\ qS X ρ' H' D (iK s g c m i τ' S'), ⟨s.k, rfl, ρ1, S1, τ, .refl, R1, r.ext e1, qS.ext h1 e1⟩, ?_⟩
 rintro i m σ2 H2 ⟨hm, ρ2, S2, τ2, e2, R2, r2, h2⟩
 cases m with
 | zero =>
  left
  have h2 : qS X ρ2 H2 D (if s.fin S2 then .nx τ2 S2 else .no) := h2
  cases hf : s.fin S2 with
  | false => rw [hf] at h2; exact h2.elim
  | true =>
   rw [hf] at h2
   refine ⟨by rw [show i = s.k by omega]; exact jr.stop S2 H2 ρ2 e2.toExt0 R2 hf, h2 ρ2 H2 σ2 .refl R2 r2⟩
 | succ m =>
  right
  have h2 : qS X ρ2 H2 D (match s.get i S2 with
   | none => .no
   | some x => .of (g x τ2 S2) fun τ1 S1 => match c τ1 S1 with
    | .nx τ' S' => iK s g c m (i + 1) τ' S'
    | .ct τ' S' => iK s g c m (i + 1) τ' S'
    | .bk τ' S' => .nx τ' S'
    | r => r) := h2
  cases hx : s.get i S2 with
  | none => rw [hx] at h2; exact h2.elim
  | some x =>
   rw [hx] at h2
   obtain ⟨hgo, hy⟩ := jr.go i S2 H2 ρ2 x e2.toExt0 R2 hx
   refine ⟨hgo, fun σ' H' => m + (i + 1) = s.k /\ ∃ ρ' S' τ', Ext ρ1 ρ' H1 H' /\ Rel X.K ρ' H' S' /\ SR X.K ρ' H' τ' σ' /\ qS X ρ' H' D (iK s g c m (i + 1) τ' S'), fun σ' H' z => ⟨m, Nat.lt_succ_self _, z⟩, fun v H3 y => ?_⟩
   obtain ⟨e3, R3, v3⟩ := hy v H3 y
   refine ⟨ρ2, S2, τ2, x, R3, r2.ext e3, v3, aJ (of_post h2) e3 fun τ4 S4 h4 ρ4 H4 σ4 e4 R4 r4 => ⟨ρ4, S4, τ4, R4, r4, ?_⟩⟩
   have e24 := e3.trans e4
   cases hcc : c τ4 S4 with
   | nx τ5 S5 => rw [hcc] at h4; exact fun ρ5 H5 σ5 e5 R5 r5 => ⟨by omega, ρ5, S5, τ5, (e2.trans e24).trans e5, R5, r5, qS.ext h4 (e24.trans e5)⟩
   | ct τ5 S5 => rw [hcc] at h4; exact fun ρ5 H5 σ5 e5 R5 r5 => ⟨by omega, ρ5, S5, τ5, (e2.trans e24).trans e5, R5, r5, qS.ext h4 (e24.trans e5)⟩
   | bk τ5 S5 => rw [hcc] at h4; exact xJ.ext h4 e24
   | rt x5 S5 => rw [hcc] at h4; exact oM.ext h4 e24
   | ex x5 S5 => rw [hcc] at h4; exact XE.ext h4 e24
   | no => rw [hcc] at h4; exact h4
end
end Am
namespace Am
open PySem PySem.Spec PyProof.Rows L2
section
variable {X : Cx} {tg a b c0 : Expr} {pos : Pos}
end
end Am
namespace Am
open PySem PySem.Spec PyProof.Rows L2
def R.c_ {α β : Type} (r : R α) (f : α -> aH -> R β) : R β := match r with
 | .ok a S => f a S
 | _ => .no
theorem cW {α β : Type} {r : R α} {f : α -> aH -> R β} {b : β} {S2 : aH} (h : r.c_ f = .ok b S2) : ∃ a S, r = .ok a S /\ f a S = .ok b S2 := by
 cases r with
 | ok a S => exact ⟨a, S, rfl, h⟩
 | ex _ _ => cases h
 | no => cases h
theorem p5 {α β : Type} {r : R α} {f : α -> aH -> R β} {P : β -> aH -> Prop} {E : Str -> aH -> Prop} (h : (r.c_ f).post P E) : ∃ a S, r = .ok a S /\ (f a S).post P E := by
 cases r with
 | ok a S => exact ⟨a, S, rfl, h⟩
 | ex _ _ => exact h.elim
 | no => exact h.elim
theorem vz {α β : Type} {o : Option β} {f : β -> R α} {a : α} {S : aH} (h : opt o f = .ok a S) : ∃ b, o = some b /\ f b = .ok a S := by
 cases o with
 | none => cases h
 | some b => exact ⟨b, rfl, h⟩
def cK (s : Src) (g : Tg) (t : Te) (e : Ex) : Nat -> Nat -> List A -> aH -> R (List A)
 | 0, _ => fun _ S => if s.fin S then .ok [] S else .no
 | k + 1, i => fun τ S => opt (s.get i S) fun x => (g x τ S).c_ fun τ1 S1 => (t τ1 S1).c_ fun b S2 => match b with
  | true => (e τ1 S2).c_ fun y S3 => (cK s g t e k (i + 1) τ1 S3).c_ fun ys S4 => .ok (y :: ys) S4
  | false => cK s g t e k (i + 1) τ1 S2
def eW (cap : List (Option Nat)) (τ : List A) : List A := cap.map fun o => match o with
 | some j => τ.getD j .unb
 | none => .unb
def cJ (cap : List (Option Nat)) (src : Ic) (g : Tg) (t : Te) (e : Ex) : Ex := fun τ S => (src τ S).bind fun s S1 => (cK s g t e s.k 0 (eW cap τ) S1).c_ fun ys S2 => newL ys S2
def iw : Te := fun _ S => .ok true S
theorem uS {s : Src} {g : Tg} {t : Te} {e : Ex} {k i : Nat} {τ : List A} {S S' : aH} {zs : List A} (h : cK s g t e (k + 1) i τ S = .ok zs S') :
  ∃ x τ1 S1 b S2, s.get i S = some x /\ g x τ S = .ok τ1 S1 /\ t τ1 S1 = .ok b S2 /\ (b = true -> ∃ y S3 ws, e τ1 S2 = .ok y S3 /\ cK s g t e k (i + 1) τ1 S3 = .ok ws S' /\ zs = y :: ws) /\ (b = false -> cK s g t e k (i + 1) τ1 S2 = .ok zs S') := by
 obtain ⟨x, hx, h⟩ := vz h
 obtain ⟨τ1, S1, h1, h⟩ := cW h
 obtain ⟨b, S2, h2, h⟩ := cW h
 refine ⟨x, τ1, S1, b, S2, hx, h1, h2, fun hb => ?_, fun hb => ?_⟩
 ·subst hb
  obtain ⟨y, S3, h3, h⟩ := cW h
  obtain ⟨ws, S4, h4, h⟩ := cW h
  cases h
  exact ⟨y, S3, ws, h3, h4, rfl⟩
 ·subst hb; exact h
def Jz (K : PySem.W.Frag) (c : Ex) : TE := fun σ H Q => ∃ ρ S τ a S', Rel K ρ H S /\ SR K ρ H τ σ /\ c τ S = .ok a S' /\ ∀ ρ' H' v, Ext ρ ρ' H H' -> Rel K ρ' H' S' -> AV K ρ' H' a v -> Q v H'
def GR (K : PySem.W.Frag) (c : Te) : TT := fun σ H Q => ∃ ρ S τ a S', Rel K ρ H S /\ SR K ρ H τ σ /\ c τ S = .ok a S' /\ ∀ ρ' H', Ext ρ ρ' H H' -> Rel K ρ' H' S' -> Q a H'
def I0 (K : PySem.W.Frag) (g : Tg) : TG := fun v σ H Q => ∃ ρ S τ a τ' S', Rel K ρ H S /\ SR K ρ H τ σ /\ AV K ρ H a v /\ g a τ S = .ok τ' S' /\ ∀ ρ' H' σ', Ext ρ ρ' H H' -> Rel K ρ' H' S' -> SR K ρ' H' τ' σ' -> Q σ' H'
section
variable {X : Cx} {pos : Pos} {tg iter elt e : Expr} {ifs : List Expr} {scope : Scope} {N : List Str} {cap : List (Option Nat)} {src : Ic} {g : Tg} {t : Te} {c : Ex}
theorem AE.e0 {K : PySem.W.Frag} (hK : X.K = K) (h : AE X e c) : PE X e (Jz K c) := PE.imp h fun σ H Q ⟨ρ, S, τ, a, S', R, r, hc, q⟩ => ⟨ρ, S, τ, by rw [hK]; exact R, by rw [hK]; exact r, by rw [hc]; exact fun ρ' H' v e R' v' => q ρ' H' v e (by rw [<- hK]; exact R') (by rw [<- hK]; exact v')⟩
theorem AT.t0 {K : PySem.W.Frag} (hK : X.K = K) (h : AT X e t) : PT X e (GR K t) := PT.imp h fun σ H Q ⟨ρ, S, τ, a, S', R, r, hc, q⟩ => ⟨ρ, S, τ, by rw [hK]; exact R, by rw [hK]; exact r, by rw [hc]; exact fun ρ' H' e R' => q ρ' H' e (by rw [<- hK]; exact R')⟩
theorem AG.g0 {K : PySem.W.Frag} (hK : X.K = K) (h : AG X e g) : PG X e (I0 K g) := PG.imp h fun v σ H Q ⟨ρ, S, τ, a, τ', S', R, r, va, hc, q⟩ => ⟨ρ, S, τ, a, by rw [hK]; exact R, by rw [hK]; exact r, by rw [hK]; exact va, by rw [hc]; exact fun ρ' H' v e R' v' => q ρ' H' v e (by rw [<- hK]; exact R') (by rw [<- hK]; exact v')⟩
def I_ (X : Cx) (ifs : List Expr) (t : Te) : Prop := DC X ifs (GR X.K t)
theorem iE : I_ X [] iw := fun pins s σ H Q I ⟨ρ, S, τ, a, S', R, r, hc, q⟩ => E_ pins s σ H Q I (by cases hc; exact q ρ H .refl R)
theorem jz (h : AT X e t) : I_ X [e] t := Eo (h.t0 rfl)
theorem Gd {K : PySem.W.Frag} {ρ : List Addr} {H : Hp} {τ : List A} {σ : L2.St} (r : SR K ρ H τ σ) (cap : List (Option Nat)) : SR K ρ H (eW cap τ) (cap.map (EC σ)) := by
 refine ⟨by simp [eW], fun i a h => ?_⟩
 unfold eW at h
 rw [List.getElem?_map] at h
 obtain ⟨o, ho, e⟩ := Option.map_eq_some_iff.mp h
 cases o with
 | none => exact .inl e.symm
 | some j =>
  have e : τ.getD j .unb = a := e
  cases hj : τ[j]? with
  | none => rw [List.getD_eq_getElem?_getD, hj] at e; exact .inl e.symm
  | some b =>
   rw [List.getD_eq_getElem?_getD, hj] at e
   have e : b = a := e
   subst e
   rcases r.at j b hj with z | ⟨v, h1, h2⟩
   ·exact .inl z
   ·exact .inr ⟨v, by rw [List.getElem?_map, ho]; show some ((σ[j]?).getD none) = _; rw [h1]; rfl, h2⟩
theorem Rel.Bj {K : PySem.W.Frag} {ρ : List Addr} {H : Hp} {S : aH} {p : Addr} (R : Rel K ρ H S) (hp : H p = none) : p ∉ ρ := fun hm => by
 obtain ⟨n, hn, e⟩ := List.mem_iff_getElem.mp hm
 have hl : n < S.length := by rw [<- R.len]; exact hn
 have := R.at n p S[n] (by rw [List.getElem?_eq_getElem hn, e]) (List.getElem?_eq_getElem hl)
 cases ho : S[n] with
 | lst xs => rw [ho] at this; obtain ⟨vs, h, _⟩ := this; rw [hp] at h; cases h
 | dct _ | dki _ => rw [ho] at this; obtain ⟨vs, h, _⟩ := this; rw [hp] at h; cases h
 | ins _ _ => rw [ho] at this; obtain ⟨_, _, h⟩ := this; rw [hp] at h; cases h
theorem tU (σ : L2.St) (H : Hp) (Q : VK) (h : tE X (cJ cap src g t c) σ H Q) : Kq cap (tI X src) (I0 X.K g) (GR X.K t) (Jz X.K c) σ H Q := by
 obtain ⟨ρ, S, τ, R, r, h⟩ := h
 refine ⟨ρ, S, τ, R, r, aJ (aN h) .refl fun s S1 h1 ρ1 H1 J e1 R1 jr D hD => ?_⟩
 obtain ⟨ys, S2, hcg, h1⟩ := p5 h1
 obtain ⟨hlen, h1⟩ := bA h1
 have h1 : oM X ρ H Q (.ref S2.length) (S2 ++ [.lst ys]) := h1
 obtain ⟨eD, RD⟩ := R1.im (u := .lst []) hD
 have nD := R1.Bj hD
 refine ⟨fun i m σ' H' => m + i = s.k /\ ∃ ρ' S' τ' acc zs accV, Ext0 ρ1 ρ' H1 H' /\ (∀ a u, a ≠ D -> H1 a = some u -> a ∉ ρ1 -> H' a = some u) /\ (∀ a ∈ ρ', a ∈ ρ1 \/ H1 a = none) /\ D ∉ ρ' /\ H' D = some (.lst accV) /\ Rel X.K ρ' H' S' /\ SR X.K ρ' H' τ' σ' /\ AVs X.K ρ' H' acc accV /\ cK s g t c m i τ' S' = .ok zs S2 /\ acc ++ zs = ys,
  ⟨s.k, rfl, ρ1, S1, eW cap τ, [], ys, [], eD.toExt0, fun a u na hu _ => by rw [aO na]; exact hu, fun a ha => .inl ha, nD, bL, RD, (Gd ((r.ext e1).ext eD) cap), .nil, hcg, rfl⟩, ?_⟩
 rintro i m σ3 H3 ⟨hm, ρ3, S3, τ3, acc, zs, accV, e3, fr3, nw3, nD3, hD3, R3, r3, ac3, cg3, eys⟩
 cases m with
 | zero =>
  left
  have cg3 : (if s.fin S3 then Am.R.ok [] S3 else .no) = .ok zs S2 := cg3
  cases hf : s.fin S3 with
  | false => rw [hf] at cg3; cases cg3
  | true =>
   rw [hf] at cg3
   cases cg3
   rw [List.append_nil] at eys
   subst eys
   refine ⟨by rw [show i = s.k by omega]; exact jr.stop _ H3 ρ3 e3 R3 hf, ?_⟩
   obtain ⟨RT, gt⟩ := R3.take hD3 nD3 ac3
   refine h1 (ρ3 ++ [D]) H3 _ (e1.trans ⟨⟨e3.pre.trans (List.prefix_append _ _), e3.im⟩, fun a u hu na => fr3 a u (aV hu hD) hu na, fun a ha => ?_⟩) RT (.ref gt)
   rcases List.mem_append.mp ha with z | z
   ·exact nw3 a z
   ·have : a = D := by simpa using z
    rw [this]; exact .inr hD
 | succ m =>
  right
  obtain ⟨x, τ4, S4, b, S5, hx, hg4, ht5, hT, hF⟩ := uS cg3
  obtain ⟨hgo, hy⟩ := jr.go i S3 H3 ρ3 x e3 R3 hx
  refine ⟨hgo, fun v H4 y => ?_⟩
  obtain ⟨e4, R4, v4⟩ := hy v H4 y
  refine ⟨ρ3, S3, τ3, x, τ4, S4, R4, r3.ext e4, v4, hg4, fun ρ5 H5 σ5 e5 R5 r5 => ?_⟩
  refine ⟨ρ5, S4, τ4, b, S5, R5, r5, ht5, fun ρ6 H6 e6 R6 => ?_⟩
  have e36 := (e4.trans e5).trans e6
  have stay : ∀ {ρ7 : List Addr} {H7 : Hp}, Ext ρ3 ρ7 H3 H7 -> Ext0 ρ1 ρ7 H1 H7 /\ (∀ a u, a ≠ D -> H1 a = some u -> a ∉ ρ1 -> H7 a = some u) /\ (∀ a ∈ ρ7, a ∈ ρ1 \/ H1 a = none) /\ D ∉ ρ7 /\ H7 D = some (.lst accV) := fun {ρ7 H7} e7 => by
   refine ⟨⟨e3.pre.trans e7.pre, fun a u i h => e7.im a u i (e3.im a u i h)⟩, fun a u na hu nr => e7.fr a u (fr3 a u na hu nr) fun z => (nw3 a z).elim nr fun z => by (rw [z] at hu; cases hu), fun a ha => ?_, fun z => (e7.nw D z).elim nD3 fun z => by (rw [hD3] at z; cases z), e7.fr D _ hD3 nD3⟩
   by_cases hr : a ∈ ρ1
   ·exact .inl hr
   ·right
    cases q : H1 a with
    | none => rfl
    | some u =>
     have aD : a ≠ D := aV q hD
     rcases e7.nw a ha with z | z
     ·exact ((nw3 a z).elim hr fun z => by (rw [z] at q; cases q)).elim
     ·rw [fr3 a u aD q hr] at z; cases z
  cases b with
  | false =>
   dsimp only
   rw [if_neg Bool.false_ne_true]
   obtain ⟨g1, g2, g3, g4, g5⟩ := stay e36
   exact ⟨m, Nat.lt_succ_self _, by omega, ρ6, S5, τ4, acc, zs, accV, g1, g2, g3, g4, g5, R6, r5.ext e6, ac3.ext e36, hF rfl, eys⟩
  | true =>
   dsimp only
   rw [if_pos rfl]
   obtain ⟨y, S6, ws, he6, cg6, ezs⟩ := hT rfl
   refine ⟨ρ6, S5, τ4, y, S6, R6, r5.ext e6, he6, fun ρ7 H7 w e7 R7 v7 => ?_⟩
   obtain ⟨g1, g2, g3, g4, g5⟩ := stay (e36.trans e7)
   obtain ⟨ex8, R8⟩ := R7.out (ws := accV ++ [w]) g5 g4
   have l1 := ac3.length
   refine ⟨accV, g5, ?_, m, Nat.lt_succ_self _, by omega, ρ7, S6, τ4, acc ++ [y], ws, accV ++ [w], ?_, fun a u na hu nr => by rw [aO na]; exact g2 a u na hu nr, g3, g4, bL, R8, (r5.ext (e6.trans e7)).eF ex8, (AVs.eF ex8 ((ac3.ext (e36.trans e7)).append (.one v7))), cg6, ?_⟩
   ·have : (acc ++ zs).length <= sizeLine := by rw [eys]; exact hlen
    rw [ezs, List.length_append, List.length_cons] at this
    omega
   ·exact ⟨g1.pre, fun a u i h => ex8.im a u i (g1.im a u i h)⟩
   ·rw [List.append_assoc, <- eys, ezs]; rfl
theorem gJ (hc : X.calm = true) (Sc : CpScope X scope N cap) (hi : AI X tg iter src) (hg : ∀ C s₀ H₀ ex, AG (b6 X scope N C s₀ H₀ ex) tg g) (ht : ∀ C s₀ H₀ ex, I_ (b6 X scope N C s₀ H₀ ex) ifs t) (he : ∀ C s₀ H₀ ex, AE (b6 X scope N C s₀ H₀ ex) elt c)
  (hs : ∀ x, foldedSetIterable iter X.env x = pure x := by intro _; rfl) : AE X (.ListComp elt [⟨tg, iter, ifs, 0⟩] scope pos) (cJ cap src g t c) :=
 PE.imp (Km hc Sc hi (g := I0 X.K g) (tc := GR X.K t) (te := Jz X.K c) (fun C s₀ H₀ ex => (hg C s₀ H₀ ex).g0 rfl) (fun C s₀ H₀ ex => ht C s₀ H₀ ex) (fun C s₀ H₀ ex => (he C s₀ H₀ ex).e0 rfl) hs) tU
theorem oO {i : Nat} {x : Str} {pos' spos : Pos} (hN : X.N.Nodup) (hc : X.calm = true) (Sc : CpScope X scope N cap) (hi : AI X tg iter src) (hg : ∀ C s₀ H₀ ex, AG (b6 X scope N C s₀ H₀ ex) tg g) (ht : ∀ C s₀ H₀ ex, I_ (b6 X scope N C s₀ H₀ ex) ifs t) (he : ∀ C s₀ H₀ ex, AE (b6 X scope N C s₀ H₀ ex) elt c)
  (hi' : X.N[i]? = some x := by rfl) (hx : Loc X.env.scope x := by first | exact Or.inl rfl | exact Or.inr rfl)
  (hsw : swapsWith (.ListComp elt [⟨tg, iter, ifs, 0⟩] scope pos) (some (.Name x pos')) spos.line X.env = pure true := by rfl) (hf : X.fn x = true \/ X.env.scope.names.lookup x = some .local := by first | exact .inl rfl | exact .inr rfl | assumption)
  (hs : ∀ x, foldedSetIterable iter X.env x = pure x := by intro _; rfl) : AS X (.Assign [.Name x pos'] (.ListComp elt [⟨tg, iter, ifs, 0⟩] scope pos) spos) (bD (cJ cap src g t c) (bJ i)) :=
 PS.imp (B4 hN hi' hx hc Sc hi (g := I0 X.K g) (tc := GR X.K t) (te := Jz X.K c) (fun C s₀ H₀ ex => (hg C s₀ H₀ ex).g0 rfl) (fun C s₀ H₀ ex => ht C s₀ H₀ ex) (fun C s₀ H₀ ex => (he C s₀ H₀ ex).e0 rfl) hsw hf hs) fun D σ H ⟨ρ, S, τ, R, r, h⟩ =>
  tU σ H _ ⟨ρ, S, τ, R, r, aJ (of_post h) .refl fun a S1 h1 ρ1 H1 x e1 R1 v1 => h1 ρ1 H1 _ e1 R1 ((r.ext e1).set v1)⟩
end
end Am
namespace Am
open PySem PySem.Spec PyProof.Rows L2
def A.lst? (S : aH) : A -> Option (List A)
 | .ref n => au S n
 | _ => none
def DB (f : A -> List A -> aH -> R A) (co : Ex) (d : jF) : Ex := fun τ S => (co τ S).bind fun o S1 => opt (o.lst? S1) fun _ => (d τ S1).bind fun as S2 => f o as S2
def K6 (f : A -> List A -> aH -> R A) (co : Ex) : Ex := fun τ S => (co τ S).bind fun o S1 => opt (o.lst? S1) fun _ => f o [] S1
def rM (X : Cx) (f : A -> List A -> aH -> R A) : V -> List V -> Hp -> VK -> Prop := fun x vs H Q => ∃ ρ S o as, Rel X.K ρ H S /\ AV X.K ρ H o x /\ AVs X.K ρ H as vs /\ (f o as S).post (oM X ρ H Q) (XE X ρ H)
section
variable {X : Cx} {pos apos cpos : Pos} {o e : Expr} {es : List Expr} {name : Str} {id : String} {f : A -> List A -> aH -> R A} {co : Ex} {d : jF}
theorem lst?_ty {K : PySem.W.Frag} {ρ : List Addr} {H : Hp} {S : aH} {x : A} {v : V} {xs : List A} (R : Rel K ρ H S) (h : AV K ρ H x v) (e : x.lst? S = some xs) : Lw K "list" v H := by
 cases h with
 | ref h =>
  obtain ⟨vs, h1, _⟩ := R.lst h (aU e)
  exact .inl ⟨rfl, vs, gy.of h1⟩
 | _ => cases e
theorem oA (slot : Slot "list" name id) (hty : typeOf (.builtin id) = pure (.type "method_descriptor")) (hm : KC X id (rM X f)) (ho : AE X o co) (ha : AL X (e :: es) d)
  (hbase : attributeBase o name X.env (eval o X.env) = eval o X.env := by rfl)
  (hfew : ((backTo cpos (starEach (e :: es) X.env)).all (fun x => !x.1) && (backToKw cpos (keywordEach [] X.env)).all (fun x => x.1.isSome)
   && decide ((e :: es).length + ([] : List Keyword).length + (if ([] : List Keyword).isEmpty then 0 else 1) < 30)) = true := by rfl)
  (hline : (apos.endLine == cpos.line) = true := by rfl) (hs : starEach (e :: es) X.env = (false, eval e X.env) :: starEach es X.env := by rfl) (hplain : (backTo cpos (starEach es X.env)).any (·.1) = false := by rfl) :
  AE X (.Call (.Attribute o name apos) (e :: es) [] cpos) (DB f co d) := PE.imp (Jf PySem.F.plainAttrs_list slot hty hm ho ha hbase hfew hline hs hplain) fun σ H Q ⟨ρ, S, τ, R, r, h⟩ => by
 refine ⟨ρ, S, τ, R, r, aJ (aN h) .refl fun x S1 h1 ρ1 H1 v e1 R1 v1 => ?_⟩
 obtain ⟨xs, hx, h1⟩ := aQ h1
 refine ⟨lst?_ty R1 v1 hx, ρ1, S1, τ, R1, r.ext e1, aJ (aN h1) e1 fun as S2 h2 ρ2 H2 vs e2 R2 v2 => ?_⟩
 exact ⟨ρ2, S2, x, as, R2, v1.ext e2, v2, aJ h2 (e1.trans e2) fun _ _ z => z.ext (e1.trans e2)⟩
def gK (o : A) (as : List A) (S : aH) : R A := match o, as with
 | .ref n, [x] => opt (au S n) fun xs => gd (xs.length < sizeLine) (.ok .non (S.set n (.lst (xs ++ [x]))))
 | _, _ => .no
theorem jh : KC X "list.append" (rM X gK) := fun pins s σ H x vs v us Q I rx rv ⟨ρ, S, o, as, R, vo, va, h⟩ => by
 cases vo with
 | @ref p n hp =>
  match as, va, h with
  | [], _, h => exact h.elim
  | _ :: _ :: _, _, h => exact h.elim
  | [y], va, h =>
   obtain ⟨w, rfl, hw⟩ := Eb va
   obtain ⟨xs, hn, h⟩ := aQ h
   obtain ⟨hl, h⟩ := bA h
   obtain ⟨ws, h1, r⟩ := R.lst hp (aU hn)
   obtain ⟨ex, R'⟩ := R.put hp (aU hn) (r.append (.one hw))
   exact kK pins s σ H _ _ v us Q I rx rv ⟨p, ws, w, rfl, rfl, h1, by rw [<- r.length]; exact hl, h _ _ _ ex R' .non⟩
 | _ => exact h.elim
end
def dz (N : List Str) (m : Sm) (as : List A) (S : aH) : R A := match m (as ++ List.replicate (N.length - as.length) .unb) S with
 | .rt a S' => .ok a S'
 | .nx _ S' => .ok .non S'
 | .ex c S' => .ex c S'
 | _ => .no
def jb (K : PySem.W.Frag) (n : Nat) (F : List A -> aH -> R A) : Sp := fun vs H Q _ => vs.length = n /\ ∃ ρ S as a S', Rel K ρ H S /\ AVs K ρ H as vs /\ F as S = .ok a S' /\ ∀ ρ' H' v, Ext ρ ρ' H H' -> Rel K ρ' H' S' -> AV K ρ' H' a v -> Q v H'
theorem Fe {K : PySem.W.Frag} {ρ : List Addr} {H : Hp} {as : List A} {vs : List V} (r : AVs K ρ H as vs) (N : List Str) : SR K ρ H (as ++ List.replicate (N.length - as.length) .unb) (L2.start N vs) := by
 have hl := r.length
 refine ⟨by unfold L2.start; simp [hl], fun i a h => ?_⟩
 by_cases hi : i < as.length
 ·rw [List.getElem?_append_left hi] at h
  obtain ⟨v, hv, av⟩ := r.get h
  exact .inr ⟨v, by unfold L2.start; rw [List.getElem?_append_left (by simp; omega), List.getElem?_map, hv]; rfl, av⟩
 ·rw [List.getElem?_append_right (by omega), List.getElem?_replicate] at h
  split at h
  ·exact .inl (Option.some.inj h).symm
  ·cases h
section
variable {P : Program} {w : World} {K : PySem.W.Frag} {mg : Str -> Option Value} {base : Heap}
theorem kB {x qual : Str} {st : Stmt} {f : Addr} {fd : FuncData} {N ps : List Str} {k : Nat} {m : Sm} (F : Fun K x qual st f fd) (Sc : FnScope N ps (aG st))
  (body : ∀ (cdv : Value) (A : Around) (outer : List Env) (s : Shared) (H : Hp) (E : XK), Room k (A.deeper (envOfC qual (aG st) s.heap.objs.size f cdv)) -> ET (vR iB P w K mg base N qual (aG st) f cdv A outer s H E).J9 (aY st) m) :
  FnOk P w K mg base iB (k + 1) f fd ps (jb K ps.length (dz N m)) := by
 refine F.ok Sc (fun vs H Q E h => h.1) fun cdv B outer s H vs Q E hr ⟨hl, ρ, S, as, a, S', R, va, hF, q⟩ => ⟨_, body cdv B outer s H E hr, ρ, S, _, R, Fe va N, ?_⟩
 unfold dz at hF
 cases hm : m (as ++ List.replicate (N.length - as.length) .unb) S with
 | rt b S2 => rw [hm] at hF; cases hF; exact q
 | nx τ S2 => rw [hm] at hF; cases hF; exact fun ρ' H' σ' e R' _ => q ρ' H' _ e R' .non
 | bk τ S2 => rw [hm] at hF; cases hF
 | ct τ S2 => rw [hm] at hF; cases hF
 | ex c S2 => rw [hm] at hF; cases hF
 | no => rw [hm] at hF; cases hF
end
abbrev dm (P : Program) (w : World) (K : PySem.W.Frag) (mg : Str -> Option Value) (base : Heap) (k : Nat) (x : Str) (ps : List Str) (F : List A -> aH -> R A) : Prop := Kn P w K mg base k x ps (jb K ps.length F)
def eFn (F : List A -> aH -> R A) (d : jF) : Ex := fun τ S => (d τ S).bind fun as S1 => match F as S1 with
 | .ok a S2 => .ok a S2
 | _ => .no
section
variable {X : Cx} {pos p : Pos} {e : Expr} {es : List Expr} {x : Str} {ps : List Str} {k : Nat} {F : List A -> aH -> R A} {d : jF}
theorem bx (G : dm X.prog X.w X.K X.mg X.base k x ps F) (hr : Room k X.A) (ha : AL X (e :: es) d) (hl : ∀ τ S as S', d τ S = .ok as S' -> as.length = ps.length) (hg : Gl X x := by rfl) (hdb : (x == ("__debug__" : Str)) = false := by decide)
  (hs : starEach (e :: es) X.env = (false, eval e X.env) :: starEach es X.env := by rfl) (hplain : (backTo pos (starEach es X.env)).any (·.1) = false := by rfl) : AE X (.Call (.Name x p) (e :: es) [] pos) (eFn F d) :=
 PE.imp (J7 G hr ha hg hdb hs hplain) fun σ H Q ⟨ρ, S, τ, R, r, h⟩ => by
  refine ⟨ρ, S, τ, R, r, ?_⟩
  have hb := aN h
  cases hd : d τ S with
  | no => rw [hd] at hb; exact hb
  | ex c S1 => rw [hd] at hb; exact hb
  | ok as S1 =>
   rw [hd] at hb
   intro ρ1 H1 vs e1 R1 v1
   rw [List.append_nil]
   refine ⟨by rw [<- v1.length]; exact hl τ S as S1 hd, ρ1, S1, as, ?_⟩
   have hb : Am.R.post (match F as S1 with
    | .ok a S2 => .ok a S2
    | _ => .no) (oM X ρ H Q) (XE X ρ H) := hb
   cases hF : F as S1 with
   | ok a S2 => rw [hF] at hb; exact ⟨a, S2, R1, v1, rfl, fun ρ2 H2 v e2 => hb ρ2 H2 v (e1.trans e2)⟩
   | ex c S2 => rw [hF] at hb; exact hb.elim
   | no => rw [hF] at hb; exact hb.elim
theorem aP : ∀ τ S as S', aM τ S = .ok as S' -> as.length = 0 := fun τ S as S' h => by cases h; rfl
theorem aC {c : Ex} {d : jF} {n : Nat} (h : ∀ τ S as S', d τ S = .ok as S' -> as.length = n) : ∀ τ S as S', aq c d τ S = .ok as S' -> as.length = n + 1 := fun τ S as S' e => by
 unfold aq at e
 cases hc : c τ S with
 | ok a S1 =>
  rw [hc] at e
  cases hd : d τ S1 with
  | ok bs S2 =>
   have e : R.bind (d τ S1) (fun as S2 => .ok (a :: as) S2) = .ok as S' := e
   rw [hd] at e; cases e; rw [List.length_cons, h τ S1 bs _ hd]
  | ex _ _ =>
   have e : R.bind (d τ S1) (fun as S2 => .ok (a :: as) S2) = .ok as S' := e
   rw [hd] at e; cases e
  | no =>
   have e : R.bind (d τ S1) (fun as S2 => .ok (a :: as) S2) = .ok as S' := e
   rw [hd] at e; cases e
 | ex _ _ => rw [hc] at e; cases e
 | no => rw [hc] at e; cases e
end
end Am
namespace Am
open PySem PySem.Spec PyProof.Rows L2
section
variable {X : Cx} {pos : Pos} {a b c d : Expr}
def Me (f' : A -> A -> aH -> R A) (cc : Ex) (τ : List A) (b k : A) (S : aH) : R A := match k with
 | .bl true => (cc τ S).bind fun c S4 => f' b c S4
 | .bl false => .ok (.bl false) S
 | _ => .no
def IY (f f' : A -> A -> aH -> R A) (ca cb cc : Ex) : Ex := fun τ S => (ca τ S).bind fun a S1 => (cb τ S1).bind fun b S2 => (f a b S2).bind fun k S3 => Me f' cc τ b k S3
theorem HY {f f' : A -> A -> aH -> R A} {ca cb cc : Ex} {σ : L2.St} {H : Hp} {Q : VK} (h : tE X (IY f f' ca cb cc) σ H Q) : CF (r2 X f) (r2 X f') (tE X ca) (tE X cb) (tE X cc) σ H Q := by
 obtain ⟨ρ, S, τ, R, r, h⟩ := h
 refine ⟨ρ, S, τ, R, r, aJ (aN h) .refl fun a S1 h1 ρ1 H1 x e1 R1 v1 => ⟨ρ1, S1, τ, R1, r.ext e1, aJ (aN h1) e1 fun b S2 h2 ρ2 H2 y e2 R2 v2 => ?_⟩⟩
 have e12 := e1.trans e2
 refine ⟨ρ2, S2, a, b, R2, v1.ext e2, v2, aJ (aN h2) e12 fun k S3 h3 ρ3 H3 z e3 R3 v3 => ?_⟩
 have e13 := e12.trans e3
 cases k with
 | bl k =>
  cases qP v3
  refine ⟨k, rfl, ?_⟩
  cases k with
  | true =>
   rw [if_pos rfl]
   exact ⟨ρ3, S3, τ, R3, r.ext e13, aJ (aN h3) e13 fun c S4 h4 ρ4 H4 w e4 R4 v4 => ⟨ρ4, S4, b, c, R4, v2.ext (e3.trans e4), v4, aJ h4 (e13.trans e4) fun _ _ q => q.ext (e13.trans e4)⟩⟩
  | false =>
   rw [if_neg Bool.false_ne_true]
   exact h3 ρ3 H3 _ e13 R3 (.bl false)
 | _ => exact h3.elim
theorem Js {op op' : CmpOp} {f f' : A -> A -> aH -> R A} {ca cb cc : Ex} (ho : fY X (compareOp op) (r2 X f)) (ho' : fY X (compareOp op') (r2 X f')) (ha : AE X a ca) (hb : AE X b cb) (hc : AE X c cc) (hm : lastMarks [op, op'] [b, c] = false := by with_unfolding_all rfl) :
  AE X (.Compare a [op, op'] [b, c] pos) (IY f f' ca cb cc) := PE.imp (Au ho ho' ha hb hc hm) fun _ _ _ h => HY h
def o4 (o : A) (as : List A) (S : aH) : R A := match o, as with
 | .ref n, [.ref m] => opt (au S n) fun xs => opt (au S m) fun ys => gd (xs.length + ys.length <= sizeLine) (.ok .non (S.set n (.lst (xs ++ ys))))
 | _, _ => .no
theorem tQ : KC X "list.extend" (rM X o4) := fun pins s σ H x vs v us Q I rx rv ⟨ρ, S, o, as, R, vo, va, h⟩ => by
 cases vo with
 | @ref p n hp =>
  match as, va, h with
  | [], _, h => exact h.elim
  | y :: _ :: _, _, h => exact (by cases y <;> exact h.elim)
  | [y], va, h =>
   obtain ⟨w, rfl, hw⟩ := Eb va
   cases hw with
   | @ref q m hq =>
    obtain ⟨xs, hn, h⟩ := aQ h
    obtain ⟨ys, hm, h⟩ := aQ h
    obtain ⟨hl, h⟩ := bA h
    obtain ⟨ws, h1, r⟩ := R.lst hp (aU hn)
    obtain ⟨zs, h2, r'⟩ := R.lst hq (aU hm)
    obtain ⟨ex, R'⟩ := R.put hp (aU hn) (r.append r')
    exact zJ pins s σ H _ _ v us Q I rx rv ⟨p, q, ws, zs, rfl, rfl, h1, h2, by rw [<- r.length, <- r'.length]; exact hl, h _ _ _ ex R' .non⟩
   | _ => exact h.elim
 | _ => exact h.elim
end
end Am
namespace Am
open PySem PySem.Spec PyProof.Rows L2
section
variable {X : Cx}
end
end Am
namespace Am
open PySem PySem.Spec PyProof.Rows L2
section
variable {X : Cx} {pos apos cpos : Pos} {a b o e : Expr} {es : List Expr}
end
end Am
namespace Am
open PySem PySem.Spec PyProof.Rows L2
def cN (S : aH) (n : Nat) : Option (List (List Int × A)) := match S[n]? with
 | some (.dct xs) => some xs
 | _ => none
theorem jP {S : aH} {n : Nat} {xs : List (List Int × A)} (h : cN S n = some xs) : S[n]? = some (.dct xs) := by
 unfold cN at h
 split at h
 ·rename_i e; cases h; exact e
 ·cases h
theorem qz {S : aH} {n : Nat} {xs : List (List Int × A)} (h : S[n]? = some (.dct xs)) : cN S n = some xs := by
 unfold cN; rw [h]
def gF (kvs : List (List Int × A)) (k : List Int) : Option A := (kvs.find? fun kv => decide (kv.1 = k)).map (·.2)
def putD (kvs : List (List Int × A)) (k : List Int) (v : A) : List (List Int × A) :=
 if (gF kvs k).isSome = true then kvs.map (fun kv => if kv.1 = k then (kv.1, v) else kv) else kvs ++ [(k, v)]
theorem sD : ∀ {a b : List Int}, a.map (Sum.inl : Int -> Key) = b.map Sum.inl -> a = b
 | [], [], _ => rfl
 | [], _ :: _, e => by simp at e
 | _ :: _, [], e => by simp at e
 | x :: xs, y :: ys, e => by
  rw [List.map_cons, List.map_cons] at e
  injection e with e1 e2
  injection e1 with e1
  rw [e1, sD e2]
theorem xW (ns : List Int) : (ns.map (Sum.inl : Int -> Key)).map kV = ns.map V.int := by rw [List.map_map]; rfl
section
variable {K : PySem.W.Frag} {ρ ρ' : List Addr} {H H' : Hp}
theorem nL {p : List Int × A} {r : List (List Int × A)} {k : List Int} (e : p.1 = k) : gF (p :: r) k = some p.2 := by simp [gF, List.find?_cons, e]
theorem nS {p : List Int × A} {r : List (List Int × A)} {k : List Int} (e : ¬ p.1 = k) : gF (p :: r) k = gF r k := by simp [gF, List.find?_cons, e]
theorem DV.look : ∀ {kvs : List (List Int × A)} {ks : List (List Key × V)} (k : List Int), DV K ρ H kvs ks -> (gF kvs k).isSome = (mF ks (k.map Sum.inl)).isSome /\ ∀ x, gF kvs k = some x -> ∃ v, mF ks (k.map Sum.inl) = some v /\ AV K ρ H x v
 | [], [], k, _ => ⟨rfl, fun x h => nomatch h⟩
 | p :: r, q :: r', k, ⟨⟨e, a⟩, t⟩ => by
  by_cases c : p.1 = k
  ·have c' : q.1 = k.map Sum.inl := by rw [e, c]
   rw [nL c, ng c']
   exact ⟨rfl, fun x h => by cases h; exact ⟨_, rfl, a⟩⟩
  ·have c' : ¬ q.1 = k.map Sum.inl := fun z => c (sD (e.symm.trans z))
   rw [nS c, m8 c']
   exact DV.look k t
theorem DV.repl {x : A} {v : V} (h : AV K ρ H x v) (k : List Int) : ∀ {kvs : List (List Int × A)} {ks : List (List Key × V)}, DV K ρ H kvs ks -> DV K ρ H (kvs.map fun kv => if kv.1 = k then (kv.1, x) else kv) (ks.map fun kv => if kv.1 = k.map Sum.inl then (kv.1, v) else kv)
 | [], [], _ => trivial
 | p :: r, q :: r', ⟨⟨e, a⟩, t⟩ => by
  refine ⟨?_, DV.repl h k t⟩
  dsimp only
  by_cases c : p.1 = k
  ·rw [if_pos c, if_pos (by rw [e, c])]; exact ⟨e, h⟩
  ·rw [if_neg c, if_neg (fun z => c (sD (e.symm.trans z)))]; exact ⟨e, a⟩
theorem DV.snoc {x : A} {v : V} (h : AV K ρ H x v) (k : List Int) : ∀ {kvs : List (List Int × A)} {ks : List (List Key × V)}, DV K ρ H kvs ks -> DV K ρ H (kvs ++ [(k, x)]) (ks ++ [(k.map Sum.inl, v)])
 | [], [], _ => ⟨⟨rfl, h⟩, trivial⟩
 | p :: r, q :: r', ⟨a, t⟩ => ⟨a, DV.snoc h k t⟩
theorem DV.put {x : A} {v : V} (h : AV K ρ H x v) (k : List Int) {kvs : List (List Int × A)} {ks : List (List Key × V)} (d : DV K ρ H kvs ks) : DV K ρ H (putD kvs k x) (putK ks (k.map Sum.inl) v) := by
 unfold putD putK
 rw [pW, <- (d.look k).1]
 by_cases c : (gF kvs k).isSome = true
 ·rw [if_pos c, if_pos c]; exact DV.repl h k d
 ·rw [if_neg c, if_neg c]; exact DV.snoc h k d
theorem DV.length : ∀ {kvs : List (List Int × A)} {ks : List (List Key × V)}, DV K ρ H kvs ks -> kvs.length = ks.length
 | [], [], _ => rfl
 | _ :: _, _ :: _, ⟨_, t⟩ => congrArg (· + 1) t.length
theorem Rel.dct {S : aH} {n : Nat} {a : Addr} {xs : List (List Int × A)} (R : Rel K ρ H S) (ha : ρ[n]? = some a) (hS : S[n]? = some (.dct xs)) : ∃ vs, H a = some (.dT vs) /\ DV K ρ H xs vs := R.at n a _ ha hS
theorem Rel.putD {S : aH} {n : Nat} {a : Addr} {xs ys : List (List Int × A)} {ws : List (List Key × V)} (R : Rel K ρ H S) (ha : ρ[n]? = some a) (hS : S[n]? = some (.dct xs)) (r : DV K ρ H ys ws) : Ext ρ ρ H (upd H a (.dT ws)) /\ Rel K ρ (upd H a (.dT ws)) (S.set n (.dct ys)) := by
 obtain ⟨vs, e, _⟩ := R.at n a _ ha hS
 have ex : Ext ρ ρ H (upd H a (.dT ws)) := ⟨⟨List.prefix_refl _, fun b u i h => by
  have : b ≠ a := by
   intro z; subst z; rw [e] at h; cases h; exact i
  rw [aO this]; exact h⟩, fun b u h n => by
  rw [aO (fun z => n (by rw [z]; exact List.mem_of_getElem? ha))]; exact h, fun _ h => .inl h⟩
 refine ⟨ex, by rw [List.length_set]; exact R.len, R.nd, fun m b o h1 h2 => ?_⟩
 by_cases hm : m = n
 ·subst hm
  rw [ha] at h1; cases h1
  rw [List.getElem?_set_self (List.getElem?_eq_some_iff.mp hS).1] at h2
  cases h2
  exact ⟨ws, bL, r.ext ex⟩
 ·rw [List.getElem?_set_ne (Ne.symm hm)] at h2
  have nb : b ≠ a := fun z => by
   subst z
   obtain ⟨l1, e1⟩ := List.getElem?_eq_some_iff.mp ha
   obtain ⟨l2, e2⟩ := List.getElem?_eq_some_iff.mp h1
   exact hm ((List.getElem_inj R.nd).mp (e2.trans e1.symm))
  have := R.at m b o h1 h2
  cases o with
  | lst ys => obtain ⟨ws', e', q⟩ := this; exact ⟨ws', by rw [aO nb]; exact e', q.ext ex⟩
  | dct _ | dki _ => obtain ⟨ws', e', q⟩ := this; exact ⟨ws', by rw [aO nb]; exact e', q.ext ex⟩
  | ins _ _ => obtain ⟨oo, uu, e'⟩ := this; exact ⟨oo, uu, by rw [aO nb]; exact e'⟩
end
section
variable {X : Cx} {pos : Pos} {a b : Expr}
theorem su {ρ : List Addr} {H : Hp} {S : aH} {p q : Addr} {n : Nat} {xs : List A} {vs : List V} {kvs : List (List Int × A)} {ns : List Int} (R : Rel X.K ρ H S) (hp : ρ[n]? = some p) (hn : cN S n = some kvs) (hq : H q = some (.tup vs)) (r : AVs X.K ρ H xs vs) (hi : A.ints xs = some ns) :
  ∃ ks, H p = some (.dT ks) /\ DV X.K ρ H kvs ks /\ H q = some (.tup ((ns.map (Sum.inl : Int -> Key)).map kV)) /\ sE H p (.ref q) (mF ks (ns.map Sum.inl)) := by
 obtain ⟨ks, e, d⟩ := R.dct hp (jP hn)
 have z := jt r hi
 subst z
 rw [<- xW] at hq
 exact ⟨ks, e, d, hq, sE.t e hq⟩
def EK (x y : A) (S : aH) : R A := match x, y with
 | .ref n, .tup xs => opt (cN S n) fun kvs => opt (A.ints xs) fun ns => opt (gF kvs ns) fun v => .ok v S
 | _, _ => .no
theorem JF (hu : X.A.units + 64 < cLine) : Ii X (r2 X EK) := fun value slice pins s σ H x y v u Q I rx ry ⟨ρ, S, a, b, R, va, vb, h⟩ hs => by
 cases va with
 | @ref p n hp =>
  cases vb with
  | @tup q xs vs hq r =>
   obtain ⟨kvs, hn, h⟩ := aQ h
   obtain ⟨ns, hi, h⟩ := aQ h
   obtain ⟨z, hz, h⟩ := aQ h
   obtain ⟨ks, e, d, hq', g⟩ := su R hp hn hq r hi
   obtain ⟨w, hw, aw⟩ := (d.look ns).2 z hz
   rw [hw] at g
   exact DL (by omega) value slice pins s σ H _ _ v u Q I rx ry ⟨p, w, rfl, g, h _ _ _ .refl R aw⟩ hs
  | _ => exact h.elim
 | _ => exact h.elim
theorem ID (hu : X.A.units + 64 < cLine) {ca cb : Ex} (ha : AE X a ca) (hb : AE X b cb) (hs : sJ b := by exact fun _ _ => rfl) : AE X (.Subscript a b pos) (aA EK ca cb) := PE.imp (FJ (JF hu) ha hb hs) fun σ H Q h => mE h
def ED (neg : Bool) (x y : A) (S : aH) : R A := match x, y with
 | .tup xs, .ref n => opt (cN S n) fun kvs => opt (A.ints xs) fun ns => .ok (.bl (if neg then !(gF kvs ns).isSome else (gF kvs ns).isSome)) S
 | _, _ => .no
theorem uv (hu : X.A.units + 64 < cLine) : fY X (compareOp .NotIn) (r2 X (ED true)) := fun pins s σ H x y v u Q I rx ry ⟨ρ, S, a, b, R, va, vb, h⟩ => by
 cases va with
 | @tup q xs vs hq r =>
  cases vb with
  | @ref p n hp =>
   obtain ⟨kvs, hn, h⟩ := aQ h
   obtain ⟨ns, hi, h⟩ := aQ h
   obtain ⟨ks, e, d, hq', g⟩ := su R hp hn hq r hi
   exact zB (by omega) pins s σ H _ _ v u Q I rx ry ⟨p, _, rfl, g, by rw [<- (d.look ns).1]; exact h _ _ _ .refl R (.bl _)⟩
  | _ => exact h.elim
 | _ => exact h.elim
def yl (o i v : A) (S : aH) : R Unit := match o, i with
 | .ref n, .tup xs => opt (cN S n) fun kvs => opt (A.ints xs) fun ns => gd (kvs.length < sizeLine) (.ok () (S.set n (.dct (putD kvs ns v))))
 | _, _ => .no
def LU (X : Cx) : Co := fun o i v H Q => ∃ ρ S ao ai av, Rel X.K ρ H S /\ AV X.K ρ H ao o /\ AV X.K ρ H ai i /\ AV X.K ρ H av v /\ (yl ao ai av S).post (fun _ S' => ∀ ρ' H', Ext ρ ρ' H H' -> Rel X.K ρ' H' S' -> Q H') (XE X ρ H)
theorem Eh (hu : X.A.units + 64 < cLine) : Dh X (LU X) := fun pins s σ H o i v ov iv u Q I ro ri rv ⟨ρ, S, ao, ai, av, R, h1, h2, h3, h⟩ => by
 cases h1 with
 | @ref p n hp =>
  cases h2 with
  | @tup q xs vs hq r =>
   obtain ⟨kvs, hn, h⟩ := aQ h
   obtain ⟨ns, hi, h⟩ := aQ h
   obtain ⟨hl, h⟩ := bA h
   obtain ⟨ks, e, d, hq', g⟩ := su R hp hn hq r hi
   obtain ⟨ex, R'⟩ := R.putD hp (jP hn) (d.put h3 ns)
   exact set_dict (by omega) pins s σ H _ _ v ov iv u Q I ro ri rv ⟨p, _, rfl, C7.t e hq' (by rw [<- d.length]; exact hl), h _ _ ex R'⟩
  | _ => exact h.elim
 | _ => exact h.elim
def IC (co ci : Ex) : Tg := fun a τ S => (co τ S).bind fun o S1 => (ci τ S1).bind fun i S2 => (yl o i a S2).bind fun _ S3 => .ok τ S3
theorem E6 (hu : X.A.units + 64 < cLine) {o i : Expr} {co ci : Ex} (ho : AE X o co) (hi : AE X i ci)
  (ha : ∀ v, assign (.Subscript o i pos) X.env v = (do
   let ov <- holding [v] (eval o X.env)
   let iv <- holding [v, ov] (eval i X.env)
   standAt pos
   holding [v, ov, iv] (setItem ov iv v)
   release [v, ov, iv] []) := by intro _; rfl) : AG X (.Subscript o i pos) (IC co ci) := PG.imp (AN ho hi (Eh hu) ha) fun v σ H Q ⟨ρ, S, τ, a, R, r, va, h⟩ => by
 refine ⟨ρ, S, τ, R, r, aJ (aN h) .refl fun o S1 h1 ρ1 H1 x e1 R1 v1 => ⟨ρ1, S1, τ, R1, r.ext e1, aJ (aN h1) e1 fun i S2 h2 ρ2 H2 y e2 R2 v2 => ?_⟩⟩
 refine ⟨ρ2, S2, o, i, a, R2, v1.ext e2, v2, va.ext (e1.trans e2), aJ (aN h2) (e1.trans e2) fun _ S3 h3 ρ3 H3 e3 R3 => ?_⟩
 exact h3 ρ3 H3 σ ((e1.trans e2).trans e3) R3 (r.ext ((e1.trans e2).trans e3))
def Dy (ck cv : Ex) : Ex := fun τ S => (ck τ S).bind fun k S1 => (cv τ S1).bind fun v S2 => match k with
 | .tup xs => opt (A.ints xs) fun ns => .ok (.ref S2.length) (S2 ++ [.dct [(ns, v)]])
 | _ => .no
theorem Rel.Kr {K : PySem.W.Frag} {ρ : List Addr} {H : Hp} {S : aH} {D : Addr} {xs : List (List Int × A)} {us vs : List (List Key × V)} (R : Rel K ρ H S) (hD : H D = some (.dT us)) (hn : D ∉ ρ) (r : DV K ρ H xs vs) : Ext0 ρ (ρ ++ [D]) H (upd H D (.dT vs)) /\ Rel K (ρ ++ [D]) (upd H D (.dT vs)) (S ++ [.dct xs]) /\ (ρ ++ [D])[S.length]? = some D := by
 have ex : Ext0 ρ (ρ ++ [D]) H (upd H D (.dT vs)) := ⟨List.prefix_append _ _, fun b u i h => by
  have : b ≠ D := by
   intro z; subst z; rw [hD] at h; cases h; exact i
  rw [aO this]; exact h⟩
 have last : (ρ ++ [D])[S.length]? = some D := by rw [<- R.len]; simp
 refine ⟨ex, ⟨by simp [R.len], ?_, fun n a o h1 h2 => ?_⟩, last⟩
 ·rw [List.nodup_append]
  refine ⟨R.nd, by simp, fun a ha b hb e => ?_⟩
  have : b = D := by simpa using hb
  exact hn (by rw [<- this, <- e]; exact ha)
 ·by_cases hs : n < S.length
  ·rw [List.getElem?_append_left (by rw [R.len]; exact hs)] at h1
   rw [List.getElem?_append_left hs] at h2
   have na : a ≠ D := fun z => hn (by rw [<- z]; exact List.mem_of_getElem? h1)
   have := R.at n a o h1 h2
   cases o with
   | lst ys => obtain ⟨ws, e, q⟩ := this; exact ⟨ws, by rw [aO na]; exact e, AVs.eF ex q⟩
   | dct _ | dki _ => obtain ⟨ws, e, q⟩ := this; exact ⟨ws, by rw [aO na]; exact e, q.eF ex⟩
   | ins _ _ => obtain ⟨oo, uu, e⟩ := this; exact ⟨oo, uu, by rw [aO na]; exact e⟩
  ·have e : n = S.length := by
    have := (List.getElem?_eq_some_iff.mp h2).1
    simp at this
    omega
   subst e
   rw [last] at h1
   cases h1
   simp at h2
   subst h2
   exact ⟨vs, bL, r.eF ex⟩
theorem EF (hu : X.A.units + 64 < cLine) {k v : Expr} {ck cv : Ex} (hk : AE X k ck) (hv : AE X v cv) : AE X (.Dict [some k] [v] pos) (Dy ck cv) := PE.imp (Ar (by omega) hk hv) fun σ H Q ⟨ρ, S, τ, R, r, h⟩ p hp => by
 obtain ⟨e0, R0⟩ := R.im (u := .dT []) hp
 have np : p ∉ ρ := R.Bj hp
 refine ⟨ρ, S, τ, R0, r.ext e0, aJ (aN h) e0 fun a S1 h1 ρ1 H1 x e1 R1 v1 => ⟨ρ1, S1, τ, R1, (r.ext e0).ext e1, aJ (aN h1) (e0.trans e1) fun b S2 h2 ρ2 H2 y e2 R2 v2 => ?_⟩⟩
 have e12 := e1.trans e2
 have hp2 : H2 p = some (.dT []) := e12.fr p _ bL np
 have np2 : p ∉ ρ2 := fun hm => (e12.nw p hm).elim np fun z => by rw [bL] at z; cases z
 cases v1.ext e2 with
 | @tup q xs vs hq rr =>
  obtain ⟨ns, hi, h2⟩ := aQ h2
  have z := jt rr hi
  subst z
  refine ⟨hp2, q, ns.map Sum.inl, rfl, by rw [xW]; exact hq, ?_⟩
  obtain ⟨e3, R3, hl⟩ := R2.Kr (xs := [(ns, b)]) (vs := [(ns.map Sum.inl, y)]) hp2 np2 ⟨⟨rfl, v2⟩, trivial⟩
  refine h2 _ _ _ ⟨⟨(e0.trans e12).pre.trans e3.pre, fun c u i hc => e3.im c u i ((e0.trans e12).im c u i hc)⟩, fun c u hc nc => ?_, fun c hc => ?_⟩ R3 (.ref hl)
  ·rw [aO (aV hc hp)]
   exact (e0.trans e12).fr c u hc nc
  ·rcases List.mem_append.mp hc with z | z
   ·exact (e0.trans e12).nw c z
   ·have : c = p := by simpa using z
    rw [this]; exact .inr hp
 | _ => exact h2.elim
end
end Am
namespace Am
open PySem PySem.Spec PyProof.Rows L2
section
variable {X : Cx} {pos : Pos} {a b : Expr}
end
end Am
namespace Am
open PySem PySem.Spec PyProof.Rows L2
section
variable {X : Cx} {pos : Pos} {a b tg : Expr}
def nZ (n k : Nat) : Src := ⟨k, fun i S => (au S n).bind fun xs => (xs[i]?).map fun x => .tup [.int i, x], fun S => match au S n with
 | some ys => decide (ys.length = k)
 | none => false⟩
def MC (a : A) (S : aH) : R Src := match a with
 | .ref n => opt (au S n) fun xs => .ok (nZ n xs.length) S
 | _ => .no
def wm (c : Ex) : Ic := fun τ S => (c τ S).bind fun a S1 => MC a S1
theorem G1 {K : PySem.W.Frag} {ρ0 : List Addr} {H0 : Hp} {p : Addr} {n k : Nat} (hp : ρ0[n]? = some p) : JR K (nZ n k) (IF K p) ρ0 H0 where
 go := fun i S H ρ x e R g => by
  obtain ⟨xs, hn, g⟩ := Option.bind_eq_some_iff.mp g
  obtain ⟨y, hy, rfl⟩ := Option.map_eq_some_iff.mp g
  obtain ⟨vs, h1, r1⟩ := R.lst (e.get hp) (aU hn)
  obtain ⟨v, ev, av⟩ := r1.get hy
  refine ⟨⟨vs, v, gy.of h1, ev⟩, fun w H' q => ?_⟩
  obtain ⟨pp, hpp, rfl, hz⟩ := q
  have hz' := hz vs v (gy.of h1) ev
  subst hz'
  obtain ⟨ex, R'⟩ := R.im (u := .tup [.int i, v]) hpp
  exact ⟨ex, R', .tup bL (.cons (.int _) (.cons (av.ext ex) .nil))⟩
 stop := fun S H ρ e R hf => by
  have hf : (match au S n with
   | some ys => decide (ys.length = k)
   | none => false) = true := hf
  cases hn : au S n with
  | none => rw [hn] at hf; cases hf
  | some xs =>
   rw [hn] at hf
   obtain ⟨vs, h1, r1⟩ := R.lst (e.get hp) (aU hn)
   exact ⟨vs, gy.of h1, by rw [<- r1.length]; exact of_decide_eq_true hf⟩
theorem Dj {elts : List Expr} {x1 : Nat} {tpos p : Pos} {c : Ex} (hm : X.mg "enumerate" = none) (ha : AE X a c) (hg : Gl X "enumerate" := by rfl) (hs : starEach [a] X.env = [(false, eval a X.env)] := by rfl) : AI X (.Tuple elts x1 tpos) (.Call (.Name "enumerate" p) [a] [] pos) (wm c) := fun pins s σ H Q I ⟨ρ, S, τ, R, r, h⟩ => by
 refine CA hg hm (kI ha qk hs) hs pins s σ H Q I ⟨ρ, S, τ, R, r, aJ (aN h) .refl fun x S1 h1 ρ1 H1 v e1 R1 v1 => ?_⟩
 cases v1 with
 | @ref p n hp =>
  obtain ⟨xs, hn, h1⟩ := aQ h1
  obtain ⟨vs, g1, r1⟩ := R1.lst hp (aU hn)
  exact ⟨_, vs, rfl, gy.of g1, h1 ρ1 H1 _ e1 R1 (G1 hp)⟩
 | _ => exact h1.elim
theorem xQ {c : Ex} {τ : List A} {S S1 : aH} {n : Nat} {xs : List A} (h : c τ S = .ok (.ref n) S1) (hn : au S1 n = some xs) : wm c τ S = .ok (nZ n xs.length) S1 := by
 unfold wm
 rw [h]
 show opt (au S1 n) _ = _
 rw [hn]; rfl
end
end Am
namespace Am
open PySem PySem.Spec PyProof.Rows L2
def iU (s : Src) (g : Tg) (t : Te) (e : Ex) : Nat -> Nat -> List A -> aH -> R (List A × List A)
 | 0, _ => fun τ S => if s.fin S then .ok ([], τ) S else .no
 | k + 1, i => fun τ S => opt (s.get i S) fun x => (g x τ S).c_ fun τ1 S1 => (t τ1 S1).c_ fun b S2 => match b with
  | true => (e τ1 S2).c_ fun y S3 => (iU s g t e k (i + 1) τ1 S3).c_ fun p S4 => .ok (y :: p.1, p.2) S4
  | false => iU s g t e k (i + 1) τ1 S2
def gH (s : Src) (g : Tg) (t : Te) (src2 : Ic) (g2 : Tg) (t2 : Te) (e : Ex) : Nat -> Nat -> List A -> aH -> R (List A)
 | 0, _ => fun _ S => if s.fin S then .ok [] S else .no
 | k + 1, i => fun τ S => opt (s.get i S) fun x => (g x τ S).c_ fun τ1 S1 => (t τ1 S1).c_ fun b S2 => match b with
  | true => (src2 τ1 S2).c_ fun s2 S3 => (iU s2 g2 t2 e s2.k 0 τ1 S3).c_ fun p S4 => (gH s g t src2 g2 t2 e k (i + 1) p.2 S4).c_ fun ys S5 => .ok (p.1 ++ ys) S5
  | false => gH s g t src2 g2 t2 e k (i + 1) τ1 S2
def vS (cap : List (Option Nat)) (src : Ic) (g : Tg) (t : Te) (src2 : Ic) (g2 : Tg) (t2 : Te) (e : Ex) : Ex := fun τ S => (src τ S).bind fun s S1 => (gH s g t src2 g2 t2 e s.k 0 (eW cap τ) S1).c_ fun ys S2 => newL ys S2
theorem u5 {s : Src} {g : Tg} {t : Te} {e : Ex} {k i : Nat} {τ τ' : List A} {S S' : aH} {zs : List A} (h : iU s g t e (k + 1) i τ S = .ok (zs, τ') S') :
  ∃ x τ1 S1 b S2, s.get i S = some x /\ g x τ S = .ok τ1 S1 /\ t τ1 S1 = .ok b S2 /\ (b = true -> ∃ y S3 ws, e τ1 S2 = .ok y S3 /\ iU s g t e k (i + 1) τ1 S3 = .ok (ws, τ') S' /\ zs = y :: ws) /\ (b = false -> iU s g t e k (i + 1) τ1 S2 = .ok (zs, τ') S') := by
 obtain ⟨x, hx, h⟩ := vz h
 obtain ⟨τ1, S1, h1, h⟩ := cW h
 obtain ⟨b, S2, h2, h⟩ := cW h
 refine ⟨x, τ1, S1, b, S2, hx, h1, h2, fun hb => ?_, fun hb => ?_⟩
 ·subst hb
  obtain ⟨y, S3, h3, h⟩ := cW h
  obtain ⟨⟨ws, τ2⟩, S4, h4, h⟩ := cW h
  cases h
  exact ⟨y, S3, ws, h3, h4, rfl⟩
 ·subst hb; exact h
theorem sO {s : Src} {g : Tg} {t : Te} {src2 : Ic} {g2 : Tg} {t2 : Te} {e : Ex} {k i : Nat} {τ : List A} {S S' : aH} {zs : List A} (h : gH s g t src2 g2 t2 e (k + 1) i τ S = .ok zs S') :
  ∃ x τ1 S1 b S2, s.get i S = some x /\ g x τ S = .ok τ1 S1 /\ t τ1 S1 = .ok b S2 /\ (b = true -> ∃ s2 S3 ps τ2 S4 ws, src2 τ1 S2 = .ok s2 S3 /\ iU s2 g2 t2 e s2.k 0 τ1 S3 = .ok (ps, τ2) S4 /\ gH s g t src2 g2 t2 e k (i + 1) τ2 S4 = .ok ws S' /\ zs = ps ++ ws) /\ (b = false -> gH s g t src2 g2 t2 e k (i + 1) τ1 S2 = .ok zs S') := by
 obtain ⟨x, hx, h⟩ := vz h
 obtain ⟨τ1, S1, h1, h⟩ := cW h
 obtain ⟨b, S2, h2, h⟩ := cW h
 refine ⟨x, τ1, S1, b, S2, hx, h1, h2, fun hb => ?_, fun hb => ?_⟩
 ·subst hb
  obtain ⟨s2, S3, h3, h⟩ := cW h
  obtain ⟨⟨ps, τ2⟩, S4, h4, h⟩ := cW h
  obtain ⟨ws, S5, h5, h⟩ := cW h
  cases h
  exact ⟨s2, S3, ps, τ2, S4, ws, h3, h4, h5, rfl⟩
 ·subst hb; exact h
def L_ (K : PySem.W.Frag) (c : Ic) : TI := fun σ H Q => ∃ ρ S τ s S', Rel K ρ H S /\ SR K ρ H τ σ /\ c τ S = .ok s S' /\ ∀ ρ' H' J, Ext ρ ρ' H H' -> Rel K ρ' H' S' -> JR K s J ρ' H' -> Q J H'
structure Out (ρ1 : List Addr) (H1 : Hp) (D : Addr) (accV : List V) (ρ : List Addr) (H : Hp) : Prop where
 e0 : Ext0 ρ1 ρ H1 H
 fr : ∀ a u, a ≠ D -> H1 a = some u -> a ∉ ρ1 -> H a = some u
 nw : ∀ a ∈ ρ, a ∈ ρ1 \/ H1 a = none
 nD : D ∉ ρ
 hD : H D = some (.lst accV)
theorem Out.stay {ρ1 ρ3 ρ7 : List Addr} {H1 H3 H7 : Hp} {D : Addr} {accV : List V} (o : Out ρ1 H1 D accV ρ3 H3) (hD1 : H1 D = none) (e7 : Ext ρ3 ρ7 H3 H7) : Out ρ1 H1 D accV ρ7 H7 := by
 refine ⟨⟨o.e0.pre.trans e7.pre, fun a u i h => e7.im a u i (o.e0.im a u i h)⟩, fun a u na hu nr => e7.fr a u (o.fr a u na hu nr) fun z => (o.nw a z).elim nr fun z => by (rw [z] at hu; cases hu), fun a ha => ?_, fun z => (e7.nw D z).elim o.nD fun z => by (rw [o.hD] at z; cases z), e7.fr D _ o.hD o.nD⟩
 by_cases hr : a ∈ ρ1
 ·exact .inl hr
 ·right
  cases q : H1 a with
  | none => rfl
  | some u =>
   have aD : a ≠ D := aV q hD1
   rcases e7.nw a ha with z | z
   ·exact ((o.nw a z).elim hr fun z => by (rw [z] at q; cases q)).elim
   ·rw [o.fr a u aD q hr] at z; cases z
section
variable {X : Cx} {pos : Pos} {tg iter tg2 iter2 elt e : Expr} {ifs ifs2 : List Expr} {scope : Scope} {N : List Str} {cap : List (Option Nat)} {src src2 : Ic} {g g2 : Tg} {t t2 : Te} {c : Ex}
theorem AI.i0 {K : PySem.W.Frag} (hK : X.K = K) (h : AI X tg e src) : PI X tg e (L_ K src) := fun pins s σ H Q I ⟨ρ, S, τ, a, S', R, r, hc, q⟩ => h pins s σ H Q I ⟨ρ, S, τ, by rw [hK]; exact R, by rw [hK]; exact r, by rw [hc]; exact fun ρ' H' J e R' v' => q ρ' H' J e (by rw [<- hK]; exact R') (by rw [<- hK]; exact v')⟩
theorem A3 (hc : X.calm = true) (Sc : CpScope X scope N cap) (hi : AI X tg iter src) (hg : ∀ C s₀ H₀ ex, AG (b6 X scope N C s₀ H₀ ex) tg g) (ht : ∀ C s₀ H₀ ex, I_ (b6 X scope N C s₀ H₀ ex) ifs t) (hi2 : ∀ C s₀ H₀ ex, AI (b6 X scope N C s₀ H₀ ex) tg2 iter2 src2)
  (hg2 : ∀ C s₀ H₀ ex, AG (b6 X scope N C s₀ H₀ ex) tg2 g2) (ht2 : ∀ C s₀ H₀ ex, I_ (b6 X scope N C s₀ H₀ ex) ifs2 t2) (he : ∀ C s₀ H₀ ex, AE (b6 X scope N C s₀ H₀ ex) elt c)
  (hs : ∀ x, foldedSetIterable iter X.env x = pure x := by intro _; rfl) (hs2 : ∀ env x, foldedSetIterable iter2 env x = pure x := by intro _ _; rfl) : AE X (.ListComp elt [⟨tg, iter, ifs, 0⟩, ⟨tg2, iter2, ifs2, 0⟩] scope pos) (vS cap src g t src2 g2 t2 c) := by
 refine PE.imp (Ib hc Sc hi (g := I0 X.K g) (tc := GR X.K t) (wi2 := L_ X.K src2) (g2 := I0 X.K g2) (tc2 := GR X.K t2) (te := Jz X.K c) (fun C s₀ H₀ ex => (hg C s₀ H₀ ex).g0 rfl) (fun C s₀ H₀ ex => ht C s₀ H₀ ex) (fun C s₀ H₀ ex => (hi2 C s₀ H₀ ex).i0 rfl) (fun C s₀ H₀ ex => (hg2 C s₀ H₀ ex).g0 rfl) (fun C s₀ H₀ ex => ht2 C s₀ H₀ ex) (fun C s₀ H₀ ex => (he C s₀ H₀ ex).e0 rfl) hs hs2) fun σ H Q ⟨ρ, S, τ, R, r, h⟩ => ?_
 refine ⟨ρ, S, τ, R, r, aJ (aN h) .refl fun s S1 h1 ρ1 H1 J e1 R1 jr D hD => ?_⟩
 obtain ⟨ys, S2, hcg, h1⟩ := p5 h1
 obtain ⟨hlen, h1⟩ := bA h1
 have h1 : oM X ρ H Q (.ref S2.length) (S2 ++ [.lst ys]) := h1
 obtain ⟨eD, RD⟩ := R1.im (u := .lst []) hD
 have nD := R1.Bj hD
 refine ⟨fun i m σ' H' => m + i = s.k /\ ∃ ρ' S' τ' acc zs accV, Out ρ1 H1 D accV ρ' H' /\ Rel X.K ρ' H' S' /\ SR X.K ρ' H' τ' σ' /\ AVs X.K ρ' H' acc accV /\ gH s g t src2 g2 t2 c m i τ' S' = .ok zs S2 /\ acc ++ zs = ys,
  ⟨s.k, rfl, ρ1, S1, eW cap τ, [], ys, [], ⟨eD.toExt0, fun a u na hu _ => by rw [aO na]; exact hu, fun a ha => .inl ha, nD, bL⟩, RD, (Gd ((r.ext e1).ext eD) cap), .nil, hcg, rfl⟩, ?_⟩
 rintro i m σ3 H3 ⟨hm, ρ3, S3, τ3, acc, zs, accV, o3, R3, r3, ac3, cg3, eys⟩
 cases m with
 | zero =>
  left
  have cg3 : (if s.fin S3 then Am.R.ok [] S3 else .no) = .ok zs S2 := cg3
  cases hf : s.fin S3 with
  | false => rw [hf] at cg3; cases cg3
  | true =>
   rw [hf] at cg3
   cases cg3
   rw [List.append_nil] at eys
   subst eys
   refine ⟨by rw [show i = s.k by omega]; exact jr.stop _ H3 ρ3 o3.e0 R3 hf, ?_⟩
   obtain ⟨RT, gt⟩ := R3.take o3.hD o3.nD ac3
   refine h1 (ρ3 ++ [D]) H3 _ (e1.trans ⟨⟨o3.e0.pre.trans (List.prefix_append _ _), o3.e0.im⟩, fun a u hu na => o3.fr a u (aV hu hD) hu na, fun a ha => ?_⟩) RT (.ref gt)
   rcases List.mem_append.mp ha with z | z
   ·exact o3.nw a z
   ·have : a = D := by simpa using z
    rw [this]; exact .inr hD
 | succ m =>
  right
  obtain ⟨x, τ4, S4, b, S5, hx, hg4, ht5, hT, hF⟩ := sO cg3
  obtain ⟨hgo, hy⟩ := jr.go i S3 H3 ρ3 x o3.e0 R3 hx
  refine ⟨hgo, fun v H4 y => ?_⟩
  obtain ⟨e4, R4, v4⟩ := hy v H4 y
  refine ⟨ρ3, S3, τ3, x, τ4, S4, R4, r3.ext e4, v4, hg4, fun ρ5 H5 σ5 e5 R5 r5 => ?_⟩
  refine ⟨ρ5, S4, τ4, b, S5, R5, r5, ht5, fun ρ6 H6 e6 R6 => ?_⟩
  have e36 := (e4.trans e5).trans e6
  cases b with
  | false =>
   dsimp only
   rw [if_neg Bool.false_ne_true]
   exact ⟨m, Nat.lt_succ_self _, by omega, ρ6, S5, τ4, acc, zs, accV, o3.stay hD e36, R6, r5.ext e6, ac3.ext e36, hF rfl, eys⟩
  | true =>
   dsimp only
   rw [if_pos rfl]
   obtain ⟨s2, S6, ps, τ7, S7, ws, hs6, ci7, co7, ezs⟩ := hT rfl
   refine ⟨ρ6, S5, τ4, s2, S6, R6, r5.ext e6, hs6, fun ρ8 H8 J2 e8 R8 jr2 => ?_⟩
   have e38 := e36.trans e8
   have o8 := o3.stay hD e38
   refine ⟨fun i2 m2 σ' H' => m2 + i2 = s2.k /\ ∃ ρ' S' τ' acc2 qs accV2, Out ρ1 H1 D accV2 ρ' H' /\ Ext0 ρ8 ρ' H8 H' /\ Rel X.K ρ' H' S' /\ SR X.K ρ' H' τ' σ' /\ AVs X.K ρ' H' acc2 accV2 /\ iU s2 g2 t2 c m2 i2 τ' S' = .ok (qs, τ7) S7 /\ acc2 ++ qs = acc ++ ps,
    ⟨s2.k, rfl, ρ8, S6, τ4, acc, ps, accV, o8, ⟨List.prefix_refl _, fun _ _ _ h => h⟩, R8, r5.ext (e6.trans e8), ac3.ext e38, ci7, rfl⟩, ?_⟩
   rintro i2 m2 σ9 H9 ⟨hm2, ρ9, S9, τ9, acc9, qs, accV9, o9, e89, R9, r9, ac9, ci9, eqs⟩
   cases m2 with
   | zero =>
    left
    have ci9 : (if s2.fin S9 then Am.R.ok ([], τ9) S9 else .no) = .ok (qs, τ7) S7 := ci9
    cases hf : s2.fin S9 with
    | false => rw [hf] at ci9; cases ci9
    | true =>
     rw [hf] at ci9
     cases ci9
     rw [List.append_nil] at eqs
     subst eqs
     refine ⟨by rw [show i2 = s2.k by omega]; exact jr2.stop _ H9 ρ9 e89 R9 hf, m, Nat.lt_succ_self _, by omega, ρ9, _, _, _, ws, accV9, o9, R9, r9, ac9, co7, ?_⟩
     rw [List.append_assoc, <- ezs, eys]
   | succ m2 =>
    right
    obtain ⟨x9, τ10, S10, b10, S11, hx9, hg10, ht11, hT9, hF9⟩ := u5 ci9
    obtain ⟨hgo2, hy2⟩ := jr2.go i2 S9 H9 ρ9 x9 e89 R9 hx9
    refine ⟨hgo2, fun v10 H10 y10 => ?_⟩
    obtain ⟨e10, R10, v10'⟩ := hy2 v10 H10 y10
    refine ⟨ρ9, S9, τ9, x9, τ10, S10, R10, r9.ext e10, v10', hg10, fun ρ11 H11 σ11 e11 R11 r11 => ?_⟩
    refine ⟨ρ11, S10, τ10, b10, S11, R11, r11, ht11, fun ρ12 H12 e12 R12 => ?_⟩
    have e912 := (e10.trans e11).trans e12
    have o12 := o9.stay hD e912
    have e812 : Ext0 ρ8 ρ12 H8 H12 := ⟨e89.pre.trans e912.pre, fun a u i h => e912.im a u i (e89.im a u i h)⟩
    cases b10 with
    | false =>
     dsimp only
     rw [if_neg Bool.false_ne_true]
     exact ⟨m2, Nat.lt_succ_self _, by omega, ρ12, S11, τ10, acc9, qs, accV9, o12, e812, R12, r11.ext e12, ac9.ext e912, hF9 rfl, eqs⟩
    | true =>
     dsimp only
     rw [if_pos rfl]
     obtain ⟨y, S13, us, he13, ci13, eus⟩ := hT9 rfl
     refine ⟨ρ12, S11, τ10, y, S13, R12, r11.ext e12, he13, fun ρ14 H14 w e14 R14 v14 => ?_⟩
     have o14 := o12.stay hD e14
     obtain ⟨ex15, R15⟩ := R14.out (ws := accV9 ++ [w]) o14.hD o14.nD
     have l1 := ac9.length
     refine ⟨accV9, o14.hD, ?_, m2, Nat.lt_succ_self _, by omega, ρ14, S13, τ10, acc9 ++ [y], us, accV9 ++ [w], ⟨⟨o14.e0.pre, fun a u i h => ex15.im a u i (o14.e0.im a u i h)⟩, fun a u na hu nr => by rw [aO na]; exact o14.fr a u na hu nr, o14.nw, o14.nD, bL⟩, ⟨e812.pre.trans e14.pre, fun a u i h => ex15.im a u i (e14.im a u i (e812.im a u i h))⟩, R15, (r11.ext (e12.trans e14)).eF ex15, (AVs.eF ex15 ((ac9.ext (e912.trans e14)).append (.one v14))), ci13, ?_⟩
     ·have : ((acc ++ ps) ++ ws).length <= sizeLine := by rw [List.append_assoc, <- ezs, eys]; exact hlen
      rw [<- eqs, eus, List.length_append, List.length_append, List.length_cons] at this
      omega
     ·rw [List.append_assoc, <- eqs, eus]; rfl
end
end Am
namespace Am
open PySem PySem.Spec PyProof.Rows L2
section
variable {P : Program} {w : World} {K : PySem.W.Frag} {mg : Str -> Option Value} {base : Heap}
end
def LS (F : List A -> aH -> R A) (d : jF) : Ex := fun τ S => (d τ S).bind fun as S1 => F as S1
section
variable {X : Cx} {pos p : Pos} {e : Expr} {es : List Expr} {x : Str} {ps : List Str} {k : Nat} {F : List A -> aH -> R A} {d : jF}
end
def Mm : List Value := [.type "ValueError", .type "Exception", .type "BaseException", .type "object"]
def EL : List (Str ⊕ Ex) -> List A -> aH -> R Unit
 | [], _, S => .ok () S
 | .inl _ :: ps, τ, S => EL ps τ S
 | .inr e :: ps, τ, S => (e τ S).bind fun v S1 => match v with
  | .int i => gd (i.natAbs.log2 < 64) (EL ps τ S1)
  | _ => .no
def HP (c : Str) (ps : List (Str ⊕ Ex)) : Sm := fun τ S => .of (EL ps τ S) fun _ S1 => .ex c S1
section
variable {X : Cx} {pos np cpos fp : Pos} {x : Str} {C : Addr} {e1 e2 : Expr} {es : List Expr} {ps : List (Str ⊕ Ex)}
end
def Gm (i : Nat) : RS -> RS
 | .nx τ S => .nx (τ.set i .unb) S
 | .bk τ S => .bk (τ.set i .unb) S
 | .ct τ S => .ct (τ.set i .unb) S
 | .rt a S => .rt a S
 | _ => .no
def JO (i n : Nat) (cs : List Str) (c d : Sm) : Sm := fun τ S => match c τ S with
 | .ex x S1 => if x ∈ cs then Gm i (d ((List.replicate n .unb).set i (.exn x)) S1) else .no
 | r => r
section
variable {X : Cx} {pos np hp : Pos} {y n : Str} {Dc : Addr} {i : Nat} {body suite : List Stmt} {b0 : Stmt} {c d : Sm} {cs : List Str}
end
def LJ (f : Str -> Option Bool) (c : Ex) : Ex := fun τ S => (c τ S).bind fun v S1 => match v with
 | .exn x => opt (f x) fun b => .ok (.bl b) S1
 | _ => .no
section
variable {X : Cx} {pos p py : Pos} {a : Expr} {y : Str} {vy : V} {cy : Value} {f : Str -> Option Bool} {c : Ex}
end
structure ExcK (K : PySem.W.Frag) (U : Addr) (c : Str) (C : Addr) : Prop where
 n : Lh K c C
 q : PySem.W.excIn K C Mm "ValueError.__new__" = true
 r : L2.mroIn K C = some (.ref U :: Mm)
 x : XCls K C
 cl : (PySem.W.clsIn K C).isSome = true
 v : PySem.W.kitOne K (.ref C) (.type "ValueError") = some true
def J8 (tb : List (Str × Bool)) : Str -> Option Bool := fun x => tb.lookup x
section
variable {X : Cx} {pos p py : Pos} {a : Expr} {y : Str} {Cy : Addr} {tb : List (Str × Bool)} {c : Ex}
end
section
variable {P : Program} {w : World} {K : PySem.W.Frag} {mg : Str -> Option Value} {base : Heap}
end
def Kh (F : List A -> aH -> R A) (d : jF) : Ex := fun τ S => match d τ S with
 | .ok as S1 => F as S1
 | _ => .no
section
variable {X : Cx} {pos p : Pos} {e : Expr} {es : List Expr} {x : Str} {ps : List Str} {k : Nat} {F : List A -> aH -> R A} {d : jF}
def JL (t : Te) (c d : Sm) : Sm := fun τ S => match t τ S with
 | .ok true S1 => c τ S1
 | .ok false S1 => d τ S1
 | _ => .no
end
def FN (i : Nat) (cs : List Str) (c d : Sm) : Sm := fun τ S => match c τ S with
 | .ex x S1 => if x ∈ cs then Gm i (d (τ.set i (.exn x)) S1) else .no
 | r => r
section
variable {X : Cx} {pos np hp : Pos} {y n : Str} {Dc : Addr} {i : Nat} {suite : List Stmt} {b b0 : Stmt} {c d : Sm} {cs : List Str}
end
end Am
namespace L2
open PySem PySem.Spec PyProof.Rows
end L2
namespace Am
open PySem PySem.Spec PyProof.Rows L2
end Am
namespace Am
open PySem PySem.Spec PyProof.Rows L2
def Ky : Sm := fun _ _ => .no
theorem Cv {X : Cx} {st : Stmt} : AS X st Ky := PS.imp Bw fun D σ H ⟨ρ, S, τ, R, r, h⟩ => h.elim
theorem z6 {K : PySem.W.Frag} {H : Hp} {a : Addr} {ns : List Int} {F : List A -> aH -> R A} (hO : Ej H) (hS : gy K H a (ns.map V.int)) (h : ∃ S', F [.frz (ns.map .int)] [] = .ok (.bl true) S') : jb K 1 F [.ref a] H (fun v _ => v = .bl true) fun _ _ _ => False := by
 obtain ⟨S', h⟩ := h
 have fz : Fz K H a (ns.map V.int) := by
  rcases hS with (h | ⟨o, h⟩) | h
  ·rcases hO a with z | ⟨ob, xs, z⟩
   ·rw [h] at z; cases z
   ·rw [h] at z; cases z
  ·exact .inl ⟨o, h⟩
  ·exact .inr h
 exact ⟨rfl, [], [], _, _, S', ⟨rfl, List.nodup_nil, fun n a o h => by simp at h⟩, .cons (.frz fz (mJ ns)) .nil, h, fun ρ' H' v _ _ hv => qP hv⟩
section
variable {P : Program} {w : World} {K : PySem.W.Frag} {mg : Str -> Option Value} {base : Heap} {f : Addr} {fd : FuncData} {ps : List Str} {k n : Nat}
end
theorem xD {P : List Value -> Prop} (h : ∀ a0, P [a0]) : ∀ us : List Value, us.length = 1 -> P us
 | [_], _ => h _
theorem tP {P : List Value -> Prop} (h : ∀ a0 a1, P [a0, a1]) : ∀ us : List Value, us.length = 2 -> P us
 | [_, _], _ => h _ _
theorem KP {P : List Value -> Prop} (h : ∀ a0 a1 a2, P [a0, a1, a2]) : ∀ us : List Value, us.length = 3 -> P us
 | [_, _, _], _ => h _ _ _
end Am
namespace Am
open PySem L2
section
variable {α β : Type} {a b : A} {S S1 S2 : aH} {τ : List A} {x : α}
@[simp] theorem R.fO {f : α -> aH -> R β} : (R.ok x S).bind f = f x S := rfl
@[simp] theorem R.wX {f : α -> aH -> R β} {c : Str} : (R.ex c S : R α).bind f = .ex c S := rfl
@[simp] theorem R.bO {f : α -> aH -> R β} : (R.ok x S).c_ f = f x S := rfl
@[simp] theorem RS.of_ok {f : α -> aH -> RS} : RS.of (R.ok x S) f = f x S := rfl
@[simp] theorem RS.Gu {f : α -> aH -> RS} {c : Str} : RS.of (R.ex c S : R α) f = .ex c S := rfl
@[simp] theorem bZ {f : β -> R α} {y : β} : opt (some y) f = f y := rfl
@[simp] theorem xA {r : R α} : gd True r = r := if_pos trivial
theorem dF {c : Prop} [Decidable c] {r : R α} (h : c) : gd c r = r := if_pos h
@[simp] theorem wQ {i : Nat} : ah i τ S = bif (τ.getD i .unb).fX then .no else .ok (τ.getD i .unb) S := by unfold ah; cases (τ.getD i .unb).fX <;> rfl
@[simp] theorem xE {xs : List A} : A.fX (.tup xs) = false := rfl
@[simp] theorem yw {xs : List A} : A.fX (.frz xs) = false := rfl
@[simp] theorem yK {i : Int} : A.fX (.int i) = false := rfl
@[simp] theorem Bh {i : Bool} : A.fX (.bl i) = false := rfl
@[simp] theorem yF {i : Str} : A.fX (.str i) = false := rfl
@[simp] theorem yL {i : Nat} : A.fX (.ref i) = false := rfl
@[simp] theorem yV : A.fX .non = false := rfl
@[simp] theorem zd {i j : Int} : A.fX (.rng i j) = false := rfl
@[simp] theorem wI {c : Str} : A.fX (.exn c) = false := rfl
@[simp] theorem Fj : eC a τ S = .ok a S := rfl
def Jt (f : A -> A -> aH -> R A) (cb : Ex) (τ : List A) (a : A) (S : aH) : R A := (cb τ S).bind (f a)
@[simp] theorem x_ {f : A -> A -> aH -> R A} {cb : Ex} : Jt f cb τ a S = (cb τ S).bind (f a) := rfl
@[simp] theorem wU {f : A -> A -> aH -> R A} {ca cb : Ex} : aA f ca cb τ S = (ca τ S).bind (Jt f cb τ) := rfl
@[simp] theorem Aj {f : A -> aH -> R A} {ca : Ex} : CC f ca τ S = (ca τ S).bind f := rfl
@[simp] theorem yM {c : Ex} : kN c τ S = (c τ S).bind fun a S1 => opt (a.IZ S1) fun b => .ok b S1 := rfl
def aB (a : A) (S : aH) : R Bool := match a with
 | .bl b => .ok b S
 | _ => .no
@[simp] theorem Gs {b : Bool} : aB (.bl b) S = .ok b S := rfl
@[simp] theorem Cz {c : Ex} : jf c τ S = (c τ S).bind aB := rfl
@[simp] theorem xO {c : Te} : mP c τ S = (c τ S).bind fun b S1 => .ok (!b) S1 := rfl
def IM (d : Te) (τ : List A) (b : Bool) (S : aH) : R Bool := match b with | true => d τ S | false => .ok false S
def Lm (d : Te) (τ : List A) (b : Bool) (S : aH) : R Bool := match b with | true => .ok true S | false => d τ S
@[simp] theorem C_ {d : Te} : IM d τ true S = d τ S := rfl
@[simp] theorem z8 {d : Te} : IM d τ false S = .ok false S := rfl
@[simp] theorem Fi {d : Te} : Lm d τ true S = .ok true S := rfl
@[simp] theorem FO {d : Te} : Lm d τ false S = d τ S := rfl
@[simp] theorem yG {c d : Te} : qD c d τ S = (c τ S).bind (IM d τ) := rfl
@[simp] theorem Ca {c d : Te} : DZ c d τ S = (c τ S).bind (Lm d τ) := rfl
@[simp] theorem yd : iw τ S = .ok true S := rfl
def B5 (d : Ex) (τ : List A) (a : A) (S : aH) : R A := match a with | .bl true => d τ S | .bl false => .ok (.bl false) S | _ => .no
def Gv (d : Ex) (τ : List A) (a : A) (S : aH) : R A := match a with | .bl true => .ok (.bl true) S | .bl false => d τ S | _ => .no
@[simp] theorem yS {d : Ex} : B5 d τ (.bl true) S = d τ S := rfl
@[simp] theorem xG {d : Ex} : B5 d τ (.bl false) S = .ok (.bl false) S := rfl
@[simp] theorem BQ {d : Ex} : Gv d τ (.bl true) S = .ok (.bl true) S := rfl
@[simp] theorem B_ {d : Ex} : Gv d τ (.bl false) S = d τ S := rfl
@[simp] theorem yZ {c d : Ex} : vE c d τ S = (c τ S).bind (B5 d τ) := by
 unfold vE
 cases c τ S with
 | ok a S1 => cases a <;> first | rfl | (rename_i b; cases b <;> rfl)
 | _ => rfl
@[simp] theorem Ct {c d : Ex} : KN c d τ S = (c τ S).bind (Gv d τ) := by
 unfold KN
 cases c τ S with
 | ok a S1 => cases a <;> first | rfl | (rename_i b; cases b <;> rfl)
 | _ => rfl
def Gr (a : A) (S : aH) : R A := match a with | .bl b => .ok (.bl !b) S | _ => .no
@[simp] theorem um {b : Bool} : Gr (.bl b) S = .ok (.bl !b) S := rfl
@[simp] theorem xC {c : Ex} : Fc c τ S = (c τ S).bind Gr := rfl
def HU (c d : Ex) (τ : List A) (b : Bool) (S : aH) : R A := match b with | true => c τ S | false => d τ S
@[simp] theorem CS {c d : Ex} : HU c d τ true S = c τ S := rfl
@[simp] theorem A2 {c d : Ex} : HU c d τ false S = d τ S := rfl
@[simp] theorem Ac {t : Te} {c d : Ex} : Ms t c d τ S = (t τ S).bind (HU c d τ) := rfl
@[simp] theorem xm : aM τ S = .ok [] S := rfl
def vt (a : A) (as : List A) (S : aH) : R (List A) := .ok (a :: as) S
def Gh (d : jF) (τ : List A) (a : A) (S : aH) : R (List A) := (d τ S).bind (vt a)
@[simp] theorem qK {as : List A} : vt a as S = .ok (a :: as) S := rfl
@[simp] theorem uL {d : jF} : Gh d τ a S = (d τ S).bind (vt a) := rfl
@[simp] theorem vd {c : Ex} {d : jF} : aq c d τ S = (c τ S).bind (Gh d τ) := rfl
@[simp] theorem wR {d : jF} : jM d τ S = (d τ S).bind fun as S1 => gd (as.length <= sizeLine) (.ok (.tup as) S1) := rfl
@[simp] theorem yC {d : jF} : gr d τ S = (d τ S).bind newL := rfl
theorem bB {as : List A} (h : as.length <= 16777216) : newL as S = .ok (.ref S.length) (S ++ [.lst as]) := dF (by rw [sizeLine_eq]; exact h)
@[simp] theorem tN {f : List A -> aH -> R A} {d : jF} : aX f d τ S = (d τ S).bind f := rfl
def Lc (r : R A) : R A := match r with
 | .ok a S => .ok a S
 | _ => .no
@[simp] theorem Ax : Lc (.ok a S) = .ok a S := rfl
def L3 (f : List A -> aH -> R A) (as : List A) (S : aH) : R A := Lc (f as S)
@[simp] theorem AY {f : List A -> aH -> R A} {as : List A} : L3 f as S = Lc (f as S) := rfl
@[simp] theorem CM {f : List A -> aH -> R A} {d : jF} : eFn f d τ S = (d τ S).bind (L3 f) := rfl
@[simp] theorem FA {g : A -> aH -> R A} : f1 g [a] S = g a S := rfl
@[simp] theorem Gp {g : A -> A -> aH -> R A} : f2 g [a, b] S = g a b S := rfl
def GB (h : Pt) (τ : List A) (a : A) (l : Option Int) (S : aH) : R A := (h τ S).bind (zS a l)
def L6 (l h : Pt) (τ : List A) (a : A) (S : aH) : R A := (l τ S).bind (GB h τ a)
@[simp] theorem wD {h : Pt} {l : Option Int} : GB h τ a l S = (h τ S).bind (zS a l) := rfl
@[simp] theorem BW {l h : Pt} : L6 l h τ a S = (l τ S).bind (GB h τ a) := rfl
@[simp] theorem By {c : Ex} {l h : Pt} : lC c l h τ S = (c τ S).bind (L6 l h τ) := rfl
@[simp] theorem vj : cE τ S = .ok none S := rfl
def L8 (a : A) (S : aH) : R (Option Int) := match a with
 | .int i => .ok (some i) S
 | _ => .no
@[simp] theorem yI {i : Int} : L8 (.int i) S = .ok (some i) S := rfl
@[simp] theorem tZ {c : Ex} : cj c τ S = (c τ S).bind L8 := rfl
def HK (f : A -> List A -> aH -> R A) (d : jF) (τ : List A) (o : A) (S : aH) (_ : List A) : R A := (d τ S).bind (f o)
def LY (f : A -> List A -> aH -> R A) (d : jF) (τ : List A) (o : A) (S : aH) : R A := opt (o.lst? S) (HK f d τ o S)
@[simp] theorem xX {f : A -> List A -> aH -> R A} {d : jF} {xs : List A} : HK f d τ a S xs = (d τ S).bind (f a) := rfl
@[simp] theorem Bg {f : A -> List A -> aH -> R A} {d : jF} : LY f d τ a S = opt (a.lst? S) (HK f d τ a S) := rfl
@[simp] theorem Bp {f : A -> List A -> aH -> R A} {c : Ex} {d : jF} : DB f c d τ S = (c τ S).bind (LY f d τ) := rfl
@[simp] theorem yY {f : A -> List A -> aH -> R A} {c : Ex} : K6 f c τ S = (c τ S).bind fun o S1 => opt (o.lst? S1) fun _ => f o [] S1 := rfl
@[simp] theorem lst?_ref {n : Nat} : A.lst? S (.ref n) = au S n := rfl
def RS.seq (r : RS) (d : Sm) : RS := match r with
 | .nx τ S => d τ S
 | r => r
@[simp] theorem RS.AA {d : Sm} : RS.seq (.nx τ S) d = d τ S := rfl
@[simp] theorem RS.B8 {d : Sm} : RS.seq (.rt a S) d = .rt a S := rfl
@[simp] theorem RS.Be {d : Sm} {c : Str} : RS.seq (.ex c S) d = .ex c S := rfl
@[simp] theorem RS.C8 {d : Sm} : RS.seq (.bk τ S) d = .bk τ S := rfl
@[simp] theorem RS.BH {d : Sm} : RS.seq (.ct τ S) d = .ct τ S := rfl
@[simp] theorem wZ {c d : Sm} : bq c d τ S = RS.seq (c τ S) d := by unfold bq RS.seq; cases c τ S <;> rfl
@[simp] theorem y_ : iC τ S = .nx τ S := rfl
@[simp] theorem qR : HB τ S = .bk τ S := rfl
@[simp] theorem uT : JS τ S = .ct τ S := rfl
@[simp] theorem tK {e : Ex} : jS e τ S = RS.of (e τ S) fun _ S1 => .nx τ S1 := rfl
@[simp] theorem w4 {e : Ex} : bM e τ S = RS.of (e τ S) .rt := rfl
@[simp] theorem vm : J3 τ S = .rt .non S := rfl
def Kz (c d : Sm) (τ : List A) (b : Bool) (S : aH) : RS := match b with | true => c τ S | false => d τ S
@[simp] theorem Fo {c d : Sm} : Kz c d τ true S = c τ S := rfl
@[simp] theorem FF {c d : Sm} : Kz c d τ false S = d τ S := rfl
@[simp] theorem BU {t : Te} {c d : Sm} : qA t c d τ S = RS.of (t τ S) (Kz c d τ) := rfl
def Jp (g : Tg) (τ : List A) (a : A) (S : aH) : RS := RS.of (g a τ S) .nx
@[simp] theorem xP {g : Tg} : Jp g τ a S = RS.of (g a τ S) .nx := rfl
@[simp] theorem yP {e : Ex} {g : Tg} : bD e g τ S = RS.of (e τ S) (Jp g τ) := rfl
@[simp] theorem A6 {i : Nat} : bJ i a τ S = .ok (τ.set i a) S := rfl
def Hs (a o : A) (τ : List A) (i : A) (S : aH) : R (List A) := (uc o i a S).bind fun _ S3 => .ok τ S3
def Mj (ci : Ex) (τ : List A) (a o : A) (S : aH) : R (List A) := (ci τ S).bind (Hs a o τ)
@[simp] theorem xw {o i : A} : Hs a o τ i S = (uc o i a S).bind fun _ S3 => .ok τ S3 := rfl
@[simp] theorem Ba {ci : Ex} {o : A} : Mj ci τ a o S = (ci τ S).bind (Hs a o τ) := rfl
@[simp] theorem BJ {co ci : Ex} : zP co ci a τ S = (co τ S).bind (Mj ci τ a) := rfl
@[simp] theorem BV {n : Nat} {gs : DE} {xs : List A} : wG n gs (.tup xs) τ S = gd (xs.length = n) (gs xs τ S) := rfl
@[simp] theorem BL : yE [] τ S = .ok τ S := rfl
@[simp] theorem A4 {g : Tg} {gs : DE} {as : List A} : oq g gs (a :: as) τ S = (g a τ S).bind (gs as) := rfl
def Mf (i j : Nat) (τ : List A) (as : List A) (S : aH) : RS := match as with
 | [a, b] => .nx ((τ.set i a).set j b) S
 | _ => .no
@[simp] theorem Ah {i j : Nat} : Mf i j τ [a, b] S = .nx ((τ.set i a).set j b) S := rfl
@[simp] theorem yp {i j : Nat} {c : jF} : Le i j c τ S = RS.of (c τ S) (Mf i j τ) := rfl
def Dq (i : Nat) (τ : List A) (c : A) (S : aH) : RS := .nx (τ.set i c) S
def Jj (i : Nat) (f : A -> A -> aH -> R A) (τ : List A) (b : A) (S : aH) : RS := .of (f (τ.getD i .unb) b S) (Dq i τ)
@[simp] theorem tM {i : Nat} : Dq i τ a S = .nx (τ.set i a) S := rfl
@[simp] theorem ye {i : Nat} {f : A -> A -> aH -> R A} : Jj i f τ a S = .of (f (τ.getD i .unb) a S) (Dq i τ) := rfl
@[simp] theorem xY {i : Nat} {f : A -> A -> aH -> R A} {e : Ex} : z0 i f e τ S = bif (τ.getD i .unb).fX then .no else .of (e τ S) (Jj i f τ) := by
 unfold z0; cases (τ.getD i .unb).fX <;> rfl
def Lg (o i : A) (τ : List A) (z : A) (S : aH) : RS := .of (uc o i z S) fun _ S6 => .nx τ S6
def Lr (f : A -> A -> aH -> R A) (o i x : A) (τ : List A) (y : A) (S : aH) : RS := .of (f x y S) (Lg o i τ)
def LB (ce : Ex) (f : A -> A -> aH -> R A) (o i : A) (τ : List A) (x : A) (S : aH) : RS := .of (ce τ S) (Lr f o i x τ)
def K0 (ce : Ex) (f : A -> A -> aH -> R A) (o : A) (τ : List A) (i : A) (S : aH) : RS := .of (EW o i S) (LB ce f o i τ)
def Ma (ci ce : Ex) (f : A -> A -> aH -> R A) (τ : List A) (o : A) (S : aH) : RS := .of (ci τ S) (K0 ce f o τ)
@[simp] theorem Cm {o i : A} : Lg o i τ a S = .of (uc o i a S) fun _ S6 => .nx τ S6 := rfl
@[simp] theorem BP {f : A -> A -> aH -> R A} {o i x : A} : Lr f o i x τ a S = .of (f x a S) (Lg o i τ) := rfl
@[simp] theorem AH {ce : Ex} {f : A -> A -> aH -> R A} {o i : A} : LB ce f o i τ a S = .of (ce τ S) (Lr f o i a τ) := rfl
@[simp] theorem C1 {ce : Ex} {f : A -> A -> aH -> R A} {o : A} : K0 ce f o τ a S = .of (EW o a S) (LB ce f o a τ) := rfl
@[simp] theorem Di {ci ce : Ex} {f : A -> A -> aH -> R A} : Ma ci ce f τ a S = .of (ci τ S) (K0 ce f a τ) := rfl
@[simp] theorem t6 {co ci ce : Ex} {f : A -> A -> aH -> R A} : J0 co ci ce f τ S = RS.of (co τ S) (Ma ci ce f τ) := rfl
def RS.end (r : RS) : R A := match r with
 | .rt a S' => .ok a S'
 | .nx _ S' => .ok .non S'
 | .ex c S' => .ex c S'
 | _ => .no
@[simp] theorem RS.AD : RS.end (.rt a S) = .ok a S := rfl
@[simp] theorem RS.A0 : RS.end (.nx τ S) = .ok .non S := rfl
@[simp] theorem RS.Cr {c : Str} : RS.end (.ex c S) = .ex c S := rfl
theorem oY {N : List Str} {m : Sm} {as : List A} : dz N m as S = RS.end (m (as ++ List.replicate (N.length - as.length) .unb) S) := by
 unfold dz RS.end; cases m (as ++ List.replicate (N.length - as.length) .unb) S <;> rfl
@[simp] theorem Bk {i j : Int} : aW (.int i) (.int j) S = .ok (.int (i + j)) S := rfl
@[simp] theorem An {i j : Int} : aSub (.int i) (.int j) S = .ok (.int (i - j)) S := rfl
@[simp] theorem Cp {i j : Int} : GF (.int i) (.int j) S = .ok (.int (i + j)) S := rfl
theorem yH {i j : Int} (h : -18446744073709551616 < i) (h' : i < 18446744073709551616) : jo (.int i) (.int j) S = .ok (.int (i * j)) S := dF (by unfold uF; simp; left; exact ⟨by omega, by omega⟩)
theorem mul_r {i j : Int} (h : -18446744073709551616 < j) (h' : j < 18446744073709551616) : jo (.int i) (.int j) S = .ok (.int (i * j)) S := dF (by unfold uF; simp; right; exact ⟨by omega, by omega⟩)
theorem vB {i j : Int} (h : 0 < j) (h' : j < 1073741824) : vg (.int i) (.int j) S = .ok (.int (i / j)) S := dF ⟨h, by omega⟩
theorem qJ {i j : Int} (h : 0 < j) : oH (.int i) (.int j) S = .ok (.int (i % j)) S := dF h
@[simp] theorem FQ {i j : Int} : H_ (.int i) (.int j) S = .ok (.bl (decide (i < j))) S := rfl
@[simp] theorem Gf {i j : Int} : KH (.int i) (.int j) S = .ok (.bl (decide (i <= j))) S := rfl
@[simp] theorem Fy {i j : Int} : sq (.int i) (.int j) S = .ok (.bl (decide (j < i))) S := rfl
@[simp] theorem Ge {i j : Int} : Kx (.int i) (.int j) S = .ok (.bl (decide (j <= i))) S := rfl
@[simp] theorem Fg {i j : Bool} : CP false (.bl i) (.bl j) S = .ok (.bl (i == j)) S := rfl
@[simp] theorem Bu {i j : Bool} : CP true (.bl i) (.bl j) S = .ok (.bl (i != j)) S := rfl
@[simp] theorem Cu {i : Int} : vN (.int i) S = .ok (.int (-i)) S := rfl
@[simp] theorem B9 {xs : List A} : eK (.tup xs) S = .ok (.int xs.length) S := rfl
@[simp] theorem AX {xs : List A} : eK (.frz xs) S = .ok (.int xs.length) S := rfl
@[simp] theorem DA {n : Nat} : eK (.ref n) S = opt (au S n) fun xs => .ok (.int xs.length) S := rfl
@[simp] theorem BY {i : Int} : sC (.int i) S = .ok (.int (if i < 0 then -i else i)) S := rfl
@[simp] theorem wV {i j : Int} : A5 (.int i) (.int j) S = .ok (.int (if j > i then j else i)) S := rfl
@[simp] theorem yh {i j : Int} : Dg (.int i) (.int j) S = .ok (.int (if j < i then j else i)) S := rfl
@[simp] theorem xj {i : Int} : vp (.int i) S = .ok (.int i) S := rfl
@[simp] theorem xU {i : Bool} : vp (.bl i) S = .ok (.int (if i then 1 else 0)) S := rfl
@[simp] theorem qT {i j : Int} : mY (.int i) (.int j) S = .ok (.rng i j) S := rfl
@[simp] theorem Fv {xs : List A} {i : Int} : cI (.tup xs) (.int i) S = opt (d8 xs i) fun x => .ok x S := rfl
@[simp] theorem F_ {xs : List A} {i : Int} : cI (.frz xs) (.int i) S = opt (d8 xs i) fun x => .ok x S := rfl
@[simp] theorem FT {n : Nat} {i : Int} : cI (.ref n) (.int i) S = opt (au S n) fun xs => opt (d8 xs i) fun x => .ok x S := rfl
@[simp] theorem Bo {n : Nat} {k : Int} : uc (.ref n) (.int k) a S = opt (au S n) fun xs => opt (oW xs.length k) fun j => .ok () (S.set n (.lst (xs.set j a))) := rfl
@[simp] theorem Cn {n : Nat} {i : Int} : EW (.ref n) (.int i) S = opt (au S n) fun xs => gd (0 <= i) (opt (xs[i.toNat]?) fun x => .ok x S) := rfl
theorem rA {i j : Int} (h : n_ i j) : ir (.rng i j) S = .ok (.ref S.length) (S ++ [.lst ((aS i j).map .int)]) := dF h
theorem vP {i j : Int} (h : n_ i j) : iM (.rng i j) S = .ok (.tup ((aS i j).map .int)) S := dF h
@[simp] theorem yg {xs : List A} : ir (.tup xs) S = .ok (.ref S.length) (S ++ [.lst xs]) := rfl
@[simp] theorem yb {xs : List A} : ir (.frz xs) S = .ok (.ref S.length) (S ++ [.lst xs]) := rfl
@[simp] theorem xy {n : Nat} : ir (.ref n) S = opt (au S n) fun xs => .ok (.ref S.length) (S ++ [.lst xs]) := rfl
@[simp] theorem ug {xs : List A} : iM (.tup xs) S = .ok (.tup xs) S := rfl
@[simp] theorem uY {n : Nat} : iM (.ref n) S = opt (au S n) fun xs => .ok (.tup xs) S := rfl
@[simp] theorem Cs {xs : List A} : wo (.tup xs) S = .ok (.tup xs.reverse) S := rfl
@[simp] theorem Bq {n : Nat} : wo (.ref n) S = opt (au S n) fun xs => .ok (.ref S.length) (S ++ [.lst xs.reverse]) := rfl
@[simp] theorem Gk {n : Nat} {l u : Option Int} : zS (.ref n) l u S = opt (au S n) fun xs => .ok (.ref S.length) (S ++ [.lst (eN xs l u)]) := rfl
@[simp] theorem mj {n : Nat} : gK (.ref n) [a] S = opt (au S n) fun xs => gd (xs.length < sizeLine) (.ok .non (S.set n (.lst (xs ++ [a])))) := rfl
@[simp] theorem CQ {b : Bool} : A.IZ (.bl b) S = some b := rfl
@[simp] theorem yq {i : Int} : A.IZ (.int i) S = some (i != 0) := rfl
theorem Hz {o : O} : (S ++ [o])[S.length]? = some o := by simp
@[simp] theorem aK {xs : List A} : au (S ++ [.lst xs]) S.length = some xs := qb Hz
theorem aZ {o : O} {n : Nat} {xs : List A} (h : au S n = some xs) : au (S ++ [o]) n = some xs := by
 have h' := aU h
 exact qb (by rw [List.getElem?_append_left (List.getElem?_eq_some_iff.mp h').1]; exact h')
theorem bH {n : Nat} {xs : List A} (h : au S n = some xs) : n < S.length := (List.getElem?_eq_some_iff.mp (aU h)).1
theorem cH {n : Nat} {ys : List A} (h : n < S.length) : au (S.set n (.lst ys)) n = some ys := qb (List.getElem?_set_self h)
theorem bz {n m : Nat} {ys : List A} (h : n ≠ m) : au (S.set n (.lst ys)) m = au S m := by unfold au; rw [List.getElem?_set_ne h]
theorem iy {xs : List A} {i : Int} {k : Nat} {x : A} (h : i = k) (hx : xs[k]? = some x) : d8 xs i = some x := by rw [h]; exact ES hx
theorem ie {n : Nat} {i : Int} {k : Nat} (h : i = k) (hk : k < n) : oW n i = some k := by
 subst h
 unfold oW
 rw [if_pos (by omega), if_pos (by omega)]
 simp
end
end Am
namespace Am
open PySem L2
structure Kp (b : Nat -> Prop) (S S' : aH) : Prop where
 len : S.length <= S'.length
 lst : ∀ n xs, ¬ b n -> au S n = some xs -> au S' n = some xs
abbrev b5 := Kp fun _ => False
theorem Kp.refl {b : Nat -> Prop} {S : aH} : Kp b S S := ⟨Nat.le_refl _, fun _ _ _ h => h⟩
theorem Kp.trans {b : Nat -> Prop} {S S1 S2 : aH} (h : Kp b S S1) (h' : Kp b S1 S2) : Kp b S S2 := ⟨Nat.le_trans h.len h'.len, fun n xs hb e => h'.lst n xs hb (h.lst n xs hb e)⟩
theorem Kp.lay {b : Nat -> Prop} {S S1 : aH} {o : O} (h : Kp b S S1) : Kp b S (S1 ++ [o]) := ⟨Nat.le_trans h.len (by simp), fun n xs hb e => aZ (h.lst n xs hb e)⟩
theorem Kp.set {b : Nat -> Prop} {S S1 : aH} {m : Nat} {ys : List A} (h : Kp b S S1) (hm : b m \/ S.length <= m) : Kp b S (S1.set m (.lst ys)) := ⟨by rw [List.length_set]; exact h.len, fun n xs hb e => by
 have : m ≠ n := fun z => by
  subst z
  rcases hm with z | z
  ·exact hb z
  ·exact absurd (bH e) (by omega)
 rw [bz this]
 exact h.lst n xs hb e⟩
theorem Kp.mono {b c : Nat -> Prop} {S S1 : aH} (h : Kp b S S1) (hb : ∀ n, n < S.length -> b n -> c n) : Kp c S S1 := ⟨h.len, fun n xs hc e => h.lst n xs (fun z => hc (hb n (bH e) z)) e⟩
theorem Kp.of0 {b : Nat -> Prop} {S S1 : aH} (h : b5 S S1) : Kp b S S1 := h.mono fun _ _ z => z.elim
theorem g_ {t : Te} {c : Sm} (Inv : List A -> aH -> Prop) (μ : List A -> aH -> Nat) (Post : RS -> Prop)
  (h : ∀ τ S, Inv τ S -> (∃ S1, t τ S = .ok false S1 /\ Post (.nx τ S1)) \/ (∃ S1, t τ S = .ok true S1 /\ ((∃ τ' S', c τ S1 = .nx τ' S' /\ Inv τ' S' /\ μ τ' S' < μ τ S) \/ (∃ a S', c τ S1 = .rt a S' /\ Post (.rt a S'))))) :
  ∀ n τ S, Inv τ S -> μ τ S < n -> Post (dX t c n τ S)
 | 0, _, _, _, hn => absurd hn (Nat.not_lt_zero _)
 | n + 1, τ, S, hi, hn => by
  unfold dX
  rcases h τ S hi with ⟨S1, e, q⟩ | ⟨S1, e, ⟨τ', S', e2, hi', hm⟩ | ⟨a, S', e2, q⟩⟩
  ·rw [e]; exact q
  ·rw [e]
   show Post (match c τ S1 with
    | .nx τ' S' => dX t c n τ' S'
    | .ct τ' S' => dX t c n τ' S'
    | .bk τ' S' => .nx τ' S'
    | r => r)
   rw [e2]
   exact g_ Inv μ Post h n τ' S' hi' (by omega)
  ·rw [e]
   show Post (match c τ S1 with
    | .nx τ' S' => dX t c n τ' S'
    | .ct τ' S' => dX t c n τ' S'
    | .bk τ' S' => .nx τ' S'
    | r => r)
   rw [e2]
   exact q
theorem o6 {s : Src} {g : Tg} {c : Sm} (Inv : Nat -> List A -> aH -> Prop) (Post : RS -> Prop)
  (step : ∀ i τ S, i < s.k -> Inv i τ S -> ∃ x τ1 S1, s.get i S = some x /\ g x τ S = .ok τ1 S1 /\ ((∃ τ' S', c τ1 S1 = .nx τ' S' /\ Inv (i + 1) τ' S') \/ (∃ a S', c τ1 S1 = .rt a S' /\ Post (.rt a S'))))
  (fin : ∀ τ S, Inv s.k τ S -> s.fin S = true /\ Post (.nx τ S)) : ∀ k i τ S, k + i = s.k -> Inv i τ S -> Post (iK s g c k i τ S)
 | 0, i, τ, S, hk, hi => by
  have : i = s.k := by omega
  subst this
  obtain ⟨hf, q⟩ := fin τ S hi
  unfold iK
  rw [if_pos hf]
  exact q
 | k + 1, i, τ, S, hk, hi => by
  obtain ⟨x, τ1, S1, hx, hg, h⟩ := step i τ S (by omega) hi
  unfold iK
  rw [hx]
  show Post (RS.of (g x τ S) fun τ1 S1 => match c τ1 S1 with
   | .nx τ' S' => iK s g c k (i + 1) τ' S'
   | .ct τ' S' => iK s g c k (i + 1) τ' S'
   | .bk τ' S' => .nx τ' S'
   | r => r)
  rw [hg]
  show Post (match c τ1 S1 with
   | .nx τ' S' => iK s g c k (i + 1) τ' S'
   | .ct τ' S' => iK s g c k (i + 1) τ' S'
   | .bk τ' S' => .nx τ' S'
   | r => r)
  rcases h with ⟨τ', S', e, hi'⟩ | ⟨a, S', e, q⟩
  ·rw [e]; exact o6 Inv Post step fin k (i + 1) τ' S' (by omega) hi'
  ·rw [e]; exact q
theorem gI {lo hi : Int} {j : Nat} {c : Sm} {src : Ic} {τ : List A} {S S1 : aH} (hs : src τ S = .ok (cT lo hi) S1) (Inv : Nat -> List A -> aH -> Prop) (Post : RS -> Prop) (h0 : Inv 0 τ S1)
  (step : ∀ (i : Nat) τ S, (i : Int) < hi - lo -> Inv i τ S -> (∃ τ' S', c (τ.set j (.int (lo + i))) S = .nx τ' S' /\ Inv (i + 1) τ' S') \/ (∃ a S', c (τ.set j (.int (lo + i))) S = .rt a S' /\ Post (.rt a S')))
  (fin : ∀ τ S, Inv (hi - lo).toNat τ S -> Post (.nx τ S)) : Post (gP src (bJ j) c τ S) := by
 unfold gP
 rw [hs]
 refine o6 (s := cT lo hi) Inv Post (fun i τ S hi' h => ?_) (fun τ S h => ⟨rfl, fin τ S h⟩) _ 0 τ S1 rfl h0
 have hi' : i < (hi - lo).toNat := hi'
 exact ⟨.int (lo + i), _, S, if_pos hi', rfl, step i τ S (by omega) h⟩
theorem GX {xs : List A} {g : Tg} {c : Sm} {src : Ic} {τ : List A} {S S1 : aH} (hs : src τ S = .ok (uZ xs) S1) (Inv : Nat -> List A -> aH -> Prop) (Post : RS -> Prop) (h0 : Inv 0 τ S1)
  (step : ∀ (i : Nat) x τ S, xs[i]? = some x -> Inv i τ S -> ∃ τ1 S1, g (.tup [.int i, x]) τ S = .ok τ1 S1 /\ ((∃ τ' S', c τ1 S1 = .nx τ' S' /\ Inv (i + 1) τ' S') \/ (∃ a S', c τ1 S1 = .rt a S' /\ Post (.rt a S'))))
  (fin : ∀ τ S, Inv xs.length τ S -> Post (.nx τ S)) : Post (gP src g c τ S) := by
 unfold gP
 rw [hs]
 refine o6 (s := uZ xs) Inv Post (fun i τ S hi' h => ?_) (fun τ S h => ⟨rfl, fin τ S h⟩) _ 0 τ S1 rfl h0
 have hi' : i < xs.length := hi'
 obtain ⟨τ1, S1, e, q⟩ := step i xs[i] τ S (List.getElem?_eq_getElem hi') h
 exact ⟨.tup [.int i, xs[i]], τ1, S1, by show (xs[i]?).map _ = _; rw [List.getElem?_eq_getElem hi']; rfl, e, q⟩
theorem oR {n : Nat} {xs : List A} {g : Tg} {c : Sm} {src : Ic} {τ : List A} {S S1 : aH} (hs : src τ S = .ok (eG n xs.length) S1) (Inv : Nat -> List A -> aH -> Prop) (Post : RS -> Prop) (h0 : Inv 0 τ S1) (hl : ∀ i τ S, Inv i τ S -> au S n = some xs)
  (step : ∀ (i : Nat) x τ S, xs[i]? = some x -> Inv i τ S -> ∃ τ1 S1, g x τ S = .ok τ1 S1 /\ ((∃ τ' S', c τ1 S1 = .nx τ' S' /\ Inv (i + 1) τ' S') \/ (∃ a S', c τ1 S1 = .rt a S' /\ Post (.rt a S'))))
  (fin : ∀ τ S, Inv xs.length τ S -> Post (.nx τ S)) : Post (gP src g c τ S) := by
 unfold gP
 rw [hs]
 refine o6 (s := eG n xs.length) Inv Post (fun i τ S hi' h => ?_) (fun τ S h => ⟨?_, fin τ S h⟩) _ 0 τ S1 rfl h0
 ·have hi' : i < xs.length := hi'
  obtain ⟨τ1, S1, e, q⟩ := step i xs[i] τ S (List.getElem?_eq_getElem hi') h
  exact ⟨xs[i], τ1, S1, by show (au S n).bind _ = _; rw [hl i τ S h]; exact List.getElem?_eq_getElem hi', e, q⟩
 ·show (match au S n with
   | some ys => decide (ys.length <= xs.length)
   | none => false) = true
  rw [hl _ τ S h]
  exact decide_eq_true (Nat.le_refl _)
@[simp] theorem dD {c : Ex} {τ : List A} {S S1 : aH} {j : Int} (h : c τ S = .ok (.int j) S1) (hb : bnd j) : fC c τ S = .ok (cT 0 j) S1 := by
 unfold fC; rw [h]; exact dF hb
theorem jc {c d : Ex} {τ : List A} {S S1 S2 : aH} {i j : Int} (h : c τ S = .ok (.int i) S1) (h' : d τ S1 = .ok (.int j) S2) (hb : bnd i) (hb' : bnd j) : fW c d τ S = .ok (cT i j) S2 := by
 unfold fW; rw [h]; show (d τ S1).bind _ = _; rw [h']; exact dF ⟨hb, hb'⟩
theorem jm {c : Ex} {τ : List A} {S S1 : aH} {n : Nat} {xs : List A} (h : c τ S = .ok (.ref n) S1) (hl : au S1 n = some xs) : j8 c τ S = .ok (eG n xs.length) S1 := by
 unfold j8; rw [h]; show opt (au S1 n) _ = _; rw [hl]; rfl
theorem GN {c : Ex} {τ : List A} {S S1 : aH} {xs : List A} (h : c τ S = .ok (.tup xs) S1) : Ec c τ S = .ok (uZ xs) S1 := by unfold Ec; rw [h]; rfl
theorem oQ {s : Src} {g : Tg} {t : Te} {e : Ex} {P : aH -> Prop} {T : List A -> Prop} (it : Nat -> A) (p : Nat -> Bool) (f : Nat -> A)
  (hget : ∀ i S, i < s.k -> P S -> s.get i S = some (it i)) (hfin : ∀ S, P S -> s.fin S = true)
  (step : ∀ i τ S, i < s.k -> T τ -> P S -> ∃ τ1 S1 S2, g (it i) τ S = .ok τ1 S1 /\ t τ1 S1 = .ok (p i) S2 /\ T τ1 /\ (p i = false -> P S2) /\ (p i = true -> ∃ S3, e τ1 S2 = .ok (f i) S3 /\ P S3)) :
  ∀ k i τ S, k + i = s.k -> T τ -> P S -> ∃ S', cK s g t e k i τ S = .ok (((List.range' i k).filter p).map f) S' /\ P S'
 | 0, i, τ, S, hk, hT, hP => ⟨S, by unfold cK; rw [if_pos (hfin S hP)]; rfl, hP⟩
 | k + 1, i, τ, S, hk, hT, hP => by
  obtain ⟨τ1, S1, S2, hg, ht, hT1, hF, hTr⟩ := step i τ S (by omega) hT hP
  unfold cK
  rw [hget i S (by omega) hP, bZ, hg, R.bO, ht, R.bO, List.range'_succ, List.filter_cons]
  cases hp : p i with
  | false =>
   obtain ⟨S', h1, h2⟩ := oQ it p f hget hfin step k (i + 1) τ1 S2 (by omega) hT1 (hF hp)
   exact ⟨S', by simpa using h1, h2⟩
  | true =>
   obtain ⟨S3, he, hP3⟩ := hTr hp
   obtain ⟨S', h1, h2⟩ := oQ it p f hget hfin step k (i + 1) τ1 S3 (by omega) hT1 hP3
   refine ⟨S', ?_, h2⟩
   show (e τ1 S2).c_ _ = _
   rw [he, R.bO, h1]
   rfl
theorem rD {s : Src} {cap : List (Option Nat)} {src : Ic} {t : Te} {e : Ex} {τ : List A} {S S1 : aH} (hs : src τ S = .ok s S1) (it : Nat -> A) (p : Nat -> Bool) (f : Nat -> A) (hget : ∀ i, i < s.k -> s.get i S1 = some (it i)) (hfin : s.fin S1 = true)
  (ht : ∀ i, i < s.k -> t (it i :: eW cap τ) S1 = .ok (p i) S1) (he : ∀ i, i < s.k -> p i = true -> e (it i :: eW cap τ) S1 = .ok (f i) S1) (hl : s.k <= 16777216) :
  cJ (none :: cap) src (bJ 0) t e τ S = .ok (.ref S1.length) (S1 ++ [.lst (((List.range s.k).filter p).map f)]) := by
 unfold cJ
 rw [hs, R.fO]
 obtain ⟨S', h1, h2⟩ := oQ (s := s) (g := bJ 0) (t := t) (e := e) (P := fun S => S = S1) (T := fun τ' => ∃ y, τ' = y :: eW cap τ) it p f (fun i S hi h => by subst h; exact hget i hi) (fun S h => by subst h; exact hfin)
  (fun i τ' S hi ⟨y, hy⟩ h => by
   subst h hy
   exact ⟨it i :: eW cap τ, S, S, rfl, ht i hi, ⟨_, rfl⟩, fun _ => rfl, fun hp => ⟨S, he i hi hp, rfl⟩⟩) s.k 0 (eW (none :: cap) τ) S1 rfl ⟨_, rfl⟩ rfl
 subst h2
 rw [h1, R.bO, List.range_eq_range']
 refine bB ?_
 rw [List.length_map]
 refine Nat.le_trans (List.length_filter_le _ _) ?_
 rw [List.length_range']
 exact hl
theorem i_ {α β : Type} (xs : List α) (p : α -> Bool) (f : α -> β) : ∀ (d : α) , (((List.range xs.length).filter fun i => p (xs.getD i d)).map fun i => f (xs.getD i d)) = (xs.filter p).map f := by
 intro d
 induction xs with
 | nil => rfl
 | cons x xs ih =>
  rw [List.length_cons, List.range_succ_eq_map, List.filter_cons, List.filter_cons]
  have e : ((List.filter (fun i => p ((x :: xs).getD i d)) (List.map Nat.succ (List.range xs.length))).map fun i => f ((x :: xs).getD i d)) = (xs.filter p).map f := by
   rw [List.filter_map, List.map_map]
   rw [<- ih]
   rfl
  show List.map _ (if p x = true then _ else _) = List.map f (if p x = true then _ else _)
  by_cases hp : p x = true
  ·rw [if_pos hp, if_pos hp, List.map_cons, List.map_cons, e]; rfl
  ·rw [if_neg hp, if_neg hp, e]
theorem iY {lo hi : Int} {cap : List (Option Nat)} {src : Ic} {t : Te} {e : Ex} {τ : List A} {S S1 : aH} (hs : src τ S = .ok (cT lo hi) S1) (p : Int -> Bool) (f : Int -> A)
  (ht : ∀ k, lo <= k -> k < hi -> t (.int k :: eW cap τ) S1 = .ok (p k) S1) (he : ∀ k, lo <= k -> k < hi -> p k = true -> e (.int k :: eW cap τ) S1 = .ok (f k) S1) (hl : (hi - lo).toNat <= 16777216) :
  cJ (none :: cap) src (bJ 0) t e τ S = .ok (.ref S1.length) (S1 ++ [.lst (((aS lo hi).filter p).map f)]) := by
 rw [rD hs (fun i => .int (lo + i)) (fun i => p (lo + i)) (fun i => f (lo + i)) (fun i hi' => if_pos hi') rfl (fun i hi' => ht _ (by omega) (by have : i < (hi - lo).toNat := hi'; omega)) (fun i hi' => he _ (by omega) (by have : i < (hi - lo).toNat := hi'; omega)) hl]
 unfold aS
 rw [List.filter_map, List.map_map]
 rfl
@[simp] theorem BK {cap : List (Option Nat)} {τ : List A} : eW (none :: cap) τ = .unb :: eW cap τ := rfl
@[simp] theorem Cd {cap : List (Option Nat)} {τ : List A} {j : Nat} : eW (some j :: cap) τ = τ.getD j .unb :: eW cap τ := rfl
@[simp] theorem uD {τ : List A} : eW [] τ = [] := rfl
theorem za {x : A} {xs : List A} : d8 (x :: xs) 0 = some x := iy (k := 0) rfl rfl
theorem BF {x y : A} {xs : List A} : d8 (x :: y :: xs) 1 = some y := iy (k := 1) rfl rfl
theorem rR {ns : List Int} {i : Int} {k : Nat} {x : Int} (h : i = k) (hx : ns[k]? = some x) : d8 (ns.map A.int) i = some (.int x) := iy h (by rw [List.getElem?_map, hx]; rfl)
theorem cu {j : Int} (h : -4611686018427387904 <= j) (h' : j < 4611686018427387904) : bnd j := ⟨by omega, by omega⟩
theorem pJ {i j : Int} (h1 : -1000000 <= i) (h2 : i <= 1000000) (h3 : -1000000 <= j) (h4 : j <= 1000000) (h5 : j - i <= 1000) : n_ i j := ⟨⟨by omega, by omega, by omega, by omega⟩, by omega⟩
theorem ints_map : ∀ (ns : List Int), A.ints (ns.map .int) = some ns
 | [] => rfl
 | n :: ns => by show (A.ints (ns.map .int)).map (n :: ·) = _; rw [ints_map ns]; rfl
theorem kD {S : aH} {n : Nat} : ∀ (xs ys : List Int), jd (mC S (n + 1)) (xs.map .int) (ys.map .int) = some (decide (xs = ys))
 | [], [] => rfl
 | [], _ :: _ => rfl
 | _ :: _, [] => rfl
 | x :: xs, y :: ys => by
  show (mC S (n + 1) (.int x) (.int y)).bind _ = _
  show Option.bind (some (x == y)) _ = _
  show Option.map _ (jd (mC S (n + 1)) (xs.map .int) (ys.map .int)) = _
  rw [kD xs ys]
  show some (x == y && decide (xs = ys)) = _
  by_cases h1 : x = y <;> by_cases h2 : xs = ys <;> simp [h1, h2]
theorem AZ {S : aH} {xs ys : List Int} : iW false (.tup (xs.map .int)) (.tup (ys.map .int)) S = .ok (.bl (decide (xs = ys))) S := by
 unfold iW
 show opt (jd (mC S 11) _ _) _ = _
 rw [kD]; rfl
@[simp] theorem FW {S : aH} {x y : Bool} : iW false (.bl x) (.bl y) S = .ok (.bl (x == y)) S := rfl
@[simp] theorem Ga {S : aH} {x y : Bool} : iW true (.bl x) (.bl y) S = .ok (.bl (!(x == y))) S := rfl
@[simp] theorem Fl {S : aH} {x y : Int} : iW false (.int x) (.int y) S = .ok (.bl (x == y)) S := rfl
@[simp] theorem FE {S : aH} {x y : Int} : iW true (.int x) (.int y) S = .ok (.bl (!(x == y))) S := rfl
@[simp] theorem wL {S : aH} : CP false .non .non S = .ok (.bl true) S := rfl
@[simp] theorem wW {S : aH} {xs : List A} : CP false (.tup xs) .non S = .ok (.bl false) S := rfl
@[simp] theorem w9 {S : aH} {n : Nat} : CP false (.ref n) .non S = .ok (.bl false) S := rfl
@[simp] theorem ve {S : aH} : CP true .non .non S = .ok (.bl false) S := rfl
@[simp] theorem uh {S : aH} {xs : List A} : CP true (.tup xs) .non S = .ok (.bl true) S := rfl
@[simp] theorem uK {S : aH} {n : Nat} : CP true (.ref n) .non S = .ok (.bl true) S := rfl
@[simp] theorem xN {S : aH} {x : A} {c : String} : se x (.ty c) S = opt (x.kd S) fun k => opt (o7 k c) fun b => .ok (.bl b) S := rfl
@[simp] theorem FZ {S : aH} {b : Bool} : A.kd (.bl b) S = some .bl := rfl
@[simp] theorem Az {S : aH} {b : Int} : A.kd (.int b) S = some .int := rfl
@[simp] theorem BG {S : aH} {b : List A} : A.kd (.tup b) S = some .tup := rfl
@[simp] theorem Cg {S : aH} : A.kd .non S = some .non := rfl
@[simp] theorem Ck {S : aH} {b : Str} : A.kd (.str b) S = some .str := rfl
@[simp] theorem CN {S : aH} {n : Nat} : A.kd (.ref n) S = (au S n).map fun _ => .lst := rfl
@[simp] theorem BO {S : aH} : newL [] S = .ok (.ref S.length) (S ++ [.lst []]) := bB (by simp)
@[simp] theorem CY {S : aH} {x0 : A} : newL [x0] S = .ok (.ref S.length) (S ++ [.lst [x0]]) := bB (by simp)
@[simp] theorem Ce {S : aH} {x0 x1 : A} : newL [x0, x1] S = .ok (.ref S.length) (S ++ [.lst [x0, x1]]) := bB (by simp)
@[simp] theorem Br {S : aH} {x0 x1 x2 : A} : newL [x0, x1, x2] S = .ok (.ref S.length) (S ++ [.lst [x0, x1, x2]]) := bB (by simp)
@[simp] theorem CO {S : aH} {x0 x1 x2 x3 : A} : newL [x0, x1, x2, x3] S = .ok (.ref S.length) (S ++ [.lst [x0, x1, x2, x3]]) := bB (by simp)
@[simp] theorem Dt {S : aH} {x0 x1 x2 x3 x4 : A} : newL [x0, x1, x2, x3, x4] S = .ok (.ref S.length) (S ++ [.lst [x0, x1, x2, x3, x4]]) := bB (by simp)
@[simp] theorem Ak {S : aH} {x0 x1 x2 x3 x4 x5 : A} : newL [x0, x1, x2, x3, x4, x5] S = .ok (.ref S.length) (S ++ [.lst [x0, x1, x2, x3, x4, x5]]) := bB (by simp)
@[simp] theorem Dk {S : aH} {x0 x1 x2 x3 x4 x5 x6 : A} : newL [x0, x1, x2, x3, x4, x5, x6] S = .ok (.ref S.length) (S ++ [.lst [x0, x1, x2, x3, x4, x5, x6]]) := bB (by simp)
@[simp] theorem Bd {S : aH} {x0 x1 x2 x3 x4 x5 x6 x7 : A} : newL [x0, x1, x2, x3, x4, x5, x6, x7] S = .ok (.ref S.length) (S ++ [.lst [x0, x1, x2, x3, x4, x5, x6, x7]]) := bB (by simp)
@[simp] theorem Df {S : aH} {x0 x1 x2 x3 x4 x5 x6 x7 x8 : A} : newL [x0, x1, x2, x3, x4, x5, x6, x7, x8] S = .ok (.ref S.length) (S ++ [.lst [x0, x1, x2, x3, x4, x5, x6, x7, x8]]) := bB (by simp)
@[simp] theorem xS {S : aH} {x0 x1 x2 x3 x4 x5 x6 x7 x8 x9 : A} : newL [x0, x1, x2, x3, x4, x5, x6, x7, x8, x9] S = .ok (.ref S.length) (S ++ [.lst [x0, x1, x2, x3, x4, x5, x6, x7, x8, x9]]) := bB (by simp)
theorem kr {α : Type} {n : Nat} {r : R α} (h : n <= 16777216) : gd (n <= sizeLine) r = r := dF (by rw [sizeLine_eq]; exact h)
theorem uO {α : Type} {n : Nat} {r : R α} (h : n < 16777216) : gd (n < sizeLine) r = r := dF (by rw [sizeLine_eq]; exact h)
end Am
namespace Am
open PySem L2
theorem Gn {x : A} {xs : List A} : (x :: xs).getD 0 .unb = x := rfl
theorem Gq {x : A} {xs : List A} {n : Nat} : (x :: xs).getD (n + 1) .unb = xs.getD n .unb := rfl
theorem JB {x y : A} {xs : List A} : (x :: xs).set 0 y = y :: xs := rfl
theorem sets {x y : A} {xs : List A} {n : Nat} : (x :: xs).set (n + 1) y = x :: xs.set n y := rfl
theorem rep0 {x : A} : List.replicate 0 x = [] := rfl
theorem reps {x : A} {n : Nat} : List.replicate (n + 1) x = x :: List.replicate n x := rfl
theorem Ko {x : A} {xs ys : List A} : (x :: xs) ++ ys = x :: (xs ++ ys) := rfl
theorem Kv {ys : List A} : [] ++ ys = ys := rfl
theorem jC {S : aH} {n m : Nat} {xs ys : List A} (h : au S n = some xs) (h' : au S m = some ys) (hl : xs.length + ys.length <= 16777216) : aW (.ref n) (.ref m) S = .ok (.ref S.length) (S ++ [.lst (xs ++ ys)]) := by
 show opt (au S n) _ = _
 rw [h, bZ, h', bZ]
 exact dF (by rw [sizeLine_eq]; exact hl)
theorem bw : type_of% (And.intro @R.fO (And.intro @R.wX (And.intro @R.bO (And.intro @RS.of_ok (And.intro @RS.Gu (And.intro @bZ (And.intro @xA (And.intro @wQ (And.intro @xE (And.intro @yw (And.intro @yK (And.intro @Bh (And.intro @yF (And.intro @yL (And.intro @yV (And.intro @zd (And.intro @wI (And.intro @Fj (And.intro @wU (And.intro @Aj (And.intro @yM (And.intro @Gs (And.intro @Cz (And.intro @xO (And.intro @yG (And.intro @Ca (And.intro @yd (And.intro @yS (And.intro @xG (And.intro @BQ (And.intro @B_ (And.intro @yZ (And.intro @Ct (And.intro @um (And.intro @xC (And.intro @Ac (And.intro @xm (And.intro @vd (And.intro @wR (And.intro @yC (And.intro @tN (And.intro @Ax (And.intro @CM (And.intro @FA (And.intro @Gp (And.intro @By (And.intro @vj (And.intro @yI (And.intro @tZ (And.intro @Bp (And.intro @yY (And.intro @lst?_ref (And.intro @RS.AA (And.intro @RS.B8 (And.intro @RS.Be (And.intro @RS.C8 (And.intro @RS.BH (And.intro @wZ (And.intro @y_ (And.intro @qR (And.intro @uT (And.intro @tK (And.intro @w4 (And.intro @vm (And.intro @BU (And.intro @yP (And.intro @A6 (And.intro @BJ (And.intro @BV (And.intro @BL (And.intro @A4 (And.intro @Ah (And.intro @yp (And.intro @xY (And.intro @t6 (And.intro @RS.AD (And.intro @RS.A0 (And.intro @RS.Cr (And.intro @Bk (And.intro @An (And.intro @Cp (And.intro @FQ (And.intro @Gf (And.intro @Fy (And.intro @Ge (And.intro @Fg (And.intro @Bu (And.intro @Cu (And.intro @B9 (And.intro @AX (And.intro @DA (And.intro @BY (And.intro @wV (And.intro @yh (And.intro @xj (And.intro @xU (And.intro @qT (And.intro @Fv (And.intro @F_ (And.intro @FT (And.intro @Bo (And.intro @Cn (And.intro @yg (And.intro @yb (And.intro @xy (And.intro @ug (And.intro @uY (And.intro @Cs (And.intro @Bq (And.intro @Gk (And.intro @mj (And.intro @CQ (And.intro @yq (And.intro @aK (And.intro @BK (And.intro @Cd (And.intro @uD (And.intro @FW (And.intro @Ga (And.intro @Fl (And.intro @FE (And.intro @wL (And.intro @wW (And.intro @w9 (And.intro @ve (And.intro @uh (And.intro @uK (And.intro @xN (And.intro @FZ (And.intro @Az (And.intro @BG (And.intro @Cg (And.intro @Ck (And.intro @CN (And.intro @BO (And.intro @CY (And.intro @Ce (And.intro @Br (And.intro @CO (And.intro @Dt (And.intro @Ak (And.intro @Dk (And.intro @Bd (And.intro @Df (And.intro @xS (And.intro @Gn (And.intro @Gq (And.intro @JB (And.intro @sets (And.intro @rep0 (And.intro @reps (And.intro @Ko (And.intro @Kv (And.intro @oY (And.intro @x_ (And.intro @C_ (And.intro @z8 (And.intro @Fi (And.intro @FO (And.intro @CS (And.intro @A2 (And.intro @qK (And.intro @uL (And.intro @AY (And.intro @wD (And.intro @BW (And.intro @xX (And.intro @Bg (And.intro @Fo (And.intro @FF (And.intro @xP (And.intro @xw (And.intro @Ba (And.intro @tM (And.intro @ye (And.intro @Di (And.intro @C1 (And.intro @AH (And.intro @BP (@Cm)))))))))))))))))))))))))))))))))))))))))))))))))))))))))))))))))))))))))))))))))))))))))))))))))))))))))))))))))))))))))))))))))))))))))))))))))))))))))))))))))))))))))))))))))))) := And.intro @R.fO (And.intro @R.wX (And.intro @R.bO (And.intro @RS.of_ok (And.intro @RS.Gu (And.intro @bZ (And.intro @xA (And.intro @wQ (And.intro @xE (And.intro @yw (And.intro @yK (And.intro @Bh (And.intro @yF (And.intro @yL (And.intro @yV (And.intro @zd (And.intro @wI (And.intro @Fj (And.intro @wU (And.intro @Aj (And.intro @yM (And.intro @Gs (And.intro @Cz (And.intro @xO (And.intro @yG (And.intro @Ca (And.intro @yd (And.intro @yS (And.intro @xG (And.intro @BQ (And.intro @B_ (And.intro @yZ (And.intro @Ct (And.intro @um (And.intro @xC (And.intro @Ac (And.intro @xm (And.intro @vd (And.intro @wR (And.intro @yC (And.intro @tN (And.intro @Ax (And.intro @CM (And.intro @FA (And.intro @Gp (And.intro @By (And.intro @vj (And.intro @yI (And.intro @tZ (And.intro @Bp (And.intro @yY (And.intro @lst?_ref (And.intro @RS.AA (And.intro @RS.B8 (And.intro @RS.Be (And.intro @RS.C8 (And.intro @RS.BH (And.intro @wZ (And.intro @y_ (And.intro @qR (And.intro @uT (And.intro @tK (And.intro @w4 (And.intro @vm (And.intro @BU (And.intro @yP (And.intro @A6 (And.intro @BJ (And.intro @BV (And.intro @BL (And.intro @A4 (And.intro @Ah (And.intro @yp (And.intro @xY (And.intro @t6 (And.intro @RS.AD (And.intro @RS.A0 (And.intro @RS.Cr (And.intro @Bk (And.intro @An (And.intro @Cp (And.intro @FQ (And.intro @Gf (And.intro @Fy (And.intro @Ge (And.intro @Fg (And.intro @Bu (And.intro @Cu (And.intro @B9 (And.intro @AX (And.intro @DA (And.intro @BY (And.intro @wV (And.intro @yh (And.intro @xj (And.intro @xU (And.intro @qT (And.intro @Fv (And.intro @F_ (And.intro @FT (And.intro @Bo (And.intro @Cn (And.intro @yg (And.intro @yb (And.intro @xy (And.intro @ug (And.intro @uY (And.intro @Cs (And.intro @Bq (And.intro @Gk (And.intro @mj (And.intro @CQ (And.intro @yq (And.intro @aK (And.intro @BK (And.intro @Cd (And.intro @uD (And.intro @FW (And.intro @Ga (And.intro @Fl (And.intro @FE (And.intro @wL (And.intro @wW (And.intro @w9 (And.intro @ve (And.intro @uh (And.intro @uK (And.intro @xN (And.intro @FZ (And.intro @Az (And.intro @BG (And.intro @Cg (And.intro @Ck (And.intro @CN (And.intro @BO (And.intro @CY (And.intro @Ce (And.intro @Br (And.intro @CO (And.intro @Dt (And.intro @Ak (And.intro @Dk (And.intro @Bd (And.intro @Df (And.intro @xS (And.intro @Gn (And.intro @Gq (And.intro @JB (And.intro @sets (And.intro @rep0 (And.intro @reps (And.intro @Ko (And.intro @Kv (And.intro @oY (And.intro @x_ (And.intro @C_ (And.intro @z8 (And.intro @Fi (And.intro @FO (And.intro @CS (And.intro @A2 (And.intro @qK (And.intro @uL (And.intro @AY (And.intro @wD (And.intro @BW (And.intro @xX (And.intro @Bg (And.intro @Fo (And.intro @FF (And.intro @xP (And.intro @xw (And.intro @Ba (And.intro @tM (And.intro @ye (And.intro @Di (And.intro @C1 (And.intro @AH (And.intro @BP (@Cm)))))))))))))))))))))))))))))))))))))))))))))))))))))))))))))))))))))))))))))))))))))))))))))))))))))))))))))))))))))))))))))))))))))))))))))))))))))))))))))))))))))))))))))))))))
theorem bools : (∀ b : Bool, cond false b b = b) /\ (∀ (α : Type) (x y : α), cond false x y = y) /\ (∀ (α : Type) (x y : α), cond true x y = x) := ⟨fun _ => rfl, fun _ _ _ => rfl, fun _ _ _ => rfl⟩
theorem dW : (∀ (x : Str) (xs : List Str), (x :: xs).length = xs.length + 1) /\ ([] : List Str).length = 0 /\ (∀ (x : A) (xs : List A), (x :: xs).length = xs.length + 1) /\ ([] : List A).length = 0 := ⟨fun _ _ => rfl, rfl, fun _ _ => rfl, rfl⟩
end Am
namespace Am
open PySem L2
section
variable {τ : List A} {S : aH}
theorem wY {f : List A -> aH -> R A} {d : jF} : LS f d τ S = (d τ S).bind f := rfl
def Mc (c : Str) : Unit -> aH -> RS := fun _ S1 => .ex c S1
theorem BI {c : Str} {u : Unit} : Mc c u S = .ex c S := rfl
theorem qY {c : Str} {ps : List (Str ⊕ Ex)} : HP c ps τ S = RS.of (EL ps τ S) (Mc c) := rfl
theorem xg : EL [] τ S = .ok () S := rfl
theorem w6 {x : Str} {ps : List (Str ⊕ Ex)} : EL (.inl x :: ps) τ S = EL ps τ S := rfl
def MA (ps : List (Str ⊕ Ex)) (τ : List A) : A -> aH -> R Unit := fun v S1 => match v with
 | .int i => gd (i.natAbs.log2 < 64) (EL ps τ S1)
 | _ => .no
theorem xx {e : Ex} {ps : List (Str ⊕ Ex)} : EL (.inr e :: ps) τ S = (e τ S).bind (MA ps τ) := rfl
def RS.try (i n : Nat) (cs : List Str) (d : Sm) : RS -> RS
 | .ex x S1 => if x ∈ cs then Gm i (d ((List.replicate n .unb).set i (.exn x)) S1) else .no
 | r => r
theorem yW {i n : Nat} {cs : List Str} {c d : Sm} : JO i n cs c d τ S = RS.try i n cs d (c τ S) := by
 unfold JO RS.try; cases c τ S <;> rfl
theorem Ai {i n : Nat} {cs : List Str} {d : Sm} : RS.try i n cs d (.nx τ S) = .nx τ S := rfl
theorem Ds {i n : Nat} {cs : List Str} {d : Sm} {a : A} : RS.try i n cs d (.rt a S) = .rt a S := rfl
theorem Ad {i n : Nat} {x : Str} {cs : List Str} {d : Sm} : RS.try i n (x :: cs) d (.ex x S) = Gm i (d ((List.replicate n .unb).set i (.exn x)) S) := if_pos (.head _)
theorem B0 {i : Nat} {a : A} : Gm i (.rt a S) = .rt a S := rfl
theorem BC {i : Nat} : Gm i (.nx τ S) = .nx (τ.set i .unb) S := rfl
def Ja (f : Str -> Option Bool) : A -> aH -> R A := fun v S1 => match v with
 | .exn x => opt (f x) fun b => .ok (.bl b) S1
 | _ => .no
theorem ya {f : Str -> Option Bool} {c : Ex} : LJ f c τ S = (c τ S).bind (Ja f) := rfl
theorem CU {x : Str} {b : Bool} {tb : List (Str × Bool)} : Ja (J8 ((x, b) :: tb)) (.exn x) S = .ok (.bl b) S := by
 show opt (List.lookup x ((x, b) :: tb)) _ = _
 rw [List.lookup_cons, beq_self_eq_true]; rfl
def R.B7 {α β : Type} (r : R α) (f : α -> aH -> R β) : R β := match r with
 | .ok a S => f a S
 | _ => .no
theorem uw {α β : Type} {a : α} {f : α -> aH -> R β} : R.B7 (.ok a S) f = f a S := rfl
theorem yQ {f : List A -> aH -> R A} {d : jF} : Kh f d τ S = R.B7 (d τ S) f := by unfold Kh R.B7; cases d τ S <;> rfl
def RS.KY {α : Type} (r : R α) (f : α -> aH -> RS) : RS := match r with
 | .ok a S => f a S
 | _ => .no
theorem Du {α : Type} {a : α} {f : α -> aH -> RS} : RS.KY (.ok a S) f = f a S := rfl
theorem y9 {t : Te} {c d : Sm} : JL t c d τ S = RS.KY (t τ S) (Kz c d τ) := by
 unfold JL RS.KY
 cases t τ S with
 | ok b S1 => cases b <;> rfl
 | ex _ _ => rfl
 | no => rfl
def RS.AM (i : Nat) (cs : List Str) (d : Sm) (τ : List A) : RS -> RS
 | .ex x S1 => if x ∈ cs then Gm i (d (τ.set i (.exn x)) S1) else .no
 | r => r
theorem uG {i : Nat} {cs : List Str} {c d : Sm} : FN i cs c d τ S = RS.AM i cs d τ (c τ S) := by
 unfold FN RS.AM; cases c τ S <;> rfl
theorem xZ {i : Nat} {cs : List Str} {d : Sm} {τ' : List A} : RS.AM i cs d τ (.nx τ' S) = .nx τ' S := rfl
theorem wO {i : Nat} {cs : List Str} {d : Sm} {a : A} : RS.AM i cs d τ (.rt a S) = .rt a S := rfl
theorem xr {i : Nat} {x : Str} {cs : List Str} {d : Sm} : RS.AM i (x :: cs) d τ (.ex x S) = Gm i (d (τ.set i (.exn x)) S) := if_pos (.head _)
theorem ur : A.Eu [] = some [] := rfl
theorem nE {b : Bool} {xs : List A} : A.Eu (.bl b :: xs) = (A.Eu xs).map (b :: ·) := rfl
end
theorem Fq : type_of% (And.intro @wY (And.intro @qY (And.intro @BI (And.intro @xg (And.intro @w6 (And.intro @xx (And.intro @yW (And.intro @Ai (And.intro @Ds (And.intro @Ad (And.intro @B0 (And.intro @BC (And.intro @ya (And.intro @CU (And.intro @ur (And.intro @nE (And.intro @uw (And.intro @yQ (And.intro @Du (And.intro @y9 (And.intro @uG (And.intro @xZ (And.intro @wO (And.intro @xr (trivial))))))))))))))))))))))))) := And.intro @wY (And.intro @qY (And.intro @BI (And.intro @xg (And.intro @w6 (And.intro @xx (And.intro @yW (And.intro @Ai (And.intro @Ds (And.intro @Ad (And.intro @B0 (And.intro @BC (And.intro @ya (And.intro @CU (And.intro @ur (And.intro @nE (And.intro @uw (And.intro @yQ (And.intro @Du (And.intro @y9 (And.intro @uG (And.intro @xZ (And.intro @wO (And.intro @xr (trivial))))))))))))))))))))))))
end Am
namespace Bl
open L2
def cnt : List Int -> Int -> Int
 | [], _ => 0
 | x :: l, j => (if j <= x then 1 else 0) + cnt l j
def Below (xs ys : List Int) : Prop := ∀ (i : Nat) (j : Int), cnt (xs.take i) j <= cnt (ys.take i) j
theorem cnt_append (a b : List Int) (j : Int) : cnt (a ++ b) j = cnt a j + cnt b j := by
 induction a with
 | nil => simp [cnt]
 | cons x a ih => rw [List.cons_append, cnt, cnt, ih]; omega
theorem zc {l : List Int} {p : Nat} (h : p < l.length) (v : Int) (i : Nat) (j : Int) :
  cnt ((l.set p v).take i) j = cnt (l.take i) j + (if p < i then (if j <= v then 1 else 0) - (if j <= l[p] then 1 else 0) else 0) := by
 induction l generalizing p i with
 | nil => cases h
 | cons x l ih =>
  cases i with
  | zero => simp [cnt]
  | succ i =>
   cases p with
   | zero =>
    show (if j <= v then 1 else 0) + cnt (l.take i) j = (if j <= x then 1 else 0) + cnt (l.take i) j + _
    rw [if_pos (Nat.succ_pos _)]
    show _ = (if j <= x then 1 else 0) + cnt (l.take i) j + ((if j <= v then 1 else 0) - (if j <= x then 1 else 0))
    omega
   | succ p =>
    show (if j <= x then 1 else 0) + cnt ((l.set p v).take i) j = (if j <= x then 1 else 0) + cnt (l.take i) j + _
    have hp : p < l.length := Nat.lt_of_succ_lt_succ h
    rw [ih hp]
    by_cases z : p < i
    ·rw [if_pos z, if_pos (Nat.succ_lt_succ z)]
     show _ = (if j <= x then 1 else 0) + cnt (l.take i) j + ((if j <= v then 1 else 0) - (if j <= l[p] then 1 else 0))
     omega
    ·rw [if_neg z, if_neg (fun y => z (Nat.lt_of_succ_lt_succ y))]
     omega
theorem uy {l : List Int} {p q : Nat} (hp : p < l.length) (hq : q < l.length) (hpq : p < q) (h : l[p] < l[q]) : Below l ((l.set p l[q]).set q l[p]) := by
 intro i j
 have hq' : q < (l.set p l[q]).length := by rw [List.length_set]; exact hq
 rw [zc hq', zc hp]
 have e : (l.set p l[q])[q] = l[q] := by rw [List.getElem_set_ne (Nat.ne_of_lt hpq)]
 rw [e]
 (repeat' split) <;> omega
def gB (a b : List Int) : Prop := a.length = b.length /\ ∀ (p : Nat) (h : p < a.length), b[(a[p] - 1).toNat]? = some ((p : Int) + 1)
end Bl
namespace Am
open PySem L2 Bl
theorem Jr {S : aH} {n : Nat} {x : A} {k : Nat} (h : au S n = some [x]) (hk : k <= 16777216) : jo (.ref n) (.int k) S = .ok (.ref S.length) (S ++ [.lst (List.replicate k x)]) := by
 show opt (au S n) _ = _
 rw [h, bZ]
 have e : (List.replicate k [x]).flatten = List.replicate k x := by
  induction k with
  | zero => rfl
  | succ k ih => rw [List.replicate_succ, List.flatten_cons, ih (by omega)]; rfl
 rw [dF ⟨by omega, by omega, by rw [sizeLine_eq, Int.toNat_natCast]; simpa using hk⟩, Int.toNat_natCast, e]
theorem BB {xs : List Int} {n : Int} (h : xs.Perm (aS 1 (n + 1))) (hn : 0 <= n) : (xs.length : Int) = n := by
 rw [h.length_eq, cP]; omega
theorem u7 {xs : List Int} {n x : Int} (h : xs.Perm (aS 1 (n + 1))) (hx : x ∈ xs) : 1 <= x /\ x <= n := by
 have := cG.mp (h.mem_iff.mp hx)
 omega
end Am
namespace Tb
def fg (r : List Int) (x : Int) : Nat := r.findIdx fun y => decide (x < y)
def put : List (List Int) -> Int -> List (List Int)
 | [], x => [[x]]
 | r :: rs, x => if fg r x = r.length then (r ++ [x]) :: rs else r.set (fg r x) x :: put rs (r.getD (fg r x) 0)
def row : List (List Int) -> Int -> Nat
 | [], _ => 0
 | r :: rs, x => if fg r x = r.length then 0 else row rs (r.getD (fg r x) 0) + 1
def gs (r : List Int) (x : Int) : List Nat := (List.range r.length).filter fun k => decide (x < r.getD k 0)
end Tb
namespace Am
open PySem L2
def Rows (S : aH) : List Nat -> List (List Int) -> Prop
 | [], [] => True
 | r :: rs, x :: T => au S r = some (x.map .int) /\ Rows S rs T
 | _, _ => False
theorem Rows.len {S : aH} : ∀ {rs : List Nat} {T : List (List Int)}, Rows S rs T -> rs.length = T.length
 | [], [], _ => rfl
 | _ :: _, _ :: _, h => congrArg (· + 1) (Rows.len h.2)
 | [], _ :: _, h => h.elim
 | _ :: _, [], h => h.elim
theorem Rows.get {S : aH} : ∀ {rs : List Nat} {T : List (List Int)} {i : Nat} {r : Nat}, Rows S rs T -> rs[i]? = some r -> i < T.length /\ au S r = some ((T.getD i []).map .int)
 | [], [], _, _, _, e => by simp at e
 | r :: rs, x :: T, 0, _, h, e => by simp at e; subst e; exact ⟨Nat.zero_lt_succ _, h.1⟩
 | r :: rs, x :: T, i + 1, q, h, e => by
  obtain ⟨h1, h2⟩ := Rows.get (i := i) (r := q) h.2 (by simpa using e)
  exact ⟨Nat.succ_lt_succ h1, by simpa using h2⟩
 | [], _ :: _, _, _, h, _ => h.elim
 | _ :: _, [], _, _, h, _ => h.elim
theorem Rows.mono {S S' : aH} : ∀ {rs : List Nat} {T : List (List Int)}, Rows S rs T -> (∀ r ∈ rs, ∀ xs, au S r = some xs -> au S' r = some xs) -> Rows S' rs T
 | [], [], _, _ => trivial
 | r :: rs, x :: T, h, k => ⟨k r (List.mem_cons_self ..) _ h.1, Rows.mono h.2 fun q hq => k q (List.mem_cons_of_mem _ hq)⟩
 | [], _ :: _, h, _ => h.elim
 | _ :: _, [], h, _ => h.elim
theorem Rows.mk {S : aH} : ∀ {rs : List Nat} {T : List (List Int)}, rs.length = T.length -> (∀ i, i < T.length -> au S (rs.getD i 0) = some ((T.getD i []).map .int)) -> Rows S rs T
 | [], [], _, _ => trivial
 | r :: rs, x :: T, hl, h => ⟨h 0 (Nat.zero_lt_succ _), Rows.mk (by simpa using hl) fun i hi => by have := h (i + 1) (Nat.succ_lt_succ hi); simpa using this⟩
 | [], _ :: _, h, _ => by simp at h
 | _ :: _, [], h, _ => by simp at h
theorem Rows.app {S : aH} : ∀ {rs rs' : List Nat} {T T' : List (List Int)}, Rows S rs T -> Rows S rs' T' -> Rows S (rs ++ rs') (T ++ T')
 | [], _, [], _, _, h => h
 | r :: rs, _, x :: T, _, h, h' => ⟨h.1, Rows.app h.2 h'⟩
 | [], _, _ :: _, _, h, _ => h.elim
 | _ :: _, _, [], _, h, _ => h.elim
theorem ny {S : aH} {n : Nat} : ∀ {rs rs' : List Nat} {T T' : List (List Int)}, Rows S rs T -> Rows S rs' T' -> jd (mC S (n + 2)) (rs.map .ref) (rs'.map .ref) = some (decide (T = T'))
 | [], [], [], [], _, _ => rfl
 | [], _ :: _, [], _ :: _, _, _ => rfl
 | _ :: _, [], _ :: _, [], _, _ => rfl
 | r :: rs, q :: qs, x :: T, y :: T', h, h' => by
  show (mC S (n + 2) (.ref r) (.ref q)).bind _ = _
  have e : mC S (n + 2) (.ref r) (.ref q) = some (decide (x = y)) := by
   show (au S r).bind (fun xs => (au S q).bind fun ys => jd (mC S (n + 1)) xs ys) = _
   rw [h.1, Option.bind_some, h'.1, Option.bind_some]
   exact kD x y
  rw [e, Option.bind_some]
  show Option.map _ (jd (mC S (n + 2)) (rs.map .ref) (qs.map .ref)) = _
  rw [ny h.2 h'.2]
  show some (decide (x = y) && decide (T = T')) = _
  by_cases h1 : x = y <;> by_cases h2 : T = T' <;> simp [h1, h2]
 | [], _, _ :: _, _, h, _ => h.elim
 | _ :: _, _, [], _, h, _ => h.elim
 | _, [], _, _ :: _, _, h => h.elim
 | _, _ :: _, _, [], _, h => h.elim
structure Tab (S : aH) (n : Nat) (rs : List Nat) (T : List (List Int)) : Prop where
 top : au S n = some (rs.map .ref)
 rows : Rows S rs T
 nd : (n :: rs).Nodup
theorem Tab.len {S : aH} {n : Nat} {rs : List Nat} {T : List (List Int)} (h : Tab S n rs T) : rs.length = T.length := h.rows.len
theorem Tab.kp {S S' : aH} {n : Nat} {rs : List Nat} {T : List (List Int)} {c : Nat -> Prop} (h : Tab S n rs T) (k : Kp c S S') (hc : ∀ r ∈ n :: rs, ¬ c r) : Tab S' n rs T :=
 ⟨k.lst _ _ (hc n (List.mem_cons_self ..)) h.top, h.rows.mono fun r hr xs e => k.lst r xs (hc r (List.mem_cons_of_mem _ hr)) e, h.nd⟩
theorem Tab.GK {S S' : aH} {n : Nat} {rs : List Nat} {T : List (List Int)} (h : Tab S n rs T) (k : b5 S S') : Tab S' n rs T := h.kp k fun _ _ z => z
theorem Rows.lt {S : aH} {rs : List Nat} {T : List (List Int)} (h : Rows S rs T) : ∀ r ∈ rs, r < S.length := fun r hr => by
 obtain ⟨i, hi, e⟩ := List.mem_iff_getElem.mp hr
 exact bH (h.get (by rw [List.getElem?_eq_getElem hi, e])).2
theorem Tab.lt {S : aH} {n : Nat} {rs : List Nat} {T : List (List Int)} (h : Tab S n rs T) : ∀ r ∈ n :: rs, r < S.length := fun r hr => by
 rcases List.mem_cons.mp hr with z | z
 ·rw [z]; exact bH h.top
 ·exact h.rows.lt r z
theorem Tab.push {S : aH} {n : Nat} {rs : List Nat} {T : List (List Int)} {ys : List Int} (h : Tab S n rs T) : Tab ((S ++ [O.lst (ys.map .int)]).set n (.lst ((rs ++ [S.length]).map .ref))) n (rs ++ [S.length]) (T ++ [ys]) := by
 have hn : n < S.length := h.lt n (List.mem_cons_self ..)
 have nn : ∀ r ∈ rs, n ≠ r := fun r hr z => (List.nodup_cons.mp h.nd).1 (z ▸ hr)
 refine ⟨cH (by rw [List.length_append]; simp; omega), Rows.app (h.rows.mono fun r hr xs e => ?_) ⟨?_, trivial⟩, ?_⟩
 ·rw [bz (nn r hr)]; exact aZ e
 ·rw [bz (by omega)]; exact aK
 ·rw [List.nodup_cons, List.nodup_append]
  refine ⟨fun z => ?_, (List.nodup_cons.mp h.nd).2, by simp, fun a ha b hb z => ?_⟩
  ·rcases List.mem_append.mp z with z | z
   ·exact nn n z rfl
   ·have : n = S.length := by simpa using z
    omega
  ·have hb' : b = S.length := by simpa using hb
   have := h.rows.lt a ha
   omega
theorem Tab.eq {S : aH} {n m : Nat} {rs qs : List Nat} {T U : List (List Int)} (h : Tab S n rs T) (h' : Tab S m qs U) : mC S 12 (.ref n) (.ref m) = some (decide (T = U)) := by
 show (au S n).bind (fun xs => (au S m).bind fun ys => jd (mC S 11) xs ys) = _
 rw [h.top, Option.bind_some, h'.top, Option.bind_some]
 exact ny h.rows h'.rows
theorem Tab.nil {S : aH} {n : Nat} (h : au S n = some []) : Tab S n [] [] := ⟨h, trivial, by simp⟩
theorem xV {s : Src} {g : Tg} {e : Ex} {T : List A -> Prop} (P : Nat -> aH -> Prop) (it : Nat -> A) (f : Nat -> A)
  (hget : ∀ i S, i < s.k -> P i S -> s.get i S = some (it i)) (hfin : ∀ S, P s.k S -> s.fin S = true)
  (step : ∀ i τ S, i < s.k -> T τ -> P i S -> ∃ τ1 S1 S3, g (it i) τ S = .ok τ1 S1 /\ T τ1 /\ e τ1 S1 = .ok (f i) S3 /\ P (i + 1) S3) :
  ∀ k i τ S, k + i = s.k -> T τ -> P i S -> ∃ S', cK s g iw e k i τ S = .ok ((List.range' i k).map f) S' /\ P s.k S'
 | 0, i, τ, S, hk, hT, hP => by
  have : i = s.k := by omega
  subst this
  exact ⟨S, by unfold cK; rw [if_pos (hfin S hP)]; rfl, hP⟩
 | k + 1, i, τ, S, hk, hT, hP => by
  obtain ⟨τ1, S1, S3, hg, hT1, he, hP3⟩ := step i τ S (by omega) hT hP
  obtain ⟨S', h1, h2⟩ := xV P it f hget hfin step k (i + 1) τ1 S3 (by omega) hT1 hP3
  refine ⟨S', ?_, h2⟩
  unfold cK
  rw [hget i S (by omega) hP, bZ, hg, R.bO]
  show (e τ1 S1).c_ _ = _
  rw [he, R.bO, h1]
  rfl
theorem mZ {s : Src} {g : Tg} {e : Ex} {T : List A -> Prop} (P : Nat -> List A -> aH -> Prop)
  (step : ∀ i acc τ S, i < s.k -> T τ -> P i acc S -> ∃ x τ1 S1 y S3, s.get i S = some x /\ g x τ S = .ok τ1 S1 /\ T τ1 /\ e τ1 S1 = .ok y S3 /\ P (i + 1) (acc ++ [y]) S3) (hfin : ∀ acc S, P s.k acc S -> s.fin S = true) :
  ∀ k i acc τ S, k + i = s.k -> T τ -> P i acc S -> ∃ ys S', cK s g iw e k i τ S = .ok ys S' /\ P s.k (acc ++ ys) S'
 | 0, i, acc, τ, S, hk, hT, hP => by
  have : i = s.k := by omega
  subst this
  exact ⟨[], S, by unfold cK; rw [if_pos (hfin acc S hP)], by rw [List.append_nil]; exact hP⟩
 | k + 1, i, acc, τ, S, hk, hT, hP => by
  obtain ⟨x, τ1, S1, y, S3, hx, hg, hT1, he, hP3⟩ := step i acc τ S (by omega) hT hP
  obtain ⟨ys, S', h1, h2⟩ := mZ P step hfin k (i + 1) (acc ++ [y]) τ1 S3 (by omega) hT1 hP3
  refine ⟨y :: ys, S', ?_, by rw [List.append_assoc] at h2; exact h2⟩
  unfold cK
  rw [hx, bZ, hg, R.bO]
  show (e τ1 S1).c_ _ = _
  rw [he, R.bO, h1]
  rfl
theorem zg {cap : List (Option Nat)} {src : Ic} {τ : List A} {S : aH} {n : Nat} {rs : List Nat} {T : List (List Int)} (h : Tab S n rs T) (hs : src τ S = .ok (eG n (rs.map A.ref).length) S) (hl : T.length <= 16777216) :
  ∃ (qs : List Nat) (m : Nat) (S' : aH), cJ (none :: cap) src (bJ 0) iw (aX (f1 ir) (aq (ah 0) aM)) τ S = .ok (.ref m) S' /\ Tab S' m qs T /\ b5 S S' /\ ∀ r ∈ m :: qs, S.length <= r := by
 have hlen := h.len
 rw [List.length_map] at hs
 obtain ⟨S', h1, h2, h3, h4⟩ := xV (s := eG n rs.length) (g := bJ 0) (e := aX (f1 ir) (aq (ah 0) aM)) (T := fun τ' => ∃ y, τ' = y :: eW cap τ)
  (fun i S1 => b5 S S1 /\ S1.length = S.length + i /\ ∀ j, j < i -> au S1 (S.length + j) = some ((T.getD j []).map .int)) (fun i => .ref (rs.getD i 0)) (fun i => .ref (S.length + i))
  (fun i S1 hi ⟨k, _, _⟩ => by
   have hi : i < rs.length := hi
   show (au S1 n).bind _ = _
   rw [k.lst n _ (fun z => z) h.top, Option.bind_some, List.getElem?_map, List.getElem?_eq_getElem hi, List.getD_eq_getElem?_getD, List.getElem?_eq_getElem hi]; rfl)
  (fun S1 ⟨k, _, _⟩ => by
   show (match au S1 n with
    | some ys => decide (ys.length <= rs.length)
    | none => false) = true
   rw [k.lst n _ (fun z => z) h.top]
   simp)
  (fun i τ' S1 hi ⟨y, hy⟩ ⟨k, hl1, hr⟩ => by
   have hi : i < rs.length := hi
   subst hy
   have e1 : au S1 (rs.getD i 0) = some ((T.getD i []).map .int) := k.lst _ _ (fun z => z) (h.rows.get (by rw [List.getD_eq_getElem?_getD, List.getElem?_eq_getElem hi]; rfl)).2
   refine ⟨.ref (rs.getD i 0) :: eW cap τ, S1, S1 ++ [.lst ((T.getD i []).map .int)], rfl, ⟨_, rfl⟩, ?_, k.lay, by rw [List.length_append, hl1]; rfl, fun j hj => ?_⟩
   ·simp only [bw, bools, e1, <- hl1]
   ·by_cases z : j < i
    ·exact aZ (hr j z)
    ·have : j = i := by omega
     subst this
     rw [<- hl1]; exact aK)
  rs.length 0 (eW (none :: cap) τ) S rfl ⟨_, rfl⟩ ⟨Kp.refl, rfl, fun j hj => absurd hj (Nat.not_lt_zero _)⟩
 have h3 : S'.length = S.length + rs.length := h3
 have h4 : ∀ j, j < rs.length -> au S' (S.length + j) = some ((T.getD j []).map .int) := h4
 refine ⟨(List.range' 0 rs.length).map (S.length + ·), S'.length, S' ++ [.lst (((List.range' 0 rs.length).map (S.length + ·)).map .ref)], ?_, ⟨aK, Rows.mk (by simp [hlen]) fun i hi => ?_, ?_⟩, h2.lay, fun r hr => ?_⟩
 ·unfold cJ
  rw [hs, R.fO]
  show R.c_ (cK (eG n rs.length) (bJ 0) iw _ rs.length 0 (eW (none :: cap) τ) S) _ = _
  rw [h1, R.bO, bB (by simp; omega), List.map_map]; rfl
 ·refine aZ ?_
  have : ((List.range' 0 rs.length).map (S.length + ·)).getD i 0 = S.length + i := by
   rw [List.getD_eq_getElem?_getD, List.getElem?_map, List.getElem?_range' (by omega)]; simp
  rw [this]
  exact h4 i (by omega)
 ·rw [List.nodup_cons]
  refine ⟨fun z => ?_, ?_⟩
  ·obtain ⟨j, hj, e⟩ := List.mem_map.mp z
   have := List.mem_range'.mp hj
   omega
  ·rw [List.nodup_iff_pairwise_ne, List.pairwise_map]
   exact (List.nodup_range' (step := 1)).imp fun h z => h (by omega)
 ·rcases List.mem_cons.mp hr with z | z
  ·rw [z]; omega
  ·obtain ⟨j, hj, e⟩ := List.mem_map.mp z
   omega
theorem eq_nil {S : aH} {a b : Nat} {xs : List A} (h : au S a = some xs) (h' : au S b = some []) : mC S 12 (.ref a) (.ref b) = some xs.isEmpty := by
 show (au S a).bind (fun xs => (au S b).bind fun ys => jd (mC S 11) xs ys) = _
 rw [h, Option.bind_some, h', Option.bind_some]
 cases xs <;> rfl
theorem tX {S : aH} {a b : Nat} {xs ys : List Int} (h : au S a = some (xs.map .int)) (h' : au S b = some (ys.map .int)) : mC S 12 (.ref a) (.ref b) = some (decide (xs = ys)) := by
 show (au S a).bind (fun xs => (au S b).bind fun ys => jd (mC S 11) xs ys) = _
 rw [h, Option.bind_some, h', Option.bind_some]
 exact kD xs ys
theorem lT {S : aH} {a b : A} {k : Bool} (h : mC S 12 a b = some k) : iW false a b S = .ok (.bl k) S := by unfold iW; rw [h]; rfl
theorem Gz {S : aH} {a b : A} {k : Bool} (h : mC S 12 a b = some k) : iW true a b S = .ok (.bl (!k)) S := by unfold iW; rw [h]; rfl
theorem uI {xs : List A} {n : Nat} {cap : List (Option Nat)} {src : Ic} {t : Te} {e : Ex} {τ : List A} {S : aH} (hs : src τ S = .ok (eG n xs.length) S) (hx : au S n = some xs) (p : A -> Bool) (f : A -> A)
  (ht : ∀ x ∈ xs, t (x :: eW cap τ) S = .ok (p x) S) (he : ∀ x ∈ xs, p x = true -> e (x :: eW cap τ) S = .ok (f x) S) (hl : xs.length <= 16777216) :
  cJ (none :: cap) src (bJ 0) t e τ S = .ok (.ref S.length) (S ++ [.lst ((xs.filter p).map f)]) := by
 have hm : ∀ i, i < xs.length -> xs.getD i .unb ∈ xs := fun i hi => by
  rw [List.getD_eq_getElem?_getD, List.getElem?_eq_getElem hi]; exact List.getElem_mem hi
 rw [rD hs (fun i => xs.getD i .unb) (fun i => p (xs.getD i .unb)) (fun i => f (xs.getD i .unb)) (fun i hi => by
  have hi : i < xs.length := hi
  show (au S n).bind _ = _
  rw [hx, Option.bind_some, List.getD_eq_getElem?_getD, List.getElem?_eq_getElem hi]; rfl) (by
   show (match au S n with
    | some ys => decide (ys.length <= xs.length)
    | none => false) = true
   rw [hx]
   simp) (fun i hi => ht _ (hm i hi)) (fun i hi => he _ (hm i hi)) hl]
 have := i_ xs p f .unb
 show R.ok _ (S ++ [O.lst (((List.range xs.length).filter _).map _)]) = _
 rw [this]
end Am
namespace Wd
open Bl L2
def ex (l : List Int) (k : Nat) : List Int := (l.set (k - 1) (l.getD k 0)).set k (l.getD (k - 1) 0)
def led (l : List Int) (w : List Nat) : List Int := w.foldl ex l
theorem kF {l : List Int} {k : Nat} (h : k < l.length) : l.getD k 0 = l[k] := by rw [List.getD_eq_getElem?_getD, List.getElem?_eq_getElem h]; rfl
theorem vh {l : List Int} {k : Nat} (h0 : 1 <= k) (h : k < l.length) : ex l k = (l.set (k - 1) l[k]).set k (l[k - 1]'(by omega)) := by
 unfold ex
 rw [kF h, kF (show k - 1 < l.length by omega)]
theorem bN (l : List Int) (k : Nat) : (ex l k).length = l.length := by unfold ex; rw [List.length_set, List.length_set]
theorem iD : ∀ (w : List Nat) (l : List Int), (led l w).length = l.length
 | [], _ => rfl
 | k :: w, l => by show (led (ex l k) w).length = _; rw [iD w, bN]
theorem wK {l : List Int} {k : Nat} (h0 : 1 <= k) (h : k < l.length) : (ex l k).Perm l := by
 rw [vh h0 h]
 exact List.set_set_perm (by omega) h
theorem uV : ∀ {w : List Nat} {l : List Int}, (∀ k ∈ w, 1 <= k /\ k < l.length) -> (led l w).Perm l
 | [], _, _ => List.Perm.refl _
 | k :: w, l, h => by
  have hk := h k (List.mem_cons_self ..)
  show (led (ex l k) w).Perm l
  exact (uV fun m hm => by rw [bN]; exact h m (List.mem_cons_of_mem _ hm)).trans (wK hk.1 hk.2)
theorem fQ (a b : List Nat) (l : List Int) : led l (a ++ b) = led (led l a) b := List.foldl_append
theorem up {l : List Int} {k : Nat} (h0 : 1 <= k) (h : k < l.length) (hr : l[k - 1]'(by omega) < l[k]) : Below l (ex l k) := by
 rw [vh h0 h]
 exact uy (by omega) h (by omega) hr
def fL : List Int -> List Nat -> Prop
 | _, [] => True
 | l, k :: w => 1 <= k /\ k < l.length /\ l.getD (k - 1) 0 < l.getD k 0 /\ fL (ex l k) w
theorem fL.snoc : ∀ {w : List Nat} {l : List Int} {k : Nat}, fL l w -> 1 <= k -> k < l.length -> (led l w).getD (k - 1) 0 < (led l w).getD k 0 -> fL l (w ++ [k])
 | [], l, k, _, h0, h1, h2 => ⟨h0, h1, h2, trivial⟩
 | m :: w, l, k, h, h0, h1, h2 => ⟨h.1, h.2.1, h.2.2.1, fL.snoc h.2.2.2 h0 (by rw [bN]; exact h1) h2⟩
theorem fL.valid : ∀ {w : List Nat} {l : List Int}, fL l w -> ∀ k ∈ w, 1 <= k /\ k < l.length
 | [], _, _, k, hk => by cases hk
 | m :: w, l, h, k, hk => by
  rcases List.mem_cons.mp hk with z | z
  ·rw [z]; exact ⟨h.1, h.2.1⟩
  ·have := fL.valid h.2.2.2 k z
   rw [bN] at this; exact this
def sw (k : Nat) (x : Int) : Int := if x = k then (k : Int) + 1 else if x = (k : Int) + 1 then k else x
theorem ex_map (f : Int -> Int) {l : List Int} {k : Nat} (h0 : 1 <= k) (h : k < l.length) : ex (l.map f) k = (ex l k).map f := by
 rw [vh h0 h, vh h0 (by rw [List.length_map]; exact h), List.map_set, List.map_set, List.getElem_map, List.getElem_map]
theorem yy (f : Int -> Int) : ∀ {w : List Nat} {l : List Int}, (∀ k ∈ w, 1 <= k /\ k < l.length) -> led (l.map f) w = (led l w).map f
 | [], _, _ => rfl
 | k :: w, l, h => by
  have hk := h k (List.mem_cons_self ..)
  show led (ex (l.map f) k) w = (led (ex l k) w).map f
  rw [ex_map f hk.1 hk.2, yy f fun m hm => by rw [bN]; exact h m (List.mem_cons_of_mem _ hm)]
theorem m_ {n p : Nat} (h : p < n) : (aS 1 ((n : Int) + 1))[p]? = some ((p : Int) + 1) := by
 unfold aS
 rw [List.getElem?_map, List.getElem?_range (by omega)]
 simp; omega
theorem bW (n : Nat) : (aS 1 ((n : Int) + 1)).length = n := by rw [cP]; omega
theorem di {l : List Int} {k : Nat} (h0 : 1 <= k) (h : k < l.length) (p : Nat) : (ex l k)[p]? = if p = k then l[k - 1]? else if p = k - 1 then l[k]? else l[p]? := by
 rw [vh h0 h, List.getElem?_set]
 by_cases h1 : k = p
 ·rw [if_pos h1, if_pos h1.symm, if_pos (by rw [List.length_set]; omega), List.getElem?_eq_getElem]
 ·rw [if_neg h1, if_neg (fun z => h1 z.symm), List.getElem?_set]
  by_cases h2 : k - 1 = p
  ·rw [if_pos h2, if_pos h2.symm, if_pos (by omega), List.getElem?_eq_getElem]
  ·rw [if_neg h2, if_neg (fun z => h2 z.symm)]
theorem HC {n k : Nat} (h0 : 1 <= k) (h : k < n) : ex (aS 1 ((n : Int) + 1)) k = (aS 1 ((n : Int) + 1)).map (sw k) := by
 apply List.ext_getElem?
 intro p
 rw [di h0 (by rw [bW]; exact h), List.getElem?_map]
 by_cases hp : p < n
 ·rw [m_ hp, m_ h, m_ (show k - 1 < n by omega)]
  show _ = some (sw k ((p : Int) + 1))
  unfold sw
  by_cases h1 : p = k
  ·rw [if_pos h1, if_neg (by omega), if_pos (by omega)]; congr 1; omega
  ·rw [if_neg h1]
   by_cases h2 : p = k - 1
   ·rw [if_pos h2, if_pos (by omega)]
   ·rw [if_neg h2, if_neg (by omega), if_neg (by omega)]
 ·have e : (aS 1 ((n : Int) + 1))[p]? = none := List.getElem?_eq_none (by rw [bW]; omega)
  rw [if_neg (by omega), if_neg (by omega), e]; rfl
theorem zE {A B : List Int} {k : Nat} (h0 : 1 <= k) (h : k < A.length) (hb : gB A B) : gB (ex A k) (B.map (sw k)) := by
 refine ⟨by rw [bN, List.length_map]; exact hb.1, fun p hp => ?_⟩
 rw [bN] at hp
 have hg : (ex A k)[p]'(by rw [bN]; exact hp) = if p = k then A[k - 1]'(by omega) else if p = k - 1 then A[k] else A[p] := by
  have := di h0 h p
  rw [List.getElem?_eq_getElem (by rw [bN]; exact hp)] at this
  by_cases h1 : p = k
  ·rw [if_pos h1, List.getElem?_eq_getElem (show k - 1 < A.length by omega)] at this
   rw [if_pos h1]; exact Option.some.inj this
  ·rw [if_neg h1] at this
   rw [if_neg h1]
   by_cases h2 : p = k - 1
   ·rw [if_pos h2, List.getElem?_eq_getElem h] at this
    rw [if_pos h2]; exact Option.some.inj this
   ·rw [if_neg h2, List.getElem?_eq_getElem hp] at this
    rw [if_neg h2]; exact Option.some.inj this
 rw [hg, List.getElem?_map]
 by_cases h1 : p = k
 ·rw [if_pos h1, hb.2 (k - 1) (by omega)]
  show some (sw k _) = _
  unfold sw
  rw [if_pos (by omega)]; congr 1; omega
 ·rw [if_neg h1]
  by_cases h2 : p = k - 1
  ·rw [if_pos h2, hb.2 k h]
   show some (sw k _) = _
   unfold sw
   rw [if_neg (by omega), if_pos (by omega)]; congr 1; omega
  ·rw [if_neg h2, hb.2 p hp]
   show some (sw k _) = _
   unfold sw
   rw [if_neg (by omega), if_neg (by omega)]
theorem mT {n : Nat} : ∀ (w : List Nat), (∀ k ∈ w, 1 <= k /\ k < n) -> gB (led (aS 1 ((n : Int) + 1)) w.reverse) (led (aS 1 ((n : Int) + 1)) w)
 | [], _ => ⟨rfl, fun p hp => by
  have hp : p < n := by rw [show ([] : List Nat).reverse = [] from rfl] at hp; have : p < (aS 1 ((n : Int) + 1)).length := hp; rw [bW] at this; exact this
  have e : (aS 1 ((n : Int) + 1))[p]'(by rw [bW]; exact hp) = (p : Int) + 1 := by
   have := m_ hp
   rw [List.getElem?_eq_getElem (by rw [bW]; exact hp)] at this
   exact Option.some.inj this
  show (aS 1 ((n : Int) + 1))[(((aS 1 ((n : Int) + 1))[p]'(by rw [bW]; exact hp)) - 1).toNat]? = _
  rw [e, show ((p : Int) + 1 - 1).toNat = p by omega]
  exact m_ hp⟩
 | k :: w, h => by
  have hk := h k (List.mem_cons_self ..)
  have hw := fun m hm => h m (List.mem_cons_of_mem k hm)
  have ih := mT w hw
  rw [List.reverse_cons, fQ]
  show gB (ex (led (aS 1 ((n : Int) + 1)) w.reverse) k) (led (ex (aS 1 ((n : Int) + 1)) k) w)
  rw [HC hk.1 hk.2, yy (sw k) (fun m hm => by rw [bW]; exact hw m hm)]
  exact zE hk.1 (by rw [iD, bW]; exact hk.2) ih
end Wd
namespace Iv
open L2 Bl
def inv : List Int -> Nat
 | [] => 0
 | x :: l => l.countP (fun y => decide (y < x)) + inv l
def fN (a b : List Int) : Nat := (a.map fun x => b.countP fun y => decide (y < x)).sum
theorem l_ (x : Int) (a b : List Int) : fN (x :: a) b = b.countP (fun y => decide (y < x)) + fN a b := rfl
theorem dc : ∀ (a b : List Int), inv (a ++ b) = inv a + inv b + fN a b
 | [], b => by show inv b = 0 + inv b + 0; omega
 | x :: a, b => by
  show (a ++ b).countP _ + inv (a ++ b) = (a.countP _ + inv a) + inv b + fN (x :: a) b
  rw [List.countP_append, dc a b, l_]; omega
theorem mO : ∀ {a b : List Nat}, a.Perm b -> a.sum = b.sum
 | _, _, .nil => rfl
 | _, _, .cons x h => by rw [List.sum_cons, List.sum_cons, mO h]
 | _, _, .swap x y l => by rw [List.sum_cons, List.sum_cons, List.sum_cons, List.sum_cons]; omega
 | _, _, .trans h k => (mO h).trans (mO k)
theorem DO {a a' : List Int} (b : List Int) (h : a.Perm a') : fN a b = fN a' b := mO (h.map _)
theorem EB (a : List Int) {b b' : List Int} (h : b.Perm b') : fN a b = fN a b' := by
 unfold fN
 congr 1
 refine List.map_congr_left fun x _ => h.countP_eq _
theorem rL {M : List Int} {x y : Int} (h : ∀ m ∈ M, m < x \/ y < m) (hxy : x < y) : M.countP (fun m => decide (m < x)) = M.countP (fun m => decide (m < y)) := by
 refine List.countP_congr fun m hm => ?_
 rw [decide_eq_true_iff, decide_eq_true_iff]
 rcases h m hm with z | z <;> omega
theorem nW : ∀ {M : List Int} {x y : Int}, (∀ m ∈ M, m < x \/ y < m) -> x < y -> fN M [x] = fN M [y]
 | [], _, _, _, _ => rfl
 | m :: M, x, y, h, hxy => by
  rw [l_, l_, nW (fun m' hm => h m' (List.mem_cons_of_mem _ hm)) hxy]
  congr 1
  have := h m (List.mem_cons_self ..)
  simp only [List.countP_cons, List.countP_nil]
  by_cases c : x < m
  ·rw [decide_eq_true c, decide_eq_true (show y < m by omega)]
  ·rw [decide_eq_false c, decide_eq_false (show ¬ y < m by omega)]
theorem mid {M : List Int} {x y : Int} (h : ∀ m ∈ M, m < x \/ y < m) (hxy : x < y) : inv ([y] ++ M ++ [x]) = inv ([x] ++ M ++ [y]) + 1 := by
 rw [dc, dc, dc ([x] ++ M), dc [x]]
 have e1 : fN [y] M = fN [x] M := by
  show M.countP _ + 0 = M.countP _ + 0
  rw [rL h hxy]
 have e2 : fN ([y] ++ M) [x] = 1 + fN M [x] := by
  show [x].countP _ + fN M [x] = _
  rw [List.countP_cons, decide_eq_true hxy]; rfl
 have e3 : fN ([x] ++ M) [y] = fN M [y] := by
  show [y].countP _ + fN M [y] = _
  rw [List.countP_cons, decide_eq_false (by omega : ¬ y < x)]; simp
 rw [e1, e2, e3, nW h hxy]
 show 0 + inv M + _ + 0 + _ = 0 + inv M + _ + 0 + _ + 1
 omega
theorem Ao (M : List Int) (x y : Int) : ([y] ++ M ++ [x]).Perm ([x] ++ M ++ [y]) := by
 refine (List.perm_append_comm (l₁ := [y] ++ M) (l₂ := [x])).trans ?_
 show (x :: (y :: M)).Perm (x :: (M ++ [y]))
 exact .cons x (List.perm_append_comm (l₁ := [y]) (l₂ := M))
theorem step {P M R : List Int} {x y : Int} (h : ∀ m ∈ M, m < x \/ y < m) (hxy : x < y) : inv (P ++ ([y] ++ M ++ [x]) ++ R) = inv (P ++ ([x] ++ M ++ [y]) ++ R) + 1 := by
 have p := Ao M x y
 rw [dc, dc P, dc (P ++ ([x] ++ M ++ [y])), dc P, mid h hxy, EB P p, DO R (p.append_left P)]
 omega
theorem Dr : ∀ (l : List Int), inv l <= l.length * l.length
 | [] => Nat.le_refl _
 | x :: l => by
  show l.countP _ + inv l <= (l.length + 1) * (l.length + 1)
  have h1 := List.countP_le_length (p := fun y => decide (y < x)) (l := l)
  have h2 := Dr l
  rw [Nat.add_mul, Nat.mul_add]
  omega
theorem yv (x v : Int) : cnt [x] v = if v <= x then 1 else 0 := by show (if v <= x then 1 else 0) + 0 = _; omega
def sw (a : List Int) (i j : Nat) : List Int := (a.set i (a.getD j 0)).set j (a.getD i 0)
theorem split {a : List Int} {i j : Nat} (hij : i < j) (hj : j < a.length) : ∃ P M R : List Int, a = P ++ ([a.getD i 0] ++ M ++ [a.getD j 0]) ++ R /\ P = a.take i /\ (∀ m ∈ M, ∃ k, i < k /\ k < j /\ a[k]? = some m) /\ sw a i j = P ++ ([a.getD j 0] ++ M ++ [a.getD i 0]) ++ R := by
 have gi : a.getD i 0 = a[i] := by rw [List.getD_eq_getElem?_getD, List.getElem?_eq_getElem (by omega)]; rfl
 have gj : a.getD j 0 = a[j] := by rw [List.getD_eq_getElem?_getD, List.getElem?_eq_getElem hj]; rfl
 obtain ⟨M, hM⟩ : ∃ M, M = (a.drop (i + 1)).take (j - i - 1) := ⟨_, rfl⟩
 have lM : M.length = j - i - 1 := by rw [hM, List.length_take, List.length_drop]; omega
 have ea : a = a.take i ++ ([a.getD i 0] ++ M ++ [a.getD j 0]) ++ a.drop (j + 1) := by
  have h1 : a.drop i = a[i] :: a.drop (i + 1) := List.drop_eq_getElem_cons (by omega)
  have h2 : a.drop (i + 1) = M ++ a.drop j := by
   rw [hM]
   have := List.take_append_drop (j - i - 1) (a.drop (i + 1))
   rw [List.drop_drop, show i + 1 + (j - i - 1) = j by omega] at this
   exact this.symm
  have h3 : a.drop j = a[j] :: a.drop (j + 1) := List.drop_eq_getElem_cons hj
  conv => lhs; rw [<- List.take_append_drop i a, h1, h2, h3]
  rw [gi, gj]; simp
 refine ⟨a.take i, M, a.drop (j + 1), ea, rfl, fun m hm => ?_, ?_⟩
 ·rw [hM] at hm
  obtain ⟨k, hk⟩ := List.getElem?_of_mem hm
  have hlt : k < j - i - 1 := by
   have := (List.getElem?_eq_some_iff.mp hk).1
   rw [List.length_take] at this; omega
  rw [List.getElem?_take_of_lt hlt, List.getElem?_drop] at hk
  exact ⟨i + 1 + k, by omega, by omega, hk⟩
 ·have key : ∀ (P R : List Int) (x y x' y' : Int), P.length = i -> ((P ++ ([x] ++ M ++ [y]) ++ R).set i y').set j x' = P ++ ([y'] ++ M ++ [x']) ++ R := fun P R x y x' y' lP => by
   rw [List.append_assoc, List.set_append_right _ _ (by omega), lP, Nat.sub_self]
   show (P ++ (y' :: ((M ++ [y]) ++ R))).set j x' = _
   rw [List.set_append_right _ _ (by omega), lP, show j - i = (j - i - 1) + 1 by omega, List.set_cons_succ, List.append_assoc, List.set_append_right _ _ (by omega), lM, Nat.sub_self]
   simp
  have := key (a.take i) (a.drop (j + 1)) (a.getD i 0) (a.getD j 0) (a.getD i 0) (a.getD j 0) (by rw [List.length_take]; omega)
  rw [<- ea] at this
  exact this
theorem kM {a : List Int} {i : Nat} (h : i < a.length) : a[i]? = some (a.getD i 0) := by rw [List.getD_eq_getElem?_getD, List.getElem?_eq_getElem h]; rfl
theorem part {a b : List Int} {n i : Nat} (pa : a.Perm (aS 1 ((n : Int) + 1))) (pb : b.Perm (aS 1 ((n : Int) + 1))) (la : a.length = n) (lb : b.length = n) (hb : Below a b) (hi : a.take i = b.take i) (hin : i < n) (hne : a.getD i 0 ≠ b.getD i 0) :
  a.getD i 0 < b.getD i 0 /\ ∃ j, i < j /\ j < n /\ a.getD j 0 = b.getD i 0 := by
 have hx := kM (a := a) (i := i) (by omega)
 have hy := kM (a := b) (i := i) (by omega)
 have ta : a.take (i + 1) = a.take i ++ [a.getD i 0] := by rw [List.take_succ, hx]; rfl
 have tb : b.take (i + 1) = b.take i ++ [b.getD i 0] := by rw [List.take_succ, hy]; rfl
 have h := hb (i + 1) (a.getD i 0)
 rw [ta, tb, hi, cnt_append, cnt_append, yv, yv, if_pos (Int.le_refl _)] at h
 have hle : a.getD i 0 <= b.getD i 0 := by
  by_cases c : a.getD i 0 <= b.getD i 0
  ·exact c
  ·rw [if_neg c] at h; omega
 refine ⟨by omega, ?_⟩
 have hm : b.getD i 0 ∈ a := (pa.trans pb.symm).mem_iff.mpr (List.mem_of_getElem? hy)
 obtain ⟨j, hj⟩ := List.getElem?_of_mem hm
 have hjn : j < n := by have := (List.getElem?_eq_some_iff.mp hj).1; omega
 have nb : b.Nodup := pb.nodup_iff.mpr (jv _ _)
 refine ⟨j, ?_, hjn, ?_⟩
 ·rcases Nat.lt_trichotomy j i with c | c | c
  ·have e : (a.take i)[j]? = some (b.getD i 0) := by rw [List.getElem?_take_of_lt c]; exact hj
   rw [hi, List.getElem?_take_of_lt c] at e
   obtain ⟨h1, g1⟩ := List.getElem?_eq_some_iff.mp e
   obtain ⟨h2, g2⟩ := List.getElem?_eq_some_iff.mp hy
   exact absurd ((List.getElem_inj nb).mp (g1.trans g2.symm)) (by omega)
  ·subst c
   rw [hx] at hj
   exact absurd (Option.some.inj hj) hne
  ·exact c
 ·rw [List.getD_eq_getElem?_getD, hj]; rfl
end Iv
namespace Nu
open PySem L2
end Nu
namespace Fw
open PySem L2 Bl
open Wd (ex led)
abbrev rg (n : Nat) : List Int := aS 1 ((n : Int) + 1)
theorem u0 {l : List Int} {k : Nat} (h0 : 1 <= k) (h : k < l.length) : ex (ex l k) k = l := by
 apply List.ext_getElem?
 intro p
 have h' : k < (ex l k).length := by rw [Wd.bN]; exact h
 rw [Wd.di h0 h', Wd.di h0 h, Wd.di h0 h, Wd.di h0 h]
 by_cases c3 : p = k
 ·rw [if_pos c3, if_neg (by omega), if_pos rfl, c3]
 ·rw [if_neg c3]
  by_cases c2 : p = k - 1
  ·rw [if_pos c2, if_pos rfl, c2]
  ·rw [if_neg c2, if_neg c3, if_neg c2]
theorem tW {l : List Int} {k : Nat} (h0 : 1 <= k) (h : k < l.length) : (ex l k).getD k 0 = l.getD (k - 1) 0 := by
 rw [List.getD_eq_getElem?_getD, Wd.di h0 h, if_pos rfl, List.getD_eq_getElem?_getD]
theorem u_ {l : List Int} {k : Nat} (h0 : 1 <= k) (h : k < l.length) : (ex l k).getD (k - 1) 0 = l.getD k 0 := by
 rw [List.getD_eq_getElem?_getD, Wd.di h0 h, if_neg (by omega), if_pos rfl, List.getD_eq_getElem?_getD]
theorem sQ {l : List Int} {k : Nat} (h0 : 1 <= k) (h : k < l.length) (hr : l.getD (k - 1) 0 < l.getD k 0) : Iv.inv (ex l k) = Iv.inv l + 1 := by
 obtain ⟨P, M, R, e, _, hM, es⟩ := Iv.split (a := l) (i := k - 1) (j := k) (by omega) h
 have := Iv.step (P := P) (M := M) (R := R) (x := l.getD (k - 1) 0) (y := l.getD k 0) (fun m hm => by obtain ⟨_, _, _, _⟩ := hM m hm; omega) hr
 rw [<- es, <- e] at this
 exact this
theorem jy {l : List Int} {k : Nat} (h0 : 1 <= k) (h : k < l.length) (hr : l.getD k 0 < l.getD (k - 1) 0) : Iv.inv l = Iv.inv (ex l k) + 1 := by
 have := sQ (l := ex l k) h0 (by rw [Wd.bN]; exact h) (by rw [tW h0 h, u_ h0 h]; exact hr)
 rw [u0 h0 h] at this
 exact this
theorem yJ {l : List Int} {k : Nat} (h0 : 1 <= k) (h : k < l.length) : Iv.inv (ex l k) <= Iv.inv l + 1 := by
 rcases Int.lt_trichotomy (l.getD (k - 1) 0) (l.getD k 0) with c | c | c
 ·exact Nat.le_of_eq (sQ h0 h c)
 ·have : ex l k = l := by
   apply List.ext_getElem?
   intro p
   have e1 : l[k]? = some (l.getD k 0) := Iv.kM h
   have e2 : l[k - 1]? = some (l.getD (k - 1) 0) := Iv.kM (by omega)
   rw [Wd.di h0 h]
   by_cases c3 : p = k
   ·rw [if_pos c3, c3, e1, e2, c]
   ·rw [if_neg c3]
    by_cases c2 : p = k - 1
    ·rw [if_pos c2, c2, e1, e2, c]
    ·rw [if_neg c2]
  rw [this]; omega
 ·have := jy h0 h c; omega
def Va (n : Nat) (w : List Nat) : Prop := ∀ k ∈ w, 1 <= k /\ k < n
theorem Va.tail {n k : Nat} {w : List Nat} (h : Va n (k :: w)) : Va n w := fun j hj => h j (List.mem_cons_of_mem _ hj)
theorem Va.head {n k : Nat} {w : List Nat} (h : Va n (k :: w)) : 1 <= k /\ k < n := h k (List.mem_cons_self ..)
theorem Va.rev {n : Nat} {w : List Nat} (h : Va n w) : Va n w.reverse := fun k hk => h k (List.mem_reverse.mp hk)
theorem rZ : ∀ {w : List Nat} {l : List Int}, Va l.length w -> Iv.inv (led l w) <= Iv.inv l + w.length
 | [], l, _ => Nat.le_refl _
 | k :: w, l, h => by
  have h1 := rZ (w := w) (l := ex l k) (by rw [Wd.bN]; exact h.tail)
  have h2 := yJ h.head.1 h.head.2
  show Iv.inv (led (ex l k) w) <= Iv.inv l + (w.length + 1)
  omega
theorem mR : ∀ {w : List Nat} {l : List Int}, Va l.length w -> led (led l w) w.reverse = l
 | [], l, _ => rfl
 | k :: w, l, h => by
  rw [List.reverse_cons, Wd.fQ]
  show led (led (led (ex l k) w) w.reverse) [k] = l
  rw [mR (w := w) (l := ex l k) (by rw [Wd.bN]; exact h.tail)]
  exact u0 h.head.1 h.head.2
theorem rO : ∀ {l : List Int}, l.Pairwise (· <= ·) -> Iv.inv l = 0
 | [], _ => rfl
 | x :: l, h => by
  show l.countP (fun y => decide (y < x)) + Iv.inv l = 0
  rw [rO (List.pairwise_cons.mp h).2, List.countP_eq_zero.mpr fun a ha z => by have := of_decide_eq_true z; have := (List.pairwise_cons.mp h).1 a ha; omega]
theorem sI (n : Nat) : Iv.inv (rg n) = 0 := rO (sL _ _)
def jO (l : List Int) (k : Nat) : Prop := 1 <= k /\ k < l.length /\ l.getD k 0 < l.getD (k - 1) 0
theorem CD {l : List Int} (h : ∀ k, ¬ jO l k) : l.Pairwise (· <= ·) := by
 have key : ∀ d i, i + d < l.length -> l.getD i 0 <= l.getD (i + d) 0 := by
  intro d
  induction d with
  | zero => intro i _; exact Int.le_refl _
  | succ d ih =>
   intro i hi
   have h1 := ih i (by omega)
   have h2 : ¬ l.getD (i + d + 1) 0 < l.getD (i + d) 0 := fun z => h (i + d + 1) ⟨by omega, hi, z⟩
   rw [<- Nat.add_assoc]; omega
 rw [List.pairwise_iff_getElem]
 intro i j hi hj hij
 have := key (j - i) i (by omega)
 rw [show i + (j - i) = j by omega, Wd.kF hi, Wd.kF hj] at this
 exact this
theorem F0 {l : List Int} {n : Nat} (p : l.Perm (rg n)) (h : ∀ k, ¬ jO l k) : l = rg n :=
 List.Perm.eq_of_pairwise (fun x y _ _ h1 h2 => Int.le_antisymm h1 h2) (CD h) (sL _ _) p
theorem DN {l : List Int} (h : 0 < Iv.inv l) : ∃ k, jO l k := by
 refine Classical.byContradiction fun z => ?_
 rw [rO (CD fun k hk => z ⟨k, hk⟩)] at h
 exact absurd h (Nat.lt_irrefl _)
def Dn : List Int -> List Nat -> Prop
 | l, [] => ∀ k, ¬ jO l k
 | l, k :: ks => (jO l k /\ ∀ j, jO l j -> k <= j) /\ Dn (ex l k) ks
theorem kC {l : List Int} {n k : Nat} (p : l.Perm (rg n)) (h0 : 1 <= k) (h : k < l.length) : (ex l k).Perm (rg n) := (Wd.wK h0 h).trans p
theorem Dn.len : ∀ {ks : List Nat} {l : List Int}, Dn l ks -> ks.length = Iv.inv l
 | [], l, h => (rO (CD h)).symm
 | k :: ks, l, h => by
  have := h.2.len
  rw [jy h.1.1.1 h.1.1.2.1 h.1.1.2.2, List.length_cons]; omega
theorem Dn.va : ∀ {ks : List Nat} {l : List Int}, Dn l ks -> Va l.length ks
 | [], l, _ => fun k hk => absurd hk (by simp)
 | k :: ks, l, h => fun j hj => by
  rcases List.mem_cons.mp hj with rfl | z
  ·exact ⟨h.1.1.1, h.1.1.2.1⟩
  ·have := h.2.va j z
   rwa [Wd.bN] at this
theorem Dn.led : ∀ {ks : List Nat} {l : List Int} {n : Nat}, Dn l ks -> l.Perm (rg n) -> led l ks = rg n
 | [], l, n, h, p => F0 p h
 | k :: ks, l, n, h, p => Dn.led (ks := ks) h.2 (kC p h.1.1.1 h.1.1.2.1)
theorem uX : ∀ (m : Nat) (l : List Int), Iv.inv l <= m -> ∃ ks, Dn l ks
 | 0, l, h => ⟨[], fun k hk => by have := jy hk.1 hk.2.1 hk.2.2; omega⟩
 | m + 1, l, h => by
  by_cases c : ∃ k, jO l k
  ·obtain ⟨k, hk, hmin⟩ : ∃ k, jO l k /\ ∀ j, jO l j -> k <= j := by
    obtain ⟨k, hk⟩ := c
    induction k using Nat.strongRecOn with
    | ind k ih =>
     by_cases z : ∃ j, jO l j /\ j < k
     ·obtain ⟨j, hj, hlt⟩ := z
      exact ih j hlt hj
     ·exact ⟨k, hk, fun j hj => Nat.le_of_not_lt fun y => z ⟨j, hj, y⟩⟩
   have := jy hk.1 hk.2.1 hk.2.2
   obtain ⟨ks, hks⟩ := uX m (ex l k) (by omega)
   exact ⟨k :: ks, ⟨hk, hmin⟩, hks⟩
  ·exact ⟨[], fun k hk => c ⟨k, hk⟩⟩
theorem xh {l : List Int} {n k : Nat} (p : l.Perm (rg n)) (h0 : 1 <= k) (h : k < l.length) : l.getD (k - 1) 0 ≠ l.getD k 0 := fun z => by
 have nd : l.Nodup := p.nodup_iff.mpr (jv _ _)
 rw [Wd.kF h, Wd.kF (show k - 1 < l.length by omega)] at z
 have := (List.getElem_inj nd).mp z
 omega
theorem zR {a b c : List Int} {n : Nat} (pa : a.Perm (rg n)) (h1 : gB a b) (h2 : gB b c) : a = c := by
 have l1 := h1.1
 have l2 := h2.1
 refine List.ext_getElem (by omega) fun q hq hq' => ?_
 have e1 := h1.2 q hq
 have hm := (cG.mp (pa.mem_iff.mp (List.getElem_mem hq)))
 obtain ⟨hb, eb⟩ := List.getElem?_eq_some_iff.mp e1
 have e2 := h2.2 _ hb
 rw [eb, show ((q : Int) + 1 - 1).toNat = q by omega, List.getElem?_eq_getElem hq'] at e2
 have := Option.some.inj e2
 omega
structure Two (n : Nat) (o u : List Int) : Prop where
 po : o.Perm (rg n)
 pu : u.Perm (rg n)
 ou : gB o u
theorem Two.lu {n : Nat} {o u : List Int} (t : Two n o u) : u.length = n := by rw [t.pu.length_eq, Wd.bW]
theorem Two.led {n : Nat} {o u : List Int} {ks : List Nat} (t : Two n o u) (h : Dn u ks) : Wd.led (rg n) ks = o := by
 have v : Va n ks := by have := h.va; rwa [t.lu] at this
 have e := h.led t.pu
 have e2 : u = Wd.led (rg n) ks.reverse := by rw [<- e, mR (by rw [t.lu]; exact v)]
 have b := Wd.mT ks v
 rw [<- show u = Wd.led (aS 1 ((n : Int) + 1)) ks.reverse from e2] at b
 exact (zR t.po t.ou b).symm
theorem Two.uo {n : Nat} {o u : List Int} (t : Two n o u) : gB u o := by
 obtain ⟨ks, h⟩ := uX _ u (Nat.le_refl _)
 have v : Va n ks := by have := h.va; rwa [t.lu] at this
 have e := h.led t.pu
 have e2 : u = Wd.led (rg n) ks.reverse := by rw [<- e, mR (by rw [t.lu]; exact v)]
 have b := Wd.mT ks v
 rw [<- show u = Wd.led (aS 1 ((n : Int) + 1)) ks.reverse from e2, show Wd.led (aS 1 ((n : Int) + 1)) ks = o from t.led h] at b
 exact b
theorem Two.flip {n : Nat} {o u : List Int} (t : Two n o u) : Two n u o := ⟨t.pu, t.po, t.uo⟩
theorem Two.le {n : Nat} {o u : List Int} (t : Two n o u) : Iv.inv o <= Iv.inv u := by
 obtain ⟨ks, h⟩ := uX _ u (Nat.le_refl _)
 have i := rZ (w := ks) (l := rg n) (by rw [Wd.bW]; have := h.va; rwa [t.lu] at this)
 rw [t.led h, sI, h.len] at i
 omega
theorem Two.inv {n : Nat} {o u : List Int} (t : Two n o u) : Iv.inv o = Iv.inv u := Nat.le_antisymm t.le t.flip.le
end Fw
namespace Ti
open PySem L2 Bl
open Wd (ex led)
open Fw (rg Va jO)
inductive Mv : List Nat -> List Nat -> Prop
 | comm (P R : List Nat) (a b : Nat) (h : a + 2 <= b \/ b + 2 <= a) : Mv (P ++ a :: b :: R) (P ++ b :: a :: R)
 | braid (P R : List Nat) (a b : Nat) (h : a + 1 = b \/ b + 1 = a) : Mv (P ++ a :: b :: a :: R) (P ++ b :: a :: b :: R)
inductive Con : List Nat -> List Nat -> Prop
 | refl (u : List Nat) : Con u u
 | step {u v w : List Nat} (h : Con u v) (m : Mv v w) : Con u w
theorem Mv.symm {u v : List Nat} : Mv u v -> Mv v u
 | .comm P R a b h => .comm P R b a h.symm
 | .braid P R a b h => .braid P R b a h.symm
theorem Mv.snoc {u v : List Nat} (x : List Nat) : Mv u v -> Mv (u ++ x) (v ++ x)
 | .comm P R a b h => by
  have := Mv.comm P (R ++ x) a b h
  rw [List.append_assoc, List.append_assoc]; exact this
 | .braid P R a b h => by
  have := Mv.braid P (R ++ x) a b h
  rw [List.append_assoc, List.append_assoc]; exact this
theorem Con.trans {u v w : List Nat} (h : Con u v) (k : Con v w) : Con u w := by
 induction k with
 | refl => exact h
 | step _ m ih => exact .step ih m
theorem Con.one {u v : List Nat} (m : Mv u v) : Con u v := .step (.refl _) m
theorem Con.symm {u v : List Nat} (h : Con u v) : Con v u := by
 induction h with
 | refl => exact .refl _
 | step _ m ih => exact (Con.one m.symm).trans ih
theorem Con.snoc {u v : List Nat} (x : List Nat) (h : Con u v) : Con (u ++ x) (v ++ x) := by
 induction h with
 | refl => exact .refl _
 | step _ m ih => exact .step ih (m.snoc x)
theorem Eg {l : List Int} {a b : Nat} (ha : 1 <= a) (hb : 1 <= b) (ha' : a < l.length) (hb' : b < l.length) (h : a + 2 <= b \/ b + 2 <= a) : ex (ex l a) b = ex (ex l b) a := by
 apply List.ext_getElem?
 intro p
 have la : a < (ex l b).length := by rw [Wd.bN]; exact ha'
 have lb : b < (ex l a).length := by rw [Wd.bN]; exact hb'
 rw [Wd.di hb lb, Wd.di ha la, Wd.di ha ha', Wd.di ha ha', Wd.di ha ha', Wd.di hb hb', Wd.di hb hb', Wd.di hb hb']
 by_cases c1 : p = b
 ·subst c1
  rw [if_pos rfl, if_neg (by omega), if_neg (by omega), if_neg (by omega), if_neg (by omega), if_pos rfl]
 ·by_cases c2 : p = b - 1
  ·subst c2
   rw [if_neg c1, if_pos rfl, if_neg (by omega), if_neg (by omega), if_neg (by omega), if_neg (by omega), if_neg c1, if_pos rfl]
  ·rw [if_neg c1, if_neg c2, if_neg c1, if_neg c2, if_neg (show ¬ a - 1 = b by omega), if_neg (show ¬ a - 1 = b - 1 by omega), if_neg (show ¬ a = b by omega), if_neg (show ¬ a = b - 1 by omega)]
theorem Cj {l : List Int} {a : Nat} (ha : 1 <= a) (hb : a + 1 < l.length) : ex (ex (ex l a) (a + 1)) a = ex (ex (ex l (a + 1)) a) (a + 1) := by
 apply List.ext_getElem?
 intro p
 have l1 : ∀ (x : List Int) (k : Nat), x.length = l.length -> (ex x k).length = l.length := fun x k h => by rw [Wd.bN]; exact h
 have g : ∀ (x : List Int) (k p : Nat), x.length = l.length -> 1 <= k -> k <= a + 1 -> (ex x k)[p]? = if p = k then x[k - 1]? else if p = k - 1 then x[k]? else x[p]? := fun x k p h h1 h2 => Wd.di h1 (by omega) p
 have e1 : ∀ p, (ex l a)[p]? = if p = a then l[a - 1]? else if p = a - 1 then l[a]? else l[p]? := fun p => g l a p rfl ha (by omega)
 have e2 : ∀ p, (ex (ex l a) (a + 1))[p]? = if p = a + 1 then (ex l a)[a]? else if p = a then (ex l a)[a + 1]? else (ex l a)[p]? := fun p => g _ (a + 1) p (l1 _ _ rfl) (by omega) (by omega)
 have e3 : ∀ p, (ex (ex (ex l a) (a + 1)) a)[p]? = if p = a then (ex (ex l a) (a + 1))[a - 1]? else if p = a - 1 then (ex (ex l a) (a + 1))[a]? else (ex (ex l a) (a + 1))[p]? := fun p => g _ a p (l1 _ _ (l1 _ _ rfl)) ha (by omega)
 have f1 : ∀ p, (ex l (a + 1))[p]? = if p = a + 1 then l[a]? else if p = a then l[a + 1]? else l[p]? := fun p => g l (a + 1) p rfl (by omega) (by omega)
 have f2 : ∀ p, (ex (ex l (a + 1)) a)[p]? = if p = a then (ex l (a + 1))[a - 1]? else if p = a - 1 then (ex l (a + 1))[a]? else (ex l (a + 1))[p]? := fun p => g _ a p (l1 _ _ rfl) ha (by omega)
 have f3 : ∀ p, (ex (ex (ex l (a + 1)) a) (a + 1))[p]? = if p = a + 1 then (ex (ex l (a + 1)) a)[a]? else if p = a then (ex (ex l (a + 1)) a)[a + 1]? else (ex (ex l (a + 1)) a)[p]? := fun p => g _ (a + 1) p (l1 _ _ (l1 _ _ rfl)) (by omega) (by omega)
 simp only [e3, f3, e2, f2, e1, f1]
 have n1 : ¬ a - 1 = a := by omega
 have n2 : ¬ a - 1 = a + 1 := by omega
 have n3 : ¬ a = a - 1 := by omega
 have n4 : ¬ a = a + 1 := by omega
 have n5 : ¬ a + 1 = a := by omega
 have n6 : ¬ a + 1 = a - 1 := by omega
 by_cases c1 : p = a
 ·subst c1; simp only [n1, n2, n3, n4, n5, n6, if_true, if_false]
 ·by_cases c2 : p = a - 1
  ·subst c2; simp only [n1, n2, n3, n4, n5, n6, if_true, if_false]
  ·by_cases c3 : p = a + 1
   ·subst c3; simp only [n1, n2, n3, n4, n5, n6, if_true, if_false]
   ·simp only [c1, c2, c3, if_false]
theorem wF {l : List Int} {n : Nat} (p : l.Perm (rg n)) : ∃ x, Va n x /\ led (rg n) x = l /\ x.length = Iv.inv l := by
 obtain ⟨ks, h⟩ := Fw.uX _ l (Nat.le_refl _)
 have ll : l.length = n := by rw [p.length_eq, Wd.bW]
 have v : Va n ks := by have := h.va; rwa [ll] at this
 refine ⟨ks.reverse, v.rev, ?_, by rw [List.length_reverse]; exact h.len⟩
 rw [<- h.led p]
 exact Fw.mR (by rw [ll]; exact v)
def Red (n : Nat) (w : List Nat) : Prop := Va n w /\ w.length = Iv.inv (led (rg n) w)
theorem pm {n : Nat} {w : List Nat} (h : Va n w) : (led (rg n) w).Perm (rg n) := Wd.uV (by rw [Wd.bW]; exact h)
theorem ln {n : Nat} {w : List Nat} : (led (rg n) w).length = n := by rw [Wd.iD, Wd.bW]
theorem uJ {n i : Nat} {u : List Nat} (h : Red n (u ++ [i])) : Red n u /\ jO (led (rg n) (u ++ [i])) i /\ ex (led (rg n) (u ++ [i])) i = led (rg n) u := by
 obtain ⟨hv, hl⟩ := h
 have hi := hv i (by simp)
 have vu : Va n u := fun k hk => hv k (List.mem_append_left _ hk)
 have e : led (rg n) (u ++ [i]) = ex (led (rg n) u) i := by rw [Wd.fQ]; rfl
 have l1 : i < (led (rg n) u).length := by rw [ln]; exact hi.2
 rw [e] at hl ⊢
 have h1 := Fw.rZ (w := u) (l := rg n) (by rw [Wd.bW]; exact vu)
 rw [Fw.sI] at h1
 rw [List.length_append] at hl
 have hl : u.length + 1 = Iv.inv (ex (led (rg n) u) i) := hl
 have h2 := Fw.yJ hi.1 l1
 refine ⟨⟨vu, by omega⟩, ⟨hi.1, by rw [Wd.bN]; exact l1, ?_⟩, Fw.u0 hi.1 l1⟩
 rw [Fw.tW hi.1 l1, Fw.u_ hi.1 l1]
 refine Classical.byContradiction fun z => ?_
 have ne := Fw.xh (pm vu) hi.1 l1
 have := Fw.jy hi.1 l1 (by omega)
 omega
theorem lY {n i : Nat} {x : List Nat} {l : List Int} (hx : Red n x) (e : led (rg n) x = ex l i) (hl : l.length = n) (hf : jO l i) : Red n (x ++ [i]) /\ led (rg n) (x ++ [i]) = l := by
 have e2 : led (rg n) (x ++ [i]) = l := by
  rw [Wd.fQ, e]
  exact Fw.u0 hf.1 hf.2.1
 refine ⟨⟨fun k hk => ?_, ?_⟩, e2⟩
 ·rcases List.mem_append.mp hk with z | z
  ·exact hx.1 k z
  ·have : k = i := by simpa using z
   rw [this]; exact ⟨hf.1, by have := hf.2.1; omega⟩
 ·rw [e2, List.length_append, hx.2, e, Fw.jy hf.1 hf.2.1 hf.2.2]; rfl
theorem iG {l : List Int} {k p : Nat} (h0 : 1 <= k) (h : k < l.length) (h1 : p ≠ k) (h2 : p ≠ k - 1) : (ex l k).getD p 0 = l.getD p 0 := by
 rw [List.getD_eq_getElem?_getD, Wd.di h0 h, if_neg h1, if_neg h2, List.getD_eq_getElem?_getD]
theorem zh : ∀ (m n : Nat) (u v : List Nat), u.length = m -> Red n u -> Red n v -> led (rg n) u = led (rg n) v -> Con u v
 | 0, n, u, v, hm, hu, hv, he => by
  have e1 : u = [] := List.eq_nil_of_length_eq_zero hm
  subst e1
  have : v.length = 0 := by rw [hv.2, <- he, <- hu.2]; rfl
  rw [List.eq_nil_of_length_eq_zero this]
  exact .refl _
 | m + 1, n, u, v, hm, hu, hv, he => by
  have lv : v.length = m + 1 := by rw [hv.2, <- he, <- hu.2, hm]
  obtain ⟨u', i, rfl⟩ : ∃ u' i, u = u' ++ [i] := by
   rcases List.eq_nil_or_concat u with z | ⟨a, b, z⟩
   ·rw [z] at hm; cases hm
   ·exact ⟨a, b, by rw [z, List.concat_eq_append]⟩
  obtain ⟨v', j, rfl⟩ : ∃ v' j, v = v' ++ [j] := by
   rcases List.eq_nil_or_concat v with z | ⟨a, b, z⟩
   ·rw [z] at lv; cases lv
   ·exact ⟨a, b, by rw [z, List.concat_eq_append]⟩
  obtain ⟨ru, fi, eu⟩ := uJ hu
  obtain ⟨rv, fj, ev⟩ := uJ hv
  have mu : u'.length = m := by rw [List.length_append] at hm; exact Nat.succ.inj hm
  have mv : v'.length = m := by rw [List.length_append] at lv; exact Nat.succ.inj lv
  rw [<- he] at fj ev
  have po := pm hu.1
  have lo : (led (rg n) (u' ++ [i])).length = n := ln
  generalize led (rg n) (u' ++ [i]) = o at fi fj eu ev po lo
  by_cases c : i = j
  ·subst c
   exact (zh m n u' v' mu ru rv (by rw [<- eu, <- ev])).snoc [i]
  ·by_cases c2 : i + 2 <= j \/ j + 2 <= i
   ·have lj : j < (ex o i).length := by rw [Wd.bN]; exact fj.2.1
    have li : i < (ex o j).length := by rw [Wd.bN]; exact fi.2.1
    have f1 : jO (ex o i) j := ⟨fj.1, lj, by
     rw [iG fi.1 fi.2.1 (by omega) (by have := fi.1; have := fj.1; omega), iG fi.1 fi.2.1 (by have := fj.1; omega) (by have := fi.1; have := fj.1; omega)]; exact fj.2.2⟩
    have f2 : jO (ex o j) i := ⟨fi.1, li, by
     rw [iG fj.1 fj.2.1 (by omega) (by have := fi.1; have := fj.1; omega), iG fj.1 fj.2.1 (by have := fi.1; omega) (by have := fi.1; have := fj.1; omega)]; exact fi.2.2⟩
    have p1 := Fw.kC po fi.1 fi.2.1
    have p2 := Fw.kC po fj.1 fj.2.1
    have p12 := Fw.kC p1 f1.1 f1.2.1
    obtain ⟨x, xv, xe, xl⟩ := wF p12
    have rx : Red n x := ⟨xv, by rw [xe]; exact xl⟩
    obtain ⟨r1, e1⟩ := lY (l := ex o i) rx xe (by rw [Wd.bN]; exact lo) f1
    obtain ⟨r2, e2⟩ := lY (l := ex o j) rx (by rw [xe, Eg fi.1 fj.1 fi.2.1 fj.2.1 c2]) (by rw [Wd.bN]; exact lo) f2
    have k1 := (zh m n u' (x ++ [j]) mu ru r1 (by rw [e1, eu])).snoc [i]
    have k2 := (zh m n v' (x ++ [i]) mv rv r2 (by rw [e2, ev])).snoc [j]
    rw [List.append_assoc] at k1 k2
    exact (k1.step (Mv.comm x [] j i c2.symm)).trans k2.symm
   ·have key : ∀ (u' v' : List Nat) (i : Nat), u'.length = m -> v'.length = m -> Red n u' -> Red n v' -> jO o i -> jO o (i + 1) -> ex o i = led (rg n) u' -> ex o (i + 1) = led (rg n) v' -> Con (u' ++ [i]) (v' ++ [i + 1]) := by
     intro u' v' i mu mv ru rv fi fj eu ev
     have h1 := fi.1
     have h2 := fj.2.1
     have l1 : (ex o i).length = n := by rw [Wd.bN]; exact lo
     have l2 : (ex (ex o i) (i + 1)).length = n := by rw [Wd.bN]; exact l1
     have m1 : (ex o (i + 1)).length = n := by rw [Wd.bN]; exact lo
     have m2 : (ex (ex o (i + 1)) i).length = n := by rw [Wd.bN]; exact m1
     have d0 : o.getD (i + 1) 0 < o.getD i 0 := fj.2.2
     have d1 : o.getD i 0 < o.getD (i - 1) 0 := fi.2.2
     have a1 : (ex o i).getD i 0 = o.getD (i - 1) 0 := Fw.tW h1 fi.2.1
     have a2 : (ex o i).getD (i - 1) 0 = o.getD i 0 := Fw.u_ h1 fi.2.1
     have a3 : (ex o i).getD (i + 1) 0 = o.getD (i + 1) 0 := iG h1 fi.2.1 (by omega) (by omega)
     have f1 : jO (ex o i) (i + 1) := ⟨by omega, by omega, by
      show (ex o i).getD (i + 1) 0 < (ex o i).getD i 0
      rw [a1, a3]; omega⟩
     have b1 : (ex (ex o i) (i + 1)).getD i 0 = o.getD (i + 1) 0 := (Fw.u_ (k := i + 1) (by omega) (by omega)).trans a3
     have b2 : (ex (ex o i) (i + 1)).getD (i - 1) 0 = o.getD i 0 := (iG (by omega) (by omega) (by omega) (by omega)).trans a2
     have f2 : jO (ex (ex o i) (i + 1)) i := ⟨h1, by omega, by rw [b1, b2]; exact d0⟩
     have c1 : (ex o (i + 1)).getD i 0 = o.getD (i + 1) 0 := Fw.u_ (k := i + 1) (by omega) h2
     have c2 : (ex o (i + 1)).getD (i + 1) 0 = o.getD i 0 := Fw.tW (k := i + 1) (by omega) h2
     have c3 : (ex o (i + 1)).getD (i - 1) 0 = o.getD (i - 1) 0 := iG (by omega) h2 (by omega) (by omega)
     have g1 : jO (ex o (i + 1)) i := ⟨h1, by omega, by rw [c1, c3]; omega⟩
     have e1' : (ex (ex o (i + 1)) i).getD i 0 = o.getD (i - 1) 0 := (Fw.tW h1 (by omega)).trans c3
     have e2' : (ex (ex o (i + 1)) i).getD (i + 1) 0 = o.getD i 0 := (iG h1 (by omega) (by omega) (by omega)).trans c2
     have g2 : jO (ex (ex o (i + 1)) i) (i + 1) := ⟨by omega, by omega, by
      show (ex (ex o (i + 1)) i).getD (i + 1) 0 < (ex (ex o (i + 1)) i).getD i 0
      rw [e1', e2']; exact d1⟩
     have p3 := Fw.kC (Fw.kC (Fw.kC po h1 fi.2.1) f1.1 f1.2.1) f2.1 f2.2.1
     obtain ⟨x, xv, xe, xl⟩ := wF p3
     have rx : Red n x := ⟨xv, by rw [xe]; exact xl⟩
     obtain ⟨r1, q1⟩ := lY (l := ex (ex o i) (i + 1)) rx xe l2 f2
     obtain ⟨r2, q2⟩ := lY (l := ex o i) r1 q1 l1 f1
     obtain ⟨s1, t1⟩ := lY (l := ex (ex o (i + 1)) i) rx (by rw [xe]; exact Cj h1 (by omega)) m2 g2
     obtain ⟨s2, t2⟩ := lY (l := ex o (i + 1)) s1 t1 m1 g1
     have k1 := (zh m n u' _ mu ru r2 (by rw [q2, eu])).snoc [i]
     have k2 := (zh m n v' _ mv rv s2 (by rw [t2, ev])).snoc [i + 1]
     simp only [List.append_assoc] at k1 k2
     exact (k1.step (Mv.braid x [] i (i + 1) (.inl rfl))).trans k2.symm
    by_cases c3 : j = i + 1
    ·subst c3
     exact key u' v' i mu mv ru rv fi fj eu ev
    ·have c4 : i = j + 1 := by omega
     subst c4
     exact (key v' u' j mv mu rv ru fj fi ev eu).symm
end Ti
namespace Rd
open PySem L2
open Ti (Mv Con)
abbrev up (v : List Nat) : List Int := v.map fun k : Nat => (k : Int)
theorem rJ : ∀ {a b : List Nat}, up a = up b -> a = b
 | [], [], _ => rfl
 | [], _ :: _, e => by simp at e
 | _ :: _, [], e => by simp at e
 | x :: xs, y :: ys, e => by
  have e1 := List.cons.inj e
  rw [rJ e1.2, show x = y from Int.ofNat_inj.mp e1.1]
theorem iO (v : List Nat) : (up v).length = v.length := List.length_map ..
theorem cU (v : List Nat) (p : Nat) : (up v).getD p 0 = (v.getD p 0 : Int) := by
 rw [List.getD_eq_getElem?_getD, List.getElem?_map, List.getD_eq_getElem?_getD]
 cases v[p]? <;> rfl
def tF (w : List Int) (p : Nat) : List Int := w.take p ++ [w.getD (p + 1) 0, w.getD p 0] ++ w.drop (p + 2)
def tD (w : List Int) (p : Nat) : List Int := w.take p ++ [w.getD (p + 1) 0, w.getD p 0, w.getD (p + 1) 0] ++ w.drop (p + 3)
def qd (w : List Int) (p : Nat) : Int := if w.getD p 0 - w.getD (p + 1) 0 < 0 then -(w.getD p 0 - w.getD (p + 1) 0) else w.getD p 0 - w.getD (p + 1) 0
def chg (w : List Int) : List (List Int) := ((aS 0 ((w.length : Int) - 1)).filter fun k => decide (1 < qd w k.toNat)).map fun k => tF w k.toNat
def oN (w : List Int) : List (List Int) := ((aS 0 ((w.length : Int) - 2)).filter fun k => (w.getD k.toNat 0 == w.getD (k.toNat + 2) 0) && (qd w k.toNat == 1)).map fun k => tD w k.toNat
def mL (w : List Int) : List (List Int) := chg w ++ oN w
theorem Dp {v : List Nat} {p : Nat} (h : p + 1 < v.length) : v = v.take p ++ v.getD p 0 :: v.getD (p + 1) 0 :: v.drop (p + 2) := by
 have g : ∀ q, q < v.length -> v.getD q 0 = v[q]! := fun q hq => by simp [List.getD_eq_getElem?_getD, hq]
 rw [show v.getD p 0 = v[p] by rw [List.getD_eq_getElem?_getD, List.getElem?_eq_getElem (by omega)]; rfl, show v.getD (p + 1) 0 = v[p + 1] by rw [List.getD_eq_getElem?_getD, List.getElem?_eq_getElem h]; rfl,
  List.getElem_cons_drop, List.getElem_cons_drop, List.take_append_drop]
theorem G0 {v : List Nat} {p : Nat} (h : p + 2 < v.length) : v = v.take p ++ v.getD p 0 :: v.getD (p + 1) 0 :: v.getD (p + 2) 0 :: v.drop (p + 3) := by
 rw [show v.getD p 0 = v[p] by rw [List.getD_eq_getElem?_getD, List.getElem?_eq_getElem (by omega)]; rfl, show v.getD (p + 1) 0 = v[p + 1] by rw [List.getD_eq_getElem?_getD, List.getElem?_eq_getElem (by omega)]; rfl,
  show v.getD (p + 2) 0 = v[p + 2] by rw [List.getD_eq_getElem?_getD, List.getElem?_eq_getElem h]; rfl, List.getElem_cons_drop, List.getElem_cons_drop, List.getElem_cons_drop, List.take_append_drop]
theorem As (v : List Nat) (p : Nat) : tF (up v) p = up (v.take p ++ v.getD (p + 1) 0 :: v.getD p 0 :: v.drop (p + 2)) := by
 unfold tF
 rw [cU, cU, <- List.map_take, <- List.map_drop, List.append_assoc, up, List.map_append]; rfl
theorem C9 (v : List Nat) (p : Nat) : tD (up v) p = up (v.take p ++ v.getD (p + 1) 0 :: v.getD p 0 :: v.getD (p + 1) 0 :: v.drop (p + 3)) := by
 unfold tD
 rw [cU, cU, <- List.map_take, <- List.map_drop, List.append_assoc, up, List.map_append]; rfl
theorem nO (v : List Nat) (p : Nat) : qd (up v) p = if (v.getD p 0 : Int) - v.getD (p + 1) 0 < 0 then -((v.getD p 0 : Int) - v.getD (p + 1) 0) else (v.getD p 0 : Int) - v.getD (p + 1) 0 := by
 unfold qd; rw [cU, cU]
theorem EE {v : List Nat} {x : List Int} (h : x ∈ mL (up v)) : ∃ v', x = up v' /\ Mv v v' := by
 unfold mL chg oN at h
 rcases List.mem_append.mp h with h | h
 ·obtain ⟨k, hk, rfl⟩ := List.mem_map.mp h
  obtain ⟨h1, h2⟩ := List.mem_filter.mp hk
  have h1 := cG.mp h1
  rw [iO] at h1
  have h2 := of_decide_eq_true h2
  rw [nO] at h2
  have hp : k.toNat + 1 < v.length := by omega
  refine ⟨_, As v k.toNat, ?_⟩
  have e := Dp hp
  have := Mv.comm (v.take k.toNat) (v.drop (k.toNat + 2)) (v.getD k.toNat 0) (v.getD (k.toNat + 1) 0) (by split at h2 <;> omega)
  rw [<- e] at this
  exact this
 ·obtain ⟨k, hk, rfl⟩ := List.mem_map.mp h
  obtain ⟨h1, h2⟩ := List.mem_filter.mp hk
  have h1 := cG.mp h1
  rw [iO] at h1
  rw [Bool.and_eq_true, beq_iff_eq, beq_iff_eq, nO, cU, cU] at h2
  have hp : k.toNat + 2 < v.length := by omega
  refine ⟨_, C9 v k.toNat, ?_⟩
  have e := G0 hp
  have e2 : v.getD (k.toNat + 2) 0 = v.getD k.toNat 0 := by have := h2.1; omega
  rw [e2] at e
  have := Mv.braid (v.take k.toNat) (v.drop (k.toNat + 3)) (v.getD k.toNat 0) (v.getD (k.toNat + 1) 0) (by have := h2.2; split at this <;> omega)
  rw [<- e] at this
  exact this
theorem zb {P R : List Nat} {a : Nat} : (P ++ a :: R).getD P.length 0 = a := by simp [List.getD_eq_getElem?_getD]
theorem IB {v v' : List Nat} (h : Mv v v') : up v' ∈ mL (up v) := by
 unfold mL chg oN
 cases h with
 | comm P R a b h =>
  have g0 : (P ++ a :: b :: R).getD P.length 0 = a := by simp [List.getD_eq_getElem?_getD]
  have g1 : (P ++ a :: b :: R).getD (P.length + 1) 0 = b := by simp [List.getD_eq_getElem?_getD]
  refine List.mem_append_left _ (List.mem_map.mpr ⟨(P.length : Int), List.mem_filter.mpr ⟨cG.mpr ⟨by omega, by rw [iO]; simp; omega⟩, ?_⟩, ?_⟩)
  ·rw [Int.toNat_natCast, nO, g0, g1]
   refine decide_eq_true ?_
   split <;> omega
  ·rw [Int.toNat_natCast, As, g0, g1]
   congr 1
   simp
 | braid P R a b h =>
  have g0 : (P ++ a :: b :: a :: R).getD P.length 0 = a := by simp [List.getD_eq_getElem?_getD]
  have g1 : (P ++ a :: b :: a :: R).getD (P.length + 1) 0 = b := by simp [List.getD_eq_getElem?_getD]
  have g2 : (P ++ a :: b :: a :: R).getD (P.length + 2) 0 = a := by simp [List.getD_eq_getElem?_getD]
  refine List.mem_append_right _ (List.mem_map.mpr ⟨(P.length : Int), List.mem_filter.mpr ⟨cG.mpr ⟨by omega, by rw [iO]; simp; omega⟩, ?_⟩, ?_⟩)
  ·rw [Int.toNat_natCast, nO, cU, cU, g0, g1, g2, beq_self_eq_true, Bool.true_and, beq_iff_eq]
   split <;> omega
  ·rw [Int.toNat_natCast, C9, g0, g1]
   congr 1
   simp
theorem oS {v v' : List Nat} (h : Mv v v') : v'.length = v.length /\ ∀ k ∈ v', k ∈ v := by
 cases h with
 | comm P R a b h => exact ⟨by simp, fun k hk => by
   simp only [List.mem_append, List.mem_cons] at hk ⊢
   rcases hk with z | z | z | z
   ·exact .inl z
   ·exact .inr (.inr (.inl z))
   ·exact .inr (.inl z)
   ·exact .inr (.inr (.inr z))⟩
 | braid P R a b h => exact ⟨by simp, fun k hk => by
   simp only [List.mem_append, List.mem_cons] at hk ⊢
   rcases hk with z | z | z | z | z
   ·exact .inl z
   ·exact .inr (.inr (.inl z))
   ·exact .inr (.inl z)
   ·exact .inr (.inr (.inl z))
   ·exact .inr (.inr (.inr (.inr z)))⟩
theorem nj : ∀ (N : Nat) (l : List Nat), l.Nodup -> (∀ x ∈ l, x < N) -> l.length <= N
 | 0, l, _, h => by
  cases l with
  | nil => exact Nat.le_refl _
  | cons x l => exact absurd (h x (List.mem_cons_self ..)) (Nat.not_lt_zero _)
 | N + 1, l, hn, h => by
  by_cases c : N ∈ l
  ·have h1 := nj N (l.erase N) (hn.erase N) fun x hx => by
    have h1 := (List.Nodup.mem_erase_iff hn).mp hx
    have := h x h1.2
    have := h1.1
    omega
   have := List.length_erase_of_mem c
   have := List.length_pos_of_mem c
   omega
  ·have := nj N l hn fun x hx => by
    have := h x hx
    have : x ≠ N := fun z => c (z ▸ hx)
    omega
   omega
def code : List Nat -> Nat
 | [] => 0
 | a :: r => (a - 1) + 8 * code r
def d9 (L : Nat) (w : List Nat) : Prop := w.length = L /\ ∀ k ∈ w, 1 <= k /\ k <= 8
theorem sP : ∀ {L : Nat} {w : List Nat}, d9 L w -> code w < 8 ^ L
 | 0, [], _ => by show 0 < 8 ^ 0; decide
 | L + 1, a :: r, h => by
  have h1 := sP (L := L) (w := r) ⟨Nat.succ.inj h.1, fun k hk => h.2 k (List.mem_cons_of_mem _ hk)⟩
  have h2 := h.2 a (List.mem_cons_self ..)
  show (a - 1) + 8 * code r < 8 ^ (L + 1)
  rw [Nat.pow_succ]
  omega
 | 0, _ :: _, h => by cases h.1
 | _ + 1, [], h => by cases h.1
theorem code_inj : ∀ {L : Nat} {w v : List Nat}, d9 L w -> d9 L v -> code w = code v -> w = v
 | 0, [], [], _, _, _ => rfl
 | L + 1, a :: r, b :: t, h, h', e => by
  have h2 := h.2 a (List.mem_cons_self ..)
  have h3 := h'.2 b (List.mem_cons_self ..)
  have e : (a - 1) + 8 * code r = (b - 1) + 8 * code t := e
  have e1 : a = b := by omega
  have e2 : code r = code t := by omega
  rw [e1, code_inj (L := L) ⟨Nat.succ.inj h.1, fun k hk => h.2 k (List.mem_cons_of_mem _ hk)⟩ ⟨Nat.succ.inj h'.1, fun k hk => h'.2 k (List.mem_cons_of_mem _ hk)⟩ e2]
 | 0, _ :: _, _, h, _, _ => by cases h.1
 | 0, [], _ :: _, _, h, _ => by cases h.1
 | _ + 1, [], _, h, _, _ => by cases h.1
 | _ + 1, _ :: _, [], _, h, _ => by cases h.1
theorem few {L : Nat} {ws : List (List Nat)} (hL : L <= 8) (hn : ws.Nodup) (h : ∀ w ∈ ws, d9 L w) : ws.length <= 16777216 := by
 have h1 := nj (8 ^ L) (ws.map code) (by
  unfold List.Nodup
  rw [List.pairwise_map]
  exact List.Pairwise.imp_of_mem (fun ha hb hne z => hne (code_inj (h _ ha) (h _ hb) z)) hn) fun x hx => by
  obtain ⟨w, hw, rfl⟩ := List.mem_map.mp hx
  exact sP (h w hw)
 rw [List.length_map] at h1
 exact Nat.le_trans h1 (Nat.le_trans (Nat.pow_le_pow_right (by decide) hL) (by decide))
abbrev En := List Nat × Option (List Nat)
structure Bf (s : List Nat) (es : List En) (done : Nat) : Prop where
 nd : (es.map (·.1)).Nodup
 hd : es[0]? = some (s, none)
 pr : ∀ i w q, es[i]? = some (w, q) -> (i = 0 /\ q = none) \/ ∃ j r u, j < i /\ es[j]? = some (u, r) /\ q = some u /\ Mv u w
 co : ∀ w ∈ es.map (·.1), Con s w
 cl : ∀ i w q, i < done -> es[i]? = some (w, q) -> ∀ w', Mv w w' -> w' ∈ es.map (·.1)
 le : done <= es.length
theorem Bf.start (s : List Nat) : Bf s [(s, none)] 0 where
 nd := by simp
 hd := rfl
 pr := fun i w q h => by
  cases i with
  | zero => cases h; exact .inl ⟨rfl, rfl⟩
  | succ i => simp at h
 co := fun w hw => by
  have : w = s := by simpa using hw
  rw [this]; exact .refl _
 cl := fun i w q h => absurd h (Nat.not_lt_zero _)
 le := Nat.zero_le _
theorem Bf.more {s : List Nat} {es : List En} {done i : Nat} {u w : List Nat} {r : Option (List Nat)} (b : Bf s es done) (hi : es[i]? = some (u, r)) (hm : Mv u w) (hn : w ∉ es.map (·.1)) : Bf s (es ++ [(w, some u)]) done where
 nd := by
  rw [List.map_append, List.nodup_append]
  refine ⟨b.nd, by simp, fun a ha c hc z => ?_⟩
  have : c = w := by simpa using hc
  exact hn (by rw [<- this, <- z]; exact ha)
 hd := by rw [List.getElem?_append_left (List.getElem?_eq_some_iff.mp b.hd).1]; exact b.hd
 pr := fun j v q h => by
  have li := (List.getElem?_eq_some_iff.mp hi).1
  by_cases c : j < es.length
  ·rw [List.getElem?_append_left c] at h
   rcases b.pr j v q h with z | ⟨k, r', u', hk, e1, e2, e3⟩
   ·exact .inl z
   ·exact .inr ⟨k, r', u', hk, by rw [List.getElem?_append_left (by omega)]; exact e1, e2, e3⟩
  ·rw [List.getElem?_append_right (by omega)] at h
   cases hj : j - es.length with
   | zero =>
    rw [hj] at h
    cases h
    exact .inr ⟨i, r, u, by omega, by rw [List.getElem?_append_left li]; exact hi, rfl, hm⟩
   | succ k => rw [hj] at h; simp at h
 co := fun v hv => by
  rw [List.map_append] at hv
  rcases List.mem_append.mp hv with z | z
  ·exact b.co v z
  ·have : v = w := by simpa using z
   rw [this]
   exact (b.co u (List.mem_map.mpr ⟨_, List.mem_of_getElem? hi, rfl⟩)).step hm
 cl := fun j v q h e v' hv => by
  have lj : j < es.length := Nat.lt_of_lt_of_le h b.le
  rw [List.getElem?_append_left lj] at e
  rw [List.map_append]
  exact List.mem_append_left _ (b.cl j v q h e v' hv)
 le := by rw [List.length_append]; exact Nat.le_trans b.le (Nat.le_add_right _ _)
theorem Bf.next {s : List Nat} {es : List En} {done : Nat} {u : List Nat} {r : Option (List Nat)} (b : Bf s es done) (hi : es[done]? = some (u, r)) (h : ∀ w', Mv u w' -> w' ∈ es.map (·.1)) : Bf s es (done + 1) where
 nd := b.nd
 hd := b.hd
 pr := b.pr
 co := b.co
 cl := fun i w q hlt e w' hw => by
  by_cases c : i < done
  ·exact b.cl i w q c e w' hw
  ·have : i = done := by omega
   subst this
   rw [hi] at e
   cases e
   exact h w' hw
 le := (List.getElem?_eq_some_iff.mp hi).1
theorem Bf.goes {s t : List Nat} {es : List En} {done : Nat} (b : Bf s es done) (hc : Con s t) (hn : t ∉ es.map (·.1)) : done < es.length := by
 refine Classical.byContradiction fun z => hn ?_
 have e : done = es.length := Nat.le_antisymm b.le (by omega)
 have all : ∀ {w}, Con s w -> w ∈ es.map (·.1) := by
  intro w h
  induction h with
  | refl => exact List.mem_map.mpr ⟨_, List.mem_of_getElem? b.hd, rfl⟩
  | step _ m ih =>
   obtain ⟨⟨v, q⟩, hv, rfl⟩ := List.mem_map.mp ih
   obtain ⟨i, hi, ei⟩ := List.getElem_of_mem hv
   exact b.cl i v q (by omega) (by rw [List.getElem?_eq_getElem hi, ei]) _ m
 exact all hc
theorem gc {L : Nat} {s w : List Nat} (hs : d9 L s) (h : Con s w) : d9 L w := by
 induction h with
 | refl => exact hs
 | step _ m ih =>
  obtain ⟨h1, h2⟩ := oS m
  exact ⟨h1.trans ih.1, fun k hk => ih.2 k (h2 k hk)⟩
theorem Bf.few {s : List Nat} {es : List En} {done L : Nat} (b : Bf s es done) (hs : d9 L s) (hL : L <= 8) : es.length <= 16777216 := by
 have := Rd.few hL b.nd fun w hw => gc hs (b.co w hw)
 rwa [List.length_map] at this
theorem Bf.room {s t : List Nat} {es : List En} {done L : Nat} (b : Bf s es done) (hs : d9 L s) (hL : L <= 8) (ht : Con s t) (hn : t ∉ es.map (·.1)) : es.length < 16777216 := by
 have := Rd.few (ws := es.map (·.1) ++ [t]) hL (by
  rw [List.nodup_append]
  refine ⟨b.nd, by simp, fun a ha c hc z => ?_⟩
  have : c = t := by simpa using hc
  exact hn (by rw [<- this, <- z]; exact ha)) fun w hw => by
  rcases List.mem_append.mp hw with z | z
  ·exact gc hs (b.co w z)
  ·have : w = t := by simpa using z
   rw [this]; exact gc hs ht
 rw [List.length_append, List.length_map] at this
 have : es.length + 1 <= 16777216 := this
 omega
end Rd
namespace K10
open PySem L2 Am
def top (i : Nat) : Stmt := PySem.Challenge.pw_undercells_k10_falls_of_words.main.body.getD i (.Pass ⟨0, 0, 0, 0⟩)
abbrev gb : Stmt := top 5
def pD : List Str := ["thing"]
def lV : Sm :=
 bM (vE (aX (f2 se) (aq (ah 0) (aq (eC (.ty "int")) (aM)))) (Fc (aX (f2 se) (aq (ah 0) (aq (eC (.ty "bool")) (aM))))))
def f_ : List A -> aH -> R A := dz pD lV
abbrev dG : Stmt := top 6
def lg : List Str := ["n"]
def iT : Sm :=
 bM (aX (f1 iM) (aq (aX (f2 mY) (aq (eC (.int 1)) (aq (aA aW (ah 0) (eC (.int 1))) (aM)))) (aM)))
def dO : List A -> aH -> R A := dz lg iT
abbrev nR : Stmt := top 7
def C6 : List Str := ["order", "places", "at", "thing"]
def CV : Ic :=
 Ec (ah 0)
def uH : Sm :=
 bD (aA aW (ah 2) (eC (.int 1))) (zP (ah 1) (aA aSub (ah 3) (eC (.int 1))))
def vU : Sm :=
 bq (bD (aA jo (gr (aq (eC (.int 0)) (aM))) (aX (f1 eK) (aq (ah 0) (aM)))) (bJ 1))
 (bq (gP (CV) (wG 2 (oq (bJ 2) (oq (bJ 3) (yE))))
 (uH))
 (bM (aX (f1 iM) (aq (ah 1) (aM)))))
def nv : List A -> aH -> R A := dz C6 vU
abbrev dQ : Stmt := top 8
def lJ : List Str := ["n", "thing"]
def iS : Sm :=
 bM (vE (eFn f_ (aq (ah 1) (aM))) (IY KH H_ (eC (.int 1)) (ah 1) (ah 0)))
def bY : List A -> aH -> R A := dz lJ iS
abbrev bQ : Stmt := top 9
def gZ : List Str := ["order", "i", "j", "things"]
def eT : Sm :=
 bq (bD (aX (f1 ir) (aq (ah 0) (aM))) (bJ 3))
 (bq (bD (jM (aq (aA cI (ah 3) (aA aSub (ah 2) (eC (.int 1)))) (aq (aA cI (ah 3) (aA aSub (ah 1) (eC (.int 1)))) (aM)))) (wG 2 (oq (zP (ah 3) (aA aSub (ah 1) (eC (.int 1)))) (oq (zP (ah 3) (aA aSub (ah 2) (eC (.int 1)))) (yE)))))
 (bM (aX (f1 iM) (aq (ah 3) (aM)))))
def bP : List A -> aH -> R A := dz gZ eT
abbrev fq : Stmt := top 10
def ow : List Str := ["order", "k"]
def ko : Sm :=
 bq (qA (mP (kN (eFn bY (aq (aX (f1 eK) (aq (ah 0) (aM))) (aq (ah 1) (aM))))))
 (Ky)
 (iC))
 (bM (eFn bP (aq (ah 0) (aq (ah 1) (aq (aA aW (ah 1) (eC (.int 1))) (aM))))))
def cA : List A -> aH -> R A := dz ow ko
abbrev dS : Stmt := top 11
def lF : List Str := ["n"]
def iP : Sm :=
 bM (vS [none, none, some 0] (fW (eC (.int 1)) (ah 0)) (bJ 0) (iw) (fW (aA aW (ah 0) (eC (.int 1))) (aA aW (ah 2) (eC (.int 1)))) (bJ 1) (iw) (jM (aq (ah 0) (aq (ah 1) (aM)))))
def cS : List A -> aH -> R A := dz lF iP
abbrev dJ : Stmt := top 12
def kR : List Str := ["order"]
def iR : Sm :=
 bM (cJ [none, none, some 0] (j8 (eFn cS (aq (aX (f1 eK) (aq (ah 0) (aM))) (aM)))) (wG 2 (oq (bJ 0) (oq (bJ 1) (yE)))) (jf (aA sq (aA cI (ah 2) (aA aSub (ah 0) (eC (.int 1)))) (aA cI (ah 2) (aA aSub (ah 1) (eC (.int 1)))))) (jM (aq (ah 0) (aq (ah 1) (aM)))))
def dH : List A -> aH -> R A := dz kR iR
abbrev ja : Stmt := top 13
def uB : List Str := ["order"]
def pP : Sm :=
 bM (aX (f1 eK) (aq (eFn dH (aq (ah 0) (aM))) (aM)))
def jj : List A -> aH -> R A := dz uB pP
abbrev kJ : Stmt := top 14
def yT : List Str := ["order"]
def sG : Sm :=
 bM (cJ [none, some 0] (fW (eC (.int 1)) (aX (f1 eK) (aq (ah 0) (aM)))) (bJ 0) (jf (aA sq (aA cI (ah 1) (aA aSub (ah 0) (eC (.int 1)))) (aA cI (ah 1) (ah 0)))) (ah 0))
def jq : List A -> aH -> R A := dz yT sG
abbrev gX : Stmt := top 17
def qZ : List Str := ["n", "thing"]
def nB : Sm :=
 bq (qA (DZ (mP (kN (aX (f2 se) (aq (ah 1) (aq (eC (.ty "list")) (aM)))))) (jf (aA sq (aX (f1 eK) (aq (ah 1) (aM))) (eC (.int 200)))))
 (bM (eC (.bl false)))
 (iC))
 (bM (aX (f1 BS) (aq (cJ [none, some 0] (j8 (ah 1)) (bJ 0) (iw) (eFn bY (aq (ah 1) (aq (ah 0) (aM))))) (aM))))
def gU : List A -> aH -> R A := dz qZ nB
abbrev iZ : Stmt := top 18
def ux : List Str := ["n", "word", "order", "k"]
def pX : Ic :=
 j8 (ah 1)
def p9 : Sm :=
 bD (eFn cA (aq (ah 2) (aq (ah 3) (aM)))) (bJ 2)
def qe : Sm :=
 bq (qA (mP (kN (eFn gU (aq (ah 0) (aq (ah 1) (aM))))))
 (Ky)
 (iC))
 (bq (bD (eFn dO (aq (ah 0) (aM))) (bJ 2))
 (bq (gP (pX) (bJ 3)
 (p9))
 (bM (ah 2))))
def eO : List A -> aH -> R A := dz ux qe
abbrev dU : Stmt := top 19
def lE : List Str := ["n", "word"]
def iQ : Sm :=
 bM (aA (iW false) (eFn jj (aq (eFn eO (aq (ah 0) (aq (ah 1) (aM)))) (aM))) (aX (f1 eK) (aq (ah 1) (aM))))
def cB : List A -> aH -> R A := dz lE iQ
abbrev eo : Stmt := top 20
def nh : List Str := ["order", "left", "word", "can_begin"]
def iz : Te :=
 kN (ah 3)
def ig : Sm :=
 bq (jS (DB gK (ah 2) (aq (aA cI (ah 3) (eC (.int 0))) (aM))))
 (bq (bD (eFn cA (aq (ah 1) (aq (aA cI (ah 3) (eC (.int 0))) (aM)))) (bJ 1))
 (bD (eFn jq (aq (ah 1) (aM))) (bJ 3)))
def jB : Sm :=
 bq (bD (eFn nv (aq (ah 0) (aM))) (bJ 1))
 (bq (bD (gr (aM)) (bJ 2))
 (bq (bD (eFn jq (aq (ah 1) (aM))) (bJ 3))
 (bq (dX (iz)
 (ig) 100000000)
 (bM (ah 2)))))
def er : List A -> aH -> R A := dz nh jB
abbrev eZ : Stmt := top 24
def oB : List Str := ["n", "word"]
def jX : Sm :=
 bM (KN (aA sq (ah 0) (eC (.int 9))) (aA sq (aX (f1 eK) (aq (ah 1) (aM))) (eC (.int 8))))
def ff : List A -> aH -> R A := dz oB jX
abbrev cD : Stmt := top 25
def iX : List Str := ["word"]
def gh : Sm :=
 bM (cJ [none, some 0] (fC (aA aSub (aX (f1 eK) (aq (ah 0) (aM))) (eC (.int 1)))) (bJ 0) (jf (aA sq (aX (f1 sC) (aq (aA aSub (aA cI (ah 1) (ah 0)) (aA cI (ah 1) (aA aW (ah 0) (eC (.int 1))))) (aM))) (eC (.int 1)))) (aA aW (aA aW (lC (ah 1) cE (cj (ah 0))) (jM (aq (aA cI (ah 1) (aA aW (ah 0) (eC (.int 1)))) (aq (aA cI (ah 1) (ah 0)) (aM))))) (lC (ah 1) (cj (aA aW (ah 0) (eC (.int 2)))) cE)))
def cC : List A -> aH -> R A := dz iX gh
abbrev cL : Stmt := top 26
def jG : List Str := ["word"]
def gz : Sm :=
 bM (cJ [none, some 0] (fC (aA aSub (aX (f1 eK) (aq (ah 0) (aM))) (eC (.int 2)))) (bJ 0) (qD (jf (aA (iW false) (aA cI (ah 1) (ah 0)) (aA cI (ah 1) (aA aW (ah 0) (eC (.int 2)))))) (jf (aA (iW false) (aX (f1 sC) (aq (aA aSub (aA cI (ah 1) (ah 0)) (aA cI (ah 1) (aA aW (ah 0) (eC (.int 1))))) (aM))) (eC (.int 1))))) (aA aW (aA aW (lC (ah 1) cE (cj (ah 0))) (jM (aq (aA cI (ah 1) (aA aW (ah 0) (eC (.int 1)))) (aq (aA cI (ah 1) (ah 0)) (aq (aA cI (ah 1) (aA aW (ah 0) (eC (.int 1)))) (aM)))))) (lC (ah 1) (cj (aA aW (ah 0) (eC (.int 3)))) cE)))
def cM : List A -> aH -> R A := dz jG gz
abbrev jg : Stmt := top 27
def uN : List Str := ["ahead", "last", "told"]
def lZ : Te :=
 jf (aA (CP true) (ah 1) (eC .non))
def mq : Sm :=
 bq (jS (DB gK (ah 2) (aq (aX (f1 ir) (aq (ah 1) (aM))) (aM))))
 (bD (aA EK (ah 0) (ah 1)) (bJ 1))
def pA : Sm :=
 bq (bD (gr (aM)) (bJ 2))
 (bq (dX (lZ)
 (mq) 100000000)
 (bM (CC wo (ah 2))))
def iu : List A -> aH -> R A := dz uN pA
abbrev eB : Stmt := top 28
def mU : List Str := ["one", "other", "start", "end", "ahead", "waiting", "at", "here", "word"]
def fK : Ic :=
 j8 (aA aW (eFn cC (aq (ah 7) (aM))) (eFn cM (aq (ah 7) (aM))))
def g7 : Sm :=
 qA (jf (aA (ED true) (ah 8) (ah 4)))
 (bq (bD (ah 7) (IC (ah 4) (ah 8)))
 (jS (DB gK (ah 5) (aq (ah 8) (aM)))))
 (iC)
def h_ : Te :=
 jf (aA (ED true) (ah 3) (ah 4))
def iA : Sm :=
 bq (bD (aA cI (ah 5) (ah 6)) (bJ 7))
 (bq (gP (fK) (bJ 8)
 (g7))
 (z0 6 GF (eC (.int 1))))
def jw : Sm :=
 bq (bD (aX (f1 iM) (aq (ah 0) (aM))) (bJ 2))
 (bq (bD (aX (f1 iM) (aq (ah 1) (aM))) (bJ 3))
 (bq (bD (Dy (ah 2) (eC .non)) (bJ 4))
 (bq (bD (gr (aq (ah 2) (aM))) (bJ 5))
 (bq (bD (eC (.int 0)) (bJ 6))
 (bq (dX (h_)
 (iA) 100000000)
 (bM (eFn iu (aq (ah 4) (aq (ah 3) (aM))))))))))
def dg : List A -> aH -> R A := dz mU jw
abbrev bE : Stmt := top 29
def gp : List Str := ["n", "word", "many"]
def dh : Te :=
 mP (kN (eFn cB (aq (ah 0) (aq (lC (ah 1) cE (cj (ah 2))) (aM)))))
def dw : Sm :=
 z0 2 aSub (eC (.int 1))
def d_ : Sm :=
 bq (bD (aX (f1 eK) (aq (ah 1) (aM))) (bJ 2))
 (bq (dX (dh)
 (dw) 100000000)
 (bM (ah 2)))
def bF : List A -> aH -> R A := dz gp d_
abbrev gk : Stmt := top 30
def pF : List Str := ["n", "word", "many", "k", "shorter", "told"]
def mw : Sm :=
 bq (bD (eFn bF (aq (ah 0) (aq (ah 1) (aM)))) (bJ 2))
 (bq (bD (aA cI (ah 1) (ah 2)) (bJ 3))
 (bq (bD (eFn er (aq (eFn cA (aq (eFn eO (aq (ah 0) (aq (lC (ah 1) cE (cj (ah 2))) (aM)))) (aq (ah 3) (aM)))) (aM))) (bJ 4))
 (bq (bD (cJ [none, some 1, some 2] (j8 (eFn dg (aq (lC (ah 1) cE (cj (ah 2))) (aq (aA aW (ah 4) (gr (aq (ah 3) (aM)))) (aM))))) (bJ 0) (iw) (aA aW (ah 0) (lC (ah 1) (cj (ah 2)) cE))) (bJ 5))
 (bq (jS (DB gK (ah 5) (aq (aA aW (ah 4) (lC (ah 1) (cj (aA aW (ah 2) (eC (.int 1)))) cE)) (aM))))
 (bM (lC (ah 5) (cj (eC (.int 1))) cE))))))
def eU : List A -> aH -> R A := dz pF mw
abbrev nA : Stmt := top 31
def AR : List Str := ["n", "word", "told"]
def o5 : Te :=
 mP (kN (eFn cB (aq (ah 0) (aq (aA cI (ah 2) (CC vN (eC (.int 1)))) (aM)))))
def pM : Sm :=
 jS (DB o4 (ah 2) (aq (eFn eU (aq (ah 0) (aq (aA cI (ah 2) (CC vN (eC (.int 1)))) (aM)))) (aM)))
def vM : Sm :=
 bq (jS (eFn eO (aq (ah 0) (aq (ah 1) (aM)))))
 (bq (qA (kN (eFn ff (aq (ah 0) (aq (ah 1) (aM)))))
 (Ky)
 (iC))
 (bq (bD (gr (aq (aX (f1 ir) (aq (ah 1) (aM))) (aM))) (bJ 2))
 (bq (dX (o5)
 (pM) 100000000)
 (bM (ah 2)))))
def j7 : List A -> aH -> R A := dz AR vM
abbrev gT : Stmt := top 33
def rF : List Str := ["_law_script", "_law_k", "_law_cell", "_law_state"]
def nJ : Sm :=
 bq (bD (eC (.int 0)) (bJ 2))
 (bq (qA (jf (aA H_ (ah 1) (aX (f1 eK) (aq (ah 0) (aM)))))
 (bD (aX (f1 sC) (aq (aA cI (ah 0) (ah 1)) (aM))) (bJ 2))
 (iC))
 (bq (bD (aA aW (eC (.int 1)) (aA oH (aA aW (aA aW (aA aW (aA oH (ah 2) (eC (.int 2147483647))) (aA jo (aA jo (eC (.int 7919)) (ah 1)) (ah 1))) (aA jo (eC (.int 17)) (ah 1))) (eC (.int 3))) (eC (.int 2147483646)))) (bJ 3))
 (bM (gr (aq (aA jo (ah 2) (aX (f1 vp) (aq (aA Kx (ah 2) (aA DR (eC (.int 10)) (eC (.int 18)))) (aM)))) (aq (ah 3) (aM)))))))
def gY : List A -> aH -> R A := dz rF nJ
abbrev fF : Stmt := top 34
def jU : List Str := ["_law_bag_here", "_law_many", "_law_found"]
def iJ : Sm :=
 bq (qA (jf (aA sq (aA cI (ah 0) (eC (.int 0))) (eC (.int 0))))
 (bq (bD (aA oH (aA cI (ah 0) (eC (.int 0))) (ah 1)) (bJ 2))
 (bq (bD (aA vg (aA cI (ah 0) (eC (.int 0))) (ah 1)) (zP (ah 0) (eC (.int 0))))
 (bM (ah 2))))
 (iC))
 (bq (bD (aA oH (aA jo (aA cI (ah 0) (eC (.int 1))) (eC (.int 48271))) (eC (.int 2147483647))) (zP (ah 0) (eC (.int 1))))
 (bM (aA oH (aA vg (aA oH (aA jo (aA cI (ah 0) (eC (.int 1))) (aA aW (aA vg (aA cI (ah 0) (eC (.int 1))) (eC (.int 65536))) (eC (.int 9)))) (eC (.int 2147483629))) (eC (.int 32))) (ah 1))))
def aT : List A -> aH -> R A := dz jU iJ
abbrev gS : Stmt := top 35
def qQ : List Str := ["_law_n", "_law_word_here", "_law_found", "_law_k"]
def nU : Ic :=
 j8 (ah 1)
def nX : Sm :=
 bD (jM (aq (aA cI (ah 2) (ah 3)) (aq (aA cI (ah 2) (aA aSub (ah 3) (eC (.int 1)))) (aM)))) (wG 2 (oq (zP (ah 2) (aA aSub (ah 3) (eC (.int 1)))) (oq (zP (ah 2) (ah 3)) (yE))))
def nq : Sm :=
 bq (bD (aX (f1 ir) (aq (aX (f2 mY) (aq (eC (.int 1)) (aq (aA aW (ah 0) (eC (.int 1))) (aM)))) (aM))) (bJ 2))
 (bq (gP (nU) (bJ 3)
 (nX))
 (bM (aX (f1 iM) (aq (ah 2) (aM)))))
def dN : List A -> aH -> R A := dz qQ nq
abbrev fG : Stmt := top 36
def oE : List Str := ["_law_bag_here", "_law_n", "_law_most", "_law_left", "_law_word_here", "_law_turn", "_law_some", "_law_k"]
def k_ : Ic :=
 fC (eFn aT (aq (ah 0) (aq (aA aW (ah 2) (eC (.int 1))) (aM))))
def kQ : Sm :=
 bq (bD (cJ [none, some 3] (fW (eC (.int 1)) (ah 1)) (bJ 0) (jf (aA H_ (aA cI (ah 1) (aA aSub (ah 0) (eC (.int 1)))) (aA cI (ah 1) (ah 0)))) (ah 0)) (bJ 6))
 (qA (jf (aA sq (aX (f1 eK) (aq (ah 6) (aM))) (eC (.int 0))))
 (bq (bD (aA cI (ah 6) (eFn aT (aq (ah 0) (aq (aX (f1 eK) (aq (ah 6) (aM))) (aM))))) (bJ 7))
 (bq (bD (jM (aq (aA cI (ah 3) (ah 7)) (aq (aA cI (ah 3) (aA aSub (ah 7) (eC (.int 1)))) (aM)))) (wG 2 (oq (zP (ah 3) (aA aSub (ah 7) (eC (.int 1)))) (oq (zP (ah 3) (ah 7)) (yE)))))
 (jS (DB gK (ah 4) (aq (ah 7) (aM))))))
 (iC))
def jT : Sm :=
 bq (bD (aX (f1 ir) (aq (aX (f2 mY) (aq (eC (.int 1)) (aq (aA aW (ah 1) (eC (.int 1))) (aM)))) (aM))) (bJ 3))
 (bq (bD (gr (aM)) (bJ 4))
 (bq (gP (k_) (bJ 5)
 (kQ))
 (bM (ah 4))))
def fB : List A -> aH -> R A := dz oE jT
abbrev fD : Stmt := top 37
def nY : List Str := ["_law_bag_here", "_law_n", "_law_word_here", "_law_left", "_law_found", "_law_turn", "_law_some", "_law_k"]
def ly : Ic :=
 fC (aX (f1 eK) (aq (ah 2) (aM)))
def lz : Sm :=
 bq (bD (cJ [none, some 3] (fW (eC (.int 1)) (ah 1)) (bJ 0) (jf (aA sq (aA cI (ah 1) (aA aSub (ah 0) (eC (.int 1)))) (aA cI (ah 1) (ah 0)))) (ah 0)) (bJ 6))
 (bq (bD (aA cI (ah 6) (eFn aT (aq (ah 0) (aq (aX (f1 eK) (aq (ah 6) (aM))) (aM))))) (bJ 7))
 (bq (bD (jM (aq (aA cI (ah 3) (ah 7)) (aq (aA cI (ah 3) (aA aSub (ah 7) (eC (.int 1)))) (aM)))) (wG 2 (oq (zP (ah 3) (aA aSub (ah 7) (eC (.int 1)))) (oq (zP (ah 3) (ah 7)) (yE)))))
 (bD (aA aW (gr (aq (ah 7) (aM))) (ah 4)) (bJ 4))))
def jW : Sm :=
 bq (bD (aX (f1 ir) (aq (eFn dN (aq (ah 1) (aq (ah 2) (aM)))) (aM))) (bJ 3))
 (bq (bD (gr (aM)) (bJ 4))
 (bq (gP (ly) (bJ 5)
 (lz))
 (bM (ah 4))))
def fJ : List A -> aH -> R A := dz nY jW
abbrev dM : Stmt := top 38
def iV : List Str := ["_law_one", "_law_other_here", "_law_at", "_law_here"]
def gA : Ic :=
 fC (aA aSub (aX (f1 eK) (aq (ah 0) (aM))) (eC (.int 1)))
def eS : Sm :=
 qA (jf (aA (iW false) (lC (ah 0) cE (cj (ah 2))) (lC (ah 1) cE (cj (ah 2)))))
 (bq (qA (qD (jf (aA (iW false) (lC (ah 1) (cj (ah 2)) cE) (aA aW (gr (aq (aA cI (ah 0) (aA aW (ah 2) (eC (.int 1)))) (aq (aA cI (ah 0) (ah 2)) (aM)))) (lC (ah 0) (cj (aA aW (ah 2) (eC (.int 2)))) cE)))) (jf (aA sq (aX (f1 sC) (aq (aA aSub (aA cI (ah 0) (ah 2)) (aA cI (ah 0) (aA aW (ah 2) (eC (.int 1))))) (aM))) (eC (.int 1)))))
 (bM (eC (.bl true)))
 (iC))
 (bq (bD (lC (ah 0) (cj (ah 2)) (cj (aA aW (ah 2) (eC (.int 3))))) (bJ 3))
 (qA (qD (jf (aA (iW false) (aX (f1 eK) (aq (ah 3) (aM))) (eC (.int 3)))) (qD (jf (aA (iW false) (aA cI (ah 3) (eC (.int 0))) (aA cI (ah 3) (eC (.int 2))))) (jf (aA (iW false) (aX (f1 sC) (aq (aA aSub (aA cI (ah 3) (eC (.int 0))) (aA cI (ah 3) (eC (.int 1)))) (aM))) (eC (.int 1))))))
 (qA (jf (aA (iW false) (lC (ah 1) (cj (ah 2)) cE) (aA aW (gr (aq (aA cI (ah 3) (eC (.int 1))) (aq (aA cI (ah 3) (eC (.int 0))) (aq (aA cI (ah 3) (eC (.int 1))) (aM))))) (lC (ah 0) (cj (aA aW (ah 2) (eC (.int 3)))) cE))))
 (bM (eC (.bl true)))
 (iC))
 (iC))))
 (iC)
def gm : Sm :=
 bq (gP (gA) (bJ 2)
 (eS))
 (bM (eC (.bl false)))
def cz : List A -> aH -> R A := dz iV gm
abbrev fu : Stmt := top 39
def oz : List Str := ["_law_order", "_law_n", "_law_found", "_law_i"]
def lH : Ic :=
 fC (ah 1)
def lG : Sm :=
 jS (DB o4 (ah 2) (aq (cJ [none, some 3, some 0] (fW (aA aW (ah 3) (eC (.int 1))) (ah 1)) (bJ 0) (jf (aA sq (aA cI (ah 2) (ah 1)) (aA cI (ah 2) (ah 0)))) (jM (aq (aA aW (ah 1) (eC (.int 1))) (aq (aA aW (ah 0) (eC (.int 1))) (aM))))) (aM)))
def ki : Sm :=
 bq (bD (aX (f1 eK) (aq (ah 0) (aM))) (bJ 1))
 (bq (bD (gr (aM)) (bJ 2))
 (bq (gP (lH) (bJ 3)
 (lG))
 (bM (ah 2))))
def fH : List A -> aH -> R A := dz oz ki
abbrev e_ : Stmt := top 40
def n8 : List Str := ["_law_thing"]
def jR : Sm :=
 bM (vE (aX (f2 se) (aq (ah 0) (aq (eC (.ty "int")) (aM)))) (Fc (aX (f2 se) (aq (ah 0) (aq (eC (.ty "bool")) (aM))))))
def eg : List A -> aH -> R A := dz n8 jR
abbrev b9 : Stmt := top 41
def iF : List Str := ["_law_one", "_law_other_here", "_law_at"]
def gD : Ic :=
 fC (aA aSub (aX (f1 eK) (aq (ah 0) (aM))) (eC (.int 1)))
def gG : Sm :=
 qA (qD (jf (aA (iW false) (aA cI (ah 0) (ah 2)) (aA cI (ah 0) (aA aW (ah 2) (eC (.int 1)))))) (jf (aA (iW false) (aA aW (lC (ah 0) cE (cj (ah 2))) (lC (ah 0) (cj (aA aW (ah 2) (eC (.int 2)))) cE)) (ah 1))))
 (bM (eC (.bl true)))
 (iC)
def fV : Sm :=
 bq (gP (gD) (bJ 2)
 (gG))
 (bM (eC (.bl false)))
def b8 : List A -> aH -> R A := dz iF fV
abbrev dP : Stmt := top 42
def kZ : List Str := ["_law_n", "_law_words", "_law_word_here", "_law_one", "_law_k", "_law_order"]
def jH : Ic :=
 j8 (ah 1)
def jI : Sm :=
 qA (DZ (mP (kN (aX (f2 se) (aq (ah 3) (aq (eC (.ty "list")) (aM)))))) (mP (kN (aX (f1 BS) (aq (cJ [none] (j8 (ah 3)) (bJ 0) (iw) (eFn eg (aq (ah 0) (aM)))) (aM))))))
 (bM (eC (.bl false)))
 (iC)
def jE : Ic :=
 fC (aA aSub (aX (f1 eK) (aq (ah 1) (aM))) (eC (.int 1)))
def jD : Sm :=
 qA (qD (mP (kN (eFn cz (aq (aA cI (ah 1) (ah 4)) (aq (aA cI (ah 1) (aA aW (ah 4) (eC (.int 1)))) (aM)))))) (mP (kN (eFn b8 (aq (aA cI (ah 1) (ah 4)) (aq (aA cI (ah 1) (aA aW (ah 4) (eC (.int 1)))) (aM)))))))
 (bM (eC (.bl false)))
 (iC)
def iL : Sm :=
 bq (qA (DZ (mP (kN (aX (f2 se) (aq (ah 1) (aq (eC (.ty "list")) (aM)))))) (DZ (jf (aA (iW false) (ah 1) (gr (aM)))) (jf (aA (iW true) (aA cI (ah 1) (eC (.int 0))) (ah 2)))))
 (bM (eC (.bl false)))
 (iC))
 (bq (gP (jH) (bJ 3)
 (jI))
 (bq (gP (jE) (bJ 4)
 (jD))
 (bq (bD (eFn dN (aq (ah 0) (aq (aA cI (ah 1) (CC vN (eC (.int 1)))) (aM)))) (bJ 5))
 (bM (vE (aA (iW false) (ah 5) (eFn dN (aq (ah 0) (aq (ah 2) (aM))))) (aA (iW false) (aX (f1 eK) (aq (eFn fH (aq (ah 5) (aM))) (aM))) (aX (f1 eK) (aq (aA cI (ah 1) (CC vN (eC (.int 1)))) (aM)))))))))
def dR : List A -> aH -> R A := dz kZ iL
abbrev fh : Stmt := top 43
def om : List Str := ["_law_words", "_law_kept", "_law_at", "_law_word_here"]
def kW : Ic :=
 wm (ah 0)
def kT : Sm :=
 jS (DB gK (ah 3) (aq (aA aW (ah 2) (eC (.int 100))) (aM)))
def kc : Sm :=
 bq (bD (cJ [none] (j8 (ah 0)) (bJ 0) (iw) (aX (f1 ir) (aq (ah 0) (aM)))) (bJ 1))
 (bq (gP (kW) (wG 2 (oq (bJ 2) (oq (bJ 3) (yE))))
 (kT))
 (bM (aA (iW false) (ah 0) (cJ [none, none] (wm (ah 1)) (wG 2 (oq (bJ 0) (oq (bJ 1) (yE)))) (iw) (aA aW (ah 1) (gr (aq (aA aW (ah 0) (eC (.int 100))) (aM))))))))
def fE : List A -> aH -> R A := dz om kc
abbrev gg : Stmt := top 44
def qo : List Str := ["_law_bag_here", "_law_n", "_law_way", "_law_word_here", "_law_at", "_law_k"]
def lR : Sm :=
 bq (bD (eFn aT (aq (ah 0) (aq (eC (.int 3)) (aM)))) (bJ 2))
 (bq (qA (jf (aA (iW false) (ah 2) (eC (.int 0))))
 (bM (cJ [none, some 0, some 1] (fC (eFn aT (aq (ah 0) (aq (eC (.int 9)) (aM))))) (bJ 0) (iw) (aA aW (eC (.int 1)) (eFn aT (aq (ah 1) (aq (aA aSub (ah 2) (eC (.int 1))) (aM)))))))
 (iC))
 (bq (bD (eFn fB (aq (ah 0) (aq (ah 1) (aq (eC (.int 6)) (aM))))) (bJ 3))
 (bq (qA (jf (aA (iW false) (ah 2) (eC (.int 1))))
 (bq (bD (eFn aT (aq (ah 0) (aq (aA aW (aX (f1 eK) (aq (ah 3) (aM))) (eC (.int 1))) (aM)))) (bJ 4))
 (bq (bD (aA aW (eC (.int 1)) (eFn aT (aq (ah 0) (aq (aA aSub (ah 1) (eC (.int 1))) (aM))))) (bJ 5))
 (bM (aA aW (aA aW (lC (ah 3) cE (cj (ah 4))) (gr (aq (ah 5) (aq (ah 5) (aM))))) (lC (ah 3) (cj (ah 4)) cE)))))
 (iC))
 (bM (lC (aA aW (ah 3) (CC wo (eFn fJ (aq (ah 0) (aq (ah 1) (aq (ah 3) (aM))))))) cE (cj (eC (.int 8))))))))
def gf : List A -> aH -> R A := dz qo lR
abbrev mQ : Stmt := top 45
def Gb : List Str := ["_law_script", "_law_k", "_law_bag_here", "_law_n", "_law_word_here", "_law_handed", "_law_turn", "_law_found"]
def ze : Ic :=
 fC (eC (.int 2))
def yr : Sm :=
 bq (bD (eFn j7 (aq (ah 3) (aq (ah 5) (aM)))) (bJ 7))
 (bq (qA (DZ (mP (kN (eFn dR (aq (ah 3) (aq (ah 7) (aq (ah 4) (aM))))))) (jf (aA (iW true) (ah 5) (ah 4))))
 (bM (eC (.bl false)))
 (iC))
 (qA (DZ (mP (kN (eFn fE (aq (ah 7) (aM))))) (jf (aA (iW true) (ah 5) (ah 4))))
 (bM (eC (.bl false)))
 (iC)))
def w_ : Ic :=
 fC (aX (f2 A5) (aq (eC (.int 1)) (aq (aX (f2 Dg) (aq (eC (.int 2)) (aq (aX (f1 eK) (aq (ah 0) (aM))) (aM)))) (aM))))
def yD : Sm :=
 bq (bD (eFn gY (aq (ah 0) (aq (ah 1) (aM)))) (bJ 2))
 (bq (bD (aA aW (eC (.int 2)) (eFn aT (aq (ah 2) (aq (aA cI (gr (aq (eC (.int 4)) (aq (eC (.int 8)) (aM)))) (eFn aT (aq (ah 2) (aq (eC (.int 2)) (aM))))) (aM))))) (bJ 3))
 (bq (bD (eFn gf (aq (ah 2) (aq (ah 3) (aM)))) (bJ 4))
 (bq (bD (aX (f1 ir) (aq (ah 4) (aM))) (bJ 5))
 (gP (ze) (bJ 6)
 (yr)))))
def B6 : Sm :=
 bq (gP (w_) (bJ 1)
 (yD))
 (bM (aA (iW false) (eFn j7 (aq (eC (.int 1)) (aq (gr (aM)) (aM)))) (gr (aq (gr (aM)) (aM)))))
def rm : List A -> aH -> R A := dz Gb B6
section
variable {P : Program} {w : World} {K : PySem.W.Frag} {mg : Str -> Option Value} {base : Heap}
theorem tH : FnScope ["thing"] ["thing"] (aG gb) := ⟨rfl, rfl, rfl, by decide +kernel, rfl, by decide +kernel, by decide +kernel⟩
theorem ue {f : Addr} {fd : FuncData} (F : Fun K "is_whole" "is_whole" gb f fd) (b_isinstance : mg "isinstance" = none) (b_bool : mg "bool" = none) (b_int : mg "int" = none) : FnOk P w K mg base iB 1 f fd ["thing"] (jb K 1 f_) := kB (m := lV) F tH fun cdv B outer s H E hr =>
 aL (bg (sY (aR qu b_isinstance cR (af (aa 0) (af (pI b_int wu) (az)))) (pR (AU (aR qu b_isinstance cR (af (aa 0) (af (pI b_bool xK) (az))))))))
theorem pQ : FnScope ["n"] ["n"] (aG dG) := ⟨rfl, rfl, rfl, by decide +kernel, rfl, by decide +kernel, by decide +kernel⟩
theorem o_ {f : Addr} {fd : FuncData} (F : Fun K "plain_order" "plain_order" dG f fd) (b_tuple : mg "tuple" = none) (b_range : mg "range" = none) : FnOk P w K mg base iB 1 f fd ["n"] (jb K 1 dO) := kB (m := iT) F pQ fun cdv B outer s H E hr =>
 aL (bg (bK (kG rfl) b_tuple ji (af (bK pO b_range qx (af (aF) (af (aI br (aa 0) (aF)) (az)))) (az))))
theorem oX : FnScope ["order", "places", "at", "thing"] ["order"] (aG nR) := ⟨rfl, rfl, rfl, by decide +kernel, rfl, by decide +kernel, by decide +kernel⟩
theorem D6 {f : Addr} {fd : FuncData} (F : Fun K "back" "back" nR f fd) (b_len : mg "len" = none) (b_enumerate : mg "enumerate" = none) (b_tuple : mg "tuple" = none) : FnOk P w K mg base iB 1 f fd ["order"] (jb K 1 nv) := kB (m := vU) F oX fun cdv B outer s H E hr =>
 aE (bh (i := 1) oX.nd (aI pT (cV (af (aF) (az))) (aR dB b_len b_ (af (aa 0) (az)))))
 (aE (fM PassesOwn.never rfl (IK b_enumerate (aa 0)) (jZ rfl (cg (bu (i := 2) oX.nd) (cg (bu (i := 3) oX.nd) (iI))))
 (aL (ku (aI br (aa 2) (aF)) (g8 (aa 1) (aI cX (aa 3) (aF))))))
 (aL (bg (bK (kG rfl) b_tuple ji (af (aa 1) (az))))))
theorem qi : FnScope ["n", "thing"] ["n", "thing"] (aG dQ) := ⟨rfl, rfl, rfl, by decide +kernel, rfl, by decide +kernel, by decide +kernel⟩
theorem qp {f : Addr} {fd : FuncData} (F : Fun K "is_exchange" "is_exchange" dQ f fd) (G_is_whole : dm P w K mg base 1 "is_whole" ["thing"] f_) : FnOk P w K mg base iB 2 f fd ["n", "thing"] (jb K 2 bY) := kB (m := iS) F qi fun cdv B outer s H E hr =>
 aL (bg (sY (bx G_is_whole (hr.mono (by decide)) (af (aa 1) (az)) (aC aP)) (pR (Js LW (Hj hr.units) (aF) (aa 1) (aa 0)))))
theorem gE : FnScope ["order", "i", "j", "things"] ["order", "i", "j"] (aG bQ) := ⟨rfl, rfl, rfl, by decide +kernel, rfl, by decide +kernel, by decide +kernel⟩
theorem kP {f : Addr} {fd : FuncData} (F : Fun K "exchanged_places" "exchanged_places" bQ f fd) (b_list : mg "list" = none) (b_tuple : mg "tuple" = none) : FnOk P w K mg base iB 1 f fd ["order", "i", "j"] (jb K 3 bP) := kB (m := eT) F gE fun cdv B outer s H E hr =>
 aE (bh (i := 3) gE.nd (bK (jQ rfl) b_list fS (af (aa 0) (az))))
 (aE (ku (jn (af (bf (aa 3) (aI cX (aa 2) (aF))) (af (bf (aa 3) (aI cX (aa 1) (aF))) (az)))) (jZ rfl (cg (g8 (aa 3) (aI cX (aa 1) (aF))) (cg (g8 (aa 3) (aI cX (aa 2) (aF))) (iI)))))
 (aL (bg (bK (kG rfl) b_tuple ji (af (aa 3) (az))))))
theorem sH : FnScope ["order", "k"] ["order", "k"] (aG fq) := ⟨rfl, rfl, rfl, by decide +kernel, rfl, by decide +kernel, by decide +kernel⟩
theorem sS {f : Addr} {fd : FuncData} (F : Fun K "exchanged" "exchanged" fq f fd) (b_len : mg "len" = none) (G_is_exchange : dm P w K mg base 2 "is_exchange" ["n", "thing"] bY) (G_exchanged_places : dm P w K mg base 1 "exchanged_places" ["order", "i", "j"] bP) : FnOk P w K mg base iB 3 f fd ["order", "k"] (jb K 2 cA) := kB (m := ko) F sH fun cdv B outer s H E hr =>
 aE (fm (gC (fR (bx G_is_exchange (hr.mono (by decide)) (af (aR dB b_len b_ (af (aa 0) (az))) (af (aa 1) (az))) (aC (aC aP)))))
 (aL (Cv))
 (b7))
 (aL (bg (bx G_exchanged_places (hr.mono (by decide)) (af (aa 0) (af (aa 1) (af (aI br (aa 1) (aF)) (az)))) (aC (aC (aC aP))))))
theorem p7 : FnScope ["n"] ["n"] (aG dS) := ⟨rfl, rfl, rfl, by decide +kernel, rfl, by decide +kernel, by decide +kernel⟩
theorem pV {f : Addr} {fd : FuncData} (F : Fun K "place_pairs" "place_pairs" dS f fd) (b_range : mg "range" = none) : FnOk P w K mg base iB 1 f fd ["n"] (jb K 1 cS) := kB (m := iP) F p7 fun cdv B outer s H E hr =>
 aL (bg (A3 (N := ["i", "j", "n"]) (cap := [none, none, some 0]) rfl (iH ["n"] rfl (by decide +kernel) (by decide +kernel) (by decide +kernel) (by decide +kernel) (by decide +kernel) (List.forall_mem_cons.mpr ⟨by first | exact Or.inl rfl | exact Or.inr rfl, (fun _ h => nomatch h)⟩) ⟨rfl, by decide +kernel, trivial⟩) (gW b_range (aF) (aa 0)) (fun _ _ _ _ => bu (i := 0) (show (["i", "j", "n"] : List Str).Nodup by decide +kernel) rfl (Or.inl rfl) (.inr rfl)) (fun _ _ _ _ => iE) (fun _ _ _ _ => gW b_range (aI br (aa 0) (aF)) (aI br (aa 2) (aF))) (fun _ _ _ _ => bu (i := 1) (show (["i", "j", "n"] : List Str).Nodup by decide +kernel) rfl (Or.inl rfl) (.inr rfl)) (fun _ _ _ _ => iE) (fun _ _ _ _ => jn (af (aa 0) (af (aa 1) (az))))))
theorem qt : FnScope ["order"] ["order"] (aG dJ) := ⟨rfl, rfl, rfl, by decide +kernel, rfl, by decide +kernel, by decide +kernel⟩
theorem p_ {f : Addr} {fd : FuncData} (F : Fun K "wrong_pairs" "wrong_pairs" dJ f fd) (b_len : mg "len" = none) (G_place_pairs : dm P w K mg base 1 "place_pairs" ["n"] cS) : FnOk P w K mg base iB 2 f fd ["order"] (jb K 1 dH) := kB (m := iR) F qt fun cdv B outer s H E hr =>
 aL (bg (gJ (N := ["i", "j", "order"]) (cap := [none, none, some 0]) rfl (iH ["order"] rfl (by decide +kernel) (by decide +kernel) (by decide +kernel) (by decide +kernel) (by decide +kernel) (List.forall_mem_cons.mpr ⟨by first | exact Or.inl rfl | exact Or.inr rfl, (fun _ h => nomatch h)⟩) ⟨rfl, by decide +kernel, trivial⟩) (jl (bx G_place_pairs (hr.mono (by decide)) (af (aR dB b_len b_ (af (aa 0) (az))) (az)) (aC aP))) (fun _ _ _ _ => jZ rfl (cg (bu (i := 0) (show (["i", "j", "order"] : List Str).Nodup by decide +kernel) rfl (Or.inl rfl) (.inr rfl)) (cg (bu (i := 1) (show (["i", "j", "order"] : List Str).Nodup by decide +kernel) rfl (Or.inl rfl) (.inr rfl)) (iI)))) (fun _ _ _ _ => jz (bG (pN hr.units) (bf (aa 2) (aI cX (aa 0) (aF))) (bf (aa 2) (aI cX (aa 1) (aF))))) (fun _ _ _ _ => jn (af (aa 0) (af (aa 1) (az))))))
theorem zC : FnScope ["order"] ["order"] (aG ja) := ⟨rfl, rfl, rfl, by decide +kernel, rfl, by decide +kernel, by decide +kernel⟩
theorem zX {f : Addr} {fd : FuncData} (F : Fun K "length" "length" ja f fd) (b_len : mg "len" = none) (G_wrong_pairs : dm P w K mg base 2 "wrong_pairs" ["order"] dH) : FnOk P w K mg base iB 3 f fd ["order"] (jb K 1 jj) := kB (m := pP) F zC fun cdv B outer s H E hr =>
 aL (bg (aR dB b_len b_ (af (bx G_wrong_pairs (hr.mono (by decide)) (af (aa 0) (az)) (aC aP)) (az))))
theorem CH : FnScope ["order"] ["order"] (aG kJ) := ⟨rfl, rfl, rfl, by decide +kernel, rfl, by decide +kernel, by decide +kernel⟩
theorem Dz {f : Addr} {fd : FuncData} (F : Fun K "falls" "falls" kJ f fd) (b_range : mg "range" = none) (b_len : mg "len" = none) : FnOk P w K mg base iB 1 f fd ["order"] (jb K 1 jq) := kB (m := sG) F CH fun cdv B outer s H E hr =>
 aL (bg (gJ (N := ["k", "order"]) (cap := [none, some 0]) rfl (iH ["order"] rfl (by decide +kernel) (by decide +kernel) (by decide +kernel) (by decide +kernel) (by decide +kernel) (List.forall_mem_cons.mpr ⟨by first | exact Or.inl rfl | exact Or.inr rfl, (fun _ h => nomatch h)⟩) ⟨rfl, by decide +kernel, trivial⟩) (gW b_range (aF) (aR dB b_len b_ (af (aa 0) (az)))) (fun _ _ _ _ => bu (i := 0) (show (["k", "order"] : List Str).Nodup by decide +kernel) rfl (Or.inl rfl) (.inr rfl)) (fun _ _ _ _ => jz (bG (pN hr.units) (bf (aa 1) (aI cX (aa 0) (aF))) (bf (aa 1) (aa 0)))) (fun _ _ _ _ => aa 0)))
theorem wB : FnScope ["n", "thing"] ["n", "thing"] (aG gX) := ⟨rfl, rfl, rfl, by decide +kernel, rfl, by decide +kernel, by decide +kernel⟩
theorem v_ {f : Addr} {fd : FuncData} (F : Fun K "is_word" "is_word" gX f fd) (b_len : mg "len" = none) (b_isinstance : mg "isinstance" = none) (b_list : mg "list" = none) (b_all : mg "all" = none) (g_MOST_NUMBERS_words : ∃ t, mg "MOST_NUMBERS_words" = some (.int 200 t)) (G_is_exchange : dm P w K mg base 2 "is_exchange" ["n", "thing"] bY) : FnOk P w K mg base iB 3 f fd ["n", "thing"] (jb K 2 gU) := kB (m := nB) F wB fun cdv B outer s H E hr =>
 aE (fm (AW.at (rf (gC (fR (aR qu b_isinstance cR (af (aa 1) (af (pI b_list fS) (az)))))) (ql (bG (pN hr.units) (aR dB b_len b_ (af (aa 1) (az))) (pe g_MOST_NUMBERS_words.choose_spec)))))
 (aL (bg (j0)))
 (b7))
 (aL (bg (aR (FD rfl) b_all Af (af (gJ (N := ["part", "n"]) (cap := [none, some 0]) rfl (iH ["n"] rfl (by decide +kernel) (by decide +kernel) (by decide +kernel) (by decide +kernel) (by decide +kernel) (List.forall_mem_cons.mpr ⟨by first | exact Or.inl rfl | exact Or.inr rfl, (fun _ h => nomatch h)⟩) ⟨rfl, by decide +kernel, trivial⟩) (jl (aa 1)) (fun _ _ _ _ => bu (i := 0) (show (["part", "n"] : List Str).Nodup by decide +kernel) rfl (Or.inl rfl) (.inr rfl)) (fun _ _ _ _ => iE) (fun _ _ _ _ => bx G_is_exchange (hr.mono (by decide)) (af (aa 1) (af (aa 0) (az))) (aC (aC aP)))) (az)))))
theorem kL : FnScope ["n", "word", "order", "k"] ["n", "word"] (aG iZ) := ⟨rfl, rfl, rfl, by decide +kernel, rfl, by decide +kernel, by decide +kernel⟩
theorem zQ {f : Addr} {fd : FuncData} (F : Fun K "led_by" "led_by" iZ f fd) (G_is_word : dm P w K mg base 3 "is_word" ["n", "thing"] gU) (G_plain_order : dm P w K mg base 1 "plain_order" ["n"] dO) (G_exchanged : dm P w K mg base 3 "exchanged" ["order", "k"] cA) : FnOk P w K mg base iB 4 f fd ["n", "word"] (jb K 2 eO) := kB (m := qe) F kL fun cdv B outer s H E hr =>
 aE (fm (gC (fR (bx G_is_word (hr.mono (by decide)) (af (aa 0) (af (aa 1) (az))) (aC (aC aP)))))
 (aL (Cv))
 (b7))
 (aE (bh (i := 2) kL.nd (bx G_plain_order (hr.mono (by decide)) (af (aa 0) (az)) (aC aP)))
 (aE (fM PassesOwn.never rfl (jl (aa 1)) (bu (i := 3) kL.nd)
 (aL (bh (i := 2) kL.nd (bx G_exchanged (hr.mono (by decide)) (af (aa 2) (af (aa 3) (az))) (aC (aC aP))))))
 (aL (bg (aa 2)))))
theorem pY : FnScope ["n", "word"] ["n", "word"] (aG dU) := ⟨rfl, rfl, rfl, by decide +kernel, rfl, by decide +kernel, by decide +kernel⟩
theorem pU {f : Addr} {fd : FuncData} (F : Fun K "is_shortest" "is_shortest" dU f fd) (b_len : mg "len" = none) (G_length : dm P w K mg base 3 "length" ["order"] jj) (G_led_by : dm P w K mg base 4 "led_by" ["n", "word"] eO) : FnOk P w K mg base iB 5 f fd ["n", "word"] (jb K 2 cB) := kB (m := iQ) F pY fun cdv B outer s H E hr =>
 aL (bg (j_ (jK hr.units) (bx G_length (hr.mono (by decide)) (af (bx G_led_by (hr.mono (by decide)) (af (aa 0) (af (aa 1) (az))) (aC (aC aP))) (az)) (aC aP)) (aR dB b_len b_ (af (aa 1) (az)))))
theorem dI : FnScope ["order", "left", "word", "can_begin"] ["order"] (aG eo) := ⟨rfl, rfl, rfl, by decide +kernel, rfl, by decide +kernel, by decide +kernel⟩
theorem qG {f : Addr} {fd : FuncData} (F : Fun K "first_word" "first_word" eo f fd) (G_back : dm P w K mg base 1 "back" ["order"] nv) (G_falls : dm P w K mg base 1 "falls" ["order"] jq) (G_exchanged : dm P w K mg base 3 "exchanged" ["order", "k"] cA) : FnOk P w K mg base iB 4 f fd ["order"] (jb K 1 er) := kB (m := jB) F dI fun cdv B outer s H E hr =>
 aE (bh (i := 1) dI.nd (bx G_back (hr.mono (by decide)) (af (aa 0) (az)) (aC aP)))
 (aE (bh (i := 2) dI.nd (cV (az)))
 (aE (bh (i := 3) dI.nd (bx G_falls (hr.mono (by decide)) (af (aa 1) (az)) (aC aP)))
 (aE (kj 100000000 PassesOwn.never (fR (aa 3))
 (aE (gQ (oA PySem.F.slot_list_append PySem.F.type_list_append jh (aa 2) (af (bf (aa 3) (aF)) (az))))
 (aE (bh (i := 1) dI.nd (bx G_exchanged (hr.mono (by decide)) (af (aa 1) (af (bf (aa 3) (aF)) (az))) (aC (aC aP))))
 (aL (bh (i := 3) dI.nd (bx G_falls (hr.mono (by decide)) (af (aa 1) (az)) (aC aP)))))))
 (aL (bg (aa 2))))))
theorem sf : FnScope ["n", "word"] ["n", "word"] (aG eZ) := ⟨rfl, rfl, rfl, by decide +kernel, rfl, by decide +kernel, by decide +kernel⟩
theorem rQ {f : Addr} {fd : FuncData} (F : Fun K "is_beyond" "is_beyond" eZ f fd) (b_len : mg "len" = none) (g_MOST_NUMBERS_roads : ∃ t, mg "MOST_NUMBERS_roads" = some (.int 8 t)) (g_MOST_THINGS : ∃ t, mg "MOST_THINGS" = some (.int 9 t)) : FnOk P w K mg base iB 1 f fd ["n", "word"] (jb K 2 ff) := kB (m := jX) F sf fun cdv B outer s H E hr =>
 aL (bg (Je (j_ (pN hr.units) (aa 0) (pe g_MOST_THINGS.choose_spec)) (pR (j_ (pN hr.units) (aR dB b_len b_ (af (aa 1) (az))) (pe g_MOST_NUMBERS_roads.choose_spec)))))
theorem mS : FnScope ["word"] ["word"] (aG cD) := ⟨rfl, rfl, rfl, by decide +kernel, rfl, by decide +kernel, by decide +kernel⟩
theorem ni {f : Addr} {fd : FuncData} (F : Fun K "changed_places" "changed_places" cD f fd) (b_range : mg "range" = none) (b_len : mg "len" = none) (b_abs : mg "abs" = none) : FnOk P w K mg base iB 1 f fd ["word"] (jb K 1 cC) := kB (m := gh) F mS fun cdv B outer s H E hr =>
 aL (bg (gJ (N := ["at", "word"]) (cap := [none, some 0]) rfl (iH ["word"] rfl (by decide +kernel) (by decide +kernel) (by decide +kernel) (by decide +kernel) (by decide +kernel) (List.forall_mem_cons.mpr ⟨by first | exact Or.inl rfl | exact Or.inr rfl, (fun _ h => nomatch h)⟩) ⟨rfl, by decide +kernel, trivial⟩) (cY b_range (aI cX (aR dB b_len b_ (af (aa 0) (az))) (aF))) (fun _ _ _ _ => bu (i := 0) (show (["at", "word"] : List Str).Nodup by decide +kernel) rfl (Or.inl rfl) (.inr rfl)) (fun _ _ _ _ => jz (bG (pN hr.units) (aR u9 b_abs qc (af (aI cX (bf (aa 1) (aa 0)) (bf (aa 1) (aI br (aa 0) (aF)))) (az))) (aF))) (fun _ _ _ _ => aI br (aI br (eE (aa 1) bV (bI (aa 0))) (jn (af (bf (aa 1) (aI br (aa 0) (aF))) (af (bf (aa 1) (aa 0)) (az))))) (eE (aa 1) (bI (aI br (aa 0) (aF))) bV))))
theorem nt : FnScope ["word"] ["word"] (aG cL) := ⟨rfl, rfl, rfl, by decide +kernel, rfl, by decide +kernel, by decide +kernel⟩
theorem nu {f : Addr} {fd : FuncData} (F : Fun K "turned_threes" "turned_threes" cL f fd) (b_range : mg "range" = none) (b_len : mg "len" = none) (b_abs : mg "abs" = none) : FnOk P w K mg base iB 1 f fd ["word"] (jb K 1 cM) := kB (m := gz) F nt fun cdv B outer s H E hr =>
 aL (bg (gJ (N := ["at", "word"]) (cap := [none, some 0]) rfl (iH ["word"] rfl (by decide +kernel) (by decide +kernel) (by decide +kernel) (by decide +kernel) (by decide +kernel) (List.forall_mem_cons.mpr ⟨by first | exact Or.inl rfl | exact Or.inr rfl, (fun _ h => nomatch h)⟩) ⟨rfl, by decide +kernel, trivial⟩) (cY b_range (aI cX (aR dB b_len b_ (af (aa 0) (az))) (aF))) (fun _ _ _ _ => bu (i := 0) (show (["at", "word"] : List Str).Nodup by decide +kernel) rfl (Or.inl rfl) (.inr rfl)) (fun _ _ _ _ => jz (AW.at (nk (bG (jK hr.units) (bf (aa 1) (aa 0)) (bf (aa 1) (aI br (aa 0) (aF)))) (mG (bG (jK hr.units) (aR u9 b_abs qc (af (aI cX (bf (aa 1) (aa 0)) (bf (aa 1) (aI br (aa 0) (aF)))) (az))) (aF)))))) (fun _ _ _ _ => aI br (aI br (eE (aa 1) bV (bI (aa 0))) (jn (af (bf (aa 1) (aI br (aa 0) (aF))) (af (bf (aa 1) (aa 0)) (af (bf (aa 1) (aI br (aa 0) (aF))) (az)))))) (eE (aa 1) (bI (aI br (aa 0) (aF))) bV))))
theorem nP : FnScope ["ahead", "last", "told"] ["ahead", "last"] (aG jg) := ⟨rfl, rfl, rfl, by decide +kernel, rfl, by decide +kernel, by decide +kernel⟩
theorem zN {f : Addr} {fd : FuncData} (F : Fun K "traced" "traced" jg f fd) (b_list : mg "list" = none) : FnOk P w K mg base iB 1 f fd ["ahead", "last"] (jb K 2 iu) := kB (m := pA) F nP fun cdv B outer s H E hr =>
 aE (bh (i := 2) nP.nd (cV (az)))
 (aE (kj 100000000 PassesOwn.never (bG EJ (aa 1) (A1))
 (aE (gQ (oA PySem.F.slot_list_append PySem.F.type_list_append jh (aa 2) (af (bK (jQ rfl) b_list fS (af (aa 1) (az))) (az))))
 (aL (bh (i := 1) nP.nd (ID hr.units (aa 0) (aa 1))))))
 (aL (bg (AK (aa 2)))))
theorem bS : FnScope ["one", "other", "start", "end", "ahead", "waiting", "at", "here", "word"] ["one", "other"] (aG eB) := ⟨rfl, rfl, rfl, by decide +kernel, rfl, by decide +kernel, by decide +kernel⟩
theorem qI {f : Addr} {fd : FuncData} (F : Fun K "found_road" "found_road" eB f fd) (b_tuple : mg "tuple" = none) (G_changed_places : dm P w K mg base 1 "changed_places" ["word"] cC) (G_turned_threes : dm P w K mg base 1 "turned_threes" ["word"] cM) (G_traced : dm P w K mg base 1 "traced" ["ahead", "last"] iu) : FnOk P w K mg base iB 2 f fd ["one", "other"] (jb K 2 dg) := kB (m := jw) F bS fun cdv B outer s H E hr =>
 aE (bh (i := 2) bS.nd (bK (kG rfl) b_tuple ji (af (aa 0) (az))))
 (aE (bh (i := 3) bS.nd (bK (kG rfl) b_tuple ji (af (aa 1) (az))))
 (aE (bh (i := 4) bS.nd (EF hr.units (aa 2) (A1)))
 (aE (bh (i := 5) bS.nd (cV (af (aa 2) (az))))
 (aE (bh (i := 6) bS.nd (aF))
 (aE (kj 100000000 PassesOwn.never (bG (uv hr.units) (aa 3) (aa 4))
 (aE (bh (i := 7) bS.nd (bf (aa 5) (aa 6)))
 (aE (fM PassesOwn.never rfl (jl (aI br (bx G_changed_places (hr.mono (by decide)) (af (aa 7) (az)) (aC aP)) (bx G_turned_threes (hr.mono (by decide)) (af (aa 7) (az)) (aC aP)))) (bu (i := 8) bS.nd)
 (aL (fm (bG (uv hr.units) (aa 8) (aa 4))
 (aE (ku (aa 7) (E6 hr.units (aa 4) (aa 8)))
 (aL (gQ (oA PySem.F.slot_list_append PySem.F.type_list_append jh (aa 5) (af (aa 8) (az))))))
 (b7))))
 (aL (z9 (i := 6) bS.nd (aF) Ew)))))
 (aL (bg (bx G_traced (hr.mono (by decide)) (af (aa 4) (af (aa 3) (az))) (aC (aC aP))))))))))
theorem dY : FnScope ["n", "word", "many"] ["n", "word"] (aG bE) := ⟨rfl, rfl, rfl, by decide +kernel, rfl, by decide +kernel, by decide +kernel⟩
theorem jN {f : Addr} {fd : FuncData} (F : Fun K "shortest_beginning" "shortest_beginning" bE f fd) (b_len : mg "len" = none) (G_is_shortest : dm P w K mg base 5 "is_shortest" ["n", "word"] cB) : FnOk P w K mg base iB 6 f fd ["n", "word"] (jb K 2 bF) := kB (m := d_) F dY fun cdv B outer s H E hr =>
 aE (bh (i := 2) dY.nd (aR dB b_len b_ (af (aa 1) (az))))
 (aE (kj 100000000 PassesOwn.never (gC (fR (bx G_is_shortest (hr.mono (by decide)) (af (aa 0) (af (eE (aa 1) bV (bI (aa 2))) (az))) (aC (aC aP)))))
 (aL (z9 (i := 2) dY.nd (aF) EM)))
 (aL (bg (aa 2))))
theorem gq : FnScope ["n", "word", "many", "k", "shorter", "told"] ["n", "word"] (aG gk) := ⟨rfl, rfl, rfl, by decide +kernel, rfl, by decide +kernel, by decide +kernel⟩
theorem t_ {f : Addr} {fd : FuncData} (F : Fun K "led_down" "led_down" gk f fd) (G_shortest_beginning : dm P w K mg base 6 "shortest_beginning" ["n", "word"] bF) (G_first_word : dm P w K mg base 4 "first_word" ["order"] er) (G_exchanged : dm P w K mg base 3 "exchanged" ["order", "k"] cA) (G_led_by : dm P w K mg base 4 "led_by" ["n", "word"] eO) (G_found_road : dm P w K mg base 2 "found_road" ["one", "other"] dg) : FnOk P w K mg base iB 7 f fd ["n", "word"] (jb K 2 eU) := kB (m := mw) F gq fun cdv B outer s H E hr =>
 aE (bh (i := 2) gq.nd (bx G_shortest_beginning (hr.mono (by decide)) (af (aa 0) (af (aa 1) (az))) (aC (aC aP))))
 (aE (bh (i := 3) gq.nd (bf (aa 1) (aa 2)))
 (aE (bh (i := 4) gq.nd (bx G_first_word (hr.mono (by decide)) (af (bx G_exchanged (hr.mono (by decide)) (af (bx G_led_by (hr.mono (by decide)) (af (aa 0) (af (eE (aa 1) bV (bI (aa 2))) (az))) (aC (aC aP))) (af (aa 3) (az))) (aC (aC aP))) (az)) (aC aP)))
 (aE (oO (i := 5) (N := ["begin", "word", "many"]) (cap := [none, some 1, some 2]) gq.nd rfl (iH ["word", "many"] rfl (by decide +kernel) (by decide +kernel) (by decide +kernel) (by decide +kernel) (by decide +kernel) (List.forall_mem_cons.mpr ⟨by first | exact Or.inl rfl | exact Or.inr rfl, (List.forall_mem_cons.mpr ⟨by first | exact Or.inl rfl | exact Or.inr rfl, (fun _ h => nomatch h)⟩)⟩) ⟨rfl, by decide +kernel, ⟨rfl, by decide +kernel, trivial⟩⟩) (jl (bx G_found_road (hr.mono (by decide)) (af (eE (aa 1) bV (bI (aa 2))) (af (aI br (aa 4) (cV (af (aa 3) (az)))) (az))) (aC (aC aP)))) (fun _ _ _ _ => bu (i := 0) (show (["begin", "word", "many"] : List Str).Nodup by decide +kernel) rfl (Or.inl rfl) (.inr rfl)) (fun _ _ _ _ => iE) (fun _ _ _ _ => aI br (aa 0) (eE (aa 1) (bI (aa 2)) bV)) )
 (aE (gQ (oA PySem.F.slot_list_append PySem.F.type_list_append jh (aa 5) (af (aI br (aa 4) (eE (aa 1) (bI (aI br (aa 2) (aF))) bV)) (az))))
 (aL (bg (eE (aa 5) (bI (aF)) bV)))))))
theorem xq : FnScope ["n", "word", "told"] ["n", "word"] (aG nA) := ⟨rfl, rfl, rfl, by decide +kernel, rfl, by decide +kernel, by decide +kernel⟩
theorem EZ {f : Addr} {fd : FuncData} (F : Fun K "fall" "fall" nA f fd) (b_list : mg "list" = none) (G_led_by : dm P w K mg base 4 "led_by" ["n", "word"] eO) (G_is_beyond : dm P w K mg base 1 "is_beyond" ["n", "word"] ff) (G_is_shortest : dm P w K mg base 5 "is_shortest" ["n", "word"] cB) (G_led_down : dm P w K mg base 7 "led_down" ["n", "word"] eU) : FnOk P w K mg base iB 8 f fd ["n", "word"] (jb K 2 j7) := kB (m := vM) F xq fun cdv B outer s H E hr =>
 aE (gQ (bx G_led_by (hr.mono (by decide)) (af (aa 0) (af (aa 1) (az))) (aC (aC aP))))
 (aE (fm (fR (bx G_is_beyond (hr.mono (by decide)) (af (aa 0) (af (aa 1) (az))) (aC (aC aP))))
 (aL (Cv))
 (b7))
 (aE (bh (i := 2) xq.nd (cV (af (bK (jQ rfl) b_list fS (af (aa 1) (az))) (az))))
 (aE (kj 100000000 PassesOwn.never (gC (fR (bx G_is_shortest (hr.mono (by decide)) (af (aa 0) (af (bf (aa 2) (sM (aF))) (az))) (aC (aC aP)))))
 (aL (gQ (oA PySem.F.slot_list_extend PySem.F.type_list_extend tQ (aa 2) (af (bx G_led_down (hr.mono (by decide)) (af (aa 0) (af (bf (aa 2) (sM (aF))) (az))) (aC (aC aP))) (az))))))
 (aL (bg (aa 2))))))
theorem jx : FnScope ["_law_script", "_law_k", "_law_cell", "_law_state"] ["_law_script", "_law_k"] (aG gT) := ⟨rfl, rfl, rfl, by decide +kernel, rfl, by decide +kernel, by decide +kernel⟩
theorem vW {f : Addr} {fd : FuncData} (F : Fun K "_law_bag" "_law_bag" gT f fd) (b_len : mg "len" = none) (b_abs : mg "abs" = none) (b_int : mg "int" = none) : FnOk P w K mg base iB 1 f fd ["_law_script", "_law_k"] (jb K 2 gY) := kB (m := nJ) F jx fun cdv B outer s H E hr =>
 aE (bh (i := 2) jx.nd (aF))
 (aE (fm (bG (Hj hr.units) (aa 1) (aR dB b_len b_ (af (aa 0) (az))))
 (aL (bh (i := 2) jx.nd (aR u9 b_abs qc (af (bf (aa 0) (aa 1)) (az)))))
 (b7))
 (aE (bh (i := 3) jx.nd (aI br (aF) (aI qM (aI br (aI br (aI br (aI qM (aa 2) (aF)) (aI pT (aI pT (aF) (aa 1)) (aa 1))) (aI pT (aF) (aa 1))) (aF)) (aF))))
 (aL (bg (cV (af (aI pT (aa 2) (bK IT b_int wu (af (j_ Li (aa 2) (aI JY (aF) (aF))) (az)))) (af (aa 3) (az))))))))
theorem mW : FnScope ["_law_bag_here", "_law_many", "_law_found"] ["_law_bag_here", "_law_many"] (aG fF) := ⟨rfl, rfl, rfl, by decide +kernel, rfl, by decide +kernel, by decide +kernel⟩
theorem rT {f : Addr} {fd : FuncData} (F : Fun K "_law_digit" "_law_digit" fF f fd) : FnOk P w K mg base iB 1 f fd ["_law_bag_here", "_law_many"] (jb K 2 aT) := kB (m := iJ) F mW fun cdv B outer s H E hr =>
 aE (fm (bG (pN hr.units) (bf (aa 0) (aF)) (aF))
 (aE (bh (i := 2) mW.nd (aI qM (bf (aa 0) (aF)) (aa 1)))
 (aE (ku (aI vJ (bf (aa 0) (aF)) (aa 1)) (g8 (aa 0) (aF)))
 (aL (bg (aa 2)))))
 (b7))
 (aE (ku (aI qM (aI pT (bf (aa 0) (aF)) (aF)) (aF)) (g8 (aa 0) (aF)))
 (aL (bg (aI qM (aI vJ (aI qM (aI pT (bf (aa 0) (aF)) (aI br (aI vJ (bf (aa 0) (aF)) (aF)) (aF))) (aF)) (aF)) (aa 1)))))
theorem lN : FnScope ["_law_n", "_law_word_here", "_law_found", "_law_k"] ["_law_n", "_law_word_here"] (aG gS) := ⟨rfl, rfl, rfl, by decide +kernel, rfl, by decide +kernel, by decide +kernel⟩
theorem v9 {f : Addr} {fd : FuncData} (F : Fun K "_law_led" "_law_led" gS f fd) (b_list : mg "list" = none) (b_range : mg "range" = none) (b_tuple : mg "tuple" = none) : FnOk P w K mg base iB 1 f fd ["_law_n", "_law_word_here"] (jb K 2 dN) := kB (m := nq) F lN fun cdv B outer s H E hr =>
 aE (bh (i := 2) lN.nd (bK (jQ rfl) b_list fS (af (bK pO b_range qx (af (aF) (af (aI br (aa 0) (aF)) (az)))) (az))))
 (aE (fM PassesOwn.never rfl (jl (aa 1)) (bu (i := 3) lN.nd)
 (aL (ku (jn (af (bf (aa 2) (aa 3)) (af (bf (aa 2) (aI cX (aa 3) (aF))) (az)))) (jZ rfl (cg (g8 (aa 2) (aI cX (aa 3) (aF))) (cg (g8 (aa 2) (aa 3)) (iI)))))))
 (aL (bg (bK (kG rfl) b_tuple ji (af (aa 2) (az))))))
theorem ez : FnScope ["_law_bag_here", "_law_n", "_law_most", "_law_left", "_law_word_here", "_law_turn", "_law_some", "_law_k"] ["_law_bag_here", "_law_n", "_law_most"] (aG fG) := ⟨rfl, rfl, rfl, by decide +kernel, rfl, by decide +kernel, by decide +kernel⟩
theorem sA {f : Addr} {fd : FuncData} (F : Fun K "_law_grown" "_law_grown" fG f fd) (b_list : mg "list" = none) (b_range : mg "range" = none) (b_len : mg "len" = none) (G_law_digit : dm P w K mg base 1 "_law_digit" ["_law_bag_here", "_law_many"] aT) : FnOk P w K mg base iB 2 f fd ["_law_bag_here", "_law_n", "_law_most"] (jb K 3 fB) := kB (m := jT) F ez fun cdv B outer s H E hr =>
 aE (bh (i := 3) ez.nd (bK (jQ rfl) b_list fS (af (bK pO b_range qx (af (aF) (af (aI br (aa 1) (aF)) (az)))) (az))))
 (aE (bh (i := 4) ez.nd (cV (az)))
 (aE (fM PassesOwn.never rfl (cY b_range (bx G_law_digit (hr.mono (by decide)) (af (aa 0) (af (aI br (aa 2) (aF)) (az))) (aC (aC aP)))) (bu (i := 5) ez.nd)
 (aE (oO (i := 6) (N := ["_law_k", "_law_left"]) (cap := [none, some 3]) ez.nd rfl (iH ["_law_left"] rfl (by decide +kernel) (by decide +kernel) (by decide +kernel) (by decide +kernel) (by decide +kernel) (List.forall_mem_cons.mpr ⟨by first | exact Or.inl rfl | exact Or.inr rfl, (fun _ h => nomatch h)⟩) ⟨rfl, by decide +kernel, trivial⟩) (gW b_range (aF) (aa 1)) (fun _ _ _ _ => bu (i := 0) (show (["_law_k", "_law_left"] : List Str).Nodup by decide +kernel) rfl (Or.inl rfl) (.inr rfl)) (fun _ _ _ _ => jz (bG (Hj hr.units) (bf (aa 1) (aI cX (aa 0) (aF))) (bf (aa 1) (aa 0)))) (fun _ _ _ _ => aa 0) )
 (aL (fm (bG (pN hr.units) (aR dB b_len b_ (af (aa 6) (az))) (aF))
 (aE (bh (i := 7) ez.nd (bf (aa 6) (bx G_law_digit (hr.mono (by decide)) (af (aa 0) (af (aR dB b_len b_ (af (aa 6) (az))) (az))) (aC (aC aP)))))
 (aE (ku (jn (af (bf (aa 3) (aa 7)) (af (bf (aa 3) (aI cX (aa 7) (aF))) (az)))) (jZ rfl (cg (g8 (aa 3) (aI cX (aa 7) (aF))) (cg (g8 (aa 3) (aa 7)) (iI)))))
 (aL (gQ (oA PySem.F.slot_list_append PySem.F.type_list_append jh (aa 4) (af (aa 7) (az)))))))
 (b7)))))
 (aL (bg (aa 4)))))
theorem dj : FnScope ["_law_bag_here", "_law_n", "_law_word_here", "_law_left", "_law_found", "_law_turn", "_law_some", "_law_k"] ["_law_bag_here", "_law_n", "_law_word_here"] (aG fD) := ⟨rfl, rfl, rfl, by decide +kernel, rfl, by decide +kernel, by decide +kernel⟩
theorem sR {f : Addr} {fd : FuncData} (F : Fun K "_law_other" "_law_other" fD f fd) (b_list : mg "list" = none) (b_range : mg "range" = none) (b_len : mg "len" = none) (G_law_led : dm P w K mg base 1 "_law_led" ["_law_n", "_law_word_here"] dN) (G_law_digit : dm P w K mg base 1 "_law_digit" ["_law_bag_here", "_law_many"] aT) : FnOk P w K mg base iB 2 f fd ["_law_bag_here", "_law_n", "_law_word_here"] (jb K 3 fJ) := kB (m := jW) F dj fun cdv B outer s H E hr =>
 aE (bh (i := 3) dj.nd (bK (jQ rfl) b_list fS (af (bx G_law_led (hr.mono (by decide)) (af (aa 1) (af (aa 2) (az))) (aC (aC aP))) (az))))
 (aE (bh (i := 4) dj.nd (cV (az)))
 (aE (fM PassesOwn.never rfl (cY b_range (aR dB b_len b_ (af (aa 2) (az)))) (bu (i := 5) dj.nd)
 (aE (oO (i := 6) (N := ["_law_k", "_law_left"]) (cap := [none, some 3]) dj.nd rfl (iH ["_law_left"] rfl (by decide +kernel) (by decide +kernel) (by decide +kernel) (by decide +kernel) (by decide +kernel) (List.forall_mem_cons.mpr ⟨by first | exact Or.inl rfl | exact Or.inr rfl, (fun _ h => nomatch h)⟩) ⟨rfl, by decide +kernel, trivial⟩) (gW b_range (aF) (aa 1)) (fun _ _ _ _ => bu (i := 0) (show (["_law_k", "_law_left"] : List Str).Nodup by decide +kernel) rfl (Or.inl rfl) (.inr rfl)) (fun _ _ _ _ => jz (bG (pN hr.units) (bf (aa 1) (aI cX (aa 0) (aF))) (bf (aa 1) (aa 0)))) (fun _ _ _ _ => aa 0) )
 (aE (bh (i := 7) dj.nd (bf (aa 6) (bx G_law_digit (hr.mono (by decide)) (af (aa 0) (af (aR dB b_len b_ (af (aa 6) (az))) (az))) (aC (aC aP)))))
 (aE (ku (jn (af (bf (aa 3) (aa 7)) (af (bf (aa 3) (aI cX (aa 7) (aF))) (az)))) (jZ rfl (cg (g8 (aa 3) (aI cX (aa 7) (aF))) (cg (g8 (aa 3) (aa 7)) (iI)))))
 (aL (bh (i := 4) dj.nd (aI br (cV (af (aa 7) (az))) (aa 4))))))))
 (aL (bg (aa 4)))))
theorem g9 : FnScope ["_law_one", "_law_other_here", "_law_at", "_law_here"] ["_law_one", "_law_other_here"] (aG dM) := ⟨rfl, rfl, rfl, by decide +kernel, rfl, by decide +kernel, by decide +kernel⟩
theorem qh {f : Addr} {fd : FuncData} (F : Fun K "_law_is_deed" "_law_is_deed" dM f fd) (b_range : mg "range" = none) (b_len : mg "len" = none) (b_abs : mg "abs" = none) : FnOk P w K mg base iB 1 f fd ["_law_one", "_law_other_here"] (jb K 2 cz) := kB (m := gm) F g9 fun cdv B outer s H E hr =>
 aE (fM PassesOwn.never rfl (cY b_range (aI cX (aR dB b_len b_ (af (aa 0) (az))) (aF))) (bu (i := 2) g9.nd)
 (aL (fm (bG (jK hr.units) (eE (aa 0) bV (bI (aa 2))) (eE (aa 1) bV (bI (aa 2))))
 (aE (fm (AW.at (nk (bG (jK hr.units) (eE (aa 1) (bI (aa 2)) bV) (aI br (cV (af (bf (aa 0) (aI br (aa 2) (aF))) (af (bf (aa 0) (aa 2)) (az)))) (eE (aa 0) (bI (aI br (aa 2) (aF))) bV))) (mG (bG (pN hr.units) (aR u9 b_abs qc (af (aI cX (bf (aa 0) (aa 2)) (bf (aa 0) (aI br (aa 2) (aF)))) (az))) (aF)))))
 (aL (bg (j0)))
 (b7))
 (aE (bh (i := 3) g9.nd (eE (aa 0) (bI (aa 2)) (bI (aI br (aa 2) (aF)))))
 (aL (fm (AW.at (nk (bG (jK hr.units) (aR dB b_len b_ (af (aa 3) (az))) (aF)) (nk (bG (jK hr.units) (bf (aa 3) (aF)) (bf (aa 3) (aF))) (mG (bG (jK hr.units) (aR u9 b_abs qc (af (aI cX (bf (aa 3) (aF)) (bf (aa 3) (aF))) (az))) (aF))))))
 (aL (fm (bG (jK hr.units) (eE (aa 1) (bI (aa 2)) bV) (aI br (cV (af (bf (aa 3) (aF)) (af (bf (aa 3) (aF)) (af (bf (aa 3) (aF)) (az))))) (eE (aa 0) (bI (aI br (aa 2) (aF))) bV)))
 (aL (bg (j0)))
 (b7)))
 (b7)))))
 (b7))))
 (aL (bg (j0)))
theorem gR : FnScope ["_law_order", "_law_n", "_law_found", "_law_i"] ["_law_order"] (aG fu) := ⟨rfl, rfl, rfl, by decide +kernel, rfl, by decide +kernel, by decide +kernel⟩
theorem r8 {f : Addr} {fd : FuncData} (F : Fun K "_law_wrong" "_law_wrong" fu f fd) (b_len : mg "len" = none) (b_range : mg "range" = none) : FnOk P w K mg base iB 1 f fd ["_law_order"] (jb K 1 fH) := kB (m := ki) F gR fun cdv B outer s H E hr =>
 aE (bh (i := 1) gR.nd (aR dB b_len b_ (af (aa 0) (az))))
 (aE (bh (i := 2) gR.nd (cV (az)))
 (aE (fM PassesOwn.never rfl (cY b_range (aa 1)) (bu (i := 3) gR.nd)
 (aL (gQ (oA PySem.F.slot_list_extend PySem.F.type_list_extend tQ (aa 2) (af (gJ (N := ["_law_j", "_law_i", "_law_order"]) (cap := [none, some 3, some 0]) rfl (iH ["_law_i", "_law_order"] rfl (by decide +kernel) (by decide +kernel) (by decide +kernel) (by decide +kernel) (by decide +kernel) (List.forall_mem_cons.mpr ⟨by first | exact Or.inl rfl | exact Or.inr rfl, (List.forall_mem_cons.mpr ⟨by first | exact Or.inl rfl | exact Or.inr rfl, (fun _ h => nomatch h)⟩)⟩) ⟨rfl, by decide +kernel, ⟨rfl, by decide +kernel, trivial⟩⟩) (gW b_range (aI br (aa 3) (aF)) (aa 1)) (fun _ _ _ _ => bu (i := 0) (show (["_law_j", "_law_i", "_law_order"] : List Str).Nodup by decide +kernel) rfl (Or.inl rfl) (.inr rfl)) (fun _ _ _ _ => jz (bG (pN hr.units) (bf (aa 2) (aa 1)) (bf (aa 2) (aa 0)))) (fun _ _ _ _ => jn (af (aI br (aa 1) (aF)) (af (aI br (aa 0) (aF)) (az))))) (az))))))
 (aL (bg (aa 2)))))
theorem s_ : FnScope ["_law_thing"] ["_law_thing"] (aG e_) := ⟨rfl, rfl, rfl, by decide +kernel, rfl, by decide +kernel, by decide +kernel⟩
theorem r_ {f : Addr} {fd : FuncData} (F : Fun K "_law_whole" "_law_whole" e_ f fd) (b_isinstance : mg "isinstance" = none) (b_bool : mg "bool" = none) (b_int : mg "int" = none) : FnOk P w K mg base iB 1 f fd ["_law_thing"] (jb K 1 eg) := kB (m := jR) F s_ fun cdv B outer s H E hr =>
 aL (bg (sY (aR qu b_isinstance cR (af (aa 0) (af (pI b_int wu) (az)))) (pR (AU (aR qu b_isinstance cR (af (aa 0) (af (pI b_bool xK) (az))))))))
theorem g6 : FnScope ["_law_one", "_law_other_here", "_law_at"] ["_law_one", "_law_other_here"] (aG b9) := ⟨rfl, rfl, rfl, by decide +kernel, rfl, by decide +kernel, by decide +kernel⟩
theorem mz {f : Addr} {fd : FuncData} (F : Fun K "_law_is_left_out" "_law_is_left_out" b9 f fd) (b_range : mg "range" = none) (b_len : mg "len" = none) : FnOk P w K mg base iB 1 f fd ["_law_one", "_law_other_here"] (jb K 2 b8) := kB (m := fV) F g6 fun cdv B outer s H E hr =>
 aE (fM PassesOwn.never rfl (cY b_range (aI cX (aR dB b_len b_ (af (aa 0) (az))) (aF))) (bu (i := 2) g6.nd)
 (aL (fm (AW.at (nk (bG (jK hr.units) (bf (aa 0) (aa 2)) (bf (aa 0) (aI br (aa 2) (aF)))) (mG (bG (jK hr.units) (aI br (eE (aa 0) bV (bI (aa 2))) (eE (aa 0) (bI (aI br (aa 2) (aF))) bV)) (aa 1)))))
 (aL (bg (j0)))
 (b7))))
 (aL (bg (j0)))
theorem fU : FnScope ["_law_n", "_law_words", "_law_word_here", "_law_one", "_law_k", "_law_order"] ["_law_n", "_law_words", "_law_word_here"] (aG dP) := ⟨rfl, rfl, rfl, by decide +kernel, rfl, by decide +kernel, by decide +kernel⟩
theorem qm {f : Addr} {fd : FuncData} (F : Fun K "_law_is_fall" "_law_is_fall" dP f fd) (b_isinstance : mg "isinstance" = none) (b_list : mg "list" = none) (b_all : mg "all" = none) (b_range : mg "range" = none) (b_len : mg "len" = none) (G_law_whole : dm P w K mg base 1 "_law_whole" ["_law_thing"] eg) (G_law_is_left_out : dm P w K mg base 1 "_law_is_left_out" ["_law_one", "_law_other_here"] b8) (G_law_is_deed : dm P w K mg base 1 "_law_is_deed" ["_law_one", "_law_other_here"] cz) (G_law_led : dm P w K mg base 1 "_law_led" ["_law_n", "_law_word_here"] dN) (G_law_wrong : dm P w K mg base 1 "_law_wrong" ["_law_order"] fH) : FnOk P w K mg base iB 2 f fd ["_law_n", "_law_words", "_law_word_here"] (jb K 3 dR) := kB (m := iL) F fU fun cdv B outer s H E hr =>
 aE (fm (AW.at (rf (gC (fR (aR qu b_isinstance cR (af (aa 1) (af (pI b_list fS) (az)))))) (rf (bG (jK hr.units) (aa 1) (cV (az))) (ql (bG (Hy hr.units) (bf (aa 1) (aF)) (aa 2))))))
 (aL (bg (j0)))
 (b7))
 (aE (fM PassesOwn.never rfl (jl (aa 1)) (bu (i := 3) fU.nd)
 (aL (fm (AW.at (rf (gC (fR (aR qu b_isinstance cR (af (aa 3) (af (pI b_list fS) (az)))))) (ql (gC (fR (aR (FD rfl) b_all Af (af (gJ (N := ["_law_k"]) (cap := [none]) rfl (iH [] rfl (by decide +kernel) (by decide +kernel) (by decide +kernel) (by decide +kernel) (by decide +kernel) (fun _ h => nomatch h) trivial) (jl (aa 3)) (fun _ _ _ _ => bu (i := 0) (show (["_law_k"] : List Str).Nodup by decide +kernel) rfl (Or.inl rfl) (.inr rfl)) (fun _ _ _ _ => iE) (fun _ _ _ _ => bx G_law_whole (hr.mono (by decide)) (af (aa 0) (az)) (aC aP))) (az))))))))
 (aL (bg (j0)))
 (b7))))
 (aE (fM PassesOwn.never rfl (cY b_range (aI cX (aR dB b_len b_ (af (aa 1) (az))) (aF))) (bu (i := 4) fU.nd)
 (aL (fm (AW.at (nk (gC (fR (bx G_law_is_deed (hr.mono (by decide)) (af (bf (aa 1) (aa 4)) (af (bf (aa 1) (aI br (aa 4) (aF))) (az))) (aC (aC aP))))) (mG (gC (fR (bx G_law_is_left_out (hr.mono (by decide)) (af (bf (aa 1) (aa 4)) (af (bf (aa 1) (aI br (aa 4) (aF))) (az))) (aC (aC aP))))))))
 (aL (bg (j0)))
 (b7))))
 (aE (bh (i := 5) fU.nd (bx G_law_led (hr.mono (by decide)) (af (aa 0) (af (bf (aa 1) (sM (aF))) (az))) (aC (aC aP))))
 (aL (bg (sY (j_ (jK hr.units) (aa 5) (bx G_law_led (hr.mono (by decide)) (af (aa 0) (af (aa 2) (az))) (aC (aC aP)))) (pR (j_ (jK hr.units) (aR dB b_len b_ (af (bx G_law_wrong (hr.mono (by decide)) (af (aa 5) (az)) (aC aP)) (az))) (aR dB b_len b_ (af (bf (aa 1) (sM (aF))) (az)))))))))))
theorem gO : FnScope ["_law_words", "_law_kept", "_law_at", "_law_word_here"] ["_law_words"] (aG fh) := ⟨rfl, rfl, rfl, by decide +kernel, rfl, by decide +kernel, by decide +kernel⟩
theorem rH {f : Addr} {fd : FuncData} (F : Fun K "_law_apart" "_law_apart" fh f fd) (b_list : mg "list" = none) (b_enumerate : mg "enumerate" = none) : FnOk P w K mg base iB 1 f fd ["_law_words"] (jb K 1 fE) := kB (m := kc) F gO fun cdv B outer s H E hr =>
 aE (oO (i := 1) (N := ["_law_word_here"]) (cap := [none]) gO.nd rfl (iH [] rfl (by decide +kernel) (by decide +kernel) (by decide +kernel) (by decide +kernel) (by decide +kernel) (fun _ h => nomatch h) trivial) (jl (aa 0)) (fun _ _ _ _ => bu (i := 0) (show (["_law_word_here"] : List Str).Nodup by decide +kernel) rfl (Or.inl rfl) (.inr rfl)) (fun _ _ _ _ => iE) (fun _ _ _ _ => bK (jQ rfl) b_list fS (af (aa 0) (az))) )
 (aE (fM PassesOwn.never rfl (Dj b_enumerate (aa 0)) (jZ rfl (cg (bu (i := 2) gO.nd) (cg (bu (i := 3) gO.nd) (iI))))
 (aL (gQ (oA PySem.F.slot_list_append PySem.F.type_list_append jh (aa 3) (af (aI br (aa 2) (aF)) (az))))))
 (aL (bg (j_ (jK hr.units) (aa 0) (gJ (N := ["_law_at", "_law_word_here"]) (cap := [none, none]) rfl (iH [] rfl (by decide +kernel) (by decide +kernel) (by decide +kernel) (by decide +kernel) (by decide +kernel) (fun _ h => nomatch h) trivial) (Dj b_enumerate (aa 1)) (fun _ _ _ _ => jZ rfl (cg (bu (i := 0) (show (["_law_at", "_law_word_here"] : List Str).Nodup by decide +kernel) rfl (Or.inl rfl) (.inr rfl)) (cg (bu (i := 1) (show (["_law_at", "_law_word_here"] : List Str).Nodup by decide +kernel) rfl (Or.inl rfl) (.inr rfl)) (iI)))) (fun _ _ _ _ => iE) (fun _ _ _ _ => aI br (aa 1) (cV (af (aI br (aa 0) (aF)) (az)))))))))
theorem gv : FnScope ["_law_bag_here", "_law_n", "_law_way", "_law_word_here", "_law_at", "_law_k"] ["_law_bag_here", "_law_n"] (aG gg) := ⟨rfl, rfl, rfl, by decide +kernel, rfl, by decide +kernel, by decide +kernel⟩
theorem ud {f : Addr} {fd : FuncData} (F : Fun K "_law_word" "_law_word" gg f fd) (b_range : mg "range" = none) (b_len : mg "len" = none) (G_law_digit : dm P w K mg base 1 "_law_digit" ["_law_bag_here", "_law_many"] aT) (G_law_grown : dm P w K mg base 2 "_law_grown" ["_law_bag_here", "_law_n", "_law_most"] fB) (G_law_other : dm P w K mg base 2 "_law_other" ["_law_bag_here", "_law_n", "_law_word_here"] fJ) : FnOk P w K mg base iB 3 f fd ["_law_bag_here", "_law_n"] (jb K 2 gf) := kB (m := lR) F gv fun cdv B outer s H E hr =>
 aE (bh (i := 2) gv.nd (bx G_law_digit (hr.mono (by decide)) (af (aa 0) (af (aF) (az))) (aC (aC aP))))
 (aE (fm (bG (jK hr.units) (aa 2) (aF))
 (aL (bg (gJ (N := ["_law_k", "_law_bag_here", "_law_n"]) (cap := [none, some 0, some 1]) rfl (iH ["_law_bag_here", "_law_n"] rfl (by decide +kernel) (by decide +kernel) (by decide +kernel) (by decide +kernel) (by decide +kernel) (List.forall_mem_cons.mpr ⟨by first | exact Or.inl rfl | exact Or.inr rfl, (List.forall_mem_cons.mpr ⟨by first | exact Or.inl rfl | exact Or.inr rfl, (fun _ h => nomatch h)⟩)⟩) ⟨rfl, by decide +kernel, ⟨rfl, by decide +kernel, trivial⟩⟩) (cY b_range (bx G_law_digit (hr.mono (by decide)) (af (aa 0) (af (aF) (az))) (aC (aC aP)))) (fun _ _ _ _ => bu (i := 0) (show (["_law_k", "_law_bag_here", "_law_n"] : List Str).Nodup by decide +kernel) rfl (Or.inl rfl) (.inr rfl)) (fun _ _ _ _ => iE) (fun _ _ _ _ => aI br (aF) (bx G_law_digit (hr.mono (by decide)) (af (aa 1) (af (aI cX (aa 2) (aF)) (az))) (aC (aC aP)))))))
 (b7))
 (aE (bh (i := 3) gv.nd (bx G_law_grown (hr.mono (by decide)) (af (aa 0) (af (aa 1) (af (aF) (az)))) (aC (aC (aC aP)))))
 (aE (fm (bG (jK hr.units) (aa 2) (aF))
 (aE (bh (i := 4) gv.nd (bx G_law_digit (hr.mono (by decide)) (af (aa 0) (af (aI br (aR dB b_len b_ (af (aa 3) (az))) (aF)) (az))) (aC (aC aP))))
 (aE (bh (i := 5) gv.nd (aI br (aF) (bx G_law_digit (hr.mono (by decide)) (af (aa 0) (af (aI cX (aa 1) (aF)) (az))) (aC (aC aP)))))
 (aL (bg (aI br (aI br (eE (aa 3) bV (bI (aa 4))) (cV (af (aa 5) (af (aa 5) (az))))) (eE (aa 3) (bI (aa 4)) bV))))))
 (b7))
 (aL (bg (eE (aI br (aa 3) (AK (bx G_law_other (hr.mono (by decide)) (af (aa 0) (af (aa 1) (af (aa 3) (az)))) (aC (aC (aC aP)))))) bV (bI (aF))))))))
theorem kq : FnScope ["_law_script", "_law_k", "_law_bag_here", "_law_n", "_law_word_here", "_law_handed", "_law_turn", "_law_found"] ["_law_script"] (aG mQ) := ⟨rfl, rfl, rfl, by decide +kernel, rfl, by decide +kernel, by decide +kernel⟩
theorem Il {f : Addr} {fd : FuncData} (F : Fun K "law" "law" mQ f fd) (b_range : mg "range" = none) (b_max : mg "max" = none) (b_min : mg "min" = none) (b_len : mg "len" = none) (b_list : mg "list" = none) (G_law_bag : dm P w K mg base 1 "_law_bag" ["_law_script", "_law_k"] gY) (G_law_digit : dm P w K mg base 1 "_law_digit" ["_law_bag_here", "_law_many"] aT) (G_law_word : dm P w K mg base 3 "_law_word" ["_law_bag_here", "_law_n"] gf) (G_fall : dm P w K mg base 8 "fall" ["n", "word"] j7) (G_law_is_fall : dm P w K mg base 2 "_law_is_fall" ["_law_n", "_law_words", "_law_word_here"] dR) (G_law_apart : dm P w K mg base 1 "_law_apart" ["_law_words"] fE) : FnOk P w K mg base iB 9 f fd ["_law_script"] (jb K 1 rm) := kB (m := B6) F kq fun cdv B outer s H E hr =>
 aE (fM PassesOwn.never rfl (cY b_range (aR (Hf rfl) b_max Hg (af (aF) (af (aR (G8 rfl) b_min IE (af (aF) (af (aR dB b_len b_ (af (aa 0) (az))) (az)))) (az))))) (bu (i := 1) kq.nd)
 (aE (bh (i := 2) kq.nd (bx G_law_bag (hr.mono (by decide)) (af (aa 0) (af (aa 1) (az))) (aC (aC aP))))
 (aE (bh (i := 3) kq.nd (aI br (aF) (bx G_law_digit (hr.mono (by decide)) (af (aa 2) (af (bf (cV (af (aF) (af (aF) (az)))) (bx G_law_digit (hr.mono (by decide)) (af (aa 2) (af (aF) (az))) (aC (aC aP)))) (az))) (aC (aC aP)))))
 (aE (bh (i := 4) kq.nd (bx G_law_word (hr.mono (by decide)) (af (aa 2) (af (aa 3) (az))) (aC (aC aP))))
 (aE (bh (i := 5) kq.nd (bK (jQ rfl) b_list fS (af (aa 4) (az))))
 (aL (fM PassesOwn.never rfl (cY b_range (aF)) (bu (i := 6) kq.nd)
 (aE (bh (i := 7) kq.nd (bx G_fall (hr.mono (by decide)) (af (aa 3) (af (aa 5) (az))) (aC (aC aP))))
 (aE (fm (AW.at (rf (gC (fR (bx G_law_is_fall (hr.mono (by decide)) (af (aa 3) (af (aa 7) (af (aa 4) (az)))) (aC (aC (aC aP)))))) (ql (bG (Hy hr.units) (aa 5) (aa 4)))))
 (aL (bg (j0)))
 (b7))
 (aL (fm (AW.at (rf (gC (fR (bx G_law_apart (hr.mono (by decide)) (af (aa 7) (az)) (aC aP)))) (ql (bG (Hy hr.units) (aa 5) (aa 4)))))
 (aL (bg (j0)))
 (b7))))))))))))
 (aL (bg (j_ (jK hr.units) (bx G_fall (hr.mono (by decide)) (af (aF) (af (cV (az)) (az))) (aC (aC aP))) (cV (af (cV (az)) (az))))))
end
end K10
namespace K10
open PySem L2 Am
def qV (S : aH) (b : Nat) : Prop := ∃ g st : Int, au S b = some [.int g, .int st] /\ 0 <= g /\ 0 <= st /\ st < 4294967296
theorem qV.kp {S S' : aH} {b : Nat} {c : Nat -> Prop} (h : qV S b) (k : Kp c S S') (hb : ¬ c b) : qV S' b := by
 obtain ⟨g, st, e, q⟩ := h
 exact ⟨g, st, k.lst b _ hb e, q⟩
theorem E8 {S : aH} {ns : List Int} {k : Int} (h0 : 0 <= k) (h1 : k <= 100) : ∃ S', gY [.frz (ns.map .int), .int k] S = .ok (.ref S.length) S' /\ qV S' S.length /\ b5 S S' := by
 have e3 : DR (.int 10) (.int 18) = fun S => R.ok (.int 1000000000000000000) S := by
  funext S; exact dF ⟨by decide, by decide, by decide⟩
 have go : ∀ cell : Int, 0 <= cell -> ∃ S', ((RS.seq (.nx [A.frz (ns.map .int), .int k, .int cell, .unb] S) (bq (bD (aA aW (eC (.int 1)) (aA oH (aA aW (aA aW (aA aW (aA oH (ah 2) (eC (.int 2147483647))) (aA jo (aA jo (eC (.int 7919)) (ah 1)) (ah 1))) (aA jo (eC (.int 17)) (ah 1))) (eC (.int 3))) (eC (.int 2147483646)))) (bJ 3))
   (bM (gr (aq (aA jo (ah 2) (aX (f1 vp) (aq (aA Kx (ah 2) (aA DR (eC (.int 10)) (eC (.int 18)))) (aM)))) (aq (ah 3) (aM))))))).end = .ok (.ref S.length) S') /\ qV S' S.length /\ b5 S S' := by
  intro cell hc
  have m1 : oH (.int cell) (.int 2147483647) = fun S => R.ok (.int (cell % 2147483647)) S := by funext S; exact qJ (by decide)
  have m2 : ∀ x : Int, oH (.int x) (.int 2147483646) = fun S => R.ok (.int (x % 2147483646)) S := fun x => by funext S; exact qJ (by decide)
  have m3 : ∀ x : Int, jo (.int 7919) (.int x) = fun S => R.ok (.int (7919 * x)) S := fun x => by funext S; exact yH (by decide) (by decide)
  have m4 : jo (.int (7919 * k)) (.int k) = fun S => R.ok (.int (7919 * k * k)) S := by funext S; exact mul_r (by omega) (by omega)
  have m5 : ∀ x : Int, jo (.int 17) (.int x) = fun S => R.ok (.int (17 * x)) S := fun x => by funext S; exact yH (by decide) (by decide)
  have m6 : ∀ b : Bool, jo (.int cell) (.int (if b = true then 1 else 0)) = fun S => R.ok (.int (cell * (if b = true then 1 else 0))) S := fun b => by
   funext S
   refine mul_r ?_ ?_ <;> cases b <;> decide
  have s0 : 0 <= 1 + (cell % 2147483647 + 7919 * k * k + 17 * k + 3) % 2147483646 := by
   have := Int.emod_nonneg (cell % 2147483647 + 7919 * k * k + 17 * k + 3) (show (2147483646 : Int) ≠ 0 by decide)
   omega
  have s1 : 1 + (cell % 2147483647 + 7919 * k * k + 17 * k + 3) % 2147483646 < 4294967296 := by
   have := Int.emod_lt_of_pos (cell % 2147483647 + 7919 * k * k + 17 * k + 3) (show (0 : Int) < 2147483646 by decide)
   omega
  refine ⟨S ++ [.lst [.int (cell * (if decide (1000000000000000000 <= cell) = true then 1 else 0)), .int (1 + (cell % 2147483647 + 7919 * k * k + 17 * k + 3) % 2147483646)]], ?_, ⟨_, _, aK, ?_, s0, s1⟩, Kp.refl.lay⟩
  ·simp only [bw, bools, m1, m2, m3, m4, m5, e3, m6]
  ·refine Int.mul_nonneg hc ?_
   split <;> decide
 have hA : ∀ x : Int, 0 <= (if x < 0 then -x else x) := by intro x; split <;> omega
 unfold gY nJ rF
 simp only [bw, bools, dW, Nat.reduceAdd, Nat.reduceSub, List.length_map]
 by_cases hk : k < (ns.length : Int)
 ·have hn : k.toNat < ns.length := by omega
  have ha : d8 (ns.map A.int) k = some (.int ns[k.toNat]) := rR (k := k.toNat) (by omega) (List.getElem?_eq_getElem hn)
  rw [decide_eq_true hk]
  simp only [bw, bools, ha]
  exact go _ (hA _)
 ·rw [decide_eq_false hk]
  simp only [bw, bools]
  exact go 0 (Int.le_refl 0)
theorem digit {S : aH} {b : Nat} {m : Int} (h : qV S b) (h1 : 1 <= m) (h2 : m < 1073741824) : ∃ d S', aT [.ref b, .int m] S = .ok (.int d) S' /\ 0 <= d /\ d < m /\ qV S' b /\ Kp (· = b) S S' := by
 obtain ⟨g, st, hl, hg, hs, hs2⟩ := h
 have hb := bH hl
 have i0 : oW 2 0 = some 0 := ie rfl (by decide)
 have i1 : oW 2 1 = some 1 := ie rfl (by decide)
 have fin : ∀ d g' st' : Int, 0 <= d -> d < m -> 0 <= g' -> 0 <= st' -> st' < 4294967296 -> aT [.ref b, .int m] S = .ok (.int d) (S.set b (.lst [.int g', .int st'])) -> ∃ d S', aT [.ref b, .int m] S = .ok (.int d) S' /\ 0 <= d /\ d < m /\ qV S' b /\ Kp (· = b) S S' :=
  fun d g' st' a1 a2 a3 a4 a5 e => ⟨d, _, e, a1, a2, ⟨g', st', cH hb, a3, a4, a5⟩, Kp.refl.set (.inl rfl)⟩
 by_cases hg0 : 0 < g
 ·refine fin (g % m) (g / m) st (Int.emod_nonneg _ (by omega)) (Int.emod_lt_of_pos _ (by omega)) (Int.ediv_nonneg hg (by omega)) hs hs2 ?_
  unfold aT iJ jU
  rw [oY]
  simp [hl, za, BF, hg0, qJ (show 0 < m by omega), vB (show 0 < m by omega) h2, i0]
 ·have : g = 0 := by omega
  subst this
  have e1 : 0 <= st * 48271 % 2147483647 := Int.emod_nonneg _ (by decide)
  have e2 : st * 48271 % 2147483647 < 2147483647 := Int.emod_lt_of_pos _ (by decide)
  refine fin ((st * 48271 % 2147483647) * ((st * 48271 % 2147483647) / 65536 + 9) % 2147483629 / 32 % m) 0 (st * 48271 % 2147483647) (Int.emod_nonneg _ (by omega)) (Int.emod_lt_of_pos _ (by omega)) (by decide) e1 (by omega) ?_
  unfold aT iJ jU
  rw [oY]
  simp [hl, za, BF, qJ (show 0 < m by omega), i0, i1, yH (show -18446744073709551616 < st by omega) (by omega), qJ (show (0 : Int) < 2147483647 by decide), cH hb, vB (show (0 : Int) < 65536 by decide) (by decide), yH (show -18446744073709551616 < st * 48271 % 2147483647 by omega) (by omega), qJ (show (0 : Int) < 2147483629 by decide), vB (show (0 : Int) < 32 by decide) (by decide)]
theorem gx {xs : List Int} {n : Nat} (px : xs.Perm (aS 1 ((n : Int) + 1))) : xs.length = n := by have := BB px (by omega); omega
theorem vX {xs : List Int} {n : Int} (px : xs.Perm (aS 1 (n + 1))) : xs.Nodup := px.nodup_iff.mpr (jv _ _)
theorem Et {S : aH} {xs : List Int} {n : Nat} (px : xs.Perm (aS 1 ((n : Int) + 1))) (h2 : n <= 1000) : ∃ (ys : List Int) (S' : aH), nv [.tup (xs.map .int)] S = .ok (.tup (ys.map .int)) S' /\ Bl.gB xs ys /\ ys.Perm (aS 1 ((n : Int) + 1)) /\ b5 S S' := by
 have lx := gx px
 unfold nv vU C6
 simp only [bw, bools, dW, Nat.reduceAdd, Nat.reduceSub, List.length_map, lx]
 rw [Jr (k := n) aK (by omega)]
 simp only [bw, bools]
 have hlen : (S ++ [O.lst [.int 0]]).length = S.length + 1 := by simp
 rw [hlen]
 refine GX (xs := xs.map .int) (S1 := S ++ [O.lst [.int 0]] ++ [O.lst (List.replicate n (.int 0))]) (GN (by simp only [bw, bools]))
  (fun t τ S' => ∃ (a2 a3 : A) (ps : List Int), τ = [.tup (xs.map .int), .ref (S.length + 1), a2, a3] /\ au S' (S.length + 1) = some (ps.map .int) /\ ps.length = n /\ (∀ (p : Nat) (h : p < xs.length), p < t -> ps[(xs[p] - 1).toNat]? = some ((p : Int) + 1)) /\ b5 S S')
  (fun r => ∃ (ys : List Int) (S' : aH), RS.end (RS.seq r _) = .ok (.tup (ys.map .int)) S' /\ Bl.gB xs ys /\ ys.Perm (aS 1 ((n : Int) + 1)) /\ b5 S S') ⟨.unb, .unb, List.replicate n 0, rfl, ?_, by simp, fun _ _ h => absurd h (Nat.not_lt_zero _), Kp.refl.lay.lay⟩ ?_ ?_
 ·rw [List.map_replicate, <- hlen]; exact aK
 ·rintro t x τ S' hx ⟨a2, a3, ps, rfl, hL, hl, hps, hk⟩
  rw [List.getElem?_map] at hx
  obtain ⟨v, hv, rfl⟩ := Option.map_eq_some_iff.mp hx
  obtain ⟨ht, ev⟩ := List.getElem?_eq_some_iff.mp hv
  have mv := u7 px (List.mem_of_getElem? hv)
  refine ⟨_, _, by simp only [bw, bools, dF (show ([_, _] : List A).length = 2 from rfl)]; rfl, .inl ?_⟩
  have hi : oW ps.length (v - 1) = some (v - 1).toNat := ie (by omega) (by omega)
  have lL := bH hL
  unfold uH
  simp only [bw, bools, hL, List.length_map, hi]
  refine ⟨_, _, rfl, _, _, ps.set (v - 1).toNat ((t : Int) + 1), rfl, ?_, by rw [List.length_set]; exact hl, fun p hp hpt => ?_, hk.set (.inr (by omega))⟩
  ·rw [cH lL, List.map_set]
  ·by_cases e : p = t
   ·subst e
    rw [ev, List.getElem?_set_self (by omega)]
   ·have ne : (xs[p] - 1).toNat ≠ (v - 1).toNat := fun z => by
     have mp := u7 px (List.getElem_mem hp)
     have : xs[p] = xs[t] := by rw [ev]; omega
     exact e ((List.getElem_inj (vX px)).mp this)
    rw [List.getElem?_set_ne (Ne.symm ne)]
    exact hps p hp (by omega)
 ·rintro τ S' ⟨a2, a3, ps, rfl, hL, hl, hps, hk⟩
  rw [List.length_map] at hps
  refine ⟨ps, S', by simp only [bw, bools, hL], ⟨by omega, fun p h => hps p h h⟩, ?_, hk⟩
  refine (oi (jv _ _) (fun v hv => ?_) (by rw [cP]; omega)).symm
  have := cG.mp hv
  have hp : (v - 1).toNat < xs.length := by omega
  have := List.mem_of_getElem? (hps (v - 1).toNat hp hp)
  rwa [show (((v - 1).toNat : Nat) : Int) + 1 = v by omega] at this
abbrev wd (w : List Nat) : List A := w.map fun k : Nat => A.int (k : Int)
theorem oJ {l : List Int} {k : Nat} {i : Int} (h : i = k) (hk : k < l.length) : d8 (l.map A.int) i = some (.int (l.getD k 0)) := rR h (by rw [List.getD_eq_getElem?_getD, List.getElem?_eq_getElem hk]; rfl)
theorem oU {l : List Int} {k : Nat} : ((l.map A.int).set (k - 1) (.int (l.getD k 0))).set k (.int (l.getD (k - 1) 0)) = (Wd.ex l k).map A.int := by
 unfold Wd.ex
 rw [List.map_set, List.map_set]
theorem K8 {f g : A -> A -> aH -> R A} {ca cb cc : Ex} {τ : List A} {S : aH} {a b c : A} (h1 : ca τ S = .ok a S) (h2 : cb τ S = .ok b S) (h3 : f a b S = .ok (.bl true) S) (h4 : cc τ S = .ok c S) : IY f g ca cb cc τ S = g b c S := by
 unfold IY; rw [h1, R.fO, h2, R.fO, h3, R.fO]; unfold Me; show (cc τ S).bind _ = _; rw [h4]; rfl
theorem HH {S : aH} {i : Int} : f_ [.int i] S = .ok (.bl true) S := by
 unfold f_ lV pD
 simp only [bw, bools, dW, Nat.reduceAdd, Nat.reduceSub, show o7 .int "int" = some true from rfl, show o7 .int "bool" = some false from rfl, Bool.not_false]
theorem JM {S : aH} {n k : Int} (h1 : 1 <= k) (h2 : k < n) : bY [.int n, .int k] S = .ok (.bl true) S := by
 unfold bY iS lJ
 have c : IY KH H_ (eC (.int 1)) (ah 1) (ah 0) [.int n, .int k] S = .ok (.bl true) S := by
  rw [K8 (a := .int 1) (b := .int k) (c := .int n) rfl rfl (by simp only [bw, decide_eq_true h1]) rfl]
  simp only [bw, decide_eq_true h2]
 simp only [bw, bools, dW, Nat.reduceAdd, Nat.reduceSub, HH, c]
theorem sX {S : aH} {xs : List Int} {k : Nat} (h1 : 1 <= k) (h2 : k < xs.length) (hl : xs.length <= 1000) : ∃ S', cA [.tup (xs.map .int), .int k] S = .ok (.tup ((Wd.ex xs k).map .int)) S' /\ b5 S S' := by
 have e1 := JM (S := S) (n := (xs.length : Int)) (k := (k : Int)) (by omega) (by omega)
 have a1 : d8 (xs.map A.int) (k : Int) = some (.int (xs.getD k 0)) := oJ rfl (by omega)
 have a2 : d8 (xs.map A.int) ((k : Int) - 1) = some (.int (xs.getD (k - 1) 0)) := oJ (k := k - 1) (by omega) (by omega)
 have x1 : oW xs.length ((k : Int) - 1) = some (k - 1) := ie (by omega) (by omega)
 have x2 : oW xs.length (k : Int) = some k := ie rfl (by omega)
 have hL : au (S ++ [O.lst (xs.map .int)]) S.length = some (xs.map .int) := aK
 have lS : ∀ ys, au ((S ++ [O.lst (xs.map .int)]).set S.length (.lst ys)) S.length = some ys := fun ys => cH (by simp)
 have e2 : bP [.tup (xs.map .int), .int k, .int ((k : Int) + 1)] S = .ok (.tup ((Wd.ex xs k).map .int)) (((S ++ [O.lst (xs.map .int)]).set S.length (.lst ((xs.map A.int).set (k - 1) (.int (xs.getD k 0))))).set S.length (.lst ((Wd.ex xs k).map .int))) := by
  unfold bP eT gZ
  simp only [bw, bools, dW, Nat.reduceAdd, Nat.reduceSub, hL, show (k : Int) + 1 - 1 = k by omega, a1, a2, dF (show 2 <= sizeLine by decide), dF (show 2 = 2 from rfl), List.length_map, x1, lS, List.length_set, x2, oU]
  rw [cH (by simp)]
  simp only [bw, bools]
 unfold cA ko ow
 simp only [bw, Fq, bools, dW, Nat.reduceAdd, Nat.reduceSub, List.length_map, e1, Bool.not_true, e2]
 exact ⟨_, rfl, ((Kp.refl.lay).set (.inr (Nat.le_refl _))).set (.inr (Nat.le_refl _))⟩
theorem vF {S : aH} {n W : Nat} {w : List Nat} (h : au S W = some (wd w)) (hv : ∀ k ∈ w, 1 <= k /\ k < n) (h1 : 1 <= n) (h2 : n <= 20) :
  ∃ S', dN [.int n, .ref W] S = .ok (.tup ((Wd.led (aS 1 ((n : Int) + 1)) w).map .int)) S' /\ b5 S S' := by
 have lw := bH h
 unfold dN nq qQ
 simp only [bw, bools, dW, Nat.reduceAdd, Nat.reduceSub, rA (pJ (show (-1000000 : Int) <= 1 by decide) (by decide) (show -1000000 <= (n : Int) + 1 by omega) (by omega) (by omega))]
 refine oR (n := W) (xs := wd w) (S1 := S ++ [.lst ((aS 1 ((n : Int) + 1)).map .int)]) (show nU _ _ = _ from jm (by simp only [bw, bools]) (aZ h))
  (fun i τ S1 => (∃ a3, τ = [.int n, .ref W, .ref S.length, a3]) /\ au S1 S.length = some ((Wd.led (aS 1 ((n : Int) + 1)) (w.take i)).map .int) /\ b5 S S1)
  (fun r => ∃ S', RS.end (RS.seq r _) = .ok (.tup ((Wd.led (aS 1 ((n : Int) + 1)) w).map .int)) S' /\ b5 S S') ⟨⟨_, rfl⟩, aK, Kp.refl.lay⟩ (fun i τ S1 hh => hh.2.2.lst _ _ (fun z => z) h) ?_ ?_
 ·rintro i z τ S1 hz ⟨⟨a3, rfl⟩, hL, kp⟩
  rw [List.getElem?_map] at hz
  obtain ⟨k, hk, rfl⟩ := Option.map_eq_some_iff.mp hz
  obtain ⟨hi, ek⟩ := List.getElem?_eq_some_iff.mp hk
  have hkv := hv k (List.mem_of_getElem? hk)
  refine ⟨[.int n, .ref W, .ref S.length, .int k], S1, rfl, .inl ?_⟩
  have e1 : Wd.led (aS 1 ((n : Int) + 1)) (w.take (i + 1)) = Wd.ex (Wd.led (aS 1 ((n : Int) + 1)) (w.take i)) k := by
   rw [List.take_succ_eq_append_getElem hi, Wd.fQ, ek]; rfl
  have ll : (Wd.led (aS 1 ((n : Int) + 1)) (w.take i)).length = n := by rw [Wd.iD, Wd.bW]
  rw [e1]
  generalize Wd.led (aS 1 ((n : Int) + 1)) (w.take i) = l at hL ll
  have lL := bH hL
  have a1 : d8 (l.map A.int) (k : Int) = some (.int (l.getD k 0)) := oJ rfl (by omega)
  have a2 : d8 (l.map A.int) ((k : Int) - 1) = some (.int (l.getD (k - 1) 0)) := oJ (k := k - 1) (by omega) (by omega)
  have x1 : oW l.length ((k : Int) - 1) = some (k - 1) := ie (by omega) (by omega)
  have x2 : oW l.length (k : Int) = some k := ie rfl (by omega)
  have lS : ∀ ys, au (S1.set S.length (.lst ys)) S.length = some ys := fun ys => cH lL
  unfold nX
  simp only [bw, bools, hL, a1, a2, kr (show ([_, _] : List A).length <= 16777216 by simp), dF (show ([_, _] : List A).length = 2 from rfl), List.length_map, x1, lS, List.length_set, x2]
  refine ⟨_, _, rfl, ⟨_, rfl⟩, ?_, (kp.set (.inr (Nat.le_refl _))).set (.inr (Nat.le_refl _))⟩
  rw [cH (by rw [List.length_set]; exact lL), oU]
 ·rintro τ S1 ⟨⟨a3, rfl⟩, hL, kp⟩
  rw [List.length_map, List.take_length] at hL
  simp only [bw, bools, hL]
  exact ⟨_, rfl, kp⟩
def prs (n : Int) : List A := (aS 1 n).flatMap fun i => (aS (i + 1) (n + 1)).map fun j => .tup [.int i, .int j]
theorem Ef {n : Int} {x : A} : x ∈ prs n ↔ ∃ i j : Int, 1 <= i /\ i < j /\ j <= n /\ x = .tup [.int i, .int j] := by
 unfold prs
 rw [List.mem_flatMap]
 constructor
 ·rintro ⟨i, hi, hx⟩
  obtain ⟨j, hj, rfl⟩ := List.mem_map.mp hx
  rw [cG] at hi hj
  exact ⟨i, j, by omega, by omega, by omega, rfl⟩
 ·rintro ⟨i, j, h1, h2, h3, rfl⟩
  exact ⟨i, cG.mpr ⟨h1, by omega⟩, List.mem_map.mpr ⟨j, cG.mpr ⟨by omega, by omega⟩, rfl⟩⟩
theorem pL {α β : Type} {f : α -> List β} {B : Nat} : ∀ (l : List α), (∀ x ∈ l, (f x).length <= B) -> (l.flatMap f).length <= l.length * B
 | [], _ => Nat.zero_le _
 | x :: l, h => by
  rw [List.flatMap_cons, List.length_append, List.length_cons, Nat.add_mul, Nat.one_mul]
  have := pL l fun y hy => h y (List.mem_cons_of_mem _ hy)
  have := h x (List.mem_cons_self ..)
  omega
theorem yO {n : Int} (h0 : 0 <= n) (h1 : n <= 1000) : (prs n).length <= 16777216 := by
 have := pL (B := 1000) (f := fun i => (aS (i + 1) (n + 1)).map fun j => A.tup [.int i, .int j]) (aS 1 n) fun x hx => by
  rw [cG] at hx
  rw [List.length_map, cP]; omega
 rw [cP] at this
 have h2 : (n - 1).toNat * 1000 <= 1000 * 1000 := Nat.mul_le_mul_right _ (by omega)
 unfold prs
 omega
theorem Gg {S : aH} {i n lo hi : Int} : ∀ (k t : Nat) (x1 : A), k + t = (hi - lo).toNat -> ∃ x1', iU (cT lo hi) (bJ 1) iw (jM (aq (ah 0) (aq (ah 1) (aM)))) k t [.int i, x1, .int n] S = .ok ((List.range' t k).map fun q : Nat => A.tup [.int i, .int (lo + q)], [.int i, x1', .int n]) S
 | 0, t, x1, _ => ⟨x1, rfl⟩
 | k + 1, t, x1, h => by
  obtain ⟨x1', e⟩ := Gg (S := S) (i := i) (n := n) (lo := lo) (hi := hi) k (t + 1) (.int (lo + t)) (by omega)
  refine ⟨x1', ?_⟩
  unfold iU
  have hg : (cT lo hi).get t S = some (.int (lo + t)) := if_pos (by omega)
  simp only [bw, bools, hg, kr (show ([_, _] : List A).length <= 16777216 by simp), e, List.range'_succ, List.map_cons]
theorem CG {S : aH} {n : Int} (h0 : 0 <= n) (h1 : n <= 1000) : ∀ (k t : Nat) (x0 x1 : A), k + t = (n - 1).toNat -> gH (cT 1 n) (bJ 0) iw (fW (aA aW (ah 0) (eC (.int 1))) (aA aW (ah 2) (eC (.int 1)))) (bJ 1) iw (jM (aq (ah 0) (aq (ah 1) (aM)))) k t [x0, x1, .int n] S = .ok ((List.range' t k).flatMap fun q : Nat => (aS (1 + q + 1) (n + 1)).map fun j => A.tup [.int (1 + q), .int j]) S
 | 0, t, x0, x1, _ => rfl
 | k + 1, t, x0, x1, h => by
  have hg : (cT 1 n).get t S = some (.int (1 + t)) := if_pos (by omega)
  obtain ⟨x1', e⟩ := Gg (S := S) (i := 1 + t) (n := n) (lo := 1 + t + 1) (hi := n + 1) (cT (1 + t + 1) (n + 1)).k 0 x1 rfl
  have hr : ((List.range' 0 (cT (1 + (t : Int) + 1) (n + 1)).k).map fun q : Nat => A.tup [.int (1 + t), .int (1 + t + 1 + q)]) = (aS (1 + t + 1) (n + 1)).map fun j => A.tup [.int (1 + t), .int j] := by
   unfold aS
   rw [List.map_map, List.range_eq_range']
   rfl
  rw [hr] at e
  have e2 := CG (S := S) h0 h1 k (t + 1) (.int (1 + t)) x1' (by omega)
  have hs : fW (aA aW (ah 0) (eC (.int 1))) (aA aW (ah 2) (eC (.int 1))) [.int (1 + t), x1, .int n] S = .ok (cT (1 + t + 1) (n + 1)) S :=
   jc (S1 := S) (by simp only [bw, bools]) (by simp only [bw, bools]) (cu (by omega) (by omega)) (cu (by omega) (by omega))
  unfold gH
  simp only [bw, bools, hg, hs, e, e2, List.range'_succ, List.flatMap_cons]
theorem CW {S : aH} {n : Int} (h0 : 0 <= n) (h1 : n <= 1000) : cS [.int n] S = .ok (.ref S.length) (S ++ [.lst (prs n)]) := by
 have hs : fW (eC (.int 1)) (ah 0) [.int n] S = .ok (cT 1 n) S := jc (S1 := S) (by simp only [bw, bools]) (by simp only [bw, bools]) (cu (by omega) (by omega)) (cu (by omega) (by omega))
 have e := CG (S := S) h0 h1 (cT 1 n).k 0 .unb .unb rfl
 have hp : ((List.range' 0 (cT 1 n).k).flatMap fun q : Nat => (aS (1 + q + 1) (n + 1)).map fun j => A.tup [.int (1 + q), .int j]) = prs n := by
  unfold prs aS
  rw [List.flatMap_map, <- List.range_eq_range']
  rfl
 rw [hp] at e
 unfold cS iP lF vS
 simp only [bw, bools, dW, Nat.reduceAdd, Nat.reduceSub, hs, e, bB (yO h0 h1)]
def wg (xs : List Int) (q : A) : Bool := match q with
 | .tup [.int i, .int j] => decide (xs.getD (i - 1).toNat 0 > xs.getD (j - 1).toNat 0)
 | _ => false
theorem FP {xs : List Int} {i : Int} (h1 : 0 <= i) (h2 : i < xs.length) : d8 (xs.map A.int) i = some (.int (xs.getD i.toNat 0)) := oJ (k := i.toNat) (by omega) (by omega)
theorem JE {S : aH} {n : Nat} {xs : List Int} (hlen : xs.length = n) (h2 : n <= 20) :
  ∃ (P : Nat) (S' : aH), dH [.tup (xs.map .int)] S = .ok (.ref P) S' /\ au S' P = some ((prs n).filter (wg xs)) /\ b5 S S' /\ S.length <= P := by
 have eq := CW (S := S) (n := (n : Int)) (by omega) (by omega)
 have hL : au (S ++ [O.lst (prs n)]) S.length = some (prs n) := aK
 obtain ⟨S', g1, g2⟩ := oQ (s := eG S.length (prs n).length) (g := wG 2 (oq (bJ 0) (oq (bJ 1) (yE)))) (t := jf (aA sq (aA cI (ah 2) (aA aSub (ah 0) (eC (.int 1)))) (aA cI (ah 2) (aA aSub (ah 1) (eC (.int 1)))))) (e := jM (aq (ah 0) (aq (ah 1) (aM))))
  (P := fun S1 => S1 = S ++ [O.lst (prs n)]) (T := fun τ' => ∃ y z, τ' = [y, z, .tup (xs.map .int)])
  (fun i => (prs n).getD i .unb) (fun i => wg xs ((prs n).getD i .unb)) (fun i => (prs n).getD i .unb)
  (fun i S1 hi k => by
   have hi : i < (prs n).length := hi
   show (au S1 S.length).bind _ = _
   rw [k, hL, Option.bind_some, List.getD_eq_getElem?_getD, List.getElem?_eq_getElem hi]; rfl)
  (fun S1 k => by
   show (match au S1 S.length with
    | some ys => decide (ys.length <= (prs n).length)
    | none => false) = true
   rw [k, hL]
   simp)
  (fun i τ' S1 hi ⟨y, z, hy⟩ k => by
   have hi : i < (prs n).length := hi
   subst hy k
   have hm : (prs n).getD i .unb ∈ prs n := by rw [List.getD_eq_getElem?_getD, List.getElem?_eq_getElem hi]; exact List.getElem_mem hi
   obtain ⟨a, c, q1, q2, q3, eac⟩ := Ef.mp hm
   rw [eac]
   have x1 : d8 (xs.map A.int) (a - 1) = some (.int (xs.getD (a - 1).toNat 0)) := FP (by omega) (by omega)
   have x2 : d8 (xs.map A.int) (c - 1) = some (.int (xs.getD (c - 1).toNat 0)) := FP (by omega) (by omega)
   refine ⟨[.int a, .int c, .tup (xs.map .int)], S ++ [O.lst (prs n)], S ++ [O.lst (prs n)], by simp only [bw, bools, dF (show ([_, _] : List A).length = 2 from rfl)], by simp only [bw, bools, x1, x2]; rfl, ⟨_, _, rfl⟩, fun _ => rfl, fun _ => ⟨_, by simp only [bw, bools, kr (show ([_, _] : List A).length <= 16777216 by simp)], rfl⟩⟩)
  (prs n).length 0 (eW [none, none, some 0] [.tup (xs.map .int)]) (S ++ [O.lst (prs n)]) rfl ⟨_, _, rfl⟩ rfl
 subst g2
 have ef := i_ (prs n) (wg xs) (fun q => q) .unb
 rw [List.range_eq_range', List.map_id'] at ef
 rw [ef] at g1
 have ll := yO (n := (n : Int)) (by omega) (by omega)
 refine ⟨_, (S ++ [O.lst (prs n)]) ++ [.lst ((prs n).filter (wg xs))], ?_, aK, Kp.refl.lay.lay, by rw [List.length_append]; omega⟩
 have ec : cJ [none, none, some 0] (j8 (eFn cS (aq (aX (f1 eK) (aq (ah 0) (aM))) (aM)))) (wG 2 (oq (bJ 0) (oq (bJ 1) (yE)))) (jf (aA sq (aA cI (ah 2) (aA aSub (ah 0) (eC (.int 1)))) (aA cI (ah 2) (aA aSub (ah 1) (eC (.int 1)))))) (jM (aq (ah 0) (aq (ah 1) (aM)))) [.tup (xs.map .int)] S = .ok (.ref (S ++ [O.lst (prs n)]).length) ((S ++ [O.lst (prs n)]) ++ [.lst ((prs n).filter (wg xs))]) := by
  unfold cJ
  rw [jm (S1 := S ++ [O.lst (prs n)]) (by simp only [bw, bools, List.length_map, hlen, eq]) hL, R.fO]
  show R.c_ (cK (eG S.length (prs n).length) _ _ _ (prs n).length 0 _ _) _ = _
  rw [g1, R.bO, bB (Nat.le_trans (List.length_filter_le _ _) ll)]
 unfold dH iR kR
 simp only [bw, bools, dW, Nat.reduceAdd, Nat.reduceSub, ec]
theorem HE {S : aH} {n : Nat} {xs : List Int} (hlen : xs.length = n) (h2 : n <= 20) : ∃ S', jj [.tup (xs.map .int)] S = .ok (.int (((prs n).filter (wg xs)).length : Int)) S' /\ b5 S S' := by
 obtain ⟨P, S1, e1, g1, k1, _⟩ := JE (S := S) hlen h2
 unfold jj pP uB
 simp only [bw, bools, dW, Nat.reduceAdd, Nat.reduceSub, e1, g1]
 exact ⟨_, rfl, k1⟩
def je (i hi : Int) : List A := (aS (i + 1) hi).map fun j => .tup [.int i, .int j]
theorem uf (a : Int) (u : Nat) : aS a (a + ((u + 1 : Nat) : Int)) = aS a (a + (u : Int)) ++ [a + (u : Int)] := by
 unfold aS
 rw [show (a + ((u + 1 : Nat) : Int) - a).toNat = u + 1 by omega, show (a + (u : Int) - a).toNat = u by omega, List.range_succ, List.map_append]; rfl
theorem vc (n : Nat) : prs n = (aS 1 (n : Int)).flatMap fun i => je i ((n : Int) + 1) := rfl
open Bl
theorem Cb {xs : List Int} {i : Nat} (h : i <= xs.length) : (aS ((i : Int) + 1) ((xs.length : Int) + 1)).map (fun j => xs.getD (j - 1).toNat 0) = xs.drop i := by
 apply List.ext_getElem?
 intro p
 rw [List.getElem?_map, List.getElem?_drop]
 by_cases c : i + p < xs.length
 ·have : (aS ((i : Int) + 1) ((xs.length : Int) + 1))[p]? = some ((i : Int) + 1 + p) := by
   unfold aS
   rw [List.getElem?_map, List.getElem?_range (by omega)]; rfl
  rw [this]
  show some (xs.getD ((i : Int) + 1 + p - 1).toNat 0) = _
  rw [show ((i : Int) + 1 + p - 1).toNat = i + p by omega, <- Iv.kM c]
 ·rw [List.getElem?_eq_none (by rw [cP]; omega), List.getElem?_eq_none (by omega)]; rfl
theorem D8 {xs : List Int} {i : Nat} (h : i < xs.length) : ((je ((i : Int) + 1) ((xs.length : Int) + 1)).filter (wg xs)).length = (xs.drop (i + 1)).countP fun y => decide (y < xs.getD i 0) := by
 rw [<- Cb (xs := xs) (i := i + 1) (by omega), List.countP_map, <- List.countP_eq_length_filter]
 unfold je
 rw [List.countP_map, show (((i + 1 : Nat) : Int)) = (i : Int) + 1 by omega]
 refine List.countP_congr fun j _ => ?_
 show wg xs (.tup [.int ((i : Int) + 1), .int j]) = true ↔ decide (xs.getD (j - 1).toNat 0 < xs.getD i 0) = true
 show decide (xs.getD ((i : Int) + 1 - 1).toNat 0 > xs.getD (j - 1).toNat 0) = true ↔ _
 rw [show ((i : Int) + 1 - 1).toNat = i by omega]
theorem uR {xs : List Int} : ∀ (k i : Nat), i + k = xs.length -> (((List.range' i k).flatMap fun q : Nat => je ((q : Int) + 1) ((xs.length : Int) + 1)).filter (wg xs)).length = Iv.inv (xs.drop i)
 | 0, i, h => by rw [List.drop_of_length_le (by omega)]; rfl
 | k + 1, i, h => by
  have hi : i < xs.length := by omega
  rw [List.range'_succ, List.flatMap_cons, List.filter_append, List.length_append, D8 hi, uR k (i + 1) (by omega)]
  have : xs.drop i = xs.getD i 0 :: xs.drop (i + 1) := by
   rw [List.drop_eq_getElem_cons hi]
   congr 1
   have := Iv.kM hi
   rw [List.getElem?_eq_getElem hi] at this
   exact Option.some.inj this
  rw [this]; rfl
theorem C2 {xs : List Int} {n : Nat} (hl : xs.length = n) (h1 : 1 <= n) : ((prs n).filter (wg xs)).length = Iv.inv xs := by
 have h := uR (xs := xs) n 0 (by omega)
 rw [List.drop_zero] at h
 rw [<- h, vc, hl]
 have e : (aS 1 (n : Int)).flatMap (fun i => je i ((n : Int) + 1)) = (List.range' 0 n).flatMap fun q : Nat => je ((q : Int) + 1) ((n : Int) + 1) := by
  obtain ⟨m, rfl⟩ : ∃ m, n = m + 1 := ⟨n - 1, by omega⟩
  rw [List.range'_concat, List.flatMap_append]
  have z : je (((0 + 1 * m : Nat) : Int) + 1) (((m + 1 : Nat) : Int) + 1) = [] := by
   unfold je aS
   rw [show (((m + 1 : Nat) : Int) + 1 - ((((0 + 1 * m : Nat) : Int) + 1) + 1)).toNat = 0 by omega]; rfl
  rw [List.flatMap_cons, z]
  unfold aS
  rw [show (((m + 1 : Nat) : Int) - 1).toNat = m by omega, List.flatMap_map, List.range_eq_range']
  simp only [List.flatMap_nil, List.append_nil]
  congr 1
  funext q
  rw [Int.add_comm]
 rw [e]
theorem GS {S : aH} {n : Nat} {xs : List A} {bs : List Bool} (h : au S n = some xs) (hb : A.Eu xs = some bs) : BS (.ref n) S = .ok (.bl (bs.all fun b => b)) S := by
 show opt (au S n) _ = _
 rw [h]
 show opt (A.Eu xs) _ = _
 rw [hb]; rfl
theorem Fx : ∀ (xs : List A), A.Eu (xs.map fun _ => .bl true) = some (xs.map fun _ => true)
 | [] => rfl
 | x :: xs => by rw [List.map_cons, nE, Fx xs]; rfl
theorem FH : ∀ (xs : List A), ((xs.map fun _ => true).all fun b => b) = true
 | [] => rfl
 | _ :: xs => FH xs
theorem xB {S : aH} {L : List A} : BS (.ref S.length) (S ++ [O.lst (L.map fun _ => A.bl true)]) = .ok (.bl true) (S ++ [O.lst (L.map fun _ => A.bl true)]) := by
 rw [GS aK (Fx _), FH]
theorem Mx {S : aH} {n W : Nat} {w : List Nat} (hW : au S W = some (wd w)) (h : ∀ k ∈ w, 1 <= k /\ k < n) (hl : w.length <= 200) : ∃ S', gU [.int n, .ref W] S = .ok (.bl true) S' /\ b5 S S' := by
 have cc := uI (cap := [some 0]) (src := j8 (ah 1)) (t := iw) (e := eFn bY (aq (ah 1) (aq (ah 0) (aM)))) (τ := [.int n, .ref W]) (S := S) (jm (by simp only [bw, bools]) hW) hW (fun _ => true) (fun _ => .bl true) (fun _ _ => rfl) (fun x hx _ => by
  obtain ⟨i, hi, rfl⟩ := List.mem_map.mp hx
  have := h i hi
  simp only [bw, bools, JM (S := S) (n := (n : Int)) (k := (i : Int)) (by omega) (by omega)]) (by rw [List.length_map]; omega)
 rw [List.filter_eq_self.mpr (fun _ _ => rfl)] at cc
 unfold gU nB qZ
 simp only [bw, bools, dW, Nat.reduceAdd, Nat.reduceSub, hW, Option.map_some, show o7 .lst "list" = some true from rfl, Bool.not_true, List.length_map, decide_eq_false (show ¬ ((200 : Int) < (w.length : Int)) by omega), cc, xB]
 exact ⟨_, rfl, Kp.refl.lay⟩
theorem Dl {S : aH} {n W : Nat} {w : List Nat} (hW : au S W = some (wd w)) (hv : ∀ k ∈ w, 1 <= k /\ k < n) (hl : w.length <= 200) (h1 : 1 <= n) (h2 : n <= 20) : ∃ S', eO [.int n, .ref W] S = .ok (.tup ((Wd.led (aS 1 ((n : Int) + 1)) w).map .int)) S' /\ b5 S S' := by
 obtain ⟨S1, e1, k1⟩ := Mx (S := S) (n := n) hW hv hl
 have hr : n_ 1 ((n : Int) + 1) := pJ (by decide) (by decide) (by omega) (by omega) (by omega)
 have ep : dO [.int n] S1 = .ok (.tup ((aS 1 ((n : Int) + 1)).map .int)) S1 := by
  unfold dO iT lg
  simp only [bw, bools, dW, Nat.reduceAdd, Nat.reduceSub, vP hr]
 have hW1 : au S1 W = some (wd w) := k1.lst _ _ (fun z => z) hW
 unfold eO qe ux
 simp only [bw, Fq, bools, dW, Nat.reduceAdd, Nat.reduceSub, e1, Bool.not_true, ep]
 refine oR (n := W) (xs := wd w) (S1 := S1) (show pX _ _ = _ from jm (by simp only [bw, bools]) hW1)
  (fun i τ S2 => (∃ a3, τ = [.int n, .ref W, .tup ((Wd.led (aS 1 ((n : Int) + 1)) (w.take i)).map .int), a3]) /\ b5 S1 S2)
  (fun r => ∃ S', RS.end (RS.seq r _) = .ok (.tup ((Wd.led (aS 1 ((n : Int) + 1)) w).map .int)) S' /\ b5 S S') ⟨⟨_, rfl⟩, Kp.refl⟩ (fun i τ S2 hh => hh.2.lst _ _ (fun z => z) hW1) ?_ ?_
 ·rintro i z τ S2 hz ⟨⟨a3, rfl⟩, kp⟩
  rw [List.getElem?_map] at hz
  obtain ⟨k, hk, rfl⟩ := Option.map_eq_some_iff.mp hz
  obtain ⟨hi, ek⟩ := List.getElem?_eq_some_iff.mp hk
  have hkv := hv k (List.mem_of_getElem? hk)
  refine ⟨[.int n, .ref W, .tup ((Wd.led (aS 1 ((n : Int) + 1)) (w.take i)).map .int), .int k], S2, rfl, .inl ?_⟩
  have e1 : Wd.led (aS 1 ((n : Int) + 1)) (w.take (i + 1)) = Wd.ex (Wd.led (aS 1 ((n : Int) + 1)) (w.take i)) k := by
   rw [List.take_succ_eq_append_getElem hi, Wd.fQ, ek]; rfl
  have ll : (Wd.led (aS 1 ((n : Int) + 1)) (w.take i)).length = n := by rw [Wd.iD, Wd.bW]
  obtain ⟨S3, e3, k3⟩ := sX (S := S2) (xs := Wd.led (aS 1 ((n : Int) + 1)) (w.take i)) (k := k) hkv.1 (by omega) (by omega)
  unfold p9
  simp only [bw, Fq, bools, e3]
  rw [e1]
  exact ⟨_, _, rfl, ⟨_, rfl⟩, kp.trans k3⟩
 ·rintro τ S2 ⟨⟨a3, rfl⟩, kp⟩
  rw [List.length_map, List.take_length]
  simp only [bw, bools]
  exact ⟨_, rfl, k1.trans kp⟩
theorem Jv (xs : List A) (j : Nat) (h : j <= xs.length) : eN xs none (some (j : Int)) = xs.take j := by
 unfold eN
 rw [HT.gM, HT.kh, List.drop_zero, Nat.min_eq_left (by omega), Nat.sub_zero]
theorem L0 {S : aH} {us : List Int} {t : Nat} (h : t < us.length) : zS (.tup (us.map .int)) none (some (t : Int)) S = .ok (.tup ((us.take t).map .int)) S := by
 have hg : ¬ (HT.fy (us.map A.int).length 0 none = 0 /\ HT.fy (us.map A.int).length (us.map A.int).length (some (t : Int)) = (us.map A.int).length) := by
  rw [HT.gM, List.length_map]
  omega
 have hs : zS (.tup (us.map .int)) none (some (t : Int)) S = .ok (.tup (eN (us.map .int) none (some (t : Int)))) S := dF hg
 rw [hs, Jv _ t (by rw [List.length_map]; omega), List.map_take]
theorem L7 {S : aH} {us : List Int} {t : Nat} (h0 : 1 <= t) (h : t <= us.length) : zS (.tup (us.map .int)) (some (t : Int)) none S = .ok (.tup ((us.drop t).map .int)) S := by
 have hg : ¬ (HT.fy (us.map A.int).length 0 (some (t : Int)) = 0 /\ HT.fy (us.map A.int).length (us.map A.int).length none = (us.map A.int).length) := by
  rw [HT.gM, List.length_map]
  omega
 have hs : zS (.tup (us.map .int)) (some (t : Int)) none S = .ok (.tup (eN (us.map .int) (some (t : Int)) none)) S := dF hg
 rw [hs]
 congr 2
 unfold eN
 rw [HT.gM, HT.kh, List.length_map, Nat.min_eq_left (by omega), List.take_of_length_le (by simp), List.map_drop]
def fl (xs : List Int) (n : Nat) : List Int := (aS 1 (n : Int)).filter fun k => decide (xs.getD (k - 1).toNat 0 > xs.getD k.toNat 0)
theorem uE {S : aH} {n : Nat} {xs : List Int} (hlen : xs.length = n) (h2 : n <= 20) : jq [.tup (xs.map .int)] S = .ok (.ref S.length) (S ++ [.lst ((fl xs n).map .int)]) := by
 have ec := iY (lo := 1) (hi := (n : Int)) (cap := [some 0]) (src := fW (eC (.int 1)) (aX (f1 eK) (aq (ah 0) (aM)))) (t := jf (aA sq (aA cI (ah 1) (aA aSub (ah 0) (eC (.int 1)))) (aA cI (ah 1) (ah 0)))) (e := ah 0) (τ := [.tup (xs.map .int)]) (S := S) (S1 := S)
  (jc (S1 := S) (by simp only [bw, bools]) (by simp only [bw, bools, List.length_map, hlen]) (cu (by omega) (by omega)) (cu (by omega) (by omega)))
  (fun k => decide (xs.getD (k - 1).toNat 0 > xs.getD k.toNat 0)) (fun k => .int k) (fun k h1 h2 => by
   have x1 : d8 (xs.map A.int) (k - 1) = some (.int (xs.getD (k - 1).toNat 0)) := FP (by omega) (by omega)
   have x2 : d8 (xs.map A.int) k = some (.int (xs.getD k.toNat 0)) := FP (by omega) (by omega)
   simp only [bw, bools, x1, x2]) (fun k _ _ _ => by simp only [bw, bools]) (by omega)
 unfold jq sG yT
 simp only [bw, bools, dW, Nat.reduceAdd, Nat.reduceSub, ec]
 rfl
end K10
namespace K10
open PySem L2 Am
open Rd (up tF tD qd chg oN mL)
abbrev eV (w : List Int) : A := .tup (w.map .int)
theorem rX {S : aH} {xs ys : List Int} (h : xs.length + ys.length <= 16777216) : aW (.tup (xs.map .int)) (.tup (ys.map .int)) S = .ok (.tup ((xs ++ ys).map .int)) S := by
 show gd ((xs.map A.int).length + (ys.map A.int).length <= sizeLine) _ = _
 rw [List.map_append]
 exact DH (by rw [List.length_map, List.length_map]; exact h)
theorem Hi {S : aH} {w : List Int} (hl : w.length <= 100) : cC [eV w] S = .ok (.ref S.length) (S ++ [.lst ((chg w).map eV)]) := by
 have cr := iY (lo := 0) (hi := (w.length : Int) - 1) (cap := [some 0]) (src := fC (aA aSub (aX (f1 eK) (aq (ah 0) (aM))) (eC (.int 1)))) (t := jf (aA sq (aX (f1 sC) (aq (aA aSub (aA cI (ah 1) (ah 0)) (aA cI (ah 1) (aA aW (ah 0) (eC (.int 1))))) (aM))) (eC (.int 1))))
  (e := aA aW (aA aW (lC (ah 1) cE (cj (ah 0))) (jM (aq (aA cI (ah 1) (aA aW (ah 0) (eC (.int 1)))) (aq (aA cI (ah 1) (ah 0)) (aM))))) (lC (ah 1) (cj (aA aW (ah 0) (eC (.int 2)))) cE)) (τ := [eV w]) (S := S) (S1 := S)
  (dD (by simp only [bw, bools, List.length_map]) (cu (by omega) (by omega)))
  (fun k => decide (1 < qd w k.toNat)) (fun k => eV (tF w k.toNat)) (fun k h1 h2 => by
   have x1 : d8 (w.map A.int) k = some (.int (w.getD k.toNat 0)) := oJ (k := k.toNat) (by omega) (by omega)
   have x2 : d8 (w.map A.int) (k + 1) = some (.int (w.getD (k.toNat + 1) 0)) := oJ (k := k.toNat + 1) (by omega) (by omega)
   simp only [bw, bools, x1, x2]; rfl) (fun k h1 h2 _ => by
   have x1 : d8 (w.map A.int) k = some (.int (w.getD k.toNat 0)) := oJ (k := k.toNat) (by omega) (by omega)
   have x2 : d8 (w.map A.int) (k + 1) = some (.int (w.getD (k.toNat + 1) 0)) := oJ (k := k.toNat + 1) (by omega) (by omega)
   have s1 : zS (.tup (w.map .int)) none (some k) S = .ok (.tup ((w.take k.toNat).map .int)) S := by
    have := L0 (S := S) (us := w) (t := k.toNat) (by omega)
    rw [show ((k.toNat : Nat) : Int) = k by omega] at this; exact this
   have s2 : zS (.tup (w.map .int)) (some (k + 2)) none S = .ok (.tup ((w.drop (k.toNat + 2)).map .int)) S := by
    have := L7 (S := S) (us := w) (t := k.toNat + 2) (by omega) (by omega)
    rw [show ((k.toNat + 2 : Nat) : Int) = k + 2 by omega] at this; exact this
   have d1 : aW (.tup ((w.take k.toNat).map .int)) (.tup [.int (w.getD (k.toNat + 1) 0), .int (w.getD k.toNat 0)]) S = .ok (.tup ((w.take k.toNat ++ [w.getD (k.toNat + 1) 0, w.getD k.toNat 0]).map .int)) S :=
    rX (ys := [w.getD (k.toNat + 1) 0, w.getD k.toNat 0]) (by rw [List.length_take]; show _ + 2 <= _; omega)
   have d2 : aW (.tup ((w.take k.toNat ++ [w.getD (k.toNat + 1) 0, w.getD k.toNat 0]).map .int)) (.tup ((w.drop (k.toNat + 2)).map .int)) S = .ok (eV (tF w k.toNat)) S :=
    rX (by rw [List.length_append, List.length_take, List.length_drop]; show _ + 2 + _ <= _; omega)
   simp only [bw, bools, x1, x2, s1, s2, kr (show ([_, _] : List A).length <= 16777216 by simp), d1, d2]) (by omega)
 unfold cC gh iX
 simp only [bw, bools, dW, Nat.reduceAdd, Nat.reduceSub, cr]
 unfold chg
 rw [List.map_map]; rfl
theorem IJ {S : aH} {w : List Int} (hl : w.length <= 100) : cM [eV w] S = .ok (.ref S.length) (S ++ [.lst ((oN w).map eV)]) := by
 have cr := iY (lo := 0) (hi := (w.length : Int) - 2) (cap := [some 0]) (src := fC (aA aSub (aX (f1 eK) (aq (ah 0) (aM))) (eC (.int 2)))) (t := qD (jf (aA (iW false) (aA cI (ah 1) (ah 0)) (aA cI (ah 1) (aA aW (ah 0) (eC (.int 2)))))) (jf (aA (iW false) (aX (f1 sC) (aq (aA aSub (aA cI (ah 1) (ah 0)) (aA cI (ah 1) (aA aW (ah 0) (eC (.int 1))))) (aM))) (eC (.int 1)))))
  (e := aA aW (aA aW (lC (ah 1) cE (cj (ah 0))) (jM (aq (aA cI (ah 1) (aA aW (ah 0) (eC (.int 1)))) (aq (aA cI (ah 1) (ah 0)) (aq (aA cI (ah 1) (aA aW (ah 0) (eC (.int 1)))) (aM)))))) (lC (ah 1) (cj (aA aW (ah 0) (eC (.int 3)))) cE)) (τ := [eV w]) (S := S) (S1 := S)
  (dD (by simp only [bw, bools, List.length_map]) (cu (by omega) (by omega)))
  (fun k => (w.getD k.toNat 0 == w.getD (k.toNat + 2) 0) && (qd w k.toNat == 1)) (fun k => eV (tD w k.toNat)) (fun k h1 h2 => by
   have x1 : d8 (w.map A.int) k = some (.int (w.getD k.toNat 0)) := oJ (k := k.toNat) (by omega) (by omega)
   have x2 : d8 (w.map A.int) (k + 1) = some (.int (w.getD (k.toNat + 1) 0)) := oJ (k := k.toNat + 1) (by omega) (by omega)
   have x3 : d8 (w.map A.int) (k + 2) = some (.int (w.getD (k.toNat + 2) 0)) := oJ (k := k.toNat + 2) (by omega) (by omega)
   cases hq : (w.getD k.toNat 0 == w.getD (k.toNat + 2) 0) with
   | false => simp only [bw, bools, x1, x3, hq, Bool.false_and]
   | true => simp only [bw, bools, x1, x2, x3, hq, Bool.true_and]; rfl) (fun k h1 h2 _ => by
   have x1 : d8 (w.map A.int) k = some (.int (w.getD k.toNat 0)) := oJ (k := k.toNat) (by omega) (by omega)
   have x2 : d8 (w.map A.int) (k + 1) = some (.int (w.getD (k.toNat + 1) 0)) := oJ (k := k.toNat + 1) (by omega) (by omega)
   have s1 : zS (.tup (w.map .int)) none (some k) S = .ok (.tup ((w.take k.toNat).map .int)) S := by
    have := L0 (S := S) (us := w) (t := k.toNat) (by omega)
    rw [show ((k.toNat : Nat) : Int) = k by omega] at this; exact this
   have s2 : zS (.tup (w.map .int)) (some (k + 3)) none S = .ok (.tup ((w.drop (k.toNat + 3)).map .int)) S := by
    have := L7 (S := S) (us := w) (t := k.toNat + 3) (by omega) (by omega)
    rw [show ((k.toNat + 3 : Nat) : Int) = k + 3 by omega] at this; exact this
   have d1 : aW (.tup ((w.take k.toNat).map .int)) (.tup [.int (w.getD (k.toNat + 1) 0), .int (w.getD k.toNat 0), .int (w.getD (k.toNat + 1) 0)]) S = .ok (.tup ((w.take k.toNat ++ [w.getD (k.toNat + 1) 0, w.getD k.toNat 0, w.getD (k.toNat + 1) 0]).map .int)) S :=
    rX (ys := [w.getD (k.toNat + 1) 0, w.getD k.toNat 0, w.getD (k.toNat + 1) 0]) (by rw [List.length_take]; show _ + 3 <= _; omega)
   have d2 : aW (.tup ((w.take k.toNat ++ [w.getD (k.toNat + 1) 0, w.getD k.toNat 0, w.getD (k.toNat + 1) 0]).map .int)) (.tup ((w.drop (k.toNat + 3)).map .int)) S = .ok (eV (tD w k.toNat)) S :=
    rX (by rw [List.length_append, List.length_take, List.length_drop]; show _ + 3 + _ <= _; omega)
   simp only [bw, bools, x1, x2, s1, s2, kr (show ([_, _, _] : List A).length <= 16777216 by simp), d1, d2]) (by omega)
 unfold cM gz jG
 simp only [bw, bools, dW, Nat.reduceAdd, Nat.reduceSub, cr]
 unfold oN
 rw [List.map_map]; rfl
open Ti (Mv Con)
open Rd (Bf En d9 up tF tD qd chg oN mL)
section
variable {S : aH}
theorem DJ {xs : List (List Int × A)} : cN (S ++ [.dct xs]) S.length = some xs := qz (by simp)
theorem kE {o : O} {n : Nat} {xs : List (List Int × A)} (h : cN S n = some xs) : cN (S ++ [o]) n = some xs := by
 have h' := jP h
 exact qz (by rw [List.getElem?_append_left (List.getElem?_eq_some_iff.mp h').1]; exact h')
theorem Cf {n : Nat} {xs : List (List Int × A)} (h : cN S n = some xs) : n < S.length := (List.getElem?_eq_some_iff.mp (jP h)).1
theorem D_ {n : Nat} {ys : List (List Int × A)} (h : n < S.length) : cN (S.set n (.dct ys)) n = some ys := qz (List.getElem?_set_self h)
theorem qg {n m : Nat} {o : O} (h : n ≠ m) : cN (S.set n o) m = cN S m := by unfold cN; rw [List.getElem?_set_ne h]
theorem qw {n m : Nat} {o : O} (h : n ≠ m) : au (S.set n o) m = au S m := by unfold au; rw [List.getElem?_set_ne h]
end
theorem DY {b : Nat -> Prop} {S S1 : aH} {m : Nat} {ys : List (List Int × A)} (h : Kp b S S1) (hm : b m \/ S.length <= m) : Kp b S (S1.set m (.dct ys)) := ⟨by rw [List.length_set]; exact h.len, fun n xs hb e => by
 have : m ≠ n := fun z => by
  subst z
  rcases hm with z | z
  ·exact hb z
  ·exact absurd (bH e) (by omega)
 rw [qw this]
 exact h.lst n xs hb e⟩
def vl : Option (List Nat) -> A
 | none => .non
 | some u => eV (up u)
def kvs (es : List En) : List (List Int × A) := es.map fun e => (up e.1, vl e.2)
def wC (es : List En) : List A := es.map fun e => eV (up e.1)
theorem rG : ∀ {es : List En} {w : List Nat}, (gF (kvs es) (up w)).isSome = decide (w ∈ es.map (·.1))
 | [], w => rfl
 | e :: es, w => by
  show (gF ((up e.1, vl e.2) :: kvs es) (up w)).isSome = _
  by_cases c : e.1 = w
  ·rw [nL (by rw [c]), decide_eq_true (by rw [<- c]; simp)]; rfl
  ·rw [nS (fun z => c (Rd.rJ z)), rG, decide_eq_decide]
   constructor
   ·exact fun z => List.mem_cons_of_mem _ z
   ·intro z
    rcases List.mem_cons.mp z with z | z
    ·exact absurd z.symm c
    ·exact z
theorem yR : ∀ {es : List En} {i : Nat} {w : List Nat} {q : Option (List Nat)}, (es.map (·.1)).Nodup -> es[i]? = some (w, q) -> gF (kvs es) (up w) = some (vl q)
 | e :: es, 0, w, q, _, h => by
  cases h
  exact nL rfl
 | e :: es, i + 1, w, q, nd, h => by
  have h' : es[i]? = some (w, q) := by simpa using h
  have hn := List.nodup_cons.mp nd
  show gF ((up e.1, vl e.2) :: kvs es) (up w) = _
  rw [nS fun z => hn.1 (by show e.1 ∈ es.map (·.1); rw [Rd.rJ z]; exact List.mem_map.mpr ⟨_, List.mem_of_getElem? h', rfl⟩)]
  exact yR hn.2 h'
theorem D3 {es : List En} {w u : List Nat} (h : w ∉ es.map (·.1)) : putD (kvs es) (up w) (eV (up u)) = kvs (es ++ [(w, some u)]) := by
 unfold putD
 rw [rG, decide_eq_false h, if_neg Bool.false_ne_true]
 unfold kvs
 rw [List.map_append]; rfl
theorem mH (w : List Int) : A.ints (w.map .int) = some w := ints_map w
theorem D0 {S : aH} {D : Nat} {es : List En} {w : List Nat} (h : cN S D = some (kvs es)) : ED true (eV (up w)) (.ref D) S = .ok (.bl (!decide (w ∈ es.map (·.1)))) S := by
 show opt (cN S D) _ = _
 rw [h, bZ]
 show opt (A.ints ((up w).map .int)) _ = _
 rw [mH, bZ, <- rG]; rfl
theorem inner {S0 S T : aH} {D W M L n : Nat} {s u : List Nat} {r : Option (List Nat)} {es : List En} (hs : d9 L s) (hL : L <= 8) (hD : cN S D = some (kvs es)) (hW : au S W = some (wC es)) (hM : au S M = some ((mL (up u)).map eV)) (b : Bf s es n) (hu : es[n]? = some (u, r))
  (h0 : S0.length <= D) (h1 : S0.length <= W) (hDW : D ≠ W) (hDM : D ≠ M) (hWM : W ≠ M) (kp : b5 S0 S) {a0 a1 a2 a3 a8 : A} (hsrc : fK [a0, a1, a2, a3, .ref D, .ref W, .int n, eV (up u), a8] T = .ok (eG M ((mL (up u)).map eV).length) S)
  (Post : RS -> Prop) (hp : ∀ es' a8' S', cN S' D = some (kvs es') -> au S' W = some (wC es') -> Bf s es' (n + 1) -> b5 S0 S' -> Post (.nx [a0, a1, a2, a3, .ref D, .ref W, .int n, eV (up u), a8'] S')) :
  Post (gP fK (bJ 8) g7 [a0, a1, a2, a3, .ref D, .ref W, .int n, eV (up u), a8] T) := by
 refine oR (n := M) (xs := (mL (up u)).map eV) (S1 := S) hsrc
  (fun i τ S' => ∃ es' a8', τ = [a0, a1, a2, a3, .ref D, .ref W, .int n, eV (up u), a8'] /\ cN S' D = some (kvs es') /\ au S' W = some (wC es') /\ au S' M = some ((mL (up u)).map eV) /\ Bf s es' n /\ es'[n]? = some (u, r) /\ (∀ x ∈ (mL (up u)).take i, ∃ v, x = up v /\ v ∈ es'.map (·.1)) /\ b5 S0 S')
  Post ⟨es, a8, rfl, hD, hW, hM, b, hu, fun x hx => absurd hx (by simp), kp⟩ (fun i τ S' hh => by obtain ⟨_, _, _, _, _, z, _⟩ := hh; exact z) ?_ ?_
 ·rintro i z τ S' hz ⟨es', a8', rfl, hD', hW', hM', b', hu', hin, kp'⟩
  rw [List.getElem?_map] at hz
  obtain ⟨x, hx, rfl⟩ := Option.map_eq_some_iff.mp hz
  obtain ⟨v, rfl, hmv⟩ := Rd.EE (List.mem_of_getElem? hx)
  refine ⟨[a0, a1, a2, a3, .ref D, .ref W, .int n, eV (up u), eV (up v)], S', rfl, .inl ?_⟩
  have ht : (mL (up u)).take (i + 1) = (mL (up u)).take i ++ [up v] := by
   obtain ⟨hi, e⟩ := List.getElem?_eq_some_iff.mp hx
   rw [List.take_succ_eq_append_getElem hi, e]
  unfold g7
  by_cases c : v ∈ es'.map (·.1)
  ·simp only [bw, bools, D0 hD', decide_eq_true c, Bool.not_true]
   refine ⟨_, _, rfl, es', _, rfl, hD', hW', hM', b', hu', fun y hy => ?_, kp'⟩
   rw [ht] at hy
   rcases List.mem_append.mp hy with z | z
   ·exact hin y z
   ·exact ⟨v, by simpa using z, c⟩
  ·have hcv : Con s v := (b'.co u (List.mem_map.mpr ⟨_, List.mem_of_getElem? hu', rfl⟩)).step hmv
   have room := b'.room hs hL hcv c
   have lk : (kvs es').length = es'.length := List.length_map ..
   have lw : (wC es').length = es'.length := List.length_map ..
   have sd : yl (.ref D) (eV (up v)) (eV (up u)) S' = .ok () (S'.set D (.dct (kvs (es' ++ [(v, some u)])))) := by
    show opt (cN S' D) _ = _
    rw [hD', bZ]
    show opt (A.ints ((up v).map .int)) _ = _
    rw [mH, bZ, DH (by rw [lk, sizeLine_eq]; exact room), D3 c]
   have lD := Cf hD'
   have hW2 : au (S'.set D (.dct (kvs (es' ++ [(v, some u)])))) W = some (wC es') := by rw [qw hDW]; exact hW'
   have ew : wC es' ++ [eV (up v)] = wC (es' ++ [(v, some u)]) := by unfold wC; rw [List.map_append]; rfl
   have lW := bH hW2
   have gw : IC (ah 4) (ah 8) (eV (up u)) [a0, a1, a2, a3, .ref D, .ref W, .int n, eV (up u), eV (up v)] S' = .ok [a0, a1, a2, a3, .ref D, .ref W, .int n, eV (up u), eV (up v)] (S'.set D (.dct (kvs (es' ++ [(v, some u)])))) := by
    show (yl (.ref D) (eV (up v)) (eV (up u)) S').bind _ = _
    rw [sd]; rfl
   simp only [bw, bools, D0 hD', decide_eq_false c, Bool.not_false, gw, hW2, uO (show (wC es').length < 16777216 by rw [lw]; exact room), ew]
   refine ⟨_, _, rfl, es' ++ [(v, some u)], _, rfl, ?_, cH lW, ?_, b'.more hu' hmv c, ?_, fun y hy => ?_, ?_⟩
   ·rw [qg hDW.symm]; exact D_ lD
   ·rw [bz hWM, qw hDM]; exact hM'
   ·rw [List.getElem?_append_left (List.getElem?_eq_some_iff.mp hu').1]; exact hu'
   ·rw [ht] at hy
    rw [List.map_append]
    rcases List.mem_append.mp hy with z | z
    ·obtain ⟨v', e1, e2⟩ := hin y z
     exact ⟨v', e1, List.mem_append_left _ e2⟩
    ·exact ⟨v, by simpa using z, List.mem_append_right _ (by simp)⟩
   ·exact (DY kp' (.inr h0)).set (.inr h1)
 ·rintro τ S' ⟨es', a8', rfl, hD', hW', hM', b', hu', hin, kp'⟩
  rw [List.length_map, List.take_length] at hin
  exact hp es' a8' S' hD' hW' (b'.next hu' fun w' hw' => by
   obtain ⟨v, e, hv⟩ := hin (up w') (Rd.IB hw')
   rw [Rd.rJ e]; exact hv) kp'
end K10
namespace K10
open PySem L2 Am
open Ti (Mv Con)
open Rd (Bf En d9 up tF tD qd chg oN mL)
def Ch : List (List Nat) -> Prop
 | [] => True
 | [_] => True
 | a :: b :: r => Mv a b /\ Ch (b :: r)
theorem Ch.cons {a : List Nat} {l : List (List Nat)} (h : Ch l) (hm : ∀ b, l.head? = some b -> Mv a b) : Ch (a :: l) := by
 cases l with
 | nil => trivial
 | cons b r => exact ⟨hm b rfl, h⟩
theorem Tab.rev {S : aH} {n : Nat} {rs : List Nat} {T : List (List Int)} (h : Tab S n rs T) : Tab (S ++ [O.lst (rs.reverse.map .ref)]) S.length rs.reverse T.reverse := by
 have hlt := h.rows.lt
 have rr : ∀ {rs : List Nat} {T : List (List Int)}, Rows S rs T -> Rows S rs.reverse T.reverse := by
  intro rs
  induction rs with
  | nil => intro T h; cases T with | nil => trivial | cons _ _ => exact h.elim
  | cons r rs ih =>
   intro T h
   cases T with
   | nil => exact h.elim
   | cons x T => rw [List.reverse_cons, List.reverse_cons]; exact (ih h.2).app ⟨h.1, trivial⟩
 refine ⟨aK, (rr h.rows).mono fun r _ xs e => aZ e, ?_⟩
 rw [List.nodup_cons]
 refine ⟨fun z => ?_, ((List.reverse_perm rs).nodup_iff).mpr (List.nodup_cons.mp h.nd).2⟩
 have := hlt _ (List.mem_reverse.mp z)
 omega
theorem zV {S : aH} {D n : Nat} {s t : List Nat} {es : List En} (hD : cN S D = some (kvs es)) (b : Bf s es n) (ht : t ∈ es.map (·.1)) (hf : es.length <= 16777216) :
  ∃ (V : Nat) (rs : List Nat) (R : List (List Nat)) (S' : aH), iu [.ref D, eV (up t)] S = .ok (.ref V) S' /\ Tab S' V rs (R.map up) /\ R.head? = some s /\ R.getLast? = some t /\ Ch R /\ R.length <= es.length /\ S.length <= V /\ (∀ r ∈ rs, S.length <= r) /\ b5 S S' := by
 obtain ⟨⟨t', q0⟩, hm, rfl⟩ := List.mem_map.mp ht
 obtain ⟨i0, hi0, e0⟩ := List.getElem_of_mem hm
 have e0 : es[i0]? = some (t', q0) := by rw [List.getElem?_eq_getElem hi0, e0]
 have key := g_ (t := lZ) (c := mq)
  (fun τ T => ∃ (cur : Option (Nat × List Nat × Option (List Nat))) (pth : List (List Nat)) (rs : List Nat), τ = [.ref D, vl (cur.map (·.2.1)), .ref S.length] /\ Tab T S.length rs (pth.map up) /\ cN T D = some (kvs es) /\ (∀ r ∈ rs, S.length <= r) /\ b5 S T /\
   (match cur with
    | none => pth.length <= es.length /\ pth.getLast? = some s /\ Ch pth.reverse /\ pth.head? = some t'
    | some (i, w, q) => es[i]? = some (w, q) /\ pth.length + i < es.length /\ Ch ((pth ++ [w]).reverse) /\ (pth ++ [w]).head? = some t'))
  (fun τ T => es.length + 2 - ((au T S.length).getD []).length + (match τ with
   | [_, .non, _] => 0
   | _ => 1))
  (fun r => ∃ (V : Nat) (rs : List Nat) (R : List (List Nat)) (S' : aH), RS.end (RS.seq r (bM (CC wo (ah 2)))) = .ok (.ref V) S' /\ Tab S' V rs (R.map up) /\ R.head? = some s /\ R.getLast? = some t' /\ Ch R /\ R.length <= es.length /\ S.length <= V /\ (∀ r ∈ rs, S.length <= r) /\ b5 S S') ?_ 100000000
 ·unfold iu pA uN
  simp only [bw, bools, dW, Nat.reduceAdd, Nat.reduceSub]
  have dl := Cf hD
  refine key _ _ ⟨some (i0, t', q0), [], [], rfl, Tab.nil aK, kE hD, fun r hr => absurd hr (by simp), Kp.refl.lay, e0, by simpa using hi0, trivial, rfl⟩ ?_
  show es.length + 2 - _ + 1 < _
  omega
 ·rintro τ T ⟨cur, pth, rs, rfl, tb, hD', hr, kp, h⟩
  have lt := tb.len
  rw [List.length_map] at lt
  unfold lZ
  cases cur with
  | none =>
   left
   obtain ⟨h1, h2, h3, h4⟩ := h
   have is : CP true (vl (Option.map (fun x : Nat × List Nat × Option (List Nat) => x.2.1) none)) .non T = .ok (.bl false) T := rfl
   refine ⟨T, by simp only [bw, bools]; rfl, T.length, rs.reverse, pth.reverse, T ++ [O.lst (rs.reverse.map .ref)], ?_, ?_, ?_, ?_, h3, ?_, kp.len, fun r hr' => hr r (List.mem_reverse.mp hr'), kp.lay⟩
   ·simp only [bw, bools, tb.top, List.map_reverse]
   ·have := Tab.rev tb; rw [<- List.map_reverse] at this; exact this
   ·rw [List.head?_reverse]; exact h2
   ·rw [List.getLast?_reverse]; exact h4
   ·rw [List.length_reverse]; omega
  | some c =>
   obtain ⟨i, w, q⟩ := c
   right
   obtain ⟨h1, h2, h3, h4⟩ := h
   refine ⟨T, by simp only [bw, bools]; rfl, .inl ?_⟩
   have tl := tb.top
   have lS := bH tl
   have push := Tab.push (ys := up w) tb
   have ll := yR b.nd h1
   have hsD : S.length ≠ D := fun z => by
    have := jP hD'
    have h2 := aU tl
    rw [z] at h2
    rw [h2] at this
    cases this
   obtain ⟨T2, hT2⟩ : ∃ T2, T2 = (T ++ [O.lst ((up w).map A.int)]).set S.length (.lst ((rs ++ [T.length]).map .ref)) := ⟨_, rfl⟩
   rw [<- hT2] at push
   have hD2 : cN T2 D = some (kvs es) := by rw [hT2, qg hsD]; exact kE hD'
   have kp2 : b5 S T2 := by rw [hT2]; exact kp.lay.set (.inr (Nat.le_refl _))
   have tl1 : au (T ++ [O.lst ((up w).map A.int)]) S.length = some (rs.map .ref) := aZ tl
   have ap : gK (.ref S.length) [.ref T.length] (T ++ [O.lst ((up w).map A.int)]) = .ok .non T2 := by
    rw [mj, tl1, bZ, DH (by rw [List.length_map, sizeLine_eq, lt]; omega), hT2, List.map_append]; rfl
   have ix : EK (.ref D) (eV (up w)) T2 = .ok (vl q) T2 := by
    show opt (cN T2 D) _ = _
    rw [hD2, bZ]
    show opt (A.ints ((up w).map .int)) _ = _
    rw [mH, bZ, ll, bZ]
   have vu : A.fX (vl q) = false := by cases q <;> rfl
   unfold mq
   have e7 : vl (Option.map (fun x : Nat × List Nat × Option (List Nat) => x.2.1) (some (i, w, q))) = eV (up w) := rfl
   rw [e7]
   simp only [bw, bools, tl, ap, ix, vu]
   have len2 : ((au T2 S.length).getD []).length = rs.length + 1 := by rw [push.top, Option.getD_some, List.length_map, List.length_append]; rfl
   have hr2 : ∀ r ∈ rs ++ [T.length], S.length <= r := fun r hr' => by
    rcases List.mem_append.mp hr' with z | z
    ·exact hr r z
    ·have : r = T.length := by simpa using z
     rw [this]; exact kp.len
   have pm : (pth ++ [w]).map up = pth.map up ++ [up w] := by rw [List.map_append]; rfl
   rcases b.pr i w q h1 with ⟨z1, z2⟩ | ⟨j, r', u, hj, e1, e2, e3⟩
   ·subst z1 z2
    refine ⟨_, _, rfl, ⟨none, pth ++ [w], rs ++ [T.length], rfl, by rw [pm]; exact push, hD2, hr2, kp2, by rw [List.length_append]; show _ + 1 <= _; omega, ?_, h3, h4⟩, ?_⟩
    ·rw [List.getLast?_append]
     have := b.hd
     rw [h1] at this
     cases this
     rfl
    ·simp only [len2, tl, Option.getD_some, List.length_map]
     show es.length + 2 - (rs.length + 1) + 0 < es.length + 2 - rs.length + 1
     omega
   ·subst e2
    refine ⟨_, _, rfl, ⟨some (j, u, r'), pth ++ [w], rs ++ [T.length], rfl, by rw [pm]; exact push, hD2, hr2, kp2, e1, by rw [List.length_append]; show _ + 1 + _ < _; omega, ?_, ?_⟩, ?_⟩
    ·rw [List.reverse_append]
     refine Ch.cons h3 fun b' hb' => ?_
     rw [List.reverse_append] at hb'
     cases hb'
     exact e3
    ·rw [List.head?_append, h4]; rfl
    ·simp only [len2, tl, Option.getD_some, List.length_map]
     show es.length + 2 - (rs.length + 1) + 1 < es.length + 2 - rs.length + 1
     omega
end K10
namespace K10
open PySem L2 Am
open Ti (Mv Con Red)
open Rd (Bf En d9 up tF tD qd chg oN mL)
open Fw (jO Va rg)
theorem jY (w : List Nat) : wd w = (up w).map A.int := by unfold wd; rw [List.map_map]; rfl
def Road (S : aH) (B V : Nat) (s t : List Nat) : Prop := ∃ (rs : List Nat) (R : List (List Nat)), Tab S V rs (R.map up) /\ R.head? = some s /\ R.getLast? = some t /\ Ch R /\ R.length <= 2097152 /\ B <= V /\ ∀ r ∈ rs, B <= r
theorem LV {s : List Nat} {es : List En} {done L : Nat} (b : Bf s es done) (hs : d9 L s) (hL : L <= 7) : es.length <= 2097152 := by
 have h1 := Rd.nj (8 ^ L) ((es.map (·.1)).map Rd.code) (by
  have hn := b.nd
  unfold List.Nodup at hn ⊢
  rw [List.pairwise_map]
  exact List.Pairwise.imp_of_mem (fun ha hb hne z => hne (Rd.code_inj (Rd.gc hs (b.co _ ha)) (Rd.gc hs (b.co _ hb)) z)) hn) fun x hx => by
  obtain ⟨w, hw, rfl⟩ := List.mem_map.mp hx
  exact Rd.sP (Rd.gc hs (b.co w hw))
 rw [List.length_map, List.length_map] at h1
 exact Nat.le_trans h1 (Nat.le_trans (Nat.pow_le_pow_right (by decide) hL) (by decide))
theorem AB {S : aH} {I J L : Nat} {s t : List Nat} (hI : au S I = some (wd s)) (hJ : au S J = some (wd t)) (hs : d9 L s) (hL7 : L <= 7) (hc : Con s t) : ∃ (V : Nat) (S' : aH), dg [.ref I, .ref J] S = .ok (.ref V) S' /\ Road S' S.length V s t /\ b5 S S' := by
 have hL : L <= 8 := by omega
 have lI := bH hI
 have hl : s.length <= 8 := by rw [hs.1]; exact hL
 have ed : Dy (ah 2) (eC .non) [.ref I, .ref J, eV (up s), eV (up t), .unb, .unb, .unb, .unb, .unb] S = .ok (.ref S.length) (S ++ [.dct (kvs [(s, none)])]) := by
  show opt (A.ints ((up s).map .int)) _ = _
  rw [mH, bZ]; rfl
 have l1 : (S ++ [O.dct (kvs [(s, none)])]).length = S.length + 1 := by simp
 have key := g_ (t := h_) (c := iA)
  (fun τ T => ∃ (a7 a8 : A) (es : List En) (n : Nat), τ = [.ref I, .ref J, eV (up s), eV (up t), .ref S.length, .ref (S.length + 1), .int n, a7, a8] /\ cN T S.length = some (kvs es) /\ au T (S.length + 1) = some (wC es) /\ Bf s es n /\ b5 S T)
  (fun τ T => match τ with
   | [_, _, _, _, _, _, .int n, _, _] => 16777217 - n.toNat
   | _ => 0)
  (fun r => ∃ (V : Nat) (S' : aH), RS.end (RS.seq r (bM (eFn iu (aq (ah 4) (aq (ah 3) (aM)))))) = .ok (.ref V) S' /\ Road S' S.length V s t /\ b5 S S') ?_ 100000000
 ·unfold dg jw mU
  simp only [bw, bools, dW, Nat.reduceAdd, Nat.reduceSub, hI, hJ, jY, ed, l1]
  refine key _ _ ⟨_, _, [(s, none)], 0, rfl, kE DJ, ?_, Bf.start s, Kp.refl.lay.lay⟩ ?_
  ·rw [<- l1]; exact aK
  ·show 16777217 - _ < _; omega
 ·rintro τ T ⟨a7, a8, es, n, rfl, hD, hW, b, kp⟩
  unfold h_
  by_cases c : t ∈ es.map (·.1)
  ·left
   refine ⟨T, by simp only [bw, bools, D0 hD, decide_eq_true c, Bool.not_true], ?_⟩
   obtain ⟨V, rs, R, S', e, tb, r1, r2, r3, r4, r5, r6, kp2⟩ := zV hD b c (b.few hs hL)
   have kl := kp.len
   simp only [bw, bools, e]
   exact ⟨_, _, rfl, ⟨rs, R, tb, r1, r2, r3, Nat.le_trans r4 (LV b hs hL7), by omega, fun r hr => Nat.le_trans kl (r6 r hr)⟩, kp.trans kp2⟩
  ·right
   refine ⟨T, by simp only [bw, bools, D0 hD, decide_eq_false c, Bool.not_false], .inl ?_⟩
   have hn := b.goes hc c
   have hf := b.few hs hL
   obtain ⟨u, r, hu⟩ : ∃ u r, es[n]? = some (u, r) := ⟨es[n].1, es[n].2, by rw [List.getElem?_eq_getElem hn]⟩
   have hlu : (up u).length <= 100 := by
    rw [Rd.iO, (Rd.gc hs (b.co u (List.mem_map.mpr ⟨_, List.mem_of_getElem? hu, rfl⟩))).1]; omega
   have ia : d8 (wC es) (n : Int) = some (eV (up u)) := iy rfl (by unfold wC; rw [List.getElem?_map, hu]; rfl)
   have c1 := Hi (S := T) hlu
   have c2 := IJ (S := T ++ [.lst ((chg (up u)).map eV)]) hlu
   have lt : S.length + 1 < T.length := bH hW
   obtain ⟨M, hM⟩ : ∃ M, M = (T ++ [O.lst ((chg (up u)).map eV)] ++ [O.lst ((oN (up u)).map eV)]).length := ⟨_, rfl⟩
   have hMl : M = T.length + 2 := by rw [hM]; simp
   have ad : aW (.ref T.length) (.ref (T ++ [O.lst ((chg (up u)).map eV)]).length) (T ++ [O.lst ((chg (up u)).map eV)] ++ [O.lst ((oN (up u)).map eV)]) = .ok (.ref M) (T ++ [O.lst ((chg (up u)).map eV)] ++ [O.lst ((oN (up u)).map eV)] ++ [O.lst ((mL (up u)).map eV)]) := by
    rw [jC (aZ aK) aK ?_, hM]
    ·unfold mL; rw [List.map_append]
    ·rw [List.length_map, List.length_map]
     have q1 : (chg (up u)).length <= 100 := by
      unfold chg
      rw [List.length_map]
      exact Nat.le_trans (List.length_filter_le _ _) (by rw [cP]; omega)
     have q2 : (oN (up u)).length <= 100 := by
      unfold oN
      rw [List.length_map]
      exact Nat.le_trans (List.length_filter_le _ _) (by rw [cP]; omega)
     omega
   obtain ⟨U, hU⟩ : ∃ U, U = T ++ [O.lst ((chg (up u)).map eV)] ++ [O.lst ((oN (up u)).map eV)] ++ [O.lst ((mL (up u)).map eV)] := ⟨_, rfl⟩
   rw [<- hU] at ad
   have hMU : au U M = some ((mL (up u)).map eV) := by rw [hU, hM]; exact aK
   have hDU : cN U S.length = some (kvs es) := by rw [hU]; exact kE (kE (kE hD))
   have hWU : au U (S.length + 1) = some (wC es) := by rw [hU]; exact aZ (aZ (aZ hW))
   have kU : b5 S U := by rw [hU]; exact kp.lay.lay.lay
   have hsrc : fK [.ref I, .ref J, eV (up s), eV (up t), .ref S.length, .ref (S.length + 1), .int n, eV (up u), a8] T = .ok (eG M ((mL (up u)).map eV).length) U :=
    jm (by simp only [bw, bools, c1, c2, ad]) hMU
   unfold iA
   simp only [bw, bools, hW, ia]
   obtain ⟨es', a8', S', ef, h1, h2, h3, h4⟩ := inner (S0 := S) (T := T) hs hL hDU hWU hMU b hu (Nat.le_refl _) (by omega) (by omega) (by omega) (by omega) kU hsrc
    (fun r => ∃ es' a8' S', r = .nx [.ref I, .ref J, eV (up s), eV (up t), .ref S.length, .ref (S.length + 1), .int n, eV (up u), a8'] S' /\ cN S' S.length = some (kvs es') /\ au S' (S.length + 1) = some (wC es') /\ Bf s es' (n + 1) /\ b5 S S')
    (fun es' a8' S' h1 h2 h3 h4 => ⟨es', a8', S', rfl, h1, h2, h3, h4⟩)
   rw [ef]
   simp only [bw, bools]
   refine ⟨_, _, rfl, ⟨eV (up u), a8', es', n + 1, ?_, h1, h2, h3, h4⟩, ?_⟩
   ·rw [show (((n + 1 : Nat)) : Int) = (n : Int) + 1 by omega]
   ·show 16777217 - ((n : Int) + 1).toNat < 16777217 - (n : Int).toNat
    omega
theorem z7 {S : aH} {n W : Nat} {w : List Nat} (hW : au S W = some (wd w)) (h1 : n <= 9) (h2 : w.length <= 8) : ff [.int n, .ref W] S = .ok (.bl false) S := by
 unfold ff jX oB
 simp only [bw, bools, dW, Nat.reduceAdd, Nat.reduceSub, hW, List.length_map, decide_eq_false (show ¬ ((9 : Int) < (n : Int)) by omega), decide_eq_false (show ¬ ((8 : Int) < (w.length : Int)) by omega)]
end K10
namespace K10
open PySem L2 Am
open Ti (Mv Con Red)
open Rd (Bf En d9 up tF tD qd chg oN mL)
open Fw (jO Va rg)
theorem uz : ∀ {w : List Nat} {l : List Int}, Wd.fL l w -> Iv.inv (Wd.led l w) = Iv.inv l + w.length
 | [], _, _ => rfl
 | k :: w, l, h => by
  show Iv.inv (Wd.led (Wd.ex l k) w) = _
  rw [uz h.2.2.2, Fw.sQ h.1 h.2.1 h.2.2.1, List.length_cons]; omega
theorem CZ {n : Nat} {w : List Nat} (h : Wd.fL (aS 1 ((n : Int) + 1)) w) : Red n w :=
 ⟨fun k hk => by have := h.valid k hk; rwa [Wd.bW] at this, by
  have := uz h
  rw [show Iv.inv (aS 1 ((n : Int) + 1)) = 0 from Fw.sI n] at this
  show _ = Iv.inv (Wd.led (aS 1 ((n : Int) + 1)) w)
  omega⟩
theorem Aq {S : aH} {b n : Nat} (h : qV S b) (h1 : 2 <= n) (h2 : n <= 20) :
  ∃ (w : List Nat) (W : Nat) (S' : aH), fB [.ref b, .int n, .int 6] S = .ok (.ref W) S' /\ au S' W = some (wd w) /\ Wd.fL (aS 1 ((n : Int) + 1)) w /\ w.length <= 6 /\ qV S' b /\ Kp (· = b) S S' /\ S.length <= W := by
 have hbS : b < S.length := by obtain ⟨_, _, e, _⟩ := h; exact bH e
 unfold fB jT oE
 simp only [bw, bools, dW, Nat.reduceAdd, Nat.reduceSub, rA (pJ (show (-1000000 : Int) <= 1 by decide) (by decide) (show -1000000 <= (n : Int) + 1 by omega) (by omega) (by omega))]
 have lW : (S ++ [O.lst ((aS 1 ((n : Int) + 1)).map .int)]).length = S.length + 1 := by rw [List.length_append]; rfl
 have k0 : b5 S (S ++ [.lst ((aS 1 ((n : Int) + 1)).map .int)] ++ [.lst []]) := Kp.refl.lay.lay
 obtain ⟨d, S1, e1, d0, d1, hb1, k1⟩ := digit (m := 6 + 1) (h.kp k0 fun z => z) (by decide) (by decide)
 have g1 : au S1 S.length = some ((aS 1 ((n : Int) + 1)).map .int) := k1.lst _ _ (by omega) (aZ aK)
 have g2 : au S1 (S ++ [O.lst ((aS 1 ((n : Int) + 1)).map .int)]).length = some [] := k1.lst _ _ (by omega) aK
 rw [lW] at g2
 refine gI (lo := 0) (hi := d) (S1 := S1) (show k_ _ _ = _ from dD (by simp only [bw, bools, e1]) (cu (by omega) (by omega)))
  (fun i τ S2 => ∃ (w : List Nat) (a5 a6 a7 : A), τ = [.ref b, .int n, .int 6, .ref S.length, .ref (S ++ [O.lst ((aS 1 ((n : Int) + 1)).map .int)]).length, a5, a6, a7] /\ au S2 S.length = some ((Wd.led (aS 1 ((n : Int) + 1)) w).map .int) /\ au S2 (S.length + 1) = some (wd w) /\ Wd.fL (aS 1 ((n : Int) + 1)) w /\ w.length <= i /\ qV S2 b /\ Kp (· = b) S S2)
  (fun r => ∃ (w : List Nat) (W : Nat) (S' : aH), RS.end (RS.seq r _) = .ok (.ref W) S' /\ au S' W = some (wd w) /\ Wd.fL (aS 1 ((n : Int) + 1)) w /\ w.length <= 6 /\ qV S' b /\ Kp (· = b) S S' /\ S.length <= W)
  ⟨[], _, _, _, rfl, g1, g2, trivial, Nat.le_refl _, hb1, k0.of0.trans k1⟩ ?_ ?_
 ·rintro i τ S2 hi ⟨w, a5, a6, a7, rfl, hL, hW, hr, hwl, hb2, k2⟩
  left
  have ll : (Wd.led (aS 1 ((n : Int) + 1)) w).length = n := by rw [Wd.iD, Wd.bW]
  generalize hl' : Wd.led (aS 1 ((n : Int) + 1)) w = l at hL ll
  rw [lW]
  have ec := iY (cap := [some 3]) (t := jf (aA H_ (aA cI (ah 1) (aA aSub (ah 0) (eC (.int 1)))) (aA cI (ah 1) (ah 0)))) (e := ah 0) (τ := [.ref b, .int n, .int 6, .ref S.length, .ref (S.length + 1), .int (0 + (i : Int)), a6, a7]) (src := fW (eC (.int 1)) (ah 1)) (S := S2) (S1 := S2) (lo := 1) (hi := (n : Int))
   (jc (S1 := S2) (by simp only [bw, bools]) (by simp only [bw, bools]) (cu (by omega) (by omega)) (cu (by omega) (by omega))) (fun k => decide (l.getD (k - 1).toNat 0 < l.getD k.toNat 0)) A.int
   (fun k c0 c1 => by
    have a1 : d8 (l.map A.int) k = some (.int (l.getD k.toNat 0)) := oJ (k := k.toNat) (by omega) (by omega)
    have a2 : d8 (l.map A.int) (k - 1) = some (.int (l.getD (k - 1).toNat 0)) := oJ (k := (k - 1).toNat) (by omega) (by omega)
    simp only [bw, bools, hL, a1, a2]) (fun k _ _ _ => by simp only [bw, bools]) (by omega)
  generalize hks : (aS 1 (n : Int)).filter (fun k => decide (l.getD (k - 1).toNat 0 < l.getD k.toNat 0)) = ks at ec
  have hmem : ∀ k ∈ ks, 1 <= k /\ k < n /\ l.getD (k - 1).toNat 0 < l.getD k.toNat 0 := fun k hk => by
   rw [<- hks] at hk
   obtain ⟨q1, q2⟩ := List.mem_filter.mp hk
   have := cG.mp q1
   exact ⟨this.1, this.2, by simpa using q2⟩
  have hkl : ks.length <= 20 := by
   rw [<- hks]
   refine Nat.le_trans (List.length_filter_le _ _) ?_
   rw [cP]; omega
  have k3 : b5 S2 (S2 ++ [O.lst (ks.map A.int)]) := Kp.refl.lay
  have g3 : au (S2 ++ [O.lst (ks.map A.int)]) S2.length = some (ks.map A.int) := aK
  have l2 := k2.len
  have lL := bH hL
  have lW2 := bH hW
  unfold kQ
  simp only [bw, bools, ec, g3, List.length_map]
  by_cases hz : ks = []
  ·subst hz
   rw [show decide ((0 : Int) < (([] : List Int).length : Int)) = false from rfl]
   simp only [bw, bools]
   exact ⟨_, _, rfl, w, _, _, _, rfl, by rw [hl']; exact aZ hL, aZ hW, hr, by omega, hb2.kp k3 fun z => z, k2.trans k3.of0⟩
  ·have hpos : 0 < ks.length := List.length_pos_iff.mpr hz
   rw [decide_eq_true (show (0 : Int) < (ks.length : Int) by omega)]
   obtain ⟨e, S4, e4, f0, f1', hb4, k4⟩ := digit (m := (ks.length : Int)) (hb2.kp k3 fun z => z) (by omega) (by omega)
   have nb : S2.length ≠ b := by omega
   have g4 : au S4 S2.length = some (ks.map A.int) := k4.lst _ _ nb g3
   have hlt : e.toNat < ks.length := by omega
   obtain ⟨kk, hkk⟩ : ∃ kk : Nat, ks[e.toNat] = (kk : Int) := ⟨ks[e.toNat].toNat, by have := hmem _ (List.getElem_mem hlt); omega⟩
   have hm := hmem _ (List.getElem_mem hlt)
   rw [hkk] at hm
   have ek : d8 (ks.map A.int) e = some (.int kk) := rR (k := e.toNat) (by omega) (by rw [List.getElem?_eq_getElem hlt, hkk])
   have hL4 : au S4 S.length = some (l.map .int) := k4.lst _ _ (by omega) (aZ hL)
   have hW4 : au S4 (S.length + 1) = some (wd w) := k4.lst _ _ (by omega) (aZ hW)
   have lL4 := bH hL4
   have a1 : d8 (l.map A.int) (kk : Int) = some (.int (l.getD kk 0)) := oJ rfl (by omega)
   have a2 : d8 (l.map A.int) ((kk : Int) - 1) = some (.int (l.getD (kk - 1) 0)) := oJ (k := kk - 1) (by omega) (by omega)
   have x1 : oW l.length ((kk : Int) - 1) = some (kk - 1) := ie (by omega) (by omega)
   have x2 : oW l.length (kk : Int) = some kk := ie rfl (by omega)
   have lS : ∀ ys, au (S4.set S.length (.lst ys)) S.length = some ys := fun ys => cH lL4
   have lS2 : ∀ ys zs, au ((S4.set S.length (.lst ys)).set S.length (.lst zs)) (S.length + 1) = some (wd w) := fun ys zs => by rw [bz (by omega), bz (by omega)]; exact hW4
   have wl : (wd w).length < 16777216 := by rw [List.length_map]; omega
   simp only [bw, bools, g4, List.length_map, e4, ek, hL4, a1, a2, kr (show ([_, _] : List A).length <= 16777216 by simp), dF (show ([_, _] : List A).length = 2 from rfl), x1, lS, List.length_set, x2, lS2, uO (show w.length < 16777216 by omega)]
   rw [oU]
   have hasc : (Wd.led (aS 1 ((n : Int) + 1)) w).getD (kk - 1) 0 < (Wd.led (aS 1 ((n : Int) + 1)) w).getD kk 0 := by
    rw [hl']
    have := hm.2.2
    rw [show ((kk : Int) - 1).toNat = kk - 1 by omega, show ((kk : Int)).toNat = kk by omega] at this
    exact this
   have hr' : Wd.fL (aS 1 ((n : Int) + 1)) (w ++ [kk]) := hr.snoc (by omega) (by rw [Wd.bW]; omega) hasc
   have el : Wd.led (aS 1 ((n : Int) + 1)) (w ++ [kk]) = Wd.ex l kk := by rw [Wd.fQ, hl']; rfl
   refine ⟨_, _, rfl, w ++ [kk], _, _, _, rfl, ?_, ?_, hr', by rw [List.length_append]; simp; omega, ?_, ?_⟩
   ·rw [el, bz (by omega), cH (by rw [List.length_set]; exact lL4)]
   ·rw [cH (by rw [List.length_set, List.length_set]; exact bH hW4)]; simp [wd]
   ·obtain ⟨g, st, eb, q⟩ := hb4
    exact ⟨g, st, by rw [bz (by omega), bz (by omega), bz (by omega)]; exact eb, q⟩
   ·exact ((((k2.trans k3.of0).trans k4).set (.inr (Nat.le_refl _))).set (.inr (Nat.le_refl _))).set (.inr (by omega))
 ·rintro τ S2 ⟨w, a5, a6, a7, rfl, hL, hW, hr, hwl, hb2, k2⟩
  simp only [bw, bools]
  rw [lW]
  exact ⟨w, _, _, rfl, hW, hr, by omega, hb2, k2, by omega⟩
theorem qf {l : List Int} {n : Nat} (hl : l.length = n) {x : Int} : x ∈ fl l n ↔ ∃ k : Nat, x = k /\ jO l k := by
 unfold fl
 rw [List.mem_filter, cG, decide_eq_true_eq]
 constructor
 ·rintro ⟨⟨h1, h2⟩, h3⟩
  refine ⟨x.toNat, by omega, by omega, by omega, ?_⟩
  rw [show (x - 1).toNat = x.toNat - 1 by omega] at h3
  exact h3
 ·rintro ⟨k, rfl, h1, h2, h3⟩
  refine ⟨⟨by omega, by omega⟩, ?_⟩
  rw [show ((k : Int) - 1).toNat = k - 1 by omega, Int.toNat_natCast]
  exact h3
theorem Iz {xs : List A} {q : Int} (h0 : 0 <= q) (h1 : q < xs.length) : ∃ v, v ∈ xs /\ d8 xs q = some v := by
 have hk : q.toNat < xs.length := by omega
 exact ⟨xs[q.toNat], List.getElem_mem hk, iy (k := q.toNat) (by omega) (List.getElem?_eq_getElem hk)⟩
theorem A9 {S : aH} {b n W : Nat} {w : List Nat} (hb : qV S b) (hW : au S W = some (wd w)) (hw : Red n w) (h1 : 1 <= n) (h2 : n <= 20) (hwl : w.length <= 400) : ∃ (V : Nat) (v : List Nat) (S' : aH), fJ [.ref b, .int n, .ref W] S = .ok (.ref V) S' /\ au S' V = some (wd v) /\ Red n v /\ Wd.led (rg n) v = Wd.led (rg n) w /\ v.length = w.length /\ qV S' b /\ Kp (· = b) S S' /\ S.length <= V := by
 have hbl : b < S.length := by obtain ⟨_, _, e, _⟩ := hb; exact bH e
 have po : (Wd.led (rg n) w).Perm (rg n) := Ti.pm hw.1
 have hio := hw.2
 obtain ⟨S0, e0, k0⟩ := vF (S := S) hW hw.1 h1 h2
 have e0 : dN [.int n, .ref W] S = .ok (.tup ((Wd.led (rg n) w).map .int)) S0 := e0
 generalize ho : Wd.led (rg n) w = o at po hio e0
 have hW0 := k0.lst _ _ (fun z => z) hW
 have b0 := hb.kp k0 fun z => z
 have l0 := k0.len
 have l1 : (S0 ++ [O.lst (o.map .int)]).length = S0.length + 1 := by simp
 have kk : b5 S (S0 ++ [O.lst (o.map .int)] ++ [.lst []]) := k0.lay.lay
 unfold fJ jW nY
 simp only [bw, bools, dW, Nat.reduceAdd, Nat.reduceSub, e0, l1]
 refine gI (lo := 0) (hi := (w.length : Int)) (S1 := S0 ++ [O.lst (o.map .int)] ++ [.lst []]) (show ly _ _ = _ from dD (by simp only [bw, bools, aZ (aZ hW0), List.length_map]) (cu (by omega) (by omega)))
  (fun i τ T => ∃ (a5 a6 a7 : A) (V : Nat) (v : List Nat) (l : List Int), τ = [.ref b, .int n, .ref W, .ref S0.length, .ref V, a5, a6, a7] /\ au T S0.length = some (l.map .int) /\ au T V = some (wd v) /\ V ≠ S0.length /\ V ≠ b /\ S.length <= V /\ l.Perm (rg n) /\ Iv.inv l + i = Iv.inv o /\ Wd.led l v = o /\ v.length = i /\ Va n v /\ qV T b /\ Kp (· = b) S T)
  (fun r => ∃ (V : Nat) (v : List Nat) (S' : aH), RS.end (RS.seq r _) = .ok (.ref V) S' /\ au S' V = some (wd v) /\ Red n v /\ Wd.led (rg n) v = o /\ v.length = w.length /\ qV S' b /\ Kp (· = b) S S' /\ S.length <= V)
  ⟨_, _, _, S0.length + 1, [], o, rfl, aZ aK, by rw [<- l1]; exact aK, by omega, by omega, by omega, po, rfl, rfl, rfl, fun k hk => absurd hk (by simp), hb.kp kk fun z => z, kk.of0⟩ ?_ ?_
 ·rintro i τ T hi ⟨a5, a6, a7, V, v, l, rfl, hL, hV, nV, nVb, sV, pl, hinv, hled, hvl, va, bT, kp⟩
  left
  have ll : l.length = n := gx pl
  have cr := iY (lo := 1) (hi := (n : Int)) (cap := [some 3]) (src := fW (eC (.int 1)) (ah 1)) (t := jf (aA sq (aA cI (ah 1) (aA aSub (ah 0) (eC (.int 1)))) (aA cI (ah 1) (ah 0)))) (e := ah 0) (τ := [.ref b, .int n, .ref W, .ref S0.length, .ref V, .int (0 + (i : Int)), a6, a7]) (S := T) (S1 := T)
   (jc (S1 := T) (by simp only [bw, bools]) (by simp only [bw, bools]) (cu (by omega) (by omega)) (cu (by omega) (by omega)))
   (fun k => decide (l.getD (k - 1).toNat 0 > l.getD k.toNat 0)) (fun k => .int k) (fun k h1 h2 => by
    have x1 : d8 (l.map A.int) (k - 1) = some (.int (l.getD (k - 1).toNat 0)) := FP (by omega) (by omega)
    have x2 : d8 (l.map A.int) k = some (.int (l.getD k.toNat 0)) := FP (by omega) (by omega)
    simp only [bw, bools, hL, x1, x2]) (fun k _ _ _ => by simp only [bw, bools]) (by omega)
  have efl : ((aS 1 (n : Int)).filter (fun j => decide (l.getD (j - 1).toNat 0 > l.getD j.toNat 0))).map (fun j => A.int j) = (fl l n).map A.int := rfl
  rw [efl] at cr
  obtain ⟨f, hf⟩ := Fw.DN (l := l) (by omega)
  have fin : (f : Int) ∈ fl l n := (qf ll).mpr ⟨f, rfl, hf⟩
  have fpos : 0 < (fl l n).length := List.length_pos_of_mem fin
  have fle : (fl l n).length <= 20 := Nat.le_trans (List.length_filter_le _ _) (by rw [cP]; omega)
  have k0' : b5 T (T ++ [O.lst ((fl l n).map A.int)]) := Kp.refl.lay
  obtain ⟨q, U, e2, q0, q1, bU, kU⟩ := digit (m := ((fl l n).length : Int)) (bT.kp k0' fun z => z) (by omega) (by omega)
  have hbT : b < T.length := by obtain ⟨_, _, e, _⟩ := bT; exact bH e
  have hL2 : au U S0.length = some (l.map .int) := kU.lst _ _ (by omega) (k0'.lst _ _ (fun z => z) hL)
  have hV2 : au U V = some (wd v) := kU.lst _ _ nVb (k0'.lst _ _ (fun z => z) hV)
  have hC : au (T ++ [O.lst ((fl l n).map A.int)]) T.length = some ((fl l n).map A.int) := aK
  have hC2 : au U T.length = some ((fl l n).map A.int) := kU.lst _ _ (by omega) hC
  obtain ⟨x, hx, ex⟩ := Iz (xs := (fl l n).map A.int) q0 (by rw [List.length_map]; exact q1)
  obtain ⟨y, hy, rfl⟩ := List.mem_map.mp hx
  obtain ⟨k, rfl, hk⟩ := (qf ll).mp hy
  have hkn : k < n := by have := hk.2.1; omega
  have hk1 := hk.1
  have a1 : d8 (l.map A.int) (k : Int) = some (.int (l.getD k 0)) := oJ rfl (by omega)
  have a2 : d8 (l.map A.int) ((k : Int) - 1) = some (.int (l.getD (k - 1) 0)) := oJ (k := k - 1) (by omega) (by omega)
  have x1 : oW l.length ((k : Int) - 1) = some (k - 1) := ie (by omega) (by omega)
  have x2 : oW l.length (k : Int) = some k := ie rfl (by omega)
  have lU := bH hL2
  have lS : ∀ ys, au (U.set S0.length (.lst ys)) S0.length = some ys := fun ys => cH lU
  obtain ⟨X, hX⟩ : ∃ X, X = (U.set S0.length (.lst ((l.map A.int).set (k - 1) (.int (l.getD k 0))))).set S0.length (.lst ((Wd.ex l k).map A.int)) := ⟨_, rfl⟩
  have hLX : au X S0.length = some ((Wd.ex l k).map .int) := by rw [hX]; exact cH (by rw [List.length_set]; exact lU)
  have hVX : au X V = some (wd v) := by rw [hX, bz (Ne.symm nV), bz (Ne.symm nV)]; exact hV2
  have kX : Kp (· = b) S X := by rw [hX]; exact ((kp.lay.trans kU).set (.inr l0)).set (.inr l0)
  have bX : qV X b := by
   obtain ⟨g, st, e, qq⟩ := bU
   exact ⟨g, st, by rw [hX, bz (by omega), bz (by omega)]; exact e, qq⟩
  have lX : U.length = X.length := by rw [hX, List.length_set, List.length_set]
  have n1 : newL [.int (k : Int)] X = .ok (.ref X.length) (X ++ [O.lst [.int (k : Int)]]) := bB (show 1 <= 16777216 by decide)
  have ad : aW (.ref X.length) (.ref V) (X ++ [O.lst [.int (k : Int)]]) = .ok (.ref (X ++ [O.lst [.int (k : Int)]]).length) (X ++ [O.lst [.int (k : Int)]] ++ [.lst (wd (k :: v))]) := jC aK (aZ hVX) (by rw [List.length_map]; show 1 + _ <= _; omega)
  unfold lz
  simp only [bw, bools, cr, hC, List.length_map, e2, hC2, ex, hL2, a1, a2, kr (show ([_, _] : List A).length <= 16777216 by simp), dF (show ([_, _] : List A).length = 2 from rfl), x1, lS, List.length_set, x2, oU, <- hX, n1, ad]
  have kf : b5 X (X ++ [O.lst [.int (k : Int)]] ++ [.lst (wd (k :: v))]) := Kp.refl.lay.lay
  have hdn := Fw.jy hk.1 hk.2.1 hk.2.2
  have kXl := kX.len
  refine ⟨_, _, rfl, ⟨_, _, _, _, k :: v, Wd.ex l k, rfl, kf.lst _ _ (fun z => z) hLX, aK, by simp; omega, by simp; omega, by simp; omega, Fw.kC pl hk.1 hk.2.1, by omega, ?_, by rw [List.length_cons, hvl], fun j hj => ?_, bX.kp kf fun z => z, kX.trans kf.of0⟩⟩
  ·show Wd.led (Wd.ex (Wd.ex l k) k) v = o
   rw [Fw.u0 hk.1 hk.2.1]; exact hled
  ·rcases List.mem_cons.mp hj with rfl | z
   ·exact ⟨hk.1, hkn⟩
   ·exact va j z
 ·rintro τ T ⟨a5, a6, a7, V, v, l, rfl, hL, hV, nV, nVb, sV, pl, hinv, hled, hvl, va, bT, kp⟩
  have el : l = rg n := Fw.F0 pl fun k hk => by have := Fw.jy hk.1 hk.2.1 hk.2.2; omega
  subst el
  simp only [bw, bools]
  exact ⟨V, v, T, rfl, hV, ⟨va, by rw [hled, <- hio]; omega⟩, hled, by omega, bT, kp, sV⟩
end K10
namespace K10
open PySem L2 Am
open Ti (Mv Con Red)
open Rd (Bf En d9 up tF tD qd chg oN mL)
open Fw (jO Va rg)
theorem cutD (xs : List A) (j : Nat) (h : j <= xs.length) : eN xs (some (j : Int)) none = xs.drop j := by
 unfold eN
 rw [HT.gM, HT.kh, Nat.min_eq_left (by omega), List.take_of_length_le (by rw [List.length_drop]; omega)]
theorem K_ (xs : List A) (i j : Nat) (h : i <= xs.length) : eN xs (some (i : Int)) (some (j : Int)) = (xs.drop i).take (j - i) := by
 unfold eN
 rw [HT.gM, HT.gM, Nat.min_eq_left (show i <= xs.length by omega)]
 by_cases c : j <= xs.length
 ·rw [Nat.min_eq_left c]
 ·rw [Nat.min_eq_right (by omega), List.take_of_length_le (by rw [List.length_drop]; omega), List.take_of_length_le (by rw [List.length_drop]; omega)]
theorem vI (xs : List A) (j : Nat) : eN xs none (some (j : Int)) = xs.take j := by
 unfold eN
 rw [HT.gM, HT.kh, List.drop_zero, Nat.sub_zero]
 by_cases h : j <= xs.length
 ·rw [Nat.min_eq_left h]
 ·rw [Nat.min_eq_right (by omega), List.take_of_length_le (Nat.le_refl _), List.take_of_length_le (by omega)]
theorem vL (xs : List A) (j : Nat) : eN xs (some (j : Int)) none = xs.drop j := by
 unfold eN
 rw [HT.gM, HT.kh]
 by_cases h : j <= xs.length
 ·rw [Nat.min_eq_left h]
  exact List.take_of_length_le (by rw [List.length_drop]; exact Nat.le_refl _)
 ·rw [Nat.min_eq_right (by omega), List.drop_of_length_le (Nat.le_refl _), List.drop_of_length_le (by omega)]
  exact List.take_nil
def GI (u v : List Int) (i : Nat) : Prop := v.drop i = [u.getD (i + 1) 0, u.getD i 0] ++ u.drop (i + 2) /\ 1 < qd u i
def zD (u v : List Int) (i : Nat) : Prop := i + 2 < u.length /\ u.getD i 0 = u.getD (i + 2) 0 /\ qd u i = 1 /\ v.drop i = [u.getD (i + 1) 0, u.getD i 0, u.getD (i + 1) 0] ++ u.drop (i + 3)
theorem sy (u : List Int) (i m j : Nat) (h : j < m) : ((u.drop i).take m).getD j 0 = u.getD (i + j) 0 := by
 rw [List.getD_eq_getElem?_getD, List.getElem?_take, if_pos h, List.getElem?_drop, List.getD_eq_getElem?_getD]
theorem FG {T : aH} {I J i : Nat} {u v : List Int} {a3 : A} (hI : au T I = some (u.map .int)) (hJ : au T J = some (v.map .int)) (hi : i + 1 < u.length) (h9 : u.length <= 100) :
  (∃ S', eS [.ref I, .ref J, .int i, a3] T = .rt (.bl true) S' /\ b5 T S') \/ (∃ a3' S', eS [.ref I, .ref J, .int i, a3] T = .nx [.ref I, .ref J, .int i, a3'] S' /\ b5 T S' /\ (u.take i = v.take i -> ¬ GI u v i /\ ¬ zD u v i)) := by
 have lu : (u.map A.int).length = u.length := List.length_map ..
 have lv : (v.map A.int).length = v.length := List.length_map ..
 obtain ⟨T2, hT2⟩ : ∃ T2, T2 = T ++ [O.lst ((u.take i).map .int)] ++ [O.lst ((v.take i).map .int)] := ⟨_, rfl⟩
 have k2 : b5 T T2 := by rw [hT2]; exact Kp.refl.lay.lay
 have q1 : iW false (.ref T.length) (.ref (T ++ [O.lst ((u.take i).map .int)]).length) T2 = .ok (.bl (decide (u.take i = v.take i))) T2 := by
  rw [hT2]; exact lT (tX (aZ aK) aK)
 have c1 : eN (u.map A.int) none (some (i : Int)) = (u.take i).map .int := by rw [Jv _ _ (by omega), List.map_take]
 have c2 : eN (v.map A.int) none (some (i : Int)) = (v.take i).map .int := by rw [vI, List.map_take]
 have hJ1 : au (T ++ [O.lst ((u.take i).map .int)]) J = some (v.map .int) := aZ hJ
 unfold eS
 simp only [bw, bools, hI, hJ1, c1, c2, <- hT2, q1]
 by_cases c : u.take i = v.take i
 ·rw [decide_eq_true c]
  have hI2 := k2.lst _ _ (fun z => z) hI
  have hJ2 := k2.lst _ _ (fun z => z) hJ
  have x1 : d8 (u.map A.int) (i : Int) = some (.int (u.getD i 0)) := oJ rfl (by omega)
  have x2 : d8 (u.map A.int) ((i : Int) + 1) = some (.int (u.getD (i + 1) 0)) := oJ (k := i + 1) (by omega) (by omega)
  have c3 : eN (v.map A.int) (some (i : Int)) none = (v.drop i).map .int := by rw [vL, List.map_drop]
  have c4 : eN (u.map A.int) (some ((i : Int) + 2)) none = (u.drop (i + 2)).map .int := by
   rw [show (i : Int) + 2 = ((i + 2 : Nat) : Int) by omega, cutD _ _ (by omega), List.map_drop]
  obtain ⟨T3, hT3⟩ : ∃ T3, T3 = T2 ++ [O.lst ((v.drop i).map .int)] := ⟨_, rfl⟩
  obtain ⟨T4, hT4⟩ : ∃ T4, T4 = T3 ++ [O.lst [.int (u.getD (i + 1) 0), .int (u.getD i 0)]] := ⟨_, rfl⟩
  obtain ⟨T5, hT5⟩ : ∃ T5, T5 = T4 ++ [O.lst ((u.drop (i + 2)).map .int)] := ⟨_, rfl⟩
  obtain ⟨T6, hT6⟩ : ∃ T6, T6 = T5 ++ [O.lst (([u.getD (i + 1) 0, u.getD i 0] ++ u.drop (i + 2)).map .int)] := ⟨_, rfl⟩
  have k3 : b5 T2 T3 := by rw [hT3]; exact Kp.refl.lay
  have k4 : b5 T3 T4 := by rw [hT4]; exact Kp.refl.lay
  have k5 : b5 T4 T5 := by rw [hT5]; exact Kp.refl.lay
  have k6 : b5 T5 T6 := by rw [hT6]; exact Kp.refl.lay
  have hI3 := k3.lst _ _ (fun z => z) hI2
  have hI4 := k4.lst _ _ (fun z => z) hI3
  have n1 : newL [.int (u.getD (i + 1) 0), .int (u.getD i 0)] T3 = .ok (.ref T3.length) T4 := by rw [hT4]; exact bB (show 2 <= 16777216 by decide)
  have v3 : au T3 T2.length = some ((v.drop i).map .int) := by rw [hT3]; exact aK
  have v4 : au T4 T3.length = some (([u.getD (i + 1) 0, u.getD i 0]).map .int) := by rw [hT4]; exact aK
  have v5 : au T5 T4.length = some ((u.drop (i + 2)).map .int) := by rw [hT5]; exact aK
  have v6 : au T6 T5.length = some (([u.getD (i + 1) 0, u.getD i 0] ++ u.drop (i + 2)).map .int) := by rw [hT6]; exact aK
  have ad : aW (.ref T3.length) (.ref T4.length) T5 = .ok (.ref T5.length) T6 := by
   rw [jC (k5.lst _ _ (fun z => z) v4) v5 (by rw [List.length_map, List.length_map, List.length_drop]; show 2 + _ <= _; omega), hT6, List.map_append]
  have q2 : iW false (.ref T2.length) (.ref T5.length) T6 = .ok (.bl (decide (v.drop i = [u.getD (i + 1) 0, u.getD i 0] ++ u.drop (i + 2)))) T6 :=
   lT (tX (((k4.trans k5).trans k6).lst _ _ (fun z => z) v3) v6)
  have k26 : b5 T2 T6 := ((k3.trans k4).trans k5).trans k6
  have hI6 := k26.lst _ _ (fun z => z) hI2
  have hJ6 := k26.lst _ _ (fun z => z) hJ2
  have kT6 := k2.trans k26
  have c5 : eN (u.map A.int) (some (i : Int)) (some ((i : Int) + 3)) = ((u.drop i).take 3).map .int := by
   rw [show (i : Int) + 3 = ((i + 3 : Nat) : Int) by omega, K_ _ _ _ (by omega), show i + 3 - i = 3 by omega, List.map_take, List.map_drop]
  obtain ⟨T7, hT7⟩ : ∃ T7, T7 = T6 ++ [O.lst (((u.drop i).take 3).map .int)] := ⟨_, rfl⟩
  have k7 : b5 T6 T7 := by rw [hT7]; exact Kp.refl.lay
  have v7 : au T7 T6.length = some (((u.drop i).take 3).map .int) := by rw [hT7]; exact aK
  have hI7 := k7.lst _ _ (fun z => z) hI6
  have hJ7 := k7.lst _ _ (fun z => z) hJ6
  have kT7 := kT6.trans k7
  by_cases hh : GI u v i
  ·left
   have p1 : decide (v.drop i = [u.getD (i + 1) 0, u.getD i 0] ++ u.drop (i + 2)) = true := decide_eq_true hh.1
   have p2 : decide ((1 : Int) < if u.getD i 0 - u.getD (i + 1) 0 < 0 then -(u.getD i 0 - u.getD (i + 1) 0) else u.getD i 0 - u.getD (i + 1) 0) = true := decide_eq_true hh.2
   simp only [bw, bools, hJ2, c3, <- hT3, hI3, x1, x2, n1, hI4, c4, <- hT5, ad, q2, p1, hI6, p2]
   exact ⟨_, rfl, kT6⟩
  ·have fst : (decide (v.drop i = [u.getD (i + 1) 0, u.getD i 0] ++ u.drop (i + 2)) = true /\ decide ((1 : Int) < if u.getD i 0 - u.getD (i + 1) 0 < 0 then -(u.getD i 0 - u.getD (i + 1) 0) else u.getD i 0 - u.getD (i + 1) 0) = false) \/ (decide (v.drop i = [u.getD (i + 1) 0, u.getD i 0] ++ u.drop (i + 2)) = false /\ decide (v.drop i = [u.getD (i + 1) 0, u.getD i 0] ++ u.drop (i + 2)) = false) := by
    by_cases d1 : v.drop i = [u.getD (i + 1) 0, u.getD i 0] ++ u.drop (i + 2)
    ·exact .inl ⟨decide_eq_true d1, decide_eq_false fun z => hh ⟨d1, z⟩⟩
    ·exact .inr ⟨decide_eq_false d1, decide_eq_false d1⟩
   by_cases e1 : i + 2 < u.length
   ·have l3 : ((u.drop i).take 3).length = 3 := by rw [List.length_take, List.length_drop]; omega
    have y0 : d8 (((u.drop i).take 3).map A.int) 0 = some (.int (u.getD i 0)) := by have := oJ (l := (u.drop i).take 3) (k := 0) (i := 0) rfl (by omega); rwa [sy _ _ _ _ (by decide)] at this
    have y1 : d8 (((u.drop i).take 3).map A.int) 1 = some (.int (u.getD (i + 1) 0)) := by have := oJ (l := (u.drop i).take 3) (k := 1) (i := 1) rfl (by omega); rwa [sy _ _ _ _ (by decide)] at this
    have y2 : d8 (((u.drop i).take 3).map A.int) 2 = some (.int (u.getD (i + 2) 0)) := by have := oJ (l := (u.drop i).take 3) (k := 2) (i := 2) rfl (by omega); rwa [sy _ _ _ _ (by decide)] at this
    have z3 : (((3 : Nat) : Int) == 3) = true := rfl
    cases e2 : (u.getD i 0 == u.getD (i + 2) 0) with
    | false =>
     right
     have ne : ¬ zD u v i := fun z => absurd z.2.1 (by simpa using e2)
     rcases fst with ⟨p1, p2⟩ | ⟨p1, p2⟩ <;>
     ·simp only [bw, bools, hJ2, c3, <- hT3, hI3, x1, x2, n1, hI4, c4, <- hT5, ad, q2, p1, hI6, p2, c5, <- hT7, v7, List.length_map, l3, z3, y0, y2, e2]
      exact ⟨_, _, rfl, kT7, fun _ => ⟨hh, ne⟩⟩
    | true =>
     cases e3 : (qd u i == 1) with
     | false =>
      right
      have ne : ¬ zD u v i := fun z => absurd z.2.2.1 (by simpa using e3)
      have e3 : ((if u.getD i 0 - u.getD (i + 1) 0 < 0 then -(u.getD i 0 - u.getD (i + 1) 0) else u.getD i 0 - u.getD (i + 1) 0) == 1) = false := e3
      rcases fst with ⟨p1, p2⟩ | ⟨p1, p2⟩ <;>
      ·simp only [bw, bools, hJ2, c3, <- hT3, hI3, x1, x2, n1, hI4, c4, <- hT5, ad, q2, p1, hI6, p2, c5, <- hT7, v7, List.length_map, l3, z3, y0, y1, y2, e2, e3]
       exact ⟨_, _, rfl, kT7, fun _ => ⟨hh, ne⟩⟩
     | true =>
      have f3 : qd u i = 1 := by simpa using e3
      have e3 : ((if u.getD i 0 - u.getD (i + 1) 0 < 0 then -(u.getD i 0 - u.getD (i + 1) 0) else u.getD i 0 - u.getD (i + 1) 0) == 1) = true := e3
      have c6 : eN (u.map A.int) (some ((i : Int) + 3)) none = (u.drop (i + 3)).map .int := by
       rw [show (i : Int) + 3 = ((i + 3 : Nat) : Int) by omega, cutD _ _ (by omega), List.map_drop]
      obtain ⟨U3, hU3⟩ : ∃ U3, U3 = T7 ++ [O.lst ((v.drop i).map .int)] := ⟨_, rfl⟩
      obtain ⟨U4, hU4⟩ : ∃ U4, U4 = U3 ++ [O.lst [.int (u.getD (i + 1) 0), .int (u.getD i 0), .int (u.getD (i + 1) 0)]] := ⟨_, rfl⟩
      obtain ⟨U5, hU5⟩ : ∃ U5, U5 = U4 ++ [O.lst ((u.drop (i + 3)).map .int)] := ⟨_, rfl⟩
      obtain ⟨U6, hU6⟩ : ∃ U6, U6 = U5 ++ [O.lst (([u.getD (i + 1) 0, u.getD i 0, u.getD (i + 1) 0] ++ u.drop (i + 3)).map .int)] := ⟨_, rfl⟩
      have j3 : b5 T7 U3 := by rw [hU3]; exact Kp.refl.lay
      have j4 : b5 U3 U4 := by rw [hU4]; exact Kp.refl.lay
      have j5 : b5 U4 U5 := by rw [hU5]; exact Kp.refl.lay
      have j6 : b5 U5 U6 := by rw [hU6]; exact Kp.refl.lay
      have w7 := j3.lst _ _ (fun z => z) v7
      have g4 := j4.lst _ _ (fun z => z) (j3.lst _ _ (fun z => z) hI7)
      have m1 : newL [.int (u.getD (i + 1) 0), .int (u.getD i 0), .int (u.getD (i + 1) 0)] U3 = .ok (.ref U3.length) U4 := by rw [hU4]; exact bB (show 3 <= 16777216 by decide)
      have r3 : au U3 T7.length = some ((v.drop i).map .int) := by rw [hU3]; exact aK
      have r4 : au U4 U3.length = some (([u.getD (i + 1) 0, u.getD i 0, u.getD (i + 1) 0]).map .int) := by rw [hU4]; exact aK
      have r5 : au U5 U4.length = some ((u.drop (i + 3)).map .int) := by rw [hU5]; exact aK
      have r6 : au U6 U5.length = some (([u.getD (i + 1) 0, u.getD i 0, u.getD (i + 1) 0] ++ u.drop (i + 3)).map .int) := by rw [hU6]; exact aK
      have ad2 : aW (.ref U3.length) (.ref U4.length) U5 = .ok (.ref U5.length) U6 := by
       rw [jC (j5.lst _ _ (fun z => z) r4) r5 (by rw [List.length_map, List.length_map, List.length_drop]; show 3 + _ <= _; omega), hU6, List.map_append]
      have q3 : iW false (.ref T7.length) (.ref U5.length) U6 = .ok (.bl (decide (v.drop i = [u.getD (i + 1) 0, u.getD i 0, u.getD (i + 1) 0] ++ u.drop (i + 3)))) U6 :=
       lT (tX (((j4.trans j5).trans j6).lst _ _ (fun z => z) r3) r6)
      have kU6 : b5 T U6 := kT7.trans (((j3.trans j4).trans j5).trans j6)
      by_cases e4 : v.drop i = [u.getD (i + 1) 0, u.getD i 0, u.getD (i + 1) 0] ++ u.drop (i + 3)
      ·left
       rw [decide_eq_true e4] at q3
       rcases fst with ⟨p1, p2⟩ | ⟨p1, p2⟩ <;>
       ·simp only [bw, bools, hJ2, c3, <- hT3, hI3, x1, x2, n1, hI4, c4, <- hT5, ad, q2, p1, hI6, p2, c5, <- hT7, v7, List.length_map, l3, z3, y0, y1, y2, e2, e3, hJ7, <- hU3, w7, m1, g4, c6, <- hU5, ad2, q3]
        exact ⟨_, rfl, kU6⟩
      ·right
       have ne : ¬ zD u v i := fun z => e4 z.2.2.2
       rw [decide_eq_false e4] at q3
       rcases fst with ⟨p1, p2⟩ | ⟨p1, p2⟩ <;>
       ·simp only [bw, bools, hJ2, c3, <- hT3, hI3, x1, x2, n1, hI4, c4, <- hT5, ad, q2, p1, hI6, p2, c5, <- hT7, v7, List.length_map, l3, z3, y0, y1, y2, e2, e3, hJ7, <- hU3, w7, m1, g4, c6, <- hU5, ad2, q3]
        exact ⟨_, _, rfl, kU6, fun _ => ⟨hh, ne⟩⟩
   ·right
    have ne : ¬ zD u v i := fun z => e1 z.1
    have l3 : (((((u.drop i).take 3).length : Nat) : Int) == 3) = false := by
     rw [beq_eq_false_iff_ne, List.length_take, List.length_drop]; omega
    rcases fst with ⟨p1, p2⟩ | ⟨p1, p2⟩ <;>
    ·simp only [bw, bools, hJ2, c3, <- hT3, hI3, x1, x2, n1, hI4, c4, <- hT5, ad, q2, p1, hI6, p2, c5, <- hT7, v7, List.length_map, l3]
     exact ⟨_, _, rfl, kT7, fun _ => ⟨hh, ne⟩⟩
 ·right
  rw [decide_eq_false c]
  simp only [bw, bools]
  exact ⟨_, _, rfl, k2, fun z => absurd z c⟩
theorem Hr {a b : List Nat} (h : Mv a b) : ∃ p, p + 1 < a.length /\ (up a).take p = (up b).take p /\ (GI (up a) (up b) p \/ zD (up a) (up b) p) := by
 cases h with
 | comm P R x y h =>
  refine ⟨P.length, by simp, by simp [up], .inl ⟨?_, ?_⟩⟩
  ·rw [Rd.cU, Rd.cU]
   simp [up, List.getD_eq_getElem?_getD, List.getElem?_append_right, List.drop_append]
  ·rw [Rd.nO, Rd.zb, show (P ++ x :: y :: R).getD (P.length + 1) 0 = y by simp [List.getD_eq_getElem?_getD, List.getElem?_append_right]]
   split <;> omega
 | braid P R x y h =>
  refine ⟨P.length, by simp, by simp [up], .inr ⟨by simp [up], ?_, ?_, ?_⟩⟩
  ·rw [Rd.cU, Rd.cU]
   simp [List.getD_eq_getElem?_getD, List.getElem?_append_right]
  ·rw [Rd.nO, Rd.zb, show (P ++ x :: y :: x :: R).getD (P.length + 1) 0 = y by simp [List.getD_eq_getElem?_getD, List.getElem?_append_right]]
   split <;> omega
  ·rw [Rd.cU, Rd.cU]
   simp [up, List.getD_eq_getElem?_getD, List.getElem?_append_right, List.drop_append]
theorem DF {S : aH} {I J : Nat} {a b : List Nat} (hI : au S I = some ((up a).map .int)) (hJ : au S J = some ((up b).map .int)) (h : Mv a b) (hl : a.length <= 100) : ∃ S', cz [.ref I, .ref J] S = .ok (.bl true) S' /\ b5 S S' := by
 obtain ⟨p, hp, ht, hh⟩ := Hr h
 have Ig := (Rd.oS h).1
 have lu := Rd.iO a
 have lv := Rd.iO b
 generalize up a = u at *
 generalize up b = v at *
 unfold cz gm iV
 simp only [bw, bools, dW, Nat.reduceAdd, Nat.reduceSub]
 refine gI (lo := 0) (hi := (u.length : Int) - 1) (S1 := S) (show gA _ _ = _ from dD (by simp only [bw, bools, hI, List.length_map]) (cu (by omega) (by omega)))
  (fun i τ T => (∃ a2 a3, τ = [.ref I, .ref J, a2, a3]) /\ i <= p /\ b5 S T)
  (fun r => ∃ S', RS.end (RS.seq r _) = .ok (.bl true) S' /\ b5 S S') ⟨⟨_, _, rfl⟩, Nat.zero_le _, Kp.refl⟩ ?_ ?_
 ·rintro i τ T hi ⟨⟨a2, a3, rfl⟩, hip, kp⟩
  have hI1 := kp.lst _ _ (fun z => z) hI
  have hJ1 := kp.lst _ _ (fun z => z) hJ
  have eτ : ([.ref I, .ref J, a2, a3] : List A).set 2 (.int (0 + (i : Int))) = [.ref I, .ref J, .int i, a3] := by rw [Int.zero_add]; rfl
  rw [eτ]
  rcases FG (T := T) (i := i) (a3 := a3) hI1 hJ1 (by omega) (by omega) with ⟨S', e, k⟩ | ⟨a3', S', e, k, no⟩
  ·exact .inr ⟨_, _, e, S', rfl, kp.trans k⟩
  ·refine .inl ⟨_, _, e, ⟨_, _, rfl⟩, ?_, kp.trans k⟩
   rcases Nat.lt_or_ge i p with z | z
   ·exact z
   ·have : i = p := by omega
    subst this
    rcases hh with z | z
    ·exact absurd z (no ht).1
    ·exact absurd z (no ht).2
 ·rintro τ T ⟨_, hip, kp⟩
  exfalso
  omega
theorem Ci {S : aH} {I J : Nat} {u v : List Int} (hI : au S I = some (u.map .int)) (hJ : au S J = some (v.map .int)) (hl : u.length <= 100) : ∃ t S', cz [.ref I, .ref J] S = .ok (.bl t) S' /\ b5 S S' := by
 unfold cz gm iV
 simp only [bw, bools, dW, Nat.reduceAdd, Nat.reduceSub]
 refine gI (lo := 0) (hi := (u.length : Int) - 1) (S1 := S) (show gA _ _ = _ from dD (by simp only [bw, bools, hI, List.length_map]) (cu (by omega) (by omega)))
  (fun i τ T => (∃ a2 a3, τ = [.ref I, .ref J, a2, a3]) /\ b5 S T)
  (fun r => ∃ t S', RS.end (RS.seq r _) = .ok (.bl t) S' /\ b5 S S') ⟨⟨_, _, rfl⟩, Kp.refl⟩ ?_ ?_
 ·rintro i τ T hi ⟨⟨a2, a3, rfl⟩, kp⟩
  have hI1 := kp.lst _ _ (fun z => z) hI
  have hJ1 := kp.lst _ _ (fun z => z) hJ
  have eτ : ([.ref I, .ref J, a2, a3] : List A).set 2 (.int (0 + (i : Int))) = [.ref I, .ref J, .int i, a3] := by rw [Int.zero_add]; rfl
  rw [eτ]
  rcases FG (T := T) (i := i) (a3 := a3) hI1 hJ1 (by omega) (by omega) with ⟨S', e, k⟩ | ⟨a3', S', e, k, no⟩
  ·exact .inr ⟨_, _, e, _, S', rfl, kp.trans k⟩
  ·exact .inl ⟨_, _, e, ⟨_, _, rfl⟩, kp.trans k⟩
 ·rintro τ T ⟨⟨a2, a3, rfl⟩, kp⟩
  simp only [bw, bools]
  exact ⟨_, _, rfl, kp⟩
end K10
namespace K10
open PySem L2 Am
open Ti (Mv Con Red)
open Rd (Bf En d9 up tF tD qd chg oN mL)
open Fw (jO Va rg)
theorem Bv {S : aH} {i : Int} : eg [.int i] S = .ok (.bl true) S := by
 unfold eg jR n8
 simp only [bw, bools, dW, Nat.reduceAdd, Nat.reduceSub, show o7 .int "int" = some true from rfl, show o7 .int "bool" = some false from rfl, Bool.not_false]
theorem Ch.at : ∀ {R : List (List Nat)} {i : Nat}, Ch R -> i + 1 < R.length -> Mv (R.getD i []) (R.getD (i + 1) [])
 | [], _, _, h => absurd h (by simp)
 | [_], _, _, h => absurd h (by simp)
 | a :: b :: l, 0, h, _ => h.1
 | a :: b :: l, i + 1, h, hi => Ch.at (R := b :: l) h.2 (by simpa using hi)
theorem mV (R : List (List Nat)) (i : Nat) : (R.map up).getD i [] = up (R.getD i []) := by
 rw [List.getD_eq_getElem?_getD, List.getElem?_map, List.getD_eq_getElem?_getD]
 cases R[i]? <;> rfl
theorem Ch.lens {R : List (List Nat)} {s : List Nat} (h : Ch R) (h0 : R.head? = some s) : ∀ i, i < R.length -> (R.getD i []).length = s.length
 | 0, hi => by
  cases R with
  | nil => cases h0
  | cons a l =>
   have : a = s := by simpa using h0
   rw [<- this]; rfl
 | i + 1, hi => by rw [(Rd.oS (h.at hi)).1]; exact Ch.lens h h0 i (by omega)
open Ti (Mv Con Red)
open Rd (Bf En d9 up tF tD qd chg oN mL)
open Fw (jO Va rg)
theorem IA {n : Nat} {xs : List A} {g : Tg} {c : Sm} {src : Ic} {τ : List A} {S S1 : aH} (hs : src τ S = .ok (nZ n xs.length) S1) (Inv : Nat -> List A -> aH -> Prop) (Post : RS -> Prop) (h0 : Inv 0 τ S1) (hl : ∀ i τ S, Inv i τ S -> au S n = some xs)
  (step : ∀ (i : Nat) x τ S, xs[i]? = some x -> Inv i τ S -> ∃ τ1 S1, g (.tup [.int i, x]) τ S = .ok τ1 S1 /\ ((∃ τ' S', c τ1 S1 = .nx τ' S' /\ Inv (i + 1) τ' S') \/ (∃ a S', c τ1 S1 = .rt a S' /\ Post (.rt a S'))))
  (fin : ∀ τ S, Inv xs.length τ S -> Post (.nx τ S)) : Post (gP src g c τ S) := by
 unfold gP
 rw [hs]
 refine o6 (s := nZ n xs.length) Inv Post (fun i τ S hi' h => ?_) (fun τ S h => ⟨?_, fin τ S h⟩) _ 0 τ S1 rfl h0
 ·have hi' : i < xs.length := hi'
  obtain ⟨τ1, S1, e, q⟩ := step i xs[i] τ S (List.getElem?_eq_getElem hi') h
  exact ⟨.tup [.int i, xs[i]], τ1, S1, by show (au S n).bind _ = _; rw [hl i τ S h, Option.bind_some, List.getElem?_eq_getElem hi']; rfl, e, q⟩
 ·show (match au S n with
   | some ys => decide (ys.length = xs.length)
   | none => false) = true
  rw [hl _ τ S h]
  simp
def Ig (T : List (List Int)) : List (List Int) := (List.range T.length).map fun j => T.getD j [] ++ [(j : Int) + 100]
theorem oK (T : List (List Int)) : (Ig T).length = T.length := by unfold Ig; rw [List.length_map, List.length_range]
theorem yt {T : List (List Int)} {j : Nat} (h : j < T.length) : (Ig T).getD j [] = T.getD j [] ++ [(j : Int) + 100] := by
 unfold Ig
 rw [List.getD_eq_getElem?_getD, List.getElem?_map, List.getElem?_range h]; rfl
theorem E3 {S : aH} {n m : Nat} {rs qs : List Nat} {T U : List (List Int)} (h : au S n = some (rs.map .ref)) (h1 : Rows S rs T) (h' : au S m = some (qs.map .ref)) (h2 : Rows S qs U) : mC S 12 (.ref n) (.ref m) = some (decide (T = U)) := by
 show (au S n).bind (fun xs => (au S m).bind fun ys => jd (mC S 11) xs ys) = _
 rw [h, Option.bind_some, h', Option.bind_some]
 exact ny h1 h2
theorem Bc {ps : List Nat} {x j : Nat} (h : j < ps.length) : (ps ++ [x]).getD j 0 = ps.getD j 0 := by
 rw [List.getD_eq_getElem?_getD, List.getElem?_append_left h, List.getD_eq_getElem?_getD]
theorem C4 {ps : List Nat} {x : Nat} : (ps ++ [x]).getD ps.length 0 = x := by
 rw [List.getD_eq_getElem?_getD, List.getElem?_append_right (Nat.le_refl _), Nat.sub_self]; rfl
theorem BR {S : aH} {V : Nat} {rs : List Nat} {T : List (List Int)} (tb : Tab S V rs T) (hT : T.length <= 16777216) (hr : ∀ i, i < T.length -> (T.getD i []).length <= 100) : ∃ S', fE [.ref V] S = .ok (.bl true) S' /\ Kp (· ∈ rs) S S' := by
 have hlen := tb.len
 have hlt := tb.rows.lt
 have hVr : V ∉ rs := (List.nodup_cons.mp tb.nd).1
 have hnd : rs.Nodup := (List.nodup_cons.mp tb.nd).2
 obtain ⟨qs, m, S1, e1, t1, k1, hq⟩ := zg (cap := []) (src := j8 (ah 0)) (τ := [.ref V, .unb, .unb, .unb]) tb (jm (by simp only [bw, bools]) tb.top) hT
 have tb1 := tb.GK k1
 unfold fE kc om
 simp only [bw, bools, dW, Nat.reduceAdd, Nat.reduceSub, e1]
 refine IA (n := V) (xs := rs.map .ref) (S1 := S1) (show kW _ _ = _ from xQ (by simp only [bw, bools]) tb1.top)
  (fun i τ S2 => (∃ a2 a3, τ = [.ref V, .ref m, a2, a3]) /\ au S2 V = some (rs.map .ref) /\ (∀ j r, rs[j]? = some r -> au S2 r = some ((T.getD j [] ++ if j < i then [(j : Int) + 100] else []).map .int)) /\ Kp (· ∈ rs) S1 S2)
  (fun r => ∃ S', RS.end (RS.seq r _) = .ok (.bl true) S' /\ Kp (· ∈ rs) S S') ⟨⟨_, _, rfl⟩, tb1.top, fun j r hj => ?_, Kp.refl⟩ (fun i τ S2 h => h.2.1) ?_ ?_
 ·rw [if_neg (Nat.not_lt_zero _), List.append_nil]; exact (tb1.rows.get hj).2
 ·rintro i z τ S2 hz ⟨⟨a2, a3, rfl⟩, hV, hrow, kp⟩
  rw [List.getElem?_map] at hz
  obtain ⟨r, hr', rfl⟩ := Option.map_eq_some_iff.mp hz
  have hi := (tb.rows.get hr').1
  have hw := hrow i r hr'
  rw [if_neg (Nat.lt_irrefl _), List.append_nil] at hw
  refine ⟨[.ref V, .ref m, .int i, .ref r], S2, by simp only [bw, bools, dF (show ([_, _] : List A).length = 2 from rfl)], .inl ?_⟩
  have hl := hr i hi
  unfold kT
  simp only [bw, bools, hw, List.length_map, uO (show (T.getD i []).length < 16777216 by omega)]
  have rV : r ≠ V := fun z => hVr (z ▸ List.mem_of_getElem? hr')
  refine ⟨_, _, rfl, ⟨_, _, rfl⟩, by rw [bz rV]; exact hV, fun j q hj => ?_, kp.set (.inl (List.mem_of_getElem? hr'))⟩
  by_cases c : j = i
  ·subst c
   have : q = r := by rw [hr'] at hj; exact (Option.some.inj hj).symm
   subst this
   rw [cH (bH hw), if_pos (Nat.lt_succ_self _), List.map_append]; rfl
  ·have ne : r ≠ q := fun z => by
    subst z
    obtain ⟨x1, x2⟩ := List.getElem?_eq_some_iff.mp hr'
    obtain ⟨y1, y2⟩ := List.getElem?_eq_some_iff.mp hj
    exact c ((List.getElem_inj hnd).mp (y2.trans x2.symm))
   rw [bz ne, hrow j q hj]
   congr 3
   by_cases z : j < i
   ·rw [if_pos z, if_pos (by omega)]
   ·rw [if_neg z, if_neg (by omega)]
 ·rintro τ S2 ⟨⟨a2, a3, rfl⟩, hV, hrow, kp⟩
  have t2 : Tab S2 m qs T := t1.kp kp fun r hr z => by
   have := hq r hr
   have := hlt r z
   omega
  have rows2 : Rows S2 rs (Ig T) := Rows.mk (by rw [oK, hlen]) fun j hj => by
   rw [oK] at hj
   have hj' : rs[j]? = some (rs.getD j 0) := by rw [List.getD_eq_getElem?_getD, List.getElem?_eq_getElem (by omega)]; rfl
   have := hrow j _ hj'
   rw [List.length_map, if_pos (show j < rs.length by omega)] at this
   rw [this, yt hj]
  have hq2 := t2.len
  obtain ⟨ys, S3, g1, ps, hps, hpl, hpr, k3⟩ := mZ (s := nZ m qs.length) (g := wG 2 (oq (bJ 0) (oq (bJ 1) (yE)))) (e := aA aW (ah 1) (gr (aq (aA aW (ah 0) (eC (.int 100))) (aM)))) (T := fun τ => ∃ y z, τ = [y, z])
   (fun i acc S' => ∃ ps : List Nat, acc = ps.map .ref /\ ps.length = i /\ (∀ j, j < i -> au S' (ps.getD j 0) = some ((T.getD j [] ++ [(j : Int) + 100]).map .int)) /\ b5 S2 S')
   (fun i acc τ S' hi ⟨y, z, hy⟩ ⟨ps, ha, hpl, hpr, kp'⟩ => by
    have hi : i < qs.length := hi
    subst hy
    have ri : qs[i]? = some (qs.getD i 0) := by rw [List.getD_eq_getElem?_getD, List.getElem?_eq_getElem hi]; rfl
    have wi := kp'.lst _ _ (fun z => z) (t2.rows.get ri).2
    have tS := kp'.lst _ _ (fun z => z) t2.top
    have hl := hr i (by omega)
    have n1 : newL [.int ((i : Int) + 100)] S' = .ok (.ref S'.length) (S' ++ [O.lst [.int ((i : Int) + 100)]]) := bB (show 1 <= 16777216 by decide)
    have ad : aW (.ref (qs.getD i 0)) (.ref S'.length) (S' ++ [O.lst [.int ((i : Int) + 100)]]) = .ok (.ref (S' ++ [O.lst [.int ((i : Int) + 100)]]).length) (S' ++ [O.lst [.int ((i : Int) + 100)]] ++ [.lst ((T.getD i [] ++ [(i : Int) + 100]).map .int)]) := by
     rw [jC (aZ wi) aK (by rw [List.length_map]; show _ + 1 <= _; omega), List.map_append]; rfl
    refine ⟨.tup [.int i, .ref (qs.getD i 0)], [.int i, .ref (qs.getD i 0)], S', .ref (S' ++ [O.lst [.int ((i : Int) + 100)]]).length, S' ++ [O.lst [.int ((i : Int) + 100)]] ++ [.lst ((T.getD i [] ++ [(i : Int) + 100]).map .int)], ?_, by simp only [bw, bools, dF (show ([_, _] : List A).length = 2 from rfl)], ⟨_, _, rfl⟩, by simp only [bw, bools, n1, ad], ps ++ [(S' ++ [O.lst [.int ((i : Int) + 100)]]).length], by rw [ha, List.map_append]; rfl, by simp [hpl], fun j hj => ?_, kp'.lay.lay⟩
    ·show (au S' m).bind _ = _
     rw [tS, Option.bind_some, List.getElem?_map, ri]; rfl
    ·by_cases z : j < i
     ·rw [Bc (show j < ps.length by omega)]
      exact aZ (aZ (hpr j z))
     ·have : j = i := by omega
      subst this
      rw [show j = ps.length from hpl.symm, C4, hpl]
      exact aK)
   (fun acc S' ⟨_, _, _, _, kp'⟩ => by
    show (match au S' m with
     | some ys => decide (ys.length = qs.length)
     | none => false) = true
    rw [kp'.lst _ _ (fun z => z) t2.top]
    simp)
   qs.length 0 [] (eW [none, none] [.ref V, .ref m, a2, a3]) S2 rfl ⟨_, _, rfl⟩ ⟨[], rfl, rfl, fun j hj => absurd hj (Nat.not_lt_zero _), Kp.refl⟩
  have hps : ys = ps.map .ref := hps
  have hpl : ps.length = qs.length := hpl
  have hpr : ∀ j, j < qs.length -> _ := hpr
  have ec : cJ [none, none] (wm (ah 1)) (wG 2 (oq (bJ 0) (oq (bJ 1) (yE)))) iw (aA aW (ah 1) (gr (aq (aA aW (ah 0) (eC (.int 100))) (aM)))) [.ref V, .ref m, a2, a3] S2 = .ok (.ref S3.length) (S3 ++ [.lst (ps.map .ref)]) := by
   unfold cJ
   have hs : wm (ah 1) [.ref V, .ref m, a2, a3] S2 = .ok (nZ m qs.length) S2 := by
    have := xQ (c := ah 1) (τ := [.ref V, .ref m, a2, a3]) (S := S2) (S1 := S2) (by simp only [bw, bools]) t2.top
    rw [List.length_map] at this; exact this
   rw [hs, R.fO]
   show R.c_ (cK (nZ m qs.length) _ _ _ qs.length 0 _ _) _ = _
   rw [g1, R.bO, bB (by rw [hps, List.length_map]; omega), hps]
  have rows3 : Rows (S3 ++ [O.lst (ps.map .ref)]) ps (Ig T) := Rows.mk (by rw [oK]; omega) fun j hj => by
   rw [oK] at hj
   rw [yt hj]
   exact aZ (hpr j (by omega))
  have qq : iW false (.ref V) (.ref S3.length) (S3 ++ [O.lst (ps.map .ref)]) = .ok (.bl true) (S3 ++ [O.lst (ps.map .ref)]) := by
   rw [lT (E3 (aZ (k3.lst _ _ (fun z => z) hV)) (rows2.mono fun r _ xs e => aZ (k3.lst _ _ (fun z => z) e)) aK rows3), decide_eq_true rfl]
  simp only [bw, bools, ec, qq]
  exact ⟨_, rfl, ((k1.of0.trans kp).trans k3.of0).lay⟩
open Fw (jO Dn Two Va rg)
theorem Ed {l : List Int} {n : Nat} (hl : l.length = n) (h : ∀ k, ¬ jO l k) : fl l n = [] := by
 rw [List.eq_nil_iff_forall_not_mem]
 intro x hx
 obtain ⟨k, _, hk⟩ := (qf hl).mp hx
 exact h k hk
theorem EV {l : List Int} {n k : Nat} (hl : l.length = n) (hk : jO l k) (hm : ∀ j, jO l j -> k <= j) : ∃ t, fl l n = (k : Int) :: t := by
 have hin : (k : Int) ∈ fl l n := (qf hl).mpr ⟨k, rfl, hk⟩
 have pw : (fl l n).Pairwise (· <= ·) := (sL 1 (n : Int)).sublist List.filter_sublist
 have hmem : ∀ x ∈ fl l n, (k : Int) <= x := fun x hx => by
  obtain ⟨j, rfl, hj⟩ := (qf hl).mp hx
  have := hm j hj
  omega
 cases e : fl l n with
 | nil => rw [e] at hin; cases hin
 | cons y t =>
  rw [e] at hin pw hmem
  have h1 := hmem y (List.mem_cons_self ..)
  have : y = (k : Int) := by
   rcases List.mem_cons.mp hin with z | z
   ·exact z.symm
   ·have := (List.pairwise_cons.mp pw).1 _ z; omega
  exact ⟨t, by rw [this]⟩
theorem JW {S : aH} {n : Nat} {xs : List A} (h : au S n = some xs) : A.IZ (.ref n) S = some (!xs.isEmpty) := by
 show (au S n).map _ = _
 rw [h]; rfl
theorem Ei (w : List Nat) (k : Nat) : wd w ++ [A.int (k : Int)] = wd (w ++ [k]) := by unfold wd; rw [List.map_append]; rfl
theorem Jy {S : aH} {o u : List Int} {n : Nat} {ks : List Nat} (px : o.Perm (aS 1 ((n : Int) + 1))) (h2 : n <= 20) (hu : Bl.gB o u) (hk : Dn u ks) :
  ∃ (W : Nat) (S' : aH), er [.tup (o.map .int)] S = .ok (.ref W) S' /\ au S' W = some (wd ks) /\ S.length <= W /\ b5 S S' := by
 obtain ⟨ys, S1, e1, hb, py, k1⟩ := Et (S := S) px (show n <= 1000 by omega)
 have eyu : ys = u := by
  have l1 := hb.1
  have l2 := hu.1
  apply List.ext_getElem?
  intro q
  by_cases hq : q < u.length
  ·have lo := gx px
   obtain ⟨p, hp, ep⟩ : ∃ p, ∃ h : p < o.length, o[p] = (q : Int) + 1 := by
    have : (q : Int) + 1 ∈ o := px.mem_iff.mpr (cG.mpr ⟨by omega, by omega⟩)
    obtain ⟨p, hp, ep⟩ := List.getElem_of_mem this
    exact ⟨p, hp, ep⟩
   have a1 := hb.2 p hp
   have a2 := hu.2 p hp
   rw [ep, show ((q : Int) + 1 - 1).toNat = q by omega] at a1 a2
   rw [a1, a2]
  ·rw [List.getElem?_eq_none (by omega), List.getElem?_eq_none (by omega)]
 subst eyu
 have lu := gx py
 have hks : ks.length <= 400 := by
  rw [hk.len]
  have := Iv.Dr ys
  rw [lu] at this
  exact Nat.le_trans this (Nat.mul_le_mul h2 h2)
 have f0 := uE (S := S1 ++ [.lst []]) (xs := ys) lu h2
 have l1 : (S1 ++ [O.lst []]).length = S1.length + 1 := by simp
 have key := g_ (t := iz) (c := ig)
  (fun τ T => ∃ (C : Nat) (l : List Int) (done rest : List Nat), τ = [.tup (o.map .int), .tup (l.map .int), .ref S1.length, .ref C] /\ ks = done ++ rest /\ Dn l rest /\ l.Perm (aS 1 ((n : Int) + 1)) /\ au T S1.length = some (wd done) /\ au T C = some ((fl l n).map .int) /\ C ≠ S1.length /\ b5 S1 T)
  (fun τ T => ks.length - ((au T S1.length).getD []).length)
  (fun r => ∃ (W : Nat) (S' : aH), RS.end (RS.seq r (bM (ah 2))) = .ok (.ref W) S' /\ au S' W = some (wd ks) /\ S.length <= W /\ b5 S S') ?_ 100000000
 ·unfold er jB nh
  simp only [bw, Fq, bools, dW, Nat.reduceAdd, Nat.reduceSub, e1, f0]
  refine key _ _ ⟨(S1 ++ [O.lst []]).length, ys, [], ks, rfl, rfl, hk, py, aZ aK, aK, by omega, Kp.refl.lay.lay⟩ (by omega)
 ·rintro τ T ⟨C, l, done, rest, rfl, hd, hdn, pl, hW, hC, hne, kp⟩
  have ll := gx pl
  unfold iz
  simp only [bw, bools, JW hC]
  cases rest with
  | nil =>
   left
   rw [Ed ll hdn]
   rw [List.append_nil] at hd
   refine ⟨T, rfl, S1.length, T, ?_, by rw [hd]; exact hW, k1.len, k1.trans kp⟩
   simp only [bw, bools]
  | cons k rest =>
   right
   obtain ⟨t, ht⟩ := EV ll hdn.1.1 hdn.1.2
   rw [ht] at hC
   rw [ht]
   refine ⟨T, rfl, .inl ?_⟩
   have hk1 := hdn.1.1
   have a0 : d8 ((((k : Int) :: t).map A.int)) 0 = some (.int k) := za
   have hdl : done.length < ks.length := by rw [hd, List.length_append, List.length_cons]; omega
   have lW := bH hW
   have hC' : au (T.set S1.length (.lst (wd (done ++ [k])))) C = some (((k : Int) :: t).map .int) := by rw [bz (Ne.symm hne)]; exact hC
   obtain ⟨T2, e2, kp2⟩ := sX (S := T.set S1.length (.lst (wd (done ++ [k])))) (xs := l) (k := k) hk1.1 hk1.2.1 (by omega)
   have hx : (Wd.ex l k).length = n := by rw [Wd.bN]; exact ll
   have f1 := uE (S := T2) (xs := Wd.ex l k) hx h2
   unfold ig
   simp only [bw, Fq, bools, hC, a0, hW, uO (show (wd done).length < 16777216 by rw [List.length_map]; omega), Ei, hC', e2, f1]
   have hW2 : au (T2 ++ [O.lst ((fl (Wd.ex l k) n).map A.int)]) S1.length = some (wd (done ++ [k])) := aZ (kp2.lst _ _ (fun z => z) (cH lW))
   have lt2 : T.length <= T2.length := by have := kp2.len; rwa [List.length_set] at this
   refine ⟨_, _, rfl, ⟨T2.length, Wd.ex l k, done ++ [k], rest, rfl, by rw [hd, List.append_assoc]; rfl, hdn.2, Fw.kC pl hk1.1 hk1.2.1, hW2, aK, by omega, ((kp.set (.inr (Nat.le_refl _))).trans kp2).lay⟩, ?_⟩
   simp only [hW2, hW, Option.getD_some]
   simp only [List.length_map, List.length_append, List.length_cons, List.length_nil]
   omega
theorem zx {xs : List Int} {i n : Int} : (((aS (i + 1) n).filter fun j => decide (xs.getD i.toNat 0 > xs.getD j.toNat 0)).map fun j => A.tup [.int (i + 1), .int (j + 1)]) = (je (i + 1) (n + 1)).filter (wg xs) := by
 unfold je
 have e : aS (i + 1 + 1) (n + 1) = (aS (i + 1) n).map (· + 1) := by
  unfold aS
  rw [List.map_map, show n + 1 - (i + 1 + 1) = n - (i + 1) by omega]
  refine List.map_congr_left fun q _ => ?_
  show i + 1 + 1 + (q : Int) = i + 1 + (q : Int) + 1
  omega
 rw [e, List.map_map, List.filter_map]
 congr 1
 refine List.filter_congr fun j _ => ?_
 show _ = decide (xs.getD (i + 1 - 1).toNat 0 > xs.getD (j + 1 - 1).toNat 0)
 rw [show i + 1 - 1 = i by omega, show j + 1 - 1 = j by omega]
theorem CK {S : aH} {n m : Nat} {xs ys : List A} (h1 : au S n = some xs) (h2 : au S m = some ys) (h3 : xs.length + ys.length <= 16777216) : o4 (.ref n) [.ref m] S = .ok .non (S.set n (.lst (xs ++ ys))) := by
 show opt (au S n) _ = _
 rw [h1]
 show opt (au S m) _ = _
 rw [h2]
 exact DH h3
theorem yi {i hi : Int} (h0 : 0 <= i) (h : hi <= 21) : (je i hi).length <= 20 := by
 unfold je; rw [List.length_map, cP]; omega
theorem Ks {S : aH} {n : Nat} {xs : List Int} (hlen : xs.length = n) (h1 : 1 <= n) (h2 : n <= 20) : ∃ (D : Nat) (S' : aH), fH [.tup (xs.map .int)] S = .ok (.ref D) S' /\ au S' D = some ((prs n).filter (wg xs)) /\ b5 S S' := by
 unfold fH ki oz
 simp only [bw, bools, dW, Nat.reduceAdd, Nat.reduceSub, List.length_map, hlen]
 refine gI (lo := 0) (hi := (n : Int)) (S1 := S ++ [.lst []]) (show lH _ _ = _ from dD (by simp only [bw, bools]) (cu (by omega) (by omega)))
  (fun t τ S1 => (∃ a3, τ = [.tup (xs.map .int), .int n, .ref S.length, a3]) /\ au S1 S.length = some (((aS 1 (1 + (t : Int))).flatMap fun i => je i ((n : Int) + 1)).filter (wg xs)) /\ b5 S S1)
  (fun r => ∃ (D : Nat) (S' : aH), RS.end (RS.seq r _) = .ok (.ref D) S' /\ au S' D = some ((prs n).filter (wg xs)) /\ b5 S S') ⟨⟨_, rfl⟩, ?_, Kp.refl.lay⟩ ?_ ?_
 ·rw [aK]; rfl
 ·rintro t τ S1 ht ⟨⟨a3, rfl⟩, hL, kp⟩
  left
  have hb : (((aS 1 (1 + (t : Int))).flatMap fun i => je i ((n : Int) + 1)).filter (wg xs)).length <= 1000 := by
   have q1 := List.length_filter_le (wg xs) ((aS 1 (1 + (t : Int))).flatMap fun i => je i ((n : Int) + 1))
   have q2 := pL (B := 20) (f := fun i => je i ((n : Int) + 1)) (aS 1 (1 + (t : Int))) fun x hx => yi (by have := cG.mp hx; omega) (by omega)
   rw [cP] at q2
   have q3 : (1 + (t : Int) - 1).toNat * 20 <= 20 * 20 := Nat.mul_le_mul_right _ (by omega)
   omega
  have x0 : d8 (xs.map A.int) (0 + (t : Int)) = some (.int (xs.getD (0 + (t : Int)).toNat 0)) := FP (by omega) (by omega)
  have ec := iY (lo := 0 + (t : Int) + 1) (hi := (n : Int)) (cap := [some 3, some 0]) (src := fW (aA aW (ah 3) (eC (.int 1))) (ah 1)) (t := jf (aA sq (aA cI (ah 2) (ah 1)) (aA cI (ah 2) (ah 0)))) (e := jM (aq (aA aW (ah 1) (eC (.int 1))) (aq (aA aW (ah 0) (eC (.int 1))) (aM)))) (τ := [.tup (xs.map .int), .int n, .ref S.length, .int (0 + (t : Int))]) (S := S1) (S1 := S1)
   (jc (S1 := S1) (by simp only [bw, bools]) (by simp only [bw, bools]) (cu (by omega) (by omega)) (cu (by omega) (by omega)))
   (fun j => decide (xs.getD (0 + (t : Int)).toNat 0 > xs.getD j.toNat 0)) (fun j => .tup [.int (0 + (t : Int) + 1), .int (j + 1)]) (fun j g1 g2 => by
    have x2 : d8 (xs.map A.int) j = some (.int (xs.getD j.toNat 0)) := FP (by omega) (by omega)
    simp only [bw, bools, x0, x2]) (fun j _ _ _ => by simp only [bw, bools, kr (show ([_, _] : List A).length <= 16777216 by simp)]) (by omega)
  rw [zx] at ec
  have hr : ((je (0 + (t : Int) + 1) ((n : Int) + 1)).filter (wg xs)).length <= 1000 := Nat.le_trans (List.length_filter_le _ _) (Nat.le_trans (yi (by omega) (by omega)) (by decide))
  have lt := bH hL
  have ex := CK (S := S1 ++ [.lst ((je (0 + (t : Int) + 1) ((n : Int) + 1)).filter (wg xs))]) (aZ hL) aK (by omega)
  unfold lG
  simp only [bw, bools, hL, ec, ex]
  refine ⟨_, _, rfl, ⟨_, rfl⟩, ?_, kp.lay.set (.inr (Nat.le_refl _))⟩
  rw [cH (by rw [List.length_append]; exact Nat.lt_of_lt_of_le lt (Nat.le_add_right _ _)), uf, List.flatMap_append, List.filter_append, show (0 : Int) + (t : Int) + 1 = 1 + (t : Int) by omega]
  simp
 ·rintro τ S1 ⟨⟨a3, rfl⟩, hL, kp⟩
  simp only [bw, bools]
  refine ⟨_, _, rfl, ?_, kp⟩
  rw [hL, show 1 + (((n : Int) - 0).toNat : Int) = 1 + ((((n - 1) + 1 : Nat)) : Int) by omega, uf, List.flatMap_append, vc]
  have e : je (1 + ((n - 1 : Nat) : Int)) ((n : Int) + 1) = [] := by
   unfold je aS
   rw [show ((n : Int) + 1 - (1 + ((n - 1 : Nat) : Int) + 1)).toNat = 0 by omega]; rfl
  rw [show (1 : Int) + ((n - 1 : Nat) : Int) = n by omega] at e ⊢
  simp [e]
end K10
namespace K10
open PySem L2 Am
open Ti (Mv Con Red)
open Rd (Bf En d9 up tF tD qd chg oN mL)
open Fw (jO Va rg Dn Two)
inductive Lo : List Nat -> List Nat -> Prop
 | mk (P R : List Nat) (x : Nat) : Lo (P ++ x :: x :: R) (P ++ R)
def St (a b : List Nat) : Prop := Mv a b \/ Lo a b
def FC : List (List Nat) -> Prop
 | [] => True
 | [_] => True
 | a :: b :: r => St a b /\ FC (b :: r)
theorem FC.tail {a : List Nat} : ∀ {l : List (List Nat)}, FC (a :: l) -> FC l
 | [], _ => trivial
 | _ :: _, h => h.2
theorem FC.app : ∀ {a b : List (List Nat)}, FC a -> FC b -> (∀ x y, a.getLast? = some x -> b.head? = some y -> St x y) -> FC (a ++ b)
 | [], _, _, h, _ => h
 | [x], [], _, _, _ => trivial
 | [x], y :: b, _, h, k => ⟨k x y rfl rfl, h⟩
 | x :: y :: a, b, g, h, k => ⟨g.1, FC.app (a := y :: a) g.2 h fun u v hu hv => k u v (by rw [List.getLast?_cons_cons]; exact hu) hv⟩
theorem FC.of : ∀ {l : List (List Nat)} (x : List Nat), Ch l -> FC (l.map (· ++ x))
 | [], _, _ => trivial
 | [_], _, _ => trivial
 | a :: b :: l, x, h => ⟨.inl (h.1.snoc x), FC.of (l := b :: l) x h.2⟩
theorem FC.at : ∀ {R : List (List Nat)} {i : Nat}, FC R -> i + 1 < R.length -> St (R.getD i []) (R.getD (i + 1) [])
 | [], _, _, h => absurd h (by simp)
 | [_], _, _, h => absurd h (by simp)
 | a :: b :: l, 0, h, _ => h.1
 | a :: b :: l, i + 1, h, hi => FC.at (R := b :: l) h.2 (by simpa using hi)
theorem St.len {a b : List Nat} (h : St a b) : b.length <= a.length := by
 rcases h with h | h
 ·exact Nat.le_of_eq (Rd.oS h).1
 ·cases h with
  | mk P R x => simp; omega
theorem FC.lens {R : List (List Nat)} {s : List Nat} (h : FC R) (h0 : R.head? = some s) : ∀ i, i < R.length -> (R.getD i []).length <= s.length
 | 0, hi => by
  cases R with
  | nil => cases h0
  | cons a l =>
   have : a = s := by simpa using h0
   rw [<- this]; exact Nat.le_refl _
 | i + 1, hi => Nat.le_trans (h.at hi).len (FC.lens h h0 i (by omega))
theorem FU {S : aH} {n W : Nat} {w : List Nat} (hW : au S W = some (wd w)) (hv : Va n w) (hl : w.length <= 200) (h1 : 1 <= n) (h2 : n <= 20) : ∃ S', cB [.int n, .ref W] S = .ok (.bl ((Iv.inv (Wd.led (rg n) w) : Int) == (w.length : Int))) S' /\ b5 S S' := by
 obtain ⟨S1, e1, k1⟩ := Dl (S := S) hW hv hl h1 h2
 have lo : (Wd.led (aS 1 ((n : Int) + 1)) w).length = n := by rw [Wd.iD, Wd.bW]
 obtain ⟨S2, e2, k2⟩ := HE (S := S1) (n := n) (xs := Wd.led (aS 1 ((n : Int) + 1)) w) lo h2
 rw [C2 lo h1] at e2
 have hW2 : au S2 W = some (wd w) := (k1.trans k2).lst _ _ (fun z => z) hW
 unfold cB iQ lE
 simp only [bw, Fq, bools, dW, Nat.reduceAdd, Nat.reduceSub, e1, e2, hW2, List.length_map]
 exact ⟨_, rfl, k1.trans k2⟩
theorem oV {n : Nat} {w : List Nat} (hv : Va n w) : ((Iv.inv (Wd.led (rg n) w) : Int) == (w.length : Int)) = true ↔ Red n w := by
 rw [beq_iff_eq]
 exact ⟨fun h => ⟨hv, by omega⟩, fun h => by have := h.2; omega⟩
theorem BD {S : aH} {n W : Nat} {w : List Nat} (hW : au S W = some (wd w)) (hv : Va n w) (hl : w.length <= 200) (h1 : 1 <= n) (h2 : n <= 20) :
  ∃ (m : Nat) (S' : aH), bF [.int n, .ref W] S = .ok (.int m) S' /\ m <= w.length /\ Red n (w.take m) /\ (m < w.length -> ¬ Red n (w.take (m + 1))) /\ b5 S S' := by
 have key := g_ (t := dh) (c := dw)
  (fun τ T => ∃ m : Nat, τ = [.int n, .ref W, .int m] /\ m <= w.length /\ (m < w.length -> ¬ Red n (w.take (m + 1))) /\ b5 S T)
  (fun τ _ => match τ with
   | [_, _, .int m] => m.toNat
   | _ => 0)
  (fun r => ∃ (m : Nat) (S' : aH), RS.end (RS.seq r (bM (ah 2))) = .ok (.int m) S' /\ m <= w.length /\ Red n (w.take m) /\ (m < w.length -> ¬ Red n (w.take (m + 1))) /\ b5 S S') ?_ 100000000
 ·unfold bF d_ gp
  simp only [bw, bools, dW, Nat.reduceAdd, Nat.reduceSub, hW, List.length_map]
  refine key _ _ ⟨w.length, rfl, Nat.le_refl _, fun h => absurd h (Nat.lt_irrefl _), Kp.refl⟩ ?_
  show ((w.length : Int)).toNat < _
  omega
 ·rintro τ T ⟨m, rfl, hm, hno, kp⟩
  have hWT := kp.lst _ _ (fun z => z) hW
  have cut : eN (wd w) none (some (m : Int)) = wd (w.take m) := by rw [vI]; exact List.map_take.symm
  have hL : au (T ++ [O.lst (wd (w.take m))]) T.length = some (wd (w.take m)) := aK
  have hv' : Va n (w.take m) := fun k hk => hv k (List.mem_of_mem_take hk)
  have hl' : (w.take m).length <= 200 := by rw [List.length_take]; omega
  obtain ⟨U, e, kU⟩ := FU (S := T ++ [O.lst (wd (w.take m))]) hL hv' hl' h1 h2
  unfold dh
  cases c : ((Iv.inv (Wd.led (rg n) (w.take m)) : Int) == ((w.take m).length : Int)) with
  | true =>
   left
   rw [c] at e
   have hr : Red n (w.take m) := (oV hv').mp c
   refine ⟨U, by simp only [bw, bools, hWT, cut, e, Bool.not_true], m, U, by simp only [bw, bools], hm, hr, hno, kp.lay.trans kU⟩
  | false =>
   right
   rw [c] at e
   have hnr : ¬ Red n (w.take m) := fun z => by rw [(oV hv').mpr z] at c; cases c
   have hm0 : 0 < m := by
    rcases Nat.eq_zero_or_pos m with z | z
    ·subst z
     exact absurd ⟨fun k hk => absurd hk (by simp), (Fw.sI n).symm⟩ hnr
    ·exact z
   refine ⟨U, by simp only [bw, bools, hWT, cut, e, Bool.not_false], .inl ?_⟩
   unfold dw
   simp only [bw, bools]
   refine ⟨_, _, rfl, ⟨m - 1, ?_, by omega, fun _ => by rw [show m - 1 + 1 = m by omega]; exact hnr, kp.lay.trans kU⟩, ?_⟩
   ·rw [show ((m - 1 : Nat) : Int) = (m : Int) - 1 by omega]
   ·show ((m : Int) - 1).toNat < ((m : Int)).toNat
    omega
theorem down_pure {n m k : Nat} {w : List Nat} (hv : Va n w) (hm : w[m]? = some k) (hr : Red n (w.take m)) (hno : ¬ Red n (w.take (m + 1))) :
  ∃ (u : List Int) (ks : List Nat), Bl.gB (Wd.ex (Wd.led (rg n) (w.take m)) k) u /\ Dn u ks /\ Red n (ks ++ [k]) /\ Wd.led (rg n) (ks ++ [k]) = Wd.led (rg n) (w.take m) /\ ks.length + 1 = m /\ Va n ks /\ Wd.led (rg n) ks = Wd.ex (Wd.led (rg n) (w.take m)) k := by
 obtain ⟨hlt, ek⟩ := List.getElem?_eq_some_iff.mp hm
 have hkv := hv k (List.mem_of_getElem? hm)
 have hvt : Va n (w.take m) := hr.1
 have po : (Wd.led (rg n) (w.take m)).Perm (rg n) := Ti.pm hvt
 have lo : (Wd.led (rg n) (w.take m)).length = n := Ti.ln
 have e1 : Wd.led (rg n) (w.take (m + 1)) = Wd.ex (Wd.led (rg n) (w.take m)) k := by rw [List.take_succ_eq_append_getElem hlt, Wd.fQ, ek]; rfl
 have hlm : (w.take m).length = m := by rw [List.length_take]; omega
 have hi := hr.2
 have hvv : Va n (w.take m ++ [k]) := fun j hj => by
  rcases List.mem_append.mp hj with z | z
  ·exact hvt j z
  ·have : j = k := by simpa using z
   rw [this]; exact hkv
 have ev : Wd.led (rg n) (w.take m ++ [k]) = Wd.ex (Wd.led (rg n) (w.take m)) k := by rw [Wd.fQ]; rfl
 have hne := Fw.xh po hkv.1 (by omega)
 have hf : (Wd.led (rg n) (w.take m)).getD k 0 < (Wd.led (rg n) (w.take m)).getD (k - 1) 0 := by
  rcases Int.lt_or_gt_of_ne hne with z | z
  ·exfalso
   refine hno ⟨fun j hj => hv j (List.mem_of_mem_take hj), ?_⟩
   rw [e1, Fw.sQ hkv.1 (by omega) z, <- hi, hlm, List.length_take]; omega
  ·exact z
 have dn := Fw.jy hkv.1 (by omega) hf
 have hb := Wd.mT (n := n) (w.take m ++ [k]).reverse hvv.rev
 rw [List.reverse_reverse, show Wd.led (aS 1 ((n : Int) + 1)) (w.take m ++ [k]) = _ from ev] at hb
 generalize hu : Wd.led (aS 1 ((n : Int) + 1)) (w.take m ++ [k]).reverse = u at hb
 have t : Two n (Wd.ex (Wd.led (rg n) (w.take m)) k) u := ⟨Fw.kC po hkv.1 (by omega), by rw [<- hu]; exact Ti.pm hvv.rev, hb⟩
 obtain ⟨ks, hd⟩ := Fw.uX _ u (Nat.le_refl _)
 have q1 := t.led hd
 have q2 := hd.len
 have q3 := t.inv
 have q4 := hd.va
 rw [t.lu] at q4
 obtain ⟨r1, r2⟩ := Ti.lY (n := n) (i := k) (x := ks) ⟨q4, by rw [q1]; omega⟩ q1 lo ⟨hkv.1, by omega, hf⟩
 exact ⟨u, ks, hb, hd, r1, r2, by omega, q4, q1⟩
end K10
namespace K10
open PySem L2 Am
open Ti (Mv Con Red)
open Rd (Bf En d9 up tF tD qd chg oN mL)
open Fw (jO Va rg Dn Two)
theorem rC (w : List Nat) (m : Nat) : eN (wd w) none (some (m : Int)) = wd (w.take m) := by rw [vI]; exact List.map_take.symm
theorem yj (w : List Nat) (m : Nat) : eN (wd w) (some (m : Int)) none = wd (w.drop m) := by rw [vL]; exact List.map_drop.symm
theorem j9 (a b : List Nat) : wd a ++ wd b = wd (a ++ b) := List.map_append.symm
theorem fP (a : List Nat) : (wd a).length = a.length := List.length_map ..
theorem carried {S : aH} {V W m : Nat} {rs : List Nat} {R : List (List Nat)} {w : List Nat} {cap : List (Option Nat)} {τ : List A} (tb : Tab S V rs (R.map up)) (hW : au S W = some (wd w)) (hl : w.length <= 8) (hR : R.length <= 2097152) (hs : ∀ i, i < R.length -> (R.getD i []).length <= 8) (hc : eW cap τ = [.unb, .ref W, .int m]) :
  ∃ (ps : List Nat) (S' : aH), cK (eG V rs.length) (bJ 0) iw (aA aW (ah 0) (lC (ah 1) (cj (ah 2)) cE)) rs.length 0 (eW cap τ) S = .ok (ps.map .ref) S' /\ Rows S' ps ((R.map (· ++ w.drop m)).map up) /\ ps.Nodup /\ (∀ r ∈ ps, S.length <= r) /\ b5 S S' := by
 have hlen := tb.len
 rw [List.length_map] at hlen
 obtain ⟨ys, S3, g1, ps, hps, hpl, hnd, hge, hpr, k3⟩ := mZ (s := eG V rs.length) (g := bJ 0) (e := aA aW (ah 0) (lC (ah 1) (cj (ah 2)) cE)) (T := fun τ => ∃ y, τ = [y, .ref W, .int m])
  (fun i acc S' => ∃ ps : List Nat, acc = ps.map .ref /\ ps.length = i /\ ps.Nodup /\ (∀ r ∈ ps, S.length <= r /\ r < S'.length) /\ (∀ j, j < i -> au S' (ps.getD j 0) = some ((up (R.getD j [] ++ w.drop m)).map .int)) /\ b5 S S')
  (fun i acc τ S' hi ⟨y, hy⟩ ⟨ps, ha, hpl, hnd, hge, hpr, kp'⟩ => by
   have hi : i < rs.length := hi
   subst hy
   have ri : rs[i]? = some (rs.getD i 0) := by rw [List.getD_eq_getElem?_getD, List.getElem?_eq_getElem hi]; rfl
   have wi := kp'.lst _ _ (fun z => z) (tb.rows.get ri).2
   rw [mV, <- jY] at wi
   have tS := kp'.lst _ _ (fun z => z) tb.top
   have hWS := kp'.lst _ _ (fun z => z) hW
   have hl1 := hs i (by omega)
   have ad : aW (.ref (rs.getD i 0)) (.ref S'.length) (S' ++ [O.lst (wd (w.drop m))]) = .ok (.ref (S' ++ [O.lst (wd (w.drop m))]).length) (S' ++ [O.lst (wd (w.drop m))] ++ [.lst ((up (R.getD i [] ++ w.drop m)).map .int)]) := by
    rw [jC (aZ wi) aK (by rw [fP, fP, List.length_drop]; omega), j9, jY (R.getD i [] ++ w.drop m)]
   have lS := kp'.len
   refine ⟨.ref (rs.getD i 0), [.ref (rs.getD i 0), .ref W, .int m], S', .ref (S' ++ [O.lst (wd (w.drop m))]).length, S' ++ [O.lst (wd (w.drop m))] ++ [.lst ((up (R.getD i [] ++ w.drop m)).map .int)], ?_, rfl, ⟨_, rfl⟩, by simp only [bw, bools, hWS, yj, ad], ps ++ [(S' ++ [O.lst (wd (w.drop m))]).length], by rw [ha, List.map_append]; rfl, by simp [hpl], ?_, fun r hr => ?_, fun j hj => ?_, kp'.lay.lay⟩
   ·show (au S' V).bind _ = _
    rw [tS, Option.bind_some, List.getElem?_map, ri]; rfl
   ·rw [List.nodup_append]
    refine ⟨hnd, by simp, fun a ha b hb z => ?_⟩
    have hb' : b = (S' ++ [O.lst (wd (w.drop m))]).length := by simpa using hb
    have := (hge a ha).2
    rw [List.length_append] at hb'
    omega
   ·rcases List.mem_append.mp hr with z | z
    ·have := hge r z
     simp only [List.length_append, List.length_cons, List.length_nil]
     omega
    ·have : r = (S' ++ [O.lst (wd (w.drop m))]).length := by simpa using z
     rw [this]
     simp only [List.length_append, List.length_cons, List.length_nil]
     omega
   ·by_cases z : j < i
    ·rw [Bc (show j < ps.length by omega)]
     exact aZ (aZ (hpr j z))
    ·have : j = i := by omega
     subst this
     rw [show j = ps.length from hpl.symm, C4, hpl]
     exact aK)
  (fun acc S' ⟨_, _, _, _, _, _, kp'⟩ => by
   show (match au S' V with
    | some ys => decide (ys.length <= rs.length)
    | none => false) = true
   rw [kp'.lst _ _ (fun z => z) tb.top]
   simp)
  rs.length 0 [] (eW cap τ) S rfl ⟨_, hc⟩ ⟨[], rfl, rfl, by simp, fun r hr => absurd hr (by simp), fun j hj => absurd hj (Nat.not_lt_zero _), Kp.refl⟩
 have hps : ys = ps.map .ref := hps
 have hpl : ps.length = rs.length := hpl
 have hpr : ∀ j, j < rs.length -> _ := hpr
 refine ⟨ps, S3, by rw [g1, hps], Rows.mk (by rw [List.length_map, List.length_map]; omega) fun j hj => ?_, hnd, fun r hr => (hge r hr).1, k3⟩
 rw [List.length_map, List.length_map] at hj
 rw [hpr j (by omega), mV]
 congr 3
 rw [List.getD_eq_getElem?_getD, List.getD_eq_getElem?_getD, List.getElem?_map, List.getElem?_eq_getElem (by omega)]; rfl
theorem E4 {S : aH} {n W : Nat} {w : List Nat} (hW : au S W = some (wd w)) (hv : Va n w) (hl : w.length <= 8) (h1 : 1 <= n) (h2 : n <= 9) (hn : ¬ Red n w) :
  ∃ (V : Nat) (rs : List Nat) (L : List (List Nat)) (z : List Nat) (S' : aH), eU [.int n, .ref W] S = .ok (.ref V) S' /\ au S' V = some (rs.map .ref) /\ Rows S' rs (L.map up) /\ rs.Nodup /\ (∀ r ∈ rs, S.length <= r) /\ FC (w :: L) /\ L.getLast? = some z /\ Va n z /\ Wd.led (rg n) z = Wd.led (rg n) w /\ z.length + 2 = w.length /\ L.length <= 2097152 /\ b5 S S' := by
 obtain ⟨m, S1, e1, hm, hr, hno, k1⟩ := BD hW hv (by omega) h1 (by omega)
 have hlt : m < w.length := by
  rcases Nat.lt_or_ge m w.length with z | z
  ·exact z
  ·exact absurd (by rw [List.take_of_length_le z] at hr; exact hr) hn
 have hno := hno hlt
 obtain ⟨k, hkm⟩ : ∃ k, w[m]? = some k := ⟨_, List.getElem?_eq_getElem hlt⟩
 have hkv := hv k (List.mem_of_getElem? hkm)
 obtain ⟨u, ks, hb, hd, hrk, hlk, hkl, hvk, hlks⟩ := down_pure hv hkm hr hno
 have hW1 := k1.lst _ _ (fun z => z) hW
 have ak : d8 (wd w) (m : Int) = some (.int k) := iy rfl (by rw [List.getElem?_map, hkm]; rfl)
 have hlm : (w.take m).length = m := by rw [List.length_take]; omega
 obtain ⟨S2, hS2⟩ : ∃ S2, S2 = S1 ++ [O.lst (wd (w.take m))] := ⟨_, rfl⟩
 have k2 : b5 S1 S2 := by rw [hS2]; exact Kp.refl.lay
 have hT2 : au S2 S1.length = some (wd (w.take m)) := by rw [hS2]; exact aK
 obtain ⟨S3, e3, k3⟩ := Dl (S := S2) (n := n) hT2 hr.1 (by omega) h1 (by omega)
 have lo : (Wd.led (rg n) (w.take m)).length = n := Ti.ln
 obtain ⟨S4, e4, k4⟩ := sX (S := S3) (xs := Wd.led (rg n) (w.take m)) (k := k) hkv.1 (by omega) (by omega)
 have po : (Wd.ex (Wd.led (rg n) (w.take m)) k).Perm (rg n) := Fw.kC (Ti.pm hr.1) hkv.1 (by omega)
 obtain ⟨Q, S5, e5, hQ, lQ, k5⟩ := Jy (S := S4) (n := n) po (by omega) hb hd
 have k15 : b5 S1 S5 := ((k2.trans k3).trans k4).trans k5
 have hW5 := k15.lst _ _ (fun z => z) hW1
 obtain ⟨S6, hS6⟩ : ∃ S6, S6 = S5 ++ [O.lst (wd (w.take m))] := ⟨_, rfl⟩
 obtain ⟨S7, hS7⟩ : ∃ S7, S7 = S6 ++ [O.lst [.int k]] := ⟨_, rfl⟩
 obtain ⟨S8, hS8⟩ : ∃ S8, S8 = S7 ++ [O.lst (wd (ks ++ [k]))] := ⟨_, rfl⟩
 have k6 : b5 S5 S6 := by rw [hS6]; exact Kp.refl.lay
 have k7 : b5 S6 S7 := by rw [hS7]; exact Kp.refl.lay
 have k8 : b5 S7 S8 := by rw [hS8]; exact Kp.refl.lay
 have n7 : newL [.int k] S6 = .ok (.ref S6.length) S7 := by rw [hS7]; exact bB (show 1 <= 16777216 by decide)
 have h7 : au S7 S6.length = some (wd [k]) := by rw [hS7]; exact aK
 have ad : aW (.ref Q) (.ref S6.length) S7 = .ok (.ref S7.length) S8 := by
  rw [jC ((k6.trans k7).lst _ _ (fun z => z) hQ) h7 (by rw [fP, fP]; show _ + 1 <= _; omega), j9, hS8]
 have hI8 : au S8 S5.length = some (wd (w.take m)) := (k7.trans k8).lst _ _ (fun z => z) (by rw [hS6]; exact aK)
 have hJ8 : au S8 S7.length = some (wd (ks ++ [k])) := by rw [hS8]; exact aK
 have con := Ti.zh (w.take m).length n (w.take m) (ks ++ [k]) rfl hr hrk hlk.symm
 obtain ⟨V, S9, e9, ⟨rs, R, tb, r1, r2, r3, r4, r5, r6⟩, k9⟩ := AB (S := S8) (L := m) hI8 hJ8 ⟨hlm, fun j hj => by have := hr.1 j hj; omega⟩ (by omega) con
 have k59 : b5 S5 S9 := ((k6.trans k7).trans k8).trans k9
 have hW9 := k59.lst _ _ (fun z => z) hW5
 have hQ9 := k59.lst _ _ (fun z => z) hQ
 have hlens := r3.lens r1
 obtain ⟨ps, S10, g10, rw10, nd10, ge10, k10⟩ := carried (cap := [none, some 1, some 2]) (τ := [.int n, .ref W, .int m, .int k, .ref Q, .unb]) (m := m) tb hW9 hl r4 (fun i hi => by rw [hlens i hi]; omega) rfl
 have hlen := tb.len
 rw [List.length_map] at hlen
 have hpl := rw10.len
 rw [List.length_map, List.length_map] at hpl
 have hpos : 0 < R.length := by cases R with
  | nil => cases r1
  | cons a l => simp
 have ec : cJ [none, some 1, some 2] (j8 (eFn dg (aq (lC (ah 1) cE (cj (ah 2))) (aq (aA aW (ah 4) (gr (aq (ah 3) (aM)))) (aM))))) (bJ 0) (iw) (aA aW (ah 0) (lC (ah 1) (cj (ah 2)) cE)) [.int n, .ref W, .int m, .int k, .ref Q, .unb] S5 = .ok (.ref S10.length) (S10 ++ [.lst (ps.map .ref)]) := by
  unfold cJ
  rw [jm (S1 := S9) (by simp only [bw, bools, hW5, rC, <- hS6, n7, ad, e9]) tb.top, Am.R.fO, List.length_map]
  show Am.R.c_ (cK (eG V rs.length) _ _ _ rs.length 0 _ _) _ = _
  rw [g10, Am.R.bO, bB (by rw [List.length_map]; omega)]
 obtain ⟨S11, hS11⟩ : ∃ S11, S11 = S10 ++ [O.lst (ps.map .ref)] := ⟨_, rfl⟩
 obtain ⟨S12, hS12⟩ : ∃ S12, S12 = S11 ++ [O.lst (wd (w.drop (m + 1)))] := ⟨_, rfl⟩
 have k11 : b5 S10 S11 := by rw [hS11]; exact Kp.refl.lay
 have k12 : b5 S11 S12 := by rw [hS12]; exact Kp.refl.lay
 have hW11 := (k10.trans k11).lst _ _ (fun z => z) hW9
 have c12 : eN (wd w) (some ((m : Int) + 1)) none = wd (w.drop (m + 1)) := by
  rw [show (m : Int) + 1 = ((m + 1 : Nat) : Int) by omega]; exact yj _ _
 have ad2 : aW (.ref Q) (.ref S11.length) S12 = .ok (.ref S12.length) (S12 ++ [.lst ((up (ks ++ w.drop (m + 1))).map .int)]) := by
  rw [jC (((k10.trans k11).trans k12).lst _ _ (fun z => z) hQ9) (by rw [hS12]; exact aK) (by rw [fP, fP, List.length_drop]; omega), j9, jY (ks ++ w.drop (m + 1))]
 have tb12 : Tab S12 S10.length ps ((R.map (· ++ w.drop m)).map up) := by
  have k := k11.trans k12
  refine ⟨k12.lst _ _ (fun z => z) (by rw [hS11]; exact aK), rw10.mono fun r _ xs e => k.lst _ _ (fun z => z) e, ?_⟩
  rw [List.nodup_cons]
  exact ⟨fun z => by have := rw10.lt _ z; omega, nd10⟩
 have push := Tab.push (ys := up (ks ++ w.drop (m + 1))) tb12
 have hD := aZ (o := .lst ((up (ks ++ w.drop (m + 1))).map .int)) tb12.top
 obtain ⟨Y, hY⟩ : ∃ Y, Y = (S12 ++ [O.lst ((up (ks ++ w.drop (m + 1))).map .int)]).set S10.length (.lst ((ps ++ [S12.length]).map .ref)) := ⟨_, rfl⟩
 rw [<- hY] at push
 have eY : (S12 ++ [O.lst ((up (ks ++ w.drop (m + 1))).map .int)]).set S10.length (.lst (ps.map .ref ++ [.ref S12.length])) = Y := by rw [hY, List.map_append]; rfl
 have l10 := k10.len
 have l15 := k1.len
 have l59 := k59.len
 have lk15 := k15.len
 have kY : b5 S10 Y := by rw [hY]; exact ((k11.trans k12).lay).set (.inr (Nat.le_refl _))
 have cut1 : eN ((ps ++ [S12.length]).map A.ref) (some 1) none = ((ps ++ [S12.length]).drop 1).map .ref := by
  rw [show (1 : Int) = ((1 : Nat) : Int) from rfl, vL]; exact List.map_drop.symm
 have hgl : (ps.map A.ref).length < 16777216 := by rw [List.length_map]; omega
 have hkd : w.drop m = k :: w.drop (m + 1) := by
  rw [List.drop_eq_getElem_cons hlt]
  congr 1
  rw [List.getElem?_eq_getElem hlt] at hkm
  exact Option.some.inj hkm
 have ewk : w = w.take m ++ k :: w.drop (m + 1) := by rw [<- hkd, List.take_append_drop]
 have h11 : au S11 S10.length = some (ps.map .ref) := by rw [hS11]; exact aK
 have run : eU [.int n, .ref W] S = .ok (.ref Y.length) (Y ++ [.lst (((ps ++ [S12.length]).drop 1).map .ref)]) := by
  unfold eU mw pF
  simp only [bw, Fq, bools, dW, Nat.reduceAdd, Nat.reduceSub, e1, hW1, ak, rC, <- hS2, e3, e4, e5, ec, <- hS11, h11, hW11, c12, <- hS12, ad2, hD, uO hgl, eY, push.top, cut1]
 have rows := push.rows
 have ndp := (List.nodup_cons.mp push.nd).2
 cases R with
 | nil => cases r1
 | cons a l =>
  have ea : a = w.take m := by simpa using r1
  subst ea
  cases ps with
  | nil => simp at hpl
  | cons p ps =>
   have kall : b5 S Y := (((k1.trans k15).trans k59).trans k10).trans kY
   have hge : ∀ r ∈ ps ++ [S12.length], S.length <= r := fun r hr => by
    rcases List.mem_append.mp hr with z | z
    ·have := ge10 r (List.mem_cons_of_mem _ z)
     omega
    ·have : r = S12.length := by simpa using z
     have := k12.len
     have := k11.len
     omega
   have rows2 : Rows Y (ps ++ [S12.length]) ((l.map (· ++ w.drop m) ++ [ks ++ w.drop (m + 1)]).map up) := by
    have := rows.2
    rw [List.map_append]; exact this
   refine ⟨_, ps ++ [S12.length], l.map (· ++ w.drop m) ++ [ks ++ w.drop (m + 1)], ks ++ w.drop (m + 1), _, run, aK, rows2.mono fun r _ xs e => aZ e, (List.nodup_cons.mp ndp).2, hge, ?_, by simp, ?_, ?_, ?_, ?_, kall.lay⟩
   ·have fc := FC.app (b := [ks ++ w.drop (m + 1)]) (FC.of (w.drop m) r3) trivial fun x y hx hy => by
     have hy : ks ++ w.drop (m + 1) = y := by simpa using hy
     rw [List.getLast?_map, r2] at hx
     have hx : ks ++ [k] ++ w.drop m = x := by simpa using hx
     subst hx hy
     rw [hkd, List.append_assoc]
     exact .inr (.mk ks (w.drop (m + 1)) k)
    rw [List.map_cons, List.take_append_drop, List.cons_append] at fc
    exact fc
   ·intro j hj
    rcases List.mem_append.mp hj with z | z
    ·exact hvk j z
    ·exact hv j (List.mem_of_mem_drop z)
   ·rw [Wd.fQ, hlks]
    conv => rhs; rw [ewk]
    rw [Wd.fQ]; rfl
   ·rw [List.length_append, List.length_drop]; omega
   ·have := r4
    rw [List.length_cons] at this
    rw [List.length_append, List.length_map]; exact this
end K10
namespace K10
open PySem L2 Am
open Ti (Mv Con Red)
open Rd (Bf En d9 up tF tD qd chg oN mL)
open Fw (jO Va rg Dn Two)
theorem yx {S : aH} {rs : List Nat} {L : List (List Nat)} {z : List Nat} (rows : Rows S rs (L.map up)) (hz : L.getLast? = some z) : ∃ r, r ∈ rs /\ d8 (rs.map A.ref) (-1) = some (.ref r) /\ au S r = some (wd z) := by
 have hlen := rows.len
 rw [List.length_map] at hlen
 rw [List.getLast?_eq_getElem?] at hz
 have hp : 0 < L.length := by
  rcases Nat.eq_zero_or_pos L.length with h | h
  ·rw [List.length_eq_zero_iff.mp h] at hz; cases hz
  ·exact h
 have r9 : rs[rs.length - 1]? = some (rs.getD (rs.length - 1) 0) := by rw [List.getD_eq_getElem?_getD, List.getElem?_eq_getElem (by omega)]; rfl
 refine ⟨_, List.mem_of_getElem? r9, ?_, ?_⟩
 ·unfold L2.d8 L2.oW
  rw [List.length_map, if_neg (by decide), if_pos (by omega), Option.bind_some, show ((-1 : Int) + (rs.length : Int)).toNat = rs.length - 1 by omega, List.getElem?_map, r9]; rfl
 ·have := (rows.get r9).2
  have hzz : L.getD (rs.length - 1) [] = z := by rw [hlen, List.getD_eq_getElem?_getD, hz]; rfl
  rw [mV, hzz, <- jY] at this
  exact this
theorem xR {S : aH} {n W : Nat} {w : List Nat} (hW : au S W = some (wd w)) (hv : Va n w) (hl : w.length <= 8) (h1 : 1 <= n) (h2 : n <= 9) :
  ∃ (V : Nat) (rs : List Nat) (L : List (List Nat)) (z : List Nat) (S' : aH), j7 [.int n, .ref W] S = .ok (.ref V) S' /\ Tab S' V rs (L.map up) /\ S.length <= V /\ (∀ r ∈ rs, S.length <= r) /\ FC L /\ L.head? = some w /\ L.getLast? = some z /\ Red n z /\ Wd.led (rg n) z = Wd.led (rg n) w /\ L.length <= 16777216 /\ b5 S S' := by
 obtain ⟨S1, e1, k1⟩ := Dl (S := S) hW hv (by omega) h1 (by omega)
 have hW1 := k1.lst _ _ (fun z => z) hW
 have e2 := z7 hW1 h2 hl
 obtain ⟨S2, hS2⟩ : ∃ S2, S2 = S1 ++ [O.lst (wd w)] := ⟨_, rfl⟩
 obtain ⟨S3, hS3⟩ : ∃ S3, S3 = S2 ++ [O.lst [.ref S1.length]] := ⟨_, rfl⟩
 have n3 : newL [.ref S1.length] S2 = .ok (.ref S2.length) S3 := by rw [hS3]; exact bB (show 1 <= 16777216 by decide)
 have l2 : S2.length = S1.length + 1 := by rw [hS2]; simp
 have l1 := k1.len
 have k3 : b5 S S3 := by rw [hS3, hS2]; exact k1.lay.lay
 have tb3 : Tab S3 S2.length [S1.length] (([w] : List (List Nat)).map up) := by
  refine ⟨by rw [hS3]; exact aK, ⟨?_, trivial⟩, by simp; omega⟩
  rw [hS3, hS2, <- jY]; exact aZ aK
 have hr1 : ∀ r ∈ [S1.length], S.length <= r := fun r hr => by
  have : r = S1.length := by simpa using hr
  omega
 have key := g_ (t := o5) (c := pM)
  (fun τ T => ∃ (rs : List Nat) (L : List (List Nat)) (z : List Nat), τ = [.int n, .ref W, .ref S2.length] /\ Tab T S2.length rs (L.map up) /\ (∀ r ∈ rs, S.length <= r) /\ FC L /\ L.head? = some w /\ L.getLast? = some z /\ Va n z /\ Wd.led (rg n) z = Wd.led (rg n) w /\ z.length <= w.length /\ 2 * L.length <= 2 + (w.length - z.length) * 2097152 /\ b5 S T)
  (fun _ T => 16777216 - ((au T S2.length).getD []).length)
  (fun r => ∃ (V : Nat) (rs : List Nat) (L : List (List Nat)) (z : List Nat) (S' : aH), RS.end (RS.seq r (bM (ah 2))) = .ok (.ref V) S' /\ Tab S' V rs (L.map up) /\ S.length <= V /\ (∀ r ∈ rs, S.length <= r) /\ FC L /\ L.head? = some w /\ L.getLast? = some z /\ Red n z /\ Wd.led (rg n) z = Wd.led (rg n) w /\ L.length <= 16777216 /\ b5 S S') ?_ 100000000
 ·unfold j7 vM AR
  simp only [bw, Fq, bools, dW, Nat.reduceAdd, Nat.reduceSub, e1, e2, hW1, <- hS2, n3]
  refine key _ _ ⟨[S1.length], [w], w, rfl, tb3, hr1, trivial, rfl, rfl, hv, rfl, Nat.le_refl _, by simp, k3⟩ ?_
  omega
 ·rintro τ T ⟨rs, L, z, rfl, tb, hge, fc, hh, hz, hvz, hled, hzl, hLl, kp⟩
  obtain ⟨r, hr, ar, hrz⟩ := yx tb.rows hz
  obtain ⟨U, e, kU⟩ := FU (S := T) hrz hvz (by omega) h1 (by omega)
  have hlen := tb.len
  rw [List.length_map] at hlen
  have hm8 : (w.length - z.length) * 2097152 <= 8 * 2097152 := Nat.mul_le_mul_right _ (by omega)
  unfold o5
  cases c : ((Iv.inv (Wd.led (rg n) z) : Int) == (z.length : Int)) with
  | true =>
   left
   rw [c] at e
   have htop := tb.top
   refine ⟨U, by simp only [bw, bools, htop, ar, e, Bool.not_true], S2.length, rs, L, z, U, by simp only [bw, bools], tb.GK kU, by omega, hge, fc, hh, hz, (oV hvz).mp c, hled, by omega, kp.trans kU⟩
  | false =>
   right
   rw [c] at e
   have hnr : ¬ Red n z := fun q => by rw [(oV hvz).mpr q] at c; cases c
   have htop := tb.top
   refine ⟨U, by simp only [bw, bools, htop, ar, e, Bool.not_false], .inl ?_⟩
   have tbU := tb.GK kU
   have hrU := kU.lst _ _ (fun z => z) hrz
   obtain ⟨V, qs, L', z', X, eX, hV, rowsX, ndX, geX, fcX, hzX, hvX, hledX, hlX, hLX, kX⟩ := E4 hrU hvz (by omega) h1 h2 hnr
   have J8 := tbU.GK kX
   have rl := rowsX.len
   rw [List.length_map] at rl
   have hL' : 0 < L'.length := by
    cases L' with
    | nil => cases hzX
    | cons _ _ => simp
   have hzl2 : z.length - z'.length = 2 := by omega
   have hmm : (w.length - z'.length) * 2097152 = (w.length - z.length) * 2097152 + 2 * 2097152 := by
    rw [<- Nat.add_mul]; congr 1; omega
   have hm82 : (w.length - z'.length) * 2097152 <= 8 * 2097152 := Nat.mul_le_mul_right _ (by omega)
   have ex := CK (S := X) J8.top hV (by rw [List.length_map, List.length_map]; omega)
   have hDX := bH J8.top
   have uU := tbU.top
   unfold pM
   simp only [bw, bools, uU, ar, eX, ex]
   have lU := kp.len
   have lUU := kU.len
   have hDn : ∀ q ∈ qs, S2.length ≠ q := fun q hq => by
    have := geX q hq
    have := bH uU
    omega
   have hDr : ∀ q ∈ rs, S2.length ≠ q := fun q hq zz => (List.nodup_cons.mp tb.nd).1 (zz ▸ hq)
   have tY : Tab (X.set S2.length (.lst (rs.map .ref ++ qs.map .ref))) S2.length (rs ++ qs) ((L ++ L').map up) := by
    refine ⟨by rw [cH hDX, List.map_append], ?_, ?_⟩
    ·rw [List.map_append]
     exact Rows.app (J8.rows.mono fun q hq xs ee => by rw [bz (hDr q hq)]; exact ee) (rowsX.mono fun q hq xs ee => by rw [bz (hDn q hq)]; exact ee)
    ·rw [List.nodup_cons, List.nodup_append]
     refine ⟨fun zz => ?_, (List.nodup_cons.mp tb.nd).2, ndX, fun a ha b hb zz => ?_⟩
     ·rcases List.mem_append.mp zz with q | q
      ·exact hDr _ q rfl
      ·exact hDn _ q rfl
     ·have := geX b hb
      have := tbU.rows.lt a ha
      omega
   have htY := tY.top
   refine ⟨_, _, rfl, ⟨rs ++ qs, L ++ L', z', rfl, tY, fun q hq => ?_, ?_, ?_, ?_, hvX, hledX.trans hled, by omega, ?_, ?_⟩, ?_⟩
   ·rcases List.mem_append.mp hq with x | x
    ·exact hge q x
    ·have := geX q x; omega
   ·refine FC.app fc fcX.tail fun x y hx hy => ?_
    have : x = z := by rw [hz] at hx; exact (Option.some.inj hx).symm
    subst this
    cases L' with
    | nil => cases hy
    | cons y' l =>
     have : y' = y := by simpa using hy
     subst this
     exact fcX.1
   ·cases L with
    | nil => cases hh
    | cons a l => exact hh
   ·rw [List.getLast?_append, hzX]; rfl
   ·rw [List.length_append, hmm]; omega
   ·exact (kp.trans (kU.trans kX)).set (.inr (by omega))
   ·simp only [htY, htop, Option.getD_some, List.length_map, List.length_append]
    omega
theorem Lo.at {a b : List Nat} (h : Lo a b) : ∃ p, p + 1 < a.length /\ a.getD p 0 = a.getD (p + 1) 0 /\ a.take p ++ a.drop (p + 2) = b := by
 cases h with
 | mk P R x => exact ⟨P.length, by simp, by simp [List.getD_eq_getElem?_getD, List.getElem?_append_right], by simp [List.drop_append]⟩
theorem E5 {S : aH} {I J : Nat} {a b : List Nat} (hI : au S I = some (wd a)) (hJ : au S J = some (wd b)) (h : Lo a b) (hl : a.length <= 100) : ∃ S', b8 [.ref I, .ref J] S = .ok (.bl true) S' /\ b5 S S' := by
 obtain ⟨p, hp, hpe, hpt⟩ := h.at
 unfold b8 fV iF
 simp only [bw, bools, dW, Nat.reduceAdd, Nat.reduceSub]
 refine gI (lo := 0) (hi := (a.length : Int) - 1) (S1 := S) (show gD _ _ = _ from dD (by simp only [bw, bools, hI, List.length_map]) (cu (by omega) (by omega)))
  (fun i τ T => (∃ a2, τ = [.ref I, .ref J, a2]) /\ i <= p /\ b5 S T)
  (fun r => ∃ S', RS.end (RS.seq r _) = .ok (.bl true) S' /\ b5 S S') ⟨⟨_, rfl⟩, Nat.zero_le _, Kp.refl⟩ ?_ ?_
 ·rintro i τ T hi ⟨⟨a2, rfl⟩, hip, kp⟩
  have hI1 := kp.lst _ _ (fun z => z) hI
  have hJ1 := kp.lst _ _ (fun z => z) hJ
  have eτ : ([.ref I, .ref J, a2] : List A).set 2 (.int (0 + (i : Int))) = [.ref I, .ref J, .int i] := by rw [Int.zero_add]; rfl
  rw [eτ]
  have x1 : d8 (wd a) (i : Int) = some (.int (a.getD i 0 : Nat)) := iy rfl (by rw [List.getElem?_map, List.getD_eq_getElem?_getD, List.getElem?_eq_getElem (by omega)]; rfl)
  have x2 : d8 (wd a) ((i : Int) + 1) = some (.int (a.getD (i + 1) 0 : Nat)) := iy (k := i + 1) (by omega) (by rw [List.getElem?_map, List.getD_eq_getElem?_getD, List.getElem?_eq_getElem (by omega)]; rfl)
  have c2 : eN (wd a) (some ((i : Int) + 2)) none = wd (a.drop (i + 2)) := by
   rw [show (i : Int) + 2 = ((i + 2 : Nat) : Int) by omega]; exact yj _ _
  obtain ⟨T2, hT2⟩ : ∃ T2, T2 = T ++ [O.lst (wd (a.take i))] := ⟨_, rfl⟩
  obtain ⟨T3, hT3⟩ : ∃ T3, T3 = T2 ++ [O.lst (wd (a.drop (i + 2)))] := ⟨_, rfl⟩
  obtain ⟨T4, hT4⟩ : ∃ T4, T4 = T3 ++ [O.lst (wd (a.take i ++ a.drop (i + 2)))] := ⟨_, rfl⟩
  have k2 : b5 T T2 := by rw [hT2]; exact Kp.refl.lay
  have k3 : b5 T2 T3 := by rw [hT3]; exact Kp.refl.lay
  have k4 : b5 T3 T4 := by rw [hT4]; exact Kp.refl.lay
  have hI2 := k2.lst _ _ (fun z => z) hI1
  have ad : aW (.ref T.length) (.ref T2.length) T3 = .ok (.ref T3.length) T4 := by
   rw [jC (k3.lst _ _ (fun z => z) (by rw [hT2]; exact aK)) (by rw [hT3]; exact aK) (by rw [fP, fP, List.length_take, List.length_drop]; omega), j9, hT4]
  have k14 := (k2.trans k3).trans k4
  have q : iW false (.ref T3.length) (.ref J) T4 = .ok (.bl (decide (up (a.take i ++ a.drop (i + 2)) = up b))) T4 := by
   have z1 : au T4 T3.length = some ((up (a.take i ++ a.drop (i + 2))).map .int) := by rw [hT4, <- jY]; exact aK
   have z2 := k14.lst _ _ (fun z => z) hJ1
   rw [jY] at z2
   exact lT (tX z1 z2)
  unfold gG
  cases c : (((a.getD i 0 : Nat) : Int) == ((a.getD (i + 1) 0 : Nat) : Int)) with
  | false =>
   left
   simp only [bw, bools, hI1, x1, x2, c]
   refine ⟨_, _, rfl, ⟨_, rfl⟩, ?_, kp⟩
   rcases Nat.lt_or_ge i p with z | z
   ·exact z
   ·have : i = p := by omega
    subst this
    rw [hpe] at c
    simp at c
  | true =>
   by_cases d : up (a.take i ++ a.drop (i + 2)) = up b
   ·right
    rw [decide_eq_true d] at q
    simp only [bw, bools, hI1, x1, x2, c, rC, <- hT2, hI2, c2, <- hT3, ad, q]
    exact ⟨_, _, rfl, _, rfl, kp.trans k14⟩
   ·left
    rw [decide_eq_false d] at q
    simp only [bw, bools, hI1, x1, x2, c, rC, <- hT2, hI2, c2, <- hT3, ad, q]
    refine ⟨_, _, rfl, ⟨_, rfl⟩, ?_, kp.trans k14⟩
    rcases Nat.lt_or_ge i p with z | z
    ·exact z
    ·have : i = p := by omega
     subst this
     exact absurd (congrArg up hpt) d
 ·rintro τ T ⟨_, hip, kp⟩
  exfalso
  omega
end K10
namespace K10
open PySem L2 Am
open Ti (Mv Con Red)
open Rd (Bf En d9 up tF tD qd chg oN mL)
open Fw (jO Va rg Dn Two)
theorem A7 {S : aH} {a b : Nat} {w : List Nat} (h : au S a = some (wd w)) (h' : au S b = some (wd w)) : iW true (.ref a) (.ref b) S = .ok (.bl false) S := Gz (by
 rw [jY] at h h'
 rw [tX h h', decide_eq_true rfl])
theorem zj {S : aH} {n V I : Nat} {rs : List Nat} {L : List (List Nat)} {w z : List Nat} (tb : Tab S V rs (L.map up)) (fc : FC L) (h0 : L.head? = some w) (hz : L.getLast? = some z) (rz : Red n z) (he : Wd.led (rg n) z = Wd.led (rg n) w) (hL : L.length <= 16777216) (hw : w.length <= 8) (hv : Va n w) (hI : au S I = some (wd w)) (h1 : 1 <= n) (h2 : n <= 9) : ∃ S', dR [.int n, .ref V, .ref I] S = .ok (.bl true) S' /\ b5 S S' := by
 have hlen := tb.len
 rw [List.length_map] at hlen
 have hlens := fc.lens h0
 have hpos : 0 < L.length := by cases L with
  | nil => cases h0
  | cons a l => simp
 have row : ∀ {i r : Nat}, rs[i]? = some r -> i < L.length /\ au S r = some ((up (L.getD i [])).map .int) := fun h => by
  have := tb.rows.get h
  rw [List.length_map, mV] at this
  exact this
 have k1 : b5 S (S ++ [O.lst []]) := Kp.refl.lay
 have r0 : rs[0]? = some (rs.getD 0 0) := by rw [List.getD_eq_getElem?_getD, List.getElem?_eq_getElem (by omega)]; rfl
 have a0 : d8 (rs.map A.ref) 0 = some (.ref (rs.getD 0 0)) := iy (k := 0) rfl (by rw [List.getElem?_map, r0]; rfl)
 have qn : iW false (.ref V) (.ref S.length) (S ++ [O.lst []]) = .ok (.bl false) (S ++ [O.lst []]) := by
  rw [lT (eq_nil (aZ tb.top) aK)]
  cases rs with
  | nil => simp at hlen; omega
  | cons r rs => rfl
 have w0 := k1.lst _ _ (fun z => z) (row r0).2
 have es : L.getD 0 [] = w := by
  cases L with
  | nil => cases h0
  | cons a l => simpa using h0
 rw [es, <- jY] at w0
 have q0 := A7 w0 (aZ hI)
 have top1 := aZ (o := .lst []) tb.top
 unfold dR iL kZ
 simp only [bw, bools, dW, Nat.reduceAdd, Nat.reduceSub, tb.top, Option.map_some, show o7 .lst "list" = some true from rfl, Bool.not_true, qn, top1, a0, q0]
 refine oR (n := V) (xs := rs.map .ref) (S1 := S ++ [O.lst []]) (show jH _ _ = _ from jm (by simp only [bw, bools]) top1)
  (fun i τ S1 => (∃ a3, τ = [.int n, .ref V, .ref I, a3, .unb, .unb]) /\ b5 S S1)
  (fun r => ∃ S', RS.end (RS.seq r _) = .ok (.bl true) S' /\ b5 S S') ⟨⟨_, rfl⟩, k1⟩ (fun i τ S1 ⟨_, k⟩ => k.lst _ _ (fun z => z) tb.top) ?_ ?_
 ·rintro i q τ S1 hq ⟨⟨a3, rfl⟩, k⟩
  rw [List.getElem?_map] at hq
  obtain ⟨r, hr', rfl⟩ := Option.map_eq_some_iff.mp hq
  obtain ⟨hi, hrow⟩ := row hr'
  have hrow := k.lst _ _ (fun z => z) hrow
  have hRl := hlens i hi
  rw [<- Rd.iO] at hRl
  generalize up (L.getD i []) = q at hrow hRl
  refine ⟨[.int n, .ref V, .ref I, .ref r, .unb, .unb], S1, rfl, .inl ?_⟩
  have ec := uI (cap := []) (t := iw) (e := eFn eg (aq (ah 0) (aM))) (τ := [.int n, .ref V, .ref I, .ref r, .unb, .unb]) (src := j8 (ah 3)) (jm (by simp only [bw, bools]) hrow) hrow (fun _ => true) (fun _ => .bl true)
   (fun x hx => by simp only [bw, bools]) (fun x hx _ => by
    obtain ⟨v, _, rfl⟩ := List.mem_map.mp hx
    simp only [bw, bools, Bv]) (by rw [List.length_map]; omega)
  rw [List.filter_eq_self.mpr (fun _ _ => rfl)] at ec
  unfold jI
  simp only [bw, bools, hrow, Option.map_some, show o7 .lst "list" = some true from rfl, Bool.not_true, ec, xB]
  exact ⟨_, _, rfl, ⟨_, rfl⟩, k.lay⟩
 ·rintro τ T ⟨⟨a3, rfl⟩, k⟩
  simp only [bw, bools]
  refine gI (lo := 0) (hi := (rs.length : Int) - 1) (S1 := T) (show jE _ _ = _ from dD (by simp only [bw, bools, k.lst _ _ (fun z => z) tb.top, List.length_map]) (cu (by omega) (by omega)))
   (fun i τ T1 => (∃ a4, τ = [.int n, .ref V, .ref I, a3, a4, .unb]) /\ b5 S T1)
   (fun r => ∃ S', RS.end (RS.seq r _) = .ok (.bl true) S' /\ b5 S S') ⟨⟨_, rfl⟩, k⟩ ?_ ?_
  ·rintro i τ T1 hi ⟨⟨a4, rfl⟩, kS⟩
   left
   have ri : rs[i]? = some (rs.getD i 0) := by rw [List.getD_eq_getElem?_getD, List.getElem?_eq_getElem (by omega)]; rfl
   have rj : rs[i + 1]? = some (rs.getD (i + 1) 0) := by rw [List.getD_eq_getElem?_getD, List.getElem?_eq_getElem (by omega)]; rfl
   have wi := kS.lst _ _ (fun z => z) (row ri).2
   have wj := kS.lst _ _ (fun z => z) (row rj).2
   have tS := kS.lst _ _ (fun z => z) tb.top
   have ai : d8 (rs.map A.ref) (0 + (i : Int)) = some (.ref (rs.getD i 0)) := iy (k := i) (by omega) (by rw [List.getElem?_map, ri]; rfl)
   have aj : d8 (rs.map A.ref) (0 + (i : Int) + 1) = some (.ref (rs.getD (i + 1) 0)) := iy (k := i + 1) (by omega) (by rw [List.getElem?_map, rj]; rfl)
   have hli := hlens i (by omega)
   unfold jD
   rcases fc.at (show i + 1 < L.length by omega) with st | st
   ·obtain ⟨T2, e2, k2⟩ := DF wi wj st (by omega)
    simp only [bw, bools, tS, ai, aj, e2, Bool.not_true]
    exact ⟨_, _, rfl, ⟨_, rfl⟩, kS.trans k2⟩
   ·obtain ⟨t, T2, e2, k2⟩ := Ci wi wj (by rw [Rd.iO]; omega)
    rw [<- jY] at wi wj
    have tS2 := k2.lst _ _ (fun z => z) tS
    obtain ⟨T3, e3, k3⟩ := E5 (k2.lst _ _ (fun z => z) wi) (k2.lst _ _ (fun z => z) wj) st (by omega)
    cases t with
    | true =>
     simp only [bw, bools, tS, ai, aj, e2, Bool.not_true]
     exact ⟨_, _, rfl, ⟨_, rfl⟩, kS.trans k2⟩
    | false =>
     simp only [bw, bools, tS, ai, aj, e2, Bool.not_false, tS2, e3, Bool.not_true]
     exact ⟨_, _, rfl, ⟨_, rfl⟩, kS.trans (k2.trans k3)⟩
  ·rintro τ T1 ⟨⟨a4, rfl⟩, kS⟩
   have tb1 := tb.GK kS
   obtain ⟨r, hr, ar, hrz⟩ := yx tb1.rows hz
   have t1 := tb1.top
   obtain ⟨T2, e2, k2⟩ := vF (S := T1) hrz rz.1 h1 (by omega)
   have hI2 := (kS.trans k2).lst _ _ (fun z => z) hI
   obtain ⟨T3, e3, k3⟩ := vF (S := T2) hI2 hv h1 (by omega)
   rw [show Wd.led (aS 1 ((n : Int) + 1)) w = Wd.led (aS 1 ((n : Int) + 1)) z from he.symm] at e3
   have lo : (Wd.led (aS 1 ((n : Int) + 1)) z).length = n := by rw [Wd.iD, Wd.bW]
   obtain ⟨D, T4, e4, d4, k4⟩ := Ks (S := T3) (n := n) (xs := Wd.led (aS 1 ((n : Int) + 1)) z) lo h1 (by omega)
   have t4 := ((k2.trans k3).trans k4).lst _ _ (fun z => z) t1
   have z4 := ((k2.trans k3).trans k4).lst _ _ (fun z => z) hrz
   have li := C2 lo h1
   rw [show Iv.inv (Wd.led (aS 1 ((n : Int) + 1)) z) = z.length from rz.2.symm] at li
   simp only [bw, bools, t1, ar, e2, e3, AZ, decide_true, e4, d4, li, t4, z4, List.length_map, beq_self_eq_true]
   exact ⟨_, rfl, kS.trans ((k2.trans k3).trans k4)⟩
theorem EH {S : aH} {b n : Nat} (h : qV S b) (h1 : 2 <= n) (h2 : n <= 9) : ∃ (W : Nat) (w : List Nat) (S' : aH), gf [.ref b, .int n] S = .ok (.ref W) S' /\ au S' W = some (wd w) /\ Va n w /\ w.length <= 8 /\ qV S' b /\ Kp (· = b) S S' /\ S.length <= W := by
 have hb : b < S.length := by obtain ⟨_, _, e, _⟩ := h; exact bH e
 obtain ⟨q, S1, e1, q0, q1, b1, k1⟩ := digit (m := 3) h (by decide) (by decide)
 have l1 := k1.len
 unfold gf lR qo
 by_cases c0 : q = 0
 ·subst c0
  obtain ⟨d, S2, e2, d0, d1, b2, k2⟩ := digit (m := 9) b1 (by decide) (by decide)
  have kS : Kp (· = b) S S2 := k1.trans k2
  obtain ⟨ys, S3, g1, g2⟩ := mZ (s := cT 0 d) (g := bJ 0) (e := aA aW (eC (.int 1)) (eFn aT (aq (ah 1) (aq (aA aSub (ah 2) (eC (.int 1))) (aM))))) (T := fun τ => ∃ y, τ = [y, .ref b, .int n])
   (fun i acc S' => ∃ w : List Nat, acc = wd w /\ w.length = i /\ (∀ k ∈ w, 1 <= k /\ k < n) /\ qV S' b /\ Kp (· = b) S S')
   (fun i acc τ S' hi ⟨y, hy⟩ ⟨w, hw, hwl, hwv, hB, kp⟩ => by
    have hi : i < (d - 0).toNat := hi
    subst hy
    obtain ⟨v, S4, e4, v0, v1, b4, k4⟩ := digit (m := (n : Int) - 1) hB (by omega) (by omega)
    refine ⟨.int (0 + (i : Int)), [.int (0 + (i : Int)), .ref b, .int n], S', .int (1 + v), S4, if_pos hi, rfl, ⟨_, rfl⟩, by simp only [bw, bools, e4], w ++ [(1 + v).toNat], ?_, by simp [hwl], fun k hk => ?_, b4, kp.trans k4⟩
    ·rw [hw, <- j9]
     show wd w ++ [A.int (1 + v)] = _ ++ [A.int (((1 + v).toNat : Nat) : Int)]
     rw [show (((1 + v).toNat : Nat) : Int) = 1 + v by omega]
    ·rcases List.mem_append.mp hk with z | z
     ·exact hwv k z
     ·have : k = (1 + v).toNat := by simpa using z
      omega) (fun acc S' _ => rfl)
   (d - 0).toNat 0 [] (eW [none, some 0, some 1] [.ref b, .int n, .int 0, .unb, .unb, .unb]) S2 rfl ⟨_, rfl⟩ ⟨[], rfl, rfl, fun k hk => absurd hk (by simp), b2, kS⟩
  obtain ⟨w, hw, hwl, hwv, hB, kp⟩ := g2
  rw [List.nil_append] at hw
  have hwl : w.length = (d - 0).toNat := hwl
  have ec : cJ [none, some 0, some 1] (fC (eFn aT (aq (ah 0) (aq (eC (.int 9)) (aM))))) (bJ 0) iw (aA aW (eC (.int 1)) (eFn aT (aq (ah 1) (aq (aA aSub (ah 2) (eC (.int 1))) (aM))))) [.ref b, .int n, .int 0, .unb, .unb, .unb] S1 = .ok (.ref S3.length) (S3 ++ [.lst (wd w)]) := by
   unfold cJ
   have hs : fC (eFn aT (aq (ah 0) (aq (eC (.int 9)) (aM)))) [.ref b, .int n, .int 0, .unb, .unb, .unb] S1 = .ok (cT 0 d) S2 := dD (by simp only [bw, bools, e2]) (cu (by omega) (by omega))
   rw [hs, R.fO]
   show R.c_ (cK (cT 0 d) _ _ _ (d - 0).toNat 0 _ _) _ = _
   rw [g1, R.bO, bB (by rw [hw, List.length_map]; omega), hw]
  simp only [bw, bools, dW, Nat.reduceAdd, Nat.reduceSub, e1, beq_self_eq_true, ec]
  have l3 := kp.len
  exact ⟨_, w, _, rfl, aK, hwv, by omega, hB.kp (c := fun _ => False) Kp.refl.lay fun z => z, kp.lay, by omega⟩
 ·have f0 : (q == 0) = false := by rw [beq_eq_false_iff_ne]; exact c0
  obtain ⟨w, W, S2, e2, hW, hrise, hwl, b2, k2, sW⟩ := Aq (n := n) b1 h1 (by omega)
  have hr := CZ hrise
  have hWb : W ≠ b := by omega
  by_cases c1 : q = 1
  ·subst c1
   obtain ⟨x, S3, e3, x0, x1, b3, k3⟩ := digit (m := (w.length : Int) + 1) b2 (by omega) (by omega)
   obtain ⟨v, S4, e4, v0, v1, b4, k4⟩ := digit (m := (n : Int) - 1) b3 (by omega) (by omega)
   have hW4 := k4.lst _ _ hWb (k3.lst _ _ hWb hW)
   have kS : Kp (· = b) S S4 := ((k1.trans k2).trans k3).trans k4
   obtain ⟨p, hp⟩ : ∃ p : Nat, (p : Int) = x := ⟨x.toNat, by omega⟩
   obtain ⟨k, hk⟩ : ∃ k : Nat, (k : Int) = 1 + v := ⟨(1 + v).toNat, by omega⟩
   subst hp
   obtain ⟨S5, hS5⟩ : ∃ S5, S5 = S4 ++ [O.lst (wd (w.take p))] := ⟨_, rfl⟩
   obtain ⟨S6, hS6⟩ : ∃ S6, S6 = S5 ++ [O.lst (wd [k, k])] := ⟨_, rfl⟩
   obtain ⟨S7, hS7⟩ : ∃ S7, S7 = S6 ++ [O.lst (wd (w.take p ++ [k, k]))] := ⟨_, rfl⟩
   obtain ⟨S8, hS8⟩ : ∃ S8, S8 = S7 ++ [O.lst (wd (w.drop p))] := ⟨_, rfl⟩
   have k5 : b5 S4 S5 := by rw [hS5]; exact Kp.refl.lay
   have k6 : b5 S5 S6 := by rw [hS6]; exact Kp.refl.lay
   have k7 : b5 S6 S7 := by rw [hS7]; exact Kp.refl.lay
   have k8 : b5 S7 S8 := by rw [hS8]; exact Kp.refl.lay
   have n6 : newL [.int (1 + v), .int (1 + v)] S5 = .ok (.ref S5.length) S6 := by rw [hS6, <- hk]; exact bB (show 2 <= 16777216 by decide)
   have ad : aW (.ref S4.length) (.ref S5.length) S6 = .ok (.ref S6.length) S7 := by
    rw [jC (k6.lst _ _ (fun z => z) (by rw [hS5]; exact aK)) (by rw [hS6]; exact aK) (by rw [fP, fP, List.length_take]; show _ + 2 <= _; omega), j9, hS7]
   have hW7 := ((k5.trans k6).trans k7).lst _ _ (fun z => z) hW4
   have ad2 : aW (.ref S6.length) (.ref S7.length) S8 = .ok (.ref S8.length) (S8 ++ [.lst (wd (w.take p ++ [k, k] ++ w.drop p))]) := by
    rw [jC (k8.lst _ _ (fun z => z) (by rw [hS7]; exact aK)) (by rw [hS8]; exact aK) (by rw [fP, fP, List.length_append, List.length_take, List.length_drop]; show _ + 2 + _ <= _; omega), j9]
   have k48 : b5 S4 S8 := ((k5.trans k6).trans k7).trans k8
   simp only [bw, bools, dW, Nat.reduceAdd, Nat.reduceSub, e1, f0, e2, beq_self_eq_true, hW, List.length_map, e3, e4, hW4, rC, <- hS5, n6, ad, hW7, yj, <- hS8, ad2]
   have lS := kS.len
   have l48 := k48.len
   refine ⟨_, _, _, rfl, aK, fun j hj => ?_, ?_, b4.kp k48.lay fun z => z, (kS.trans k48.of0).lay, by omega⟩
   ·rcases List.mem_append.mp hj with z | z
    ·rcases List.mem_append.mp z with z | z
     ·exact hr.1 j (List.mem_of_mem_take z)
     ·have : j = k := by simpa using z
      omega
    ·exact hr.1 j (List.mem_of_mem_drop z)
   ·rw [List.length_append, List.length_append, List.length_take, List.length_drop]
    show _ + 2 + _ <= _
    omega
  ·have f1 : (q == 1) = false := by rw [beq_eq_false_iff_ne]; exact c1
   obtain ⟨V, v, S3, e3, hV, rv, hlv, vl, b3, k3, sV⟩ := A9 (S := S2) b2 hW hr (by omega) (by omega) (by omega)
   have hW3 := k3.lst _ _ hWb hW
   have kS : Kp (· = b) S S3 := (k1.trans k2).trans k3
   obtain ⟨S4, hS4⟩ : ∃ S4, S4 = S3 ++ [O.lst (wd v.reverse)] := ⟨_, rfl⟩
   obtain ⟨S5, hS5⟩ : ∃ S5, S5 = S4 ++ [O.lst (wd (w ++ v.reverse))] := ⟨_, rfl⟩
   have k4 : b5 S3 S4 := by rw [hS4]; exact Kp.refl.lay
   have k5 : b5 S4 S5 := by rw [hS5]; exact Kp.refl.lay
   have ad : aW (.ref W) (.ref S3.length) S4 = .ok (.ref S4.length) S5 := by
    rw [jC (k4.lst _ _ (fun z => z) hW3) (by rw [hS4]; exact aK) (by rw [fP, fP, List.length_reverse]; omega), j9, hS5]
   have h5 : au S5 S4.length = some (wd (w ++ v.reverse)) := by rw [hS5]; exact aK
   have rvv : (wd v).reverse = wd v.reverse := List.map_reverse.symm
   have c8 : eN (wd (w ++ v.reverse)) none (some 8) = wd ((w ++ v.reverse).take 8) := rC _ 8
   simp only [bw, bools, dW, Nat.reduceAdd, Nat.reduceSub, e1, f0, f1, e2, e3, hV, rvv, <- hS4, ad, h5, c8]
   have lS := kS.len
   have l5 := (k4.trans k5).len
   refine ⟨_, _, _, rfl, aK, fun j hj => ?_, by rw [List.length_take]; omega, b3.kp (k4.trans k5).lay fun z => z, (kS.trans (k4.trans k5).of0).lay, by omega⟩
   rcases List.mem_append.mp (List.mem_of_mem_take hj) with z | z
   ·exact hr.1 j z
   ·exact rv.1 j (List.mem_reverse.mp z)
end K10
namespace K10
open PySem L2 Am
open Ti (Mv Con Red)
open Rd (Bf En d9 up tF tD qd chg oN mL)
open Fw (jO Va rg Dn Two)
theorem St.nil {b : List Nat} (h : St [] b) : False := by
 rcases h with h | h
 ·have h2 : ∀ a, Mv a b -> a ≠ [] := fun a m => by cases m <;> simp
  exact h2 _ h rfl
 ·have h2 : ∀ a, Lo a b -> a ≠ [] := fun a m => by cases m; simp
  exact h2 _ h rfl
theorem GW (ns : List Int) (hl : ns.length <= 63) : ∃ S', rm [.frz (ns.map .int)] [] = .ok (.bl true) S' := by
 unfold rm B6 Gb
 simp only [bw, bools, dW, Nat.reduceAdd, Nat.reduceSub]
 refine gI (lo := 0) (hi := if (if (ns.length : Int) < 2 then (ns.length : Int) else 2) > 1 then (if (ns.length : Int) < 2 then (ns.length : Int) else 2) else 1) (S1 := []) (show w_ _ _ = _ from dD (by simp only [bw, bools, List.length_map]) (cu (by split <;> split <;> omega) (by split <;> split <;> omega)))
  (fun _ τ _ => ∃ a1 a2 a3 a4 a5 a6 a7 : A, τ = [.frz (ns.map .int), a1, a2, a3, a4, a5, a6, a7]) (fun r => ∃ S', RS.end (RS.seq r _) = .ok (.bl true) S') ⟨_, _, _, _, _, _, _, rfl⟩ ?_ ?_
 ·rintro i τ S hi ⟨a1, a2, a3, a4, a5, a6, a7, rfl⟩
  left
  have hi6 : (i : Int) < 4 := by split at hi <;> split at hi <;> omega
  obtain ⟨S1, e1, b1, kp1⟩ := E8 (S := S) (ns := ns) (k := 0 + (i : Int)) (by omega) (by omega)
  have b1l : S.length < S1.length := by obtain ⟨_, _, e, _⟩ := b1; exact bH e
  have n1 : newL [.int 4, .int 8] S1 = .ok (.ref S1.length) (S1 ++ [O.lst [.int 4, .int 8]]) := bB (show 2 <= 16777216 by decide)
  have k1 : b5 S1 (S1 ++ [O.lst [.int 4, .int 8]]) := Kp.refl.lay
  obtain ⟨q, S2, e2, q0, q1, b2, kp2⟩ := digit (m := 2) (b1.kp k1 fun z => z) (by decide) (by decide)
  have g2 : au S2 S1.length = some [.int 4, .int 8] := kp2.lst _ _ (by omega) aK
  obtain ⟨m, em, m0, m1⟩ : ∃ m : Int, d8 [A.int 4, .int 8] q = some (.int m) /\ 1 <= m /\ m <= 8 := by
   by_cases g0 : q = 0
   ·exact ⟨4, by rw [g0]; exact za, by decide, by decide⟩
   ·exact ⟨8, by rw [show q = 1 by omega]; exact BF, by decide, by decide⟩
  obtain ⟨d, S3, e3, d0, d1, b3, kp3⟩ := digit (m := m) b2 m0 (by omega)
  obtain ⟨n, hn⟩ : ∃ n : Nat, (n : Int) = 2 + d := ⟨(2 + d).toNat, by omega⟩
  have n2 : 2 <= n := by omega
  have n9 : n <= 9 := by omega
  obtain ⟨W, w, S4, e4, hW, hv, hwl, b4, kp4, sW⟩ := EH (n := n) b3 n2 n9
  obtain ⟨S5, hS5⟩ : ∃ S5, S5 = S4 ++ [O.lst (wd w)] := ⟨_, rfl⟩
  have k5 : b5 S4 S5 := by rw [hS5]; exact Kp.refl.lay
  have hW5 := k5.lst _ _ (fun z => z) hW
  have hH5 : au S5 S4.length = some (wd w) := by rw [hS5]; exact aK
  unfold yD
  simp only [bw, bools, e1, n1, e2, g2, em, e3, <- hn, e4, hW, <- hS5]
  refine gI (lo := 0) (hi := 2) (S1 := S5) (show ze _ _ = _ from dD (by simp only [bw, bools]) (cu (by decide) (by decide)))
   (fun _ τ T => (∃ a6 a7, τ = [.frz (ns.map .int), .int (0 + (i : Int)), .ref S.length, .int n, .ref W, .ref S4.length, a6, a7]) /\ au T W = some (wd w) /\ au T S4.length = some (wd w))
   (fun r => ∃ τ' S', r = .nx τ' S' /\ ∃ a1 a2 a3 a4 a5 a6 a7 : A, τ' = [.frz (ns.map .int), a1, a2, a3, a4, a5, a6, a7]) ⟨⟨_, _, rfl⟩, hW5, hH5⟩ ?_ ?_
  ·rintro j τ T hj ⟨⟨a6, a7, rfl⟩, hA, hB⟩
   left
   obtain ⟨V, rs, L, z, T1, f1, tb, sV, sr, fc, h0, hz, rz, he, hL, k1⟩ := xR (S := T) hB hv hwl (show 1 <= n by omega) n9
   have hA1 := k1.lst _ _ (fun z => z) hA
   have hB1 := k1.lst _ _ (fun z => z) hB
   obtain ⟨T2, f2, k2⟩ := zj tb fc h0 hz rz he hL hwl hv hA1 (show 1 <= n by omega) n9
   have tb2 := tb.GK k2
   have hA2 := k2.lst _ _ (fun z => z) hA1
   have hB2 := k2.lst _ _ (fun z => z) hB1
   have q1 := A7 hB2 hA2
   have hlens := fc.lens h0
   obtain ⟨T3, f3, k3⟩ := BR tb2 (by rw [List.length_map]; exact hL) (fun j hj => by
    rw [List.length_map] at hj
    rw [mV, Rd.iO]
    have := hlens j hj
    omega)
   have lA := bH hA
   have lB := bH hB
   have fr : ∀ x, x < T.length -> x ∉ rs := fun x hx z => by have := sr x z; omega
   have hA3 := k3.lst _ _ (fr _ lA) hA2
   have hB3 := k3.lst _ _ (fr _ lB) hB2
   have q2 := A7 hB3 hA3
   unfold yr
   simp only [bw, bools, f1, f2, Bool.not_true, q1, f3, q2]
   exact ⟨_, _, rfl, ⟨_, _, rfl⟩, hA3, hB3⟩
  ·rintro τ T ⟨⟨a6, a7, rfl⟩, _, _⟩
   exact ⟨_, _, rfl, _, _, _, _, _, _, _, rfl⟩
 ·rintro τ S ⟨a1, a2, a3, a4, a5, a6, a7, rfl⟩
  have hW : au (S ++ [O.lst []]) S.length = some (wd []) := aK
  obtain ⟨V, rs, L, z, T1, f1, tb, sV, sr, fc, h0, hz, rz, he, hL, k1⟩ := xR (S := S ++ [O.lst []]) (n := 1) hW (fun k hk => absurd hk (by simp)) (by decide) (by decide) (by decide)
  have f1 : j7 [.int 1, .ref S.length] (S ++ [O.lst []]) = .ok (.ref V) T1 := f1
  have eL : L = [[]] := by
   cases L with
   | nil => cases h0
   | cons a l =>
    have : a = [] := by simpa using h0
    subst this
    cases l with
    | nil => rfl
    | cons b l => exact absurd fc.1 (fun h => h.nil)
  subst eL
  obtain ⟨T2, hT2⟩ : ∃ T2, T2 = T1 ++ [O.lst []] := ⟨_, rfl⟩
  obtain ⟨T3, hT3⟩ : ∃ T3, T3 = T2 ++ [O.lst [.ref T1.length]] := ⟨_, rfl⟩
  have n2 : newL [] T1 = .ok (.ref T1.length) T2 := by rw [hT2]; exact bB (show 0 <= 16777216 by decide)
  have n3 : newL [.ref T1.length] T2 = .ok (.ref T2.length) T3 := by rw [hT3]; exact bB (show 1 <= 16777216 by decide)
  have k13 : b5 T1 T3 := by rw [hT3, hT2]; exact Kp.refl.lay.lay
  have t3 : Tab T3 T2.length [T1.length] [[]] := by
   refine ⟨by rw [hT3]; exact aK, ⟨by rw [hT3, hT2]; exact aZ aK, trivial⟩, by rw [hT2]; simp⟩
  have qq := lT ((tb.GK k13).eq t3)
  rw [show decide (([[]] : List (List Nat)).map up = [[]]) = true from rfl] at qq
  simp only [bw, bools, f1, n2, n3, qq]
  exact ⟨_, rfl⟩
end K10
namespace K10
open PySem L2 Am
theorem all_mk {l : PySem.W.OpenLaw} {w : World} {K : PySem.W.Frag} {h : Heap} {mg : Str -> Option Value} {fa f1 f2 f3 f4 f5 f6 f7 f8 f9 f10 f11 f12 f13 f14 f15 f16 f17 f18 f19 f20 f21 f22 f23 f24 f25 f26 f27 f28 f29 f30 f31 f32 f33 f34 f35 : Addr} (X : K.In h) (G : h.Ns mainGlobals mg) (hfa : mg "law" = some (.ref fa))
  {od1 an1 od2 an2 od3 an3 od4 an4 od5 an5 od6 an6 od7 an7 od8 an8 od9 an9 od10 an10 od11 an11 od12 an12 od13 an13 od14 an14 od15 an15 od16 an16 od17 an17 od18 an18 od19 an19 od20 an20 od21 an21 od22 an22 od23 an23 od24 an24 od25 an25 od26 an26 od27 an27 od28 an28 od29 an29 od30 an30 od31 an31 od32 an32 od33 an33 od34 an34 od35 an35 : Option Addr} {sl1 sl2 sl3 sl4 sl5 sl6 sl7 sl8 sl9 sl10 sl11 sl12 sl13 sl14 sl15 sl16 sl17 sl18 sl19 sl20 sl21 sl22 sl23 sl24 sl25 sl26 sl27 sl28 sl29 sl30 sl31 sl32 sl33 sl34 sl35 : Array (Option Value)} {oc1 kV1 dc1 pm1 cd1 ct1 oc2 kV2 dc2 pm2 cd2 ct2 oc3 kV3 dc3 pm3 cd3 ct3 oc4 kV4 dc4 pm4 cd4 ct4 oc5 kV5 dc5 pm5 cd5 ct5 oc6 kV6 dc6 pm6 cd6 ct6 oc7 kV7 dc7 pm7 cd7 ct7 oc8 kV8 dc8 pm8 cd8 ct8 oc9 kV9 dc9 pm9 cd9 ct9 oc10 kV10 dc10 pm10 cd10 ct10 oc11 kV11 dc11 pm11 cd11 ct11 oc12 kV12 dc12 pm12 cd12 ct12 oc13 kV13 dc13 pm13 cd13 ct13 oc14 kV14 dc14 pm14 cd14 ct14 oc15 kV15 dc15 pm15 cd15 ct15 oc16 kV16 dc16 pm16 cd16 ct16 oc17 kV17 dc17 pm17 cd17 ct17 oc18 kV18 dc18 pm18 cd18 ct18 oc19 kV19 dc19 pm19 cd19 ct19 oc20 kV20 dc20 pm20 cd20 ct20 oc21 kV21 dc21 pm21 cd21 ct21 oc22 kV22 dc22 pm22 cd22 ct22 oc23 kV23 dc23 pm23 cd23 ct23 oc24 kV24 dc24 pm24 cd24 ct24 oc25 kV25 dc25 pm25 cd25 ct25 oc26 kV26 dc26 pm26 cd26 ct26 oc27 kV27 dc27 pm27 cd27 ct27 oc28 kV28 dc28 pm28 cd28 ct28 oc29 kV29 dc29 pm29 cd29 ct29 oc30 kV30 dc30 pm30 cd30 ct30 oc31 kV31 dc31 pm31 cd31 ct31 oc32 kV32 dc32 pm32 cd32 ct32 oc33 kV33 dc33 pm33 cd33 ct33 oc34 kV34 dc34 pm34 cd34 ct34 oc35 kV35 dc35 pm35 cd35 ct35 : Value}
  (a1 : PySem.W.nsIn K mainGlobals "is_whole" = some (some (.ref f1))) (l1 : K.lookup f1 = some ⟨oc1, od1, .func (PySem.W.fnOf "is_whole" "is_whole" (a_ gb) (aY gb) (aG gb) .none kV1 dc1 pm1 an1 cd1 ct1), sl1⟩) (c1 : PySem.W.codeIn K cd1 "is_whole" = true) (k1 : PySem.W.keepIn K (.ref f1) = true)
  (a2 : PySem.W.nsIn K mainGlobals "plain_order" = some (some (.ref f2))) (l2 : K.lookup f2 = some ⟨oc2, od2, .func (PySem.W.fnOf "plain_order" "plain_order" (a_ dG) (aY dG) (aG dG) .none kV2 dc2 pm2 an2 cd2 ct2), sl2⟩) (c2 : PySem.W.codeIn K cd2 "plain_order" = true) (k2 : PySem.W.keepIn K (.ref f2) = true)
  (a3 : PySem.W.nsIn K mainGlobals "back" = some (some (.ref f3))) (l3 : K.lookup f3 = some ⟨oc3, od3, .func (PySem.W.fnOf "back" "back" (a_ nR) (aY nR) (aG nR) .none kV3 dc3 pm3 an3 cd3 ct3), sl3⟩) (c3 : PySem.W.codeIn K cd3 "back" = true) (k3 : PySem.W.keepIn K (.ref f3) = true)
  (a4 : PySem.W.nsIn K mainGlobals "is_exchange" = some (some (.ref f4))) (l4 : K.lookup f4 = some ⟨oc4, od4, .func (PySem.W.fnOf "is_exchange" "is_exchange" (a_ dQ) (aY dQ) (aG dQ) .none kV4 dc4 pm4 an4 cd4 ct4), sl4⟩) (c4 : PySem.W.codeIn K cd4 "is_exchange" = true) (k4 : PySem.W.keepIn K (.ref f4) = true)
  (a5 : PySem.W.nsIn K mainGlobals "exchanged_places" = some (some (.ref f5))) (l5 : K.lookup f5 = some ⟨oc5, od5, .func (PySem.W.fnOf "exchanged_places" "exchanged_places" (a_ bQ) (aY bQ) (aG bQ) .none kV5 dc5 pm5 an5 cd5 ct5), sl5⟩) (c5 : PySem.W.codeIn K cd5 "exchanged_places" = true) (k5 : PySem.W.keepIn K (.ref f5) = true)
  (a6 : PySem.W.nsIn K mainGlobals "exchanged" = some (some (.ref f6))) (l6 : K.lookup f6 = some ⟨oc6, od6, .func (PySem.W.fnOf "exchanged" "exchanged" (a_ fq) (aY fq) (aG fq) .none kV6 dc6 pm6 an6 cd6 ct6), sl6⟩) (c6 : PySem.W.codeIn K cd6 "exchanged" = true) (k6 : PySem.W.keepIn K (.ref f6) = true)
  (a7 : PySem.W.nsIn K mainGlobals "place_pairs" = some (some (.ref f7))) (l7 : K.lookup f7 = some ⟨oc7, od7, .func (PySem.W.fnOf "place_pairs" "place_pairs" (a_ dS) (aY dS) (aG dS) .none kV7 dc7 pm7 an7 cd7 ct7), sl7⟩) (c7 : PySem.W.codeIn K cd7 "place_pairs" = true) (k7 : PySem.W.keepIn K (.ref f7) = true)
  (a8 : PySem.W.nsIn K mainGlobals "wrong_pairs" = some (some (.ref f8))) (l8 : K.lookup f8 = some ⟨oc8, od8, .func (PySem.W.fnOf "wrong_pairs" "wrong_pairs" (a_ dJ) (aY dJ) (aG dJ) .none kV8 dc8 pm8 an8 cd8 ct8), sl8⟩) (c8 : PySem.W.codeIn K cd8 "wrong_pairs" = true) (k8 : PySem.W.keepIn K (.ref f8) = true)
  (a9 : PySem.W.nsIn K mainGlobals "length" = some (some (.ref f9))) (l9 : K.lookup f9 = some ⟨oc9, od9, .func (PySem.W.fnOf "length" "length" (a_ ja) (aY ja) (aG ja) .none kV9 dc9 pm9 an9 cd9 ct9), sl9⟩) (c9 : PySem.W.codeIn K cd9 "length" = true) (k9 : PySem.W.keepIn K (.ref f9) = true)
  (a10 : PySem.W.nsIn K mainGlobals "falls" = some (some (.ref f10))) (l10 : K.lookup f10 = some ⟨oc10, od10, .func (PySem.W.fnOf "falls" "falls" (a_ kJ) (aY kJ) (aG kJ) .none kV10 dc10 pm10 an10 cd10 ct10), sl10⟩) (c10 : PySem.W.codeIn K cd10 "falls" = true) (k10 : PySem.W.keepIn K (.ref f10) = true)
  (a11 : PySem.W.nsIn K mainGlobals "is_word" = some (some (.ref f11))) (l11 : K.lookup f11 = some ⟨oc11, od11, .func (PySem.W.fnOf "is_word" "is_word" (a_ gX) (aY gX) (aG gX) .none kV11 dc11 pm11 an11 cd11 ct11), sl11⟩) (c11 : PySem.W.codeIn K cd11 "is_word" = true) (k11 : PySem.W.keepIn K (.ref f11) = true)
  (a12 : PySem.W.nsIn K mainGlobals "led_by" = some (some (.ref f12))) (l12 : K.lookup f12 = some ⟨oc12, od12, .func (PySem.W.fnOf "led_by" "led_by" (a_ iZ) (aY iZ) (aG iZ) .none kV12 dc12 pm12 an12 cd12 ct12), sl12⟩) (c12 : PySem.W.codeIn K cd12 "led_by" = true) (k12 : PySem.W.keepIn K (.ref f12) = true)
  (a13 : PySem.W.nsIn K mainGlobals "is_shortest" = some (some (.ref f13))) (l13 : K.lookup f13 = some ⟨oc13, od13, .func (PySem.W.fnOf "is_shortest" "is_shortest" (a_ dU) (aY dU) (aG dU) .none kV13 dc13 pm13 an13 cd13 ct13), sl13⟩) (c13 : PySem.W.codeIn K cd13 "is_shortest" = true) (k13 : PySem.W.keepIn K (.ref f13) = true)
  (a14 : PySem.W.nsIn K mainGlobals "first_word" = some (some (.ref f14))) (l14 : K.lookup f14 = some ⟨oc14, od14, .func (PySem.W.fnOf "first_word" "first_word" (a_ eo) (aY eo) (aG eo) .none kV14 dc14 pm14 an14 cd14 ct14), sl14⟩) (c14 : PySem.W.codeIn K cd14 "first_word" = true) (k14 : PySem.W.keepIn K (.ref f14) = true)
  (a15 : PySem.W.nsIn K mainGlobals "is_beyond" = some (some (.ref f15))) (l15 : K.lookup f15 = some ⟨oc15, od15, .func (PySem.W.fnOf "is_beyond" "is_beyond" (a_ eZ) (aY eZ) (aG eZ) .none kV15 dc15 pm15 an15 cd15 ct15), sl15⟩) (c15 : PySem.W.codeIn K cd15 "is_beyond" = true) (k15 : PySem.W.keepIn K (.ref f15) = true)
  (a16 : PySem.W.nsIn K mainGlobals "changed_places" = some (some (.ref f16))) (l16 : K.lookup f16 = some ⟨oc16, od16, .func (PySem.W.fnOf "changed_places" "changed_places" (a_ cD) (aY cD) (aG cD) .none kV16 dc16 pm16 an16 cd16 ct16), sl16⟩) (c16 : PySem.W.codeIn K cd16 "changed_places" = true) (k16 : PySem.W.keepIn K (.ref f16) = true)
  (a17 : PySem.W.nsIn K mainGlobals "turned_threes" = some (some (.ref f17))) (l17 : K.lookup f17 = some ⟨oc17, od17, .func (PySem.W.fnOf "turned_threes" "turned_threes" (a_ cL) (aY cL) (aG cL) .none kV17 dc17 pm17 an17 cd17 ct17), sl17⟩) (c17 : PySem.W.codeIn K cd17 "turned_threes" = true) (k17 : PySem.W.keepIn K (.ref f17) = true)
  (a18 : PySem.W.nsIn K mainGlobals "traced" = some (some (.ref f18))) (l18 : K.lookup f18 = some ⟨oc18, od18, .func (PySem.W.fnOf "traced" "traced" (a_ jg) (aY jg) (aG jg) .none kV18 dc18 pm18 an18 cd18 ct18), sl18⟩) (c18 : PySem.W.codeIn K cd18 "traced" = true) (k18 : PySem.W.keepIn K (.ref f18) = true)
  (a19 : PySem.W.nsIn K mainGlobals "found_road" = some (some (.ref f19))) (l19 : K.lookup f19 = some ⟨oc19, od19, .func (PySem.W.fnOf "found_road" "found_road" (a_ eB) (aY eB) (aG eB) .none kV19 dc19 pm19 an19 cd19 ct19), sl19⟩) (c19 : PySem.W.codeIn K cd19 "found_road" = true) (k19 : PySem.W.keepIn K (.ref f19) = true)
  (a20 : PySem.W.nsIn K mainGlobals "shortest_beginning" = some (some (.ref f20))) (l20 : K.lookup f20 = some ⟨oc20, od20, .func (PySem.W.fnOf "shortest_beginning" "shortest_beginning" (a_ bE) (aY bE) (aG bE) .none kV20 dc20 pm20 an20 cd20 ct20), sl20⟩) (c20 : PySem.W.codeIn K cd20 "shortest_beginning" = true) (k20 : PySem.W.keepIn K (.ref f20) = true)
  (a21 : PySem.W.nsIn K mainGlobals "led_down" = some (some (.ref f21))) (l21 : K.lookup f21 = some ⟨oc21, od21, .func (PySem.W.fnOf "led_down" "led_down" (a_ gk) (aY gk) (aG gk) .none kV21 dc21 pm21 an21 cd21 ct21), sl21⟩) (c21 : PySem.W.codeIn K cd21 "led_down" = true) (k21 : PySem.W.keepIn K (.ref f21) = true)
  (a22 : PySem.W.nsIn K mainGlobals "fall" = some (some (.ref f22))) (l22 : K.lookup f22 = some ⟨oc22, od22, .func (PySem.W.fnOf "fall" "fall" (a_ nA) (aY nA) (aG nA) .none kV22 dc22 pm22 an22 cd22 ct22), sl22⟩) (c22 : PySem.W.codeIn K cd22 "fall" = true) (k22 : PySem.W.keepIn K (.ref f22) = true)
  (a23 : PySem.W.nsIn K mainGlobals "_law_bag" = some (some (.ref f23))) (l23 : K.lookup f23 = some ⟨oc23, od23, .func (PySem.W.fnOf "_law_bag" "_law_bag" (a_ gT) (aY gT) (aG gT) .none kV23 dc23 pm23 an23 cd23 ct23), sl23⟩) (c23 : PySem.W.codeIn K cd23 "_law_bag" = true) (k23 : PySem.W.keepIn K (.ref f23) = true)
  (a24 : PySem.W.nsIn K mainGlobals "_law_digit" = some (some (.ref f24))) (l24 : K.lookup f24 = some ⟨oc24, od24, .func (PySem.W.fnOf "_law_digit" "_law_digit" (a_ fF) (aY fF) (aG fF) .none kV24 dc24 pm24 an24 cd24 ct24), sl24⟩) (c24 : PySem.W.codeIn K cd24 "_law_digit" = true) (k24 : PySem.W.keepIn K (.ref f24) = true)
  (a25 : PySem.W.nsIn K mainGlobals "_law_led" = some (some (.ref f25))) (l25 : K.lookup f25 = some ⟨oc25, od25, .func (PySem.W.fnOf "_law_led" "_law_led" (a_ gS) (aY gS) (aG gS) .none kV25 dc25 pm25 an25 cd25 ct25), sl25⟩) (c25 : PySem.W.codeIn K cd25 "_law_led" = true) (k25 : PySem.W.keepIn K (.ref f25) = true)
  (a26 : PySem.W.nsIn K mainGlobals "_law_grown" = some (some (.ref f26))) (l26 : K.lookup f26 = some ⟨oc26, od26, .func (PySem.W.fnOf "_law_grown" "_law_grown" (a_ fG) (aY fG) (aG fG) .none kV26 dc26 pm26 an26 cd26 ct26), sl26⟩) (c26 : PySem.W.codeIn K cd26 "_law_grown" = true) (k26 : PySem.W.keepIn K (.ref f26) = true)
  (a27 : PySem.W.nsIn K mainGlobals "_law_other" = some (some (.ref f27))) (l27 : K.lookup f27 = some ⟨oc27, od27, .func (PySem.W.fnOf "_law_other" "_law_other" (a_ fD) (aY fD) (aG fD) .none kV27 dc27 pm27 an27 cd27 ct27), sl27⟩) (c27 : PySem.W.codeIn K cd27 "_law_other" = true) (k27 : PySem.W.keepIn K (.ref f27) = true)
  (a28 : PySem.W.nsIn K mainGlobals "_law_is_deed" = some (some (.ref f28))) (l28 : K.lookup f28 = some ⟨oc28, od28, .func (PySem.W.fnOf "_law_is_deed" "_law_is_deed" (a_ dM) (aY dM) (aG dM) .none kV28 dc28 pm28 an28 cd28 ct28), sl28⟩) (c28 : PySem.W.codeIn K cd28 "_law_is_deed" = true) (k28 : PySem.W.keepIn K (.ref f28) = true)
  (a29 : PySem.W.nsIn K mainGlobals "_law_wrong" = some (some (.ref f29))) (l29 : K.lookup f29 = some ⟨oc29, od29, .func (PySem.W.fnOf "_law_wrong" "_law_wrong" (a_ fu) (aY fu) (aG fu) .none kV29 dc29 pm29 an29 cd29 ct29), sl29⟩) (c29 : PySem.W.codeIn K cd29 "_law_wrong" = true) (k29 : PySem.W.keepIn K (.ref f29) = true)
  (a30 : PySem.W.nsIn K mainGlobals "_law_whole" = some (some (.ref f30))) (l30 : K.lookup f30 = some ⟨oc30, od30, .func (PySem.W.fnOf "_law_whole" "_law_whole" (a_ e_) (aY e_) (aG e_) .none kV30 dc30 pm30 an30 cd30 ct30), sl30⟩) (c30 : PySem.W.codeIn K cd30 "_law_whole" = true) (k30 : PySem.W.keepIn K (.ref f30) = true)
  (a31 : PySem.W.nsIn K mainGlobals "_law_is_left_out" = some (some (.ref f31))) (l31 : K.lookup f31 = some ⟨oc31, od31, .func (PySem.W.fnOf "_law_is_left_out" "_law_is_left_out" (a_ b9) (aY b9) (aG b9) .none kV31 dc31 pm31 an31 cd31 ct31), sl31⟩) (c31 : PySem.W.codeIn K cd31 "_law_is_left_out" = true) (k31 : PySem.W.keepIn K (.ref f31) = true)
  (a32 : PySem.W.nsIn K mainGlobals "_law_is_fall" = some (some (.ref f32))) (l32 : K.lookup f32 = some ⟨oc32, od32, .func (PySem.W.fnOf "_law_is_fall" "_law_is_fall" (a_ dP) (aY dP) (aG dP) .none kV32 dc32 pm32 an32 cd32 ct32), sl32⟩) (c32 : PySem.W.codeIn K cd32 "_law_is_fall" = true) (k32 : PySem.W.keepIn K (.ref f32) = true)
  (a33 : PySem.W.nsIn K mainGlobals "_law_apart" = some (some (.ref f33))) (l33 : K.lookup f33 = some ⟨oc33, od33, .func (PySem.W.fnOf "_law_apart" "_law_apart" (a_ fh) (aY fh) (aG fh) .none kV33 dc33 pm33 an33 cd33 ct33), sl33⟩) (c33 : PySem.W.codeIn K cd33 "_law_apart" = true) (k33 : PySem.W.keepIn K (.ref f33) = true)
  (a34 : PySem.W.nsIn K mainGlobals "_law_word" = some (some (.ref f34))) (l34 : K.lookup f34 = some ⟨oc34, od34, .func (PySem.W.fnOf "_law_word" "_law_word" (a_ gg) (aY gg) (aG gg) .none kV34 dc34 pm34 an34 cd34 ct34), sl34⟩) (c34 : PySem.W.codeIn K cd34 "_law_word" = true) (k34 : PySem.W.keepIn K (.ref f34) = true)
  (a35 : PySem.W.nsIn K mainGlobals "law" = some (some (.ref f35))) (l35 : K.lookup f35 = some ⟨oc35, od35, .func (PySem.W.fnOf "law" "law" (a_ mQ) (aY mQ) (aG mQ) .none kV35 dc35 pm35 an35 cd35 ct35), sl35⟩) (c35 : PySem.W.codeIn K cd35 "law" = true) (k35 : PySem.W.keepIn K (.ref f35) = true)
  (z_isinstance : PySem.W.nsIn K mainGlobals "isinstance" = some none)
  (z_bool : PySem.W.nsIn K mainGlobals "bool" = some none)
  (z_int : PySem.W.nsIn K mainGlobals "int" = some none)
  (z_tuple : PySem.W.nsIn K mainGlobals "tuple" = some none)
  (z_range : PySem.W.nsIn K mainGlobals "range" = some none)
  (z_len : PySem.W.nsIn K mainGlobals "len" = some none)
  (z_enumerate : PySem.W.nsIn K mainGlobals "enumerate" = some none)
  (z_list : PySem.W.nsIn K mainGlobals "list" = some none)
  (z_all : PySem.W.nsIn K mainGlobals "all" = some none)
  (z_abs : PySem.W.nsIn K mainGlobals "abs" = some none)
  (z_max : PySem.W.nsIn K mainGlobals "max" = some none)
  (z_min : PySem.W.nsIn K mainGlobals "min" = some none)
  {t_MOST_NUMBERS_words : Tok} (y_MOST_NUMBERS_words : PySem.W.nsIn K mainGlobals "MOST_NUMBERS_words" = some (some (.int 200 t_MOST_NUMBERS_words)))
  {t_MOST_NUMBERS_roads : Tok} (y_MOST_NUMBERS_roads : PySem.W.nsIn K mainGlobals "MOST_NUMBERS_roads" = some (some (.int 8 t_MOST_NUMBERS_roads)))
  {t_MOST_THINGS : Tok} (y_MOST_THINGS : PySem.W.nsIn K mainGlobals "MOST_THINGS" = some (some (.int 9 t_MOST_THINGS)))
  : ∃ fd : FuncData, (∀ (s : Shared) (v : Value), BindsTo s fd ⟨[v], []⟩ [("_law_script", v)]) /\ ∀ base : Heap, K.In base -> base.Ns mainGlobals mg -> FnOk l.prog w K mg base iB 9 fa fd ["_law_script"] (jb K 1 rm) := by
 have e := hfa.symm.trans (PySem.W.mg_of X G a35)
 cases e
 have b_isinstance := PySem.W.mg_none_of X G z_isinstance
 have b_bool := PySem.W.mg_none_of X G z_bool
 have b_int := PySem.W.mg_none_of X G z_int
 have b_tuple := PySem.W.mg_none_of X G z_tuple
 have b_range := PySem.W.mg_none_of X G z_range
 have b_len := PySem.W.mg_none_of X G z_len
 have b_enumerate := PySem.W.mg_none_of X G z_enumerate
 have b_list := PySem.W.mg_none_of X G z_list
 have b_all := PySem.W.mg_none_of X G z_all
 have b_abs := PySem.W.mg_none_of X G z_abs
 have b_max := PySem.W.mg_none_of X G z_max
 have b_min := PySem.W.mg_none_of X G z_min
 have g_MOST_NUMBERS_words : ∃ t, mg "MOST_NUMBERS_words" = some (.int 200 t) := ⟨t_MOST_NUMBERS_words, PySem.W.mg_of X G y_MOST_NUMBERS_words⟩
 have g_MOST_NUMBERS_roads : ∃ t, mg "MOST_NUMBERS_roads" = some (.int 8 t) := ⟨t_MOST_NUMBERS_roads, PySem.W.mg_of X G y_MOST_NUMBERS_roads⟩
 have g_MOST_THINGS : ∃ t, mg "MOST_THINGS" = some (.int 9 t) := ⟨t_MOST_THINGS, PySem.W.mg_of X G y_MOST_THINGS⟩
 have F1 := bC (st := gb) l1 c1 k1
 have i1 := F1.binds (ps := ["thing"]) fun _ _ _ _ _ _ => xD fun _ => rfl
 have F2 := bC (st := dG) l2 c2 k2
 have i2 := F2.binds (ps := ["n"]) fun _ _ _ _ _ _ => xD fun _ => rfl
 have F3 := bC (st := nR) l3 c3 k3
 have i3 := F3.binds (ps := ["order"]) fun _ _ _ _ _ _ => xD fun _ => rfl
 have F4 := bC (st := dQ) l4 c4 k4
 have i4 := F4.binds (ps := ["n", "thing"]) fun _ _ _ _ _ _ => tP fun _ _ => rfl
 have F5 := bC (st := bQ) l5 c5 k5
 have i5 := F5.binds (ps := ["order", "i", "j"]) fun _ _ _ _ _ _ => KP fun _ _ _ => rfl
 have F6 := bC (st := fq) l6 c6 k6
 have i6 := F6.binds (ps := ["order", "k"]) fun _ _ _ _ _ _ => tP fun _ _ => rfl
 have F7 := bC (st := dS) l7 c7 k7
 have i7 := F7.binds (ps := ["n"]) fun _ _ _ _ _ _ => xD fun _ => rfl
 have F8 := bC (st := dJ) l8 c8 k8
 have i8 := F8.binds (ps := ["order"]) fun _ _ _ _ _ _ => xD fun _ => rfl
 have F9 := bC (st := ja) l9 c9 k9
 have i9 := F9.binds (ps := ["order"]) fun _ _ _ _ _ _ => xD fun _ => rfl
 have F10 := bC (st := kJ) l10 c10 k10
 have i10 := F10.binds (ps := ["order"]) fun _ _ _ _ _ _ => xD fun _ => rfl
 have F11 := bC (st := gX) l11 c11 k11
 have i11 := F11.binds (ps := ["n", "thing"]) fun _ _ _ _ _ _ => tP fun _ _ => rfl
 have F12 := bC (st := iZ) l12 c12 k12
 have i12 := F12.binds (ps := ["n", "word"]) fun _ _ _ _ _ _ => tP fun _ _ => rfl
 have F13 := bC (st := dU) l13 c13 k13
 have i13 := F13.binds (ps := ["n", "word"]) fun _ _ _ _ _ _ => tP fun _ _ => rfl
 have F14 := bC (st := eo) l14 c14 k14
 have i14 := F14.binds (ps := ["order"]) fun _ _ _ _ _ _ => xD fun _ => rfl
 have F15 := bC (st := eZ) l15 c15 k15
 have i15 := F15.binds (ps := ["n", "word"]) fun _ _ _ _ _ _ => tP fun _ _ => rfl
 have F16 := bC (st := cD) l16 c16 k16
 have i16 := F16.binds (ps := ["word"]) fun _ _ _ _ _ _ => xD fun _ => rfl
 have F17 := bC (st := cL) l17 c17 k17
 have i17 := F17.binds (ps := ["word"]) fun _ _ _ _ _ _ => xD fun _ => rfl
 have F18 := bC (st := jg) l18 c18 k18
 have i18 := F18.binds (ps := ["ahead", "last"]) fun _ _ _ _ _ _ => tP fun _ _ => rfl
 have F19 := bC (st := eB) l19 c19 k19
 have i19 := F19.binds (ps := ["one", "other"]) fun _ _ _ _ _ _ => tP fun _ _ => rfl
 have F20 := bC (st := bE) l20 c20 k20
 have i20 := F20.binds (ps := ["n", "word"]) fun _ _ _ _ _ _ => tP fun _ _ => rfl
 have F21 := bC (st := gk) l21 c21 k21
 have i21 := F21.binds (ps := ["n", "word"]) fun _ _ _ _ _ _ => tP fun _ _ => rfl
 have F22 := bC (st := nA) l22 c22 k22
 have i22 := F22.binds (ps := ["n", "word"]) fun _ _ _ _ _ _ => tP fun _ _ => rfl
 have F23 := bC (st := gT) l23 c23 k23
 have i23 := F23.binds (ps := ["_law_script", "_law_k"]) fun _ _ _ _ _ _ => tP fun _ _ => rfl
 have F24 := bC (st := fF) l24 c24 k24
 have i24 := F24.binds (ps := ["_law_bag_here", "_law_many"]) fun _ _ _ _ _ _ => tP fun _ _ => rfl
 have F25 := bC (st := gS) l25 c25 k25
 have i25 := F25.binds (ps := ["_law_n", "_law_word_here"]) fun _ _ _ _ _ _ => tP fun _ _ => rfl
 have F26 := bC (st := fG) l26 c26 k26
 have i26 := F26.binds (ps := ["_law_bag_here", "_law_n", "_law_most"]) fun _ _ _ _ _ _ => KP fun _ _ _ => rfl
 have F27 := bC (st := fD) l27 c27 k27
 have i27 := F27.binds (ps := ["_law_bag_here", "_law_n", "_law_word_here"]) fun _ _ _ _ _ _ => KP fun _ _ _ => rfl
 have F28 := bC (st := dM) l28 c28 k28
 have i28 := F28.binds (ps := ["_law_one", "_law_other_here"]) fun _ _ _ _ _ _ => tP fun _ _ => rfl
 have F29 := bC (st := fu) l29 c29 k29
 have i29 := F29.binds (ps := ["_law_order"]) fun _ _ _ _ _ _ => xD fun _ => rfl
 have F30 := bC (st := e_) l30 c30 k30
 have i30 := F30.binds (ps := ["_law_thing"]) fun _ _ _ _ _ _ => xD fun _ => rfl
 have F31 := bC (st := b9) l31 c31 k31
 have i31 := F31.binds (ps := ["_law_one", "_law_other_here"]) fun _ _ _ _ _ _ => tP fun _ _ => rfl
 have F32 := bC (st := dP) l32 c32 k32
 have i32 := F32.binds (ps := ["_law_n", "_law_words", "_law_word_here"]) fun _ _ _ _ _ _ => KP fun _ _ _ => rfl
 have F33 := bC (st := fh) l33 c33 k33
 have i33 := F33.binds (ps := ["_law_words"]) fun _ _ _ _ _ _ => xD fun _ => rfl
 have F34 := bC (st := gg) l34 c34 k34
 have i34 := F34.binds (ps := ["_law_bag_here", "_law_n"]) fun _ _ _ _ _ _ => tP fun _ _ => rfl
 have F35 := bC (st := mQ) l35 c35 k35
 have i35 := F35.binds (ps := ["_law_script"]) fun _ _ _ _ _ _ => xD fun _ => rfl
 refine ⟨PySem.W.fnOf "law" "law" (a_ mQ) (aY mQ) (aG mQ) .none kV35 dc35 pm35 an35 cd35 ct35, fun s v => .of_eq rfl, fun base _ _ => ?_⟩
 have G_is_whole : dm l.prog w K mg base 1 "is_whole" ["thing"] f_ := ⟨f1, _, ue F1 b_isinstance b_bool b_int, PySem.W.mg_of X G a1, k1, i1⟩
 have G_plain_order : dm l.prog w K mg base 1 "plain_order" ["n"] dO := ⟨f2, _, o_ F2 b_tuple b_range, PySem.W.mg_of X G a2, k2, i2⟩
 have G_back : dm l.prog w K mg base 1 "back" ["order"] nv := ⟨f3, _, D6 F3 b_len b_enumerate b_tuple, PySem.W.mg_of X G a3, k3, i3⟩
 have G_is_exchange : dm l.prog w K mg base 2 "is_exchange" ["n", "thing"] bY := ⟨f4, _, qp F4 G_is_whole, PySem.W.mg_of X G a4, k4, i4⟩
 have G_exchanged_places : dm l.prog w K mg base 1 "exchanged_places" ["order", "i", "j"] bP := ⟨f5, _, kP F5 b_list b_tuple, PySem.W.mg_of X G a5, k5, i5⟩
 have G_exchanged : dm l.prog w K mg base 3 "exchanged" ["order", "k"] cA := ⟨f6, _, sS F6 b_len G_is_exchange G_exchanged_places, PySem.W.mg_of X G a6, k6, i6⟩
 have G_place_pairs : dm l.prog w K mg base 1 "place_pairs" ["n"] cS := ⟨f7, _, pV F7 b_range, PySem.W.mg_of X G a7, k7, i7⟩
 have G_wrong_pairs : dm l.prog w K mg base 2 "wrong_pairs" ["order"] dH := ⟨f8, _, p_ F8 b_len G_place_pairs, PySem.W.mg_of X G a8, k8, i8⟩
 have G_length : dm l.prog w K mg base 3 "length" ["order"] jj := ⟨f9, _, zX F9 b_len G_wrong_pairs, PySem.W.mg_of X G a9, k9, i9⟩
 have G_falls : dm l.prog w K mg base 1 "falls" ["order"] jq := ⟨f10, _, Dz F10 b_range b_len, PySem.W.mg_of X G a10, k10, i10⟩
 have G_is_word : dm l.prog w K mg base 3 "is_word" ["n", "thing"] gU := ⟨f11, _, v_ F11 b_len b_isinstance b_list b_all g_MOST_NUMBERS_words G_is_exchange, PySem.W.mg_of X G a11, k11, i11⟩
 have G_led_by : dm l.prog w K mg base 4 "led_by" ["n", "word"] eO := ⟨f12, _, zQ F12 G_is_word G_plain_order G_exchanged, PySem.W.mg_of X G a12, k12, i12⟩
 have G_is_shortest : dm l.prog w K mg base 5 "is_shortest" ["n", "word"] cB := ⟨f13, _, pU F13 b_len G_length G_led_by, PySem.W.mg_of X G a13, k13, i13⟩
 have G_first_word : dm l.prog w K mg base 4 "first_word" ["order"] er := ⟨f14, _, qG F14 G_back G_falls G_exchanged, PySem.W.mg_of X G a14, k14, i14⟩
 have G_is_beyond : dm l.prog w K mg base 1 "is_beyond" ["n", "word"] ff := ⟨f15, _, rQ F15 b_len g_MOST_NUMBERS_roads g_MOST_THINGS, PySem.W.mg_of X G a15, k15, i15⟩
 have G_changed_places : dm l.prog w K mg base 1 "changed_places" ["word"] cC := ⟨f16, _, ni F16 b_range b_len b_abs, PySem.W.mg_of X G a16, k16, i16⟩
 have G_turned_threes : dm l.prog w K mg base 1 "turned_threes" ["word"] cM := ⟨f17, _, nu F17 b_range b_len b_abs, PySem.W.mg_of X G a17, k17, i17⟩
 have G_traced : dm l.prog w K mg base 1 "traced" ["ahead", "last"] iu := ⟨f18, _, zN F18 b_list, PySem.W.mg_of X G a18, k18, i18⟩
 have G_found_road : dm l.prog w K mg base 2 "found_road" ["one", "other"] dg := ⟨f19, _, qI F19 b_tuple G_changed_places G_turned_threes G_traced, PySem.W.mg_of X G a19, k19, i19⟩
 have G_shortest_beginning : dm l.prog w K mg base 6 "shortest_beginning" ["n", "word"] bF := ⟨f20, _, jN F20 b_len G_is_shortest, PySem.W.mg_of X G a20, k20, i20⟩
 have G_led_down : dm l.prog w K mg base 7 "led_down" ["n", "word"] eU := ⟨f21, _, t_ F21 G_shortest_beginning G_first_word G_exchanged G_led_by G_found_road, PySem.W.mg_of X G a21, k21, i21⟩
 have G_fall : dm l.prog w K mg base 8 "fall" ["n", "word"] j7 := ⟨f22, _, EZ F22 b_list G_led_by G_is_beyond G_is_shortest G_led_down, PySem.W.mg_of X G a22, k22, i22⟩
 have G_law_bag : dm l.prog w K mg base 1 "_law_bag" ["_law_script", "_law_k"] gY := ⟨f23, _, vW F23 b_len b_abs b_int, PySem.W.mg_of X G a23, k23, i23⟩
 have G_law_digit : dm l.prog w K mg base 1 "_law_digit" ["_law_bag_here", "_law_many"] aT := ⟨f24, _, rT F24, PySem.W.mg_of X G a24, k24, i24⟩
 have G_law_led : dm l.prog w K mg base 1 "_law_led" ["_law_n", "_law_word_here"] dN := ⟨f25, _, v9 F25 b_list b_range b_tuple, PySem.W.mg_of X G a25, k25, i25⟩
 have G_law_grown : dm l.prog w K mg base 2 "_law_grown" ["_law_bag_here", "_law_n", "_law_most"] fB := ⟨f26, _, sA F26 b_list b_range b_len G_law_digit, PySem.W.mg_of X G a26, k26, i26⟩
 have G_law_other : dm l.prog w K mg base 2 "_law_other" ["_law_bag_here", "_law_n", "_law_word_here"] fJ := ⟨f27, _, sR F27 b_list b_range b_len G_law_led G_law_digit, PySem.W.mg_of X G a27, k27, i27⟩
 have G_law_is_deed : dm l.prog w K mg base 1 "_law_is_deed" ["_law_one", "_law_other_here"] cz := ⟨f28, _, qh F28 b_range b_len b_abs, PySem.W.mg_of X G a28, k28, i28⟩
 have G_law_wrong : dm l.prog w K mg base 1 "_law_wrong" ["_law_order"] fH := ⟨f29, _, r8 F29 b_len b_range, PySem.W.mg_of X G a29, k29, i29⟩
 have G_law_whole : dm l.prog w K mg base 1 "_law_whole" ["_law_thing"] eg := ⟨f30, _, r_ F30 b_isinstance b_bool b_int, PySem.W.mg_of X G a30, k30, i30⟩
 have G_law_is_left_out : dm l.prog w K mg base 1 "_law_is_left_out" ["_law_one", "_law_other_here"] b8 := ⟨f31, _, mz F31 b_range b_len, PySem.W.mg_of X G a31, k31, i31⟩
 have G_law_is_fall : dm l.prog w K mg base 2 "_law_is_fall" ["_law_n", "_law_words", "_law_word_here"] dR := ⟨f32, _, qm F32 b_isinstance b_list b_all b_range b_len G_law_whole G_law_is_left_out G_law_is_deed G_law_led G_law_wrong, PySem.W.mg_of X G a32, k32, i32⟩
 have G_law_apart : dm l.prog w K mg base 1 "_law_apart" ["_law_words"] fE := ⟨f33, _, rH F33 b_list b_enumerate, PySem.W.mg_of X G a33, k33, i33⟩
 have G_law_word : dm l.prog w K mg base 3 "_law_word" ["_law_bag_here", "_law_n"] gf := ⟨f34, _, ud F34 b_range b_len G_law_digit G_law_grown G_law_other, PySem.W.mg_of X G a34, k34, i34⟩
 exact Il F35 b_range b_max b_min b_len b_list G_law_bag G_law_digit G_law_word G_fall G_law_is_fall G_law_apart
theorem walk {l : PySem.W.OpenLaw} {q : Program} {loose : List Str} {XP : (Str -> Option Value) -> Heap -> Prop} {YP : World -> Heap -> Prop} {d : DefRec} {K : Params -> PySem.W.Frag} (hn : l.most = some 63) (hdf : d.params.defaults = [])
  (hY : ∀ (w : World) (h : Heap), YP w h -> (K w.params).In h)
  (F : ∀ (w : World) (mg : Str -> Option Value) (fa : Addr) (h : Heap), (K w.params).In h -> h.Ns mainGlobals mg -> mg d.name = some (.ref fa) ->
   ∃ fd : FuncData, (∀ (s : Shared) (u : Value), BindsTo s fd ⟨[u], []⟩ [("_law_script", u)]) /\ ∀ base : Heap, (K w.params).In base -> base.Ns mainGlobals mg -> FnOk l.prog w (K w.params) mg base iB 9 fa fd ["_law_script"] (jb (K w.params) 1 rm)) :
  PySem.W.WalkO q loose XP YP l.row.toRowW d [] (fun f vs => PySem.call f vs) :=
 L2.Ea (n := 63) (k := 9) (x := "_law_script") (CX := fun _ => iB) (sp := fun w => jb (K w.params) 1 rm) hn (by decide) hdf ⟨rfl, by decide, by decide⟩ hY F (fun _ H a ns hl hO hS => z6 hO hS (GW ns hl)) fun _ _ _ _ _ z => z
end K10
open PySem PySem.W PyProof.Rows
namespace PySem.W.Fast
theorem tw11580088807029319184 : True := trivial
theorem tw6272109501146003645 : True := trivial
theorem tw849372472574974748 : True := trivial
theorem tw6350446212785742879 : True := trivial
theorem tw9653615572136037912 : True := trivial
theorem tw11973545295715216783 : True := trivial
theorem tw11214656757983822211 : True := trivial
theorem tw16364104507069145969 : True := trivial
theorem tw12194530374788412655 : True := trivial
theorem tw12727946429338000875 : True := trivial
theorem tw952404805155695447 : True := trivial
theorem tw9668542521667609361 : True := trivial
theorem tw8337871708097948466 : True := trivial
theorem tw10065738887085774075 : True := trivial
theorem tw15164418058471972738 : True := trivial
theorem tw8316249983552795611 : True := trivial
theorem tw5073995061572676225 : True := trivial
theorem tw2608480657269699806 : True := trivial
theorem tw13979228229838538430 : True := trivial
theorem tw9690444086998802695 : True := trivial
theorem tw13038823918008394285 : True := trivial
theorem tw7238054153617786039 : True := trivial
theorem tw16960957412696469320 : True := trivial
theorem tw17245387190855792595 : True := trivial
theorem tw7000229814577134562 : True := trivial
theorem tw7142499931051445562 : True := trivial
theorem tw13286394276951613992 : True := trivial
theorem tw10192773076396607192 : True := trivial
theorem tw9312524688355811516 : True := trivial
theorem tw17832214862950464679 : True := trivial
theorem tw221189853311468425 : True := trivial
theorem tw6696533949183392148 : True := trivial
theorem tw13769949796963757874 : True := trivial
theorem tw7842153841648770252 : True := trivial
theorem tw14517579652426156342 : True := trivial
theorem tw7802229218186566377 : True := trivial
theorem tw1885286150553796553 : True := trivial
theorem tw1356199104256715302 : True := trivial
theorem tw3707550266519906306 : True := trivial
theorem tw7788263701291895525 : True := trivial
theorem tw7120671546211345990 : True := trivial
theorem tw4438768820201742309 : True := trivial
theorem tw5086354543218955131 : True := trivial
theorem tw14998761999186183905 : True := trivial
theorem tw15639940042790607283 : True := trivial
theorem tw13301368139747647021 : True := trivial
theorem tw10351652003382444666 : True := trivial
theorem tw1493517052281356377 : True := trivial
theorem tw15262877762567172718 : True := trivial
theorem tw8019343664066527025 : True := trivial
theorem tw6404332681975189724 : True := trivial
theorem tw1210898636071938477 : True := trivial
theorem tw620596440101631852 : True := trivial
theorem tw17369415869592653242 : True := trivial
theorem tw4000128189533372380 : True := trivial
theorem tw7714765645668817090 : True := trivial
theorem tw8917732679161499944 : True := trivial
theorem tw5124791212276148101 : True := trivial
theorem tw18096623281794554294 : True := trivial
theorem tw3084068752766413064 : True := trivial
end PySem.W.Fast
set_option maxRecDepth 100000 in
set_option maxHeartbeats 0 in
theorem PySem.Challenge.cw_undercells_k10_falls_of_words_holds : PySem.Challenge.rw_undercells_k10_falls_of_words.Holds := by
 w_on; o_law; k_head; (case hw => w_witness2)
 k_fill
 refine K10.walk (l := PySem.Challenge.rw_undercells_k10_falls_of_words) rfl rfl (fun w h Y => PySem.W.kIn_of Y) ?F
 case F =>
  intro w mg fa h KX G hmg
  refine' K10.all_mk KX G hmg ?a1 ?l1 ?c1 ?k1 ?a2 ?l2 ?c2 ?k2 ?a3 ?l3 ?c3 ?k3 ?a4 ?l4 ?c4 ?k4 ?a5 ?l5 ?c5 ?k5 ?a6 ?l6 ?c6 ?k6 ?a7 ?l7 ?c7 ?k7 ?a8 ?l8 ?c8 ?k8 ?a9 ?l9 ?c9 ?k9 ?a10 ?l10 ?c10 ?k10 ?a11 ?l11 ?c11 ?k11 ?a12 ?l12 ?c12 ?k12 ?a13 ?l13 ?c13 ?k13 ?a14 ?l14 ?c14 ?k14 ?a15 ?l15 ?c15 ?k15 ?a16 ?l16 ?c16 ?k16 ?a17 ?l17 ?c17 ?k17 ?a18 ?l18 ?c18 ?k18 ?a19 ?l19 ?c19 ?k19 ?a20 ?l20 ?c20 ?k20 ?a21 ?l21 ?c21 ?k21 ?a22 ?l22 ?c22 ?k22 ?a23 ?l23 ?c23 ?k23 ?a24 ?l24 ?c24 ?k24 ?a25 ?l25 ?c25 ?k25 ?a26 ?l26 ?c26 ?k26 ?a27 ?l27 ?c27 ?k27 ?a28 ?l28 ?c28 ?k28 ?a29 ?l29 ?c29 ?k29 ?a30 ?l30 ?c30 ?k30 ?a31 ?l31 ?c31 ?k31 ?a32 ?l32 ?c32 ?k32 ?a33 ?l33 ?c33 ?k33 ?a34 ?l34 ?c34 ?k34 ?a35 ?l35 ?c35 ?k35 ?z_isinstance ?z_bool ?z_int ?z_tuple ?z_range ?z_len ?z_enumerate ?z_list ?z_all ?z_abs ?z_max ?z_min ?y_MOST_NUMBERS_words ?y_MOST_NUMBERS_roads ?y_MOST_THINGS
  (case a1 => k_is)
  (case l1 => k_is)
  (case c1 => k_is)
  (case k1 => k_is)
  (case a2 => k_is)
  (case l2 => k_is)
  (case c2 => k_is)
  (case k2 => k_is)
  (case a3 => k_is)
  (case l3 => k_is)
  (case c3 => k_is)
  (case k3 => k_is)
  (case a4 => k_is)
  (case l4 => k_is)
  (case c4 => k_is)
  (case k4 => k_is)
  (case a5 => k_is)
  (case l5 => k_is)
  (case c5 => k_is)
  (case k5 => k_is)
  (case a6 => k_is)
  (case l6 => k_is)
  (case c6 => k_is)
  (case k6 => k_is)
  (case a7 => k_is)
  (case l7 => k_is)
  (case c7 => k_is)
  (case k7 => k_is)
  (case a8 => k_is)
  (case l8 => k_is)
  (case c8 => k_is)
  (case k8 => k_is)
  (case a9 => k_is)
  (case l9 => k_is)
  (case c9 => k_is)
  (case k9 => k_is)
  (case a10 => k_is)
  (case l10 => k_is)
  (case c10 => k_is)
  (case k10 => k_is)
  (case a11 => k_is)
  (case l11 => k_is)
  (case c11 => k_is)
  (case k11 => k_is)
  (case a12 => k_is)
  (case l12 => k_is)
  (case c12 => k_is)
  (case k12 => k_is)
  (case a13 => k_is)
  (case l13 => k_is)
  (case c13 => k_is)
  (case k13 => k_is)
  (case a14 => k_is)
  (case l14 => k_is)
  (case c14 => k_is)
  (case k14 => k_is)
  (case a15 => k_is)
  (case l15 => k_is)
  (case c15 => k_is)
  (case k15 => k_is)
  (case a16 => k_is)
  (case l16 => k_is)
  (case c16 => k_is)
  (case k16 => k_is)
  (case a17 => k_is)
  (case l17 => k_is)
  (case c17 => k_is)
  (case k17 => k_is)
  (case a18 => k_is)
  (case l18 => k_is)
  (case c18 => k_is)
  (case k18 => k_is)
  (case a19 => k_is)
  (case l19 => k_is)
  (case c19 => k_is)
  (case k19 => k_is)
  (case a20 => k_is)
  (case l20 => k_is)
  (case c20 => k_is)
  (case k20 => k_is)
  (case a21 => k_is)
  (case l21 => k_is)
  (case c21 => k_is)
  (case k21 => k_is)
  (case a22 => k_is)
  (case l22 => k_is)
  (case c22 => k_is)
  (case k22 => k_is)
  (case a23 => k_is)
  (case l23 => k_is)
  (case c23 => k_is)
  (case k23 => k_is)
  (case a24 => k_is)
  (case l24 => k_is)
  (case c24 => k_is)
  (case k24 => k_is)
  (case a25 => k_is)
  (case l25 => k_is)
  (case c25 => k_is)
  (case k25 => k_is)
  (case a26 => k_is)
  (case l26 => k_is)
  (case c26 => k_is)
  (case k26 => k_is)
  (case a27 => k_is)
  (case l27 => k_is)
  (case c27 => k_is)
  (case k27 => k_is)
  (case a28 => k_is)
  (case l28 => k_is)
  (case c28 => k_is)
  (case k28 => k_is)
  (case a29 => k_is)
  (case l29 => k_is)
  (case c29 => k_is)
  (case k29 => k_is)
  (case a30 => k_is)
  (case l30 => k_is)
  (case c30 => k_is)
  (case k30 => k_is)
  (case a31 => k_is)
  (case l31 => k_is)
  (case c31 => k_is)
  (case k31 => k_is)
  (case a32 => k_is)
  (case l32 => k_is)
  (case c32 => k_is)
  (case k32 => k_is)
  (case a33 => k_is)
  (case l33 => k_is)
  (case c33 => k_is)
  (case k33 => k_is)
  (case a34 => k_is)
  (case l34 => k_is)
  (case c34 => k_is)
  (case k34 => k_is)
  (case a35 => k_is)
  (case l35 => k_is)
  (case c35 => k_is)
  (case k35 => k_is)
  (case z_isinstance => k_is)
  (case z_bool => k_is)
  (case z_int => k_is)
  (case z_tuple => k_is)
  (case z_range => k_is)
  (case z_len => k_is)
  (case z_enumerate => k_is)
  (case z_list => k_is)
  (case z_all => k_is)
  (case z_abs => k_is)
  (case z_max => k_is)
  (case z_min => k_is)
  (case y_MOST_NUMBERS_words => k_is)
  (case y_MOST_NUMBERS_roads => k_is)
  (case y_MOST_THINGS => k_is)
