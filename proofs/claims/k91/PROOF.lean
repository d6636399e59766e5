import PyProof.Rows.All
import Wide.All
import OpenK.AllK
import Wide.FinOn
import Lean
import PyProof.EqAt
import PyProof.EqKinds
import PyProof.TupleCall
import PySem.Challenge.RW_undercells_k91_whole_products_and_turnin
set_option autoImplicit true
set_option relaxedAutoImplicit true
set_option Elab.async false
set_option linter.all false
set_option maxRecDepth 100000
set_option maxHeartbeats 4000000
def aF:=@List.getElem?_eq_getElem
def aG:=@List.mem_cons_self
def aH:=@PySem.wpAny_bind
def aI:=@List.mem_cons_of_mem
def aJ:=@if_neg
def aK:=@List.length_map
def aL:=@List.getD_eq_getElem?_getD
def aM:=@if_pos
def aN:=@List.getElem?_eq_some_iff
def aO:=@Nat.le_refl
def aP:=@List.getElem?_map
def aQ:=@PySem.Heap.get?_push_of_some
def aR:=@List.length_append
def aS:=@PySem.wpAny_pure
def aV:=@List.mem_singleton
def aW:=@PyProof.Rows.wpS_bind
def aX:=@List.mem_of_getElem?
def aY:=@Option.map_eq_some_iff
def aZ:=@Option.some.inj
def a_:=@List.size_toArray
def bf:=@PySem.Heap.lt_size
def bg:=@List.mem_map
def bh:=@List.map_map
def bq:=@decide_eq_true
def br:=@PyProof.Rows.wpS_pure
def bu:=@Bool.false_eq_true
def bw:=@decide_eq_false
def bz:=@List.length_cons
def bA:=@PySem.Heap.get?_push_size
def bB:=@List.mem_cons
def bC:=@List.map_cons
def bD:=@List.mem_append
def bE:=@Nat.ne_of_lt
def bF:=@Bool.false_ne_true
def bG:=@List.getElem?_append_left
def bH:=@Nat.le_trans
def bI:=@Nat.zero_le
def bJ:=@Nat.mul_le_mul_right
def bK:=@beq_self_eq_true
def bL:=@Nat.lt_of_lt_of_le
def bM:=@List.pairwise_cons
def bN:=@of_decide_eq_true
def bO:=@List.map_append
def bP:=@Int.zero_add
def bQ:=@List.mem_append_right
def bR:=@List.length_singleton
def bS:=@List.getElem?_eq_none
def bV:=@List.getElem?_set_self
def bW:=@if_false
def bX:=@List.length_nil
def bY:=@List.length_set
def bZ:=@PySem.PassesOwn.never
def b6:=@List.pairwise_append
def b8:=@List.length_take
def b9:=@List.append_assoc
def b_:=@List.length_range
def cg:=@PySem.W.mg_none_of
def cj:=@Option.bind_eq_some_iff
def ck:=@List.append_nil
def cu:=@List.getElem?_set_ne
def cA:=@Nat.zero_add
def cB:=@List.pairwise_map
def cC:=@Int.add_zero
def cD:=@PyProof.Rows.wpS_forRange
def cE:=@List.map_congr_left
def cF:=@List.mem_filter
def cG:=@List.nodup_cons
def cH:=@List.find?_cons
def cI:=@List.mem_range
def cJ:=@List.pairwise_singleton
def cK:=@PySem.F.slot_dict_keyiterator_next
def cL:=@Nat.lt_of_le_of_lt
def cM:=@PySem.W.kia_one
def cN:=@PySem.AutoSeq1.wpAny_loadPart'
def cO:=@PySem.wpAny_call_entry
def cP:=@Bool.not_true
def cQ:=@List.filter_cons
def cR:=@PySem.wpAny_newObj_type
def cT:=@List.ext_getElem?
def cU:=@List.foldl_append
def cV:=@if_true
def cW:=@of_decide_eq_false
def cX:=@List.getElem_map
def cY:=@List.pairwise_iff_getElem
def cZ:=@List.drop_eq_getElem_cons
def c5:=@List.replicate_succ
def c6:=@Ne.symm
def c7:=@Int.toNat_natCast
def c8:=@List.take_add_one
def c9:=@List.nodup_nil
def c_:=@Bool.not_false
def dc:=@List.getElem_inj
def dg:=@congrArg
def dh:=@PySem.wpAny_callSpecial?_slot
def di:=@List.take_length
def dj:=@PyProof.Rows.callWith_type1
def dm:=@PySem.F.slot_dict_get
def dw:=@List.length_filter_le
def dz:=@List.getElem_mem
def dB:=@PySem.wpAny_holding
def dD:=@List.Perm.eq_of_pairwise
def dF:=@List.mem_of_mem_take
def dG:=@PySem.wpAny_typeNameOfWhole_keyiter
def dH:=@Nat.mul_le_mul
def dI:=@PySem.wpAny_truthy_bool
def dJ:=@List.flatten_cons
def dM:=@List.length_eq_zero_iff
def dN:=@Nat.lt_succ_of_lt
def dO:=@List.nodup_append
def dP:=@Option.map_some
def dQ:=@Array.length_toList
def dR:=@PyProof.Rows.wpS_mono
def dS:=@List.getElem?_range
def dW:=@List.mem_map_of_mem
def dX:=@Nat.succ_mul
def dY:=@PySem.sizeLine_eq
def dZ:=@Nat.one_mul
def d7:=@List.all_eq_true
def d8:=@Option.bind_some
def d9:=@List.mem_flatMap
def d_:=@List.mem_reverse
def ef:=@PySem.Heap.size_push
def eg:=@PySem.F.slot_tuple_iterator_next
def eB:=@PySem.Obj.data_mapFields
def eE:=@PySem.wpAny_rule
def eF:=@List.Perm.refl
def eG:=@List.getElem_range
def eK:=@Array.getElem?_toList
def eL:=@List.getElem?_toArray
def eN:=@PySem.wpAny_passesOwn
def eO:=@List.foldl_cons
def eS:=@Nat.not_lt_zero
def eT:=@List.getElem?_of_mem
def eU:=@List.mem_of_mem_drop
def eV:=@List.reverse_cons
def eW:=@PyProof.Rows.listItems_at
def eX:=@List.forall_mem_cons
def eY:=@Option.isSome_iff_exists
def eZ:=@PySem.wpAny_typeNameOf_keyiter
def e_:=@Int.add_assoc
def fh:=@List.idxOf_lt_length_iff
def fj:=@beq_eq_false_iff_ne
def fm:=@PySem.mem_of_lookup
def fq:=@PySem.Heap.SameBut.update
def fB:=@List.length_reverse
def fC:=@Nat.lt_succ_self
def fF:=@List.length_drop
def fG:=@List.take_zero
def fH:=@List.prefix_refl
def fJ:=@PySem.tupleKind_room_in1
def fK:=@PyProof.Rows.wpS_modify
def fL:=@List.prefix_append
def fM:=@Nat.lt_irrefl
def fN:=@List.any_cons
def fO:=@PySem.Heap.get?_update_self
def fP:=@PySem.builtinLookup_eq_fast
def fQ:=@List.set_append_right
def fR:=@List.mem_append_left
def fS:=@List.getElem?_append_right
def fV:=@List.range_eq_range'
def fW:=@PySem.Around.under_plainId
def fX:=@PySem.isSubtype_type
def fY:=@List.reverse_reverse
def fZ:=@Option.map_map
def f6:=@List.map_nil
def f7:=@List.lookup_cons
def f9:=@List.any_eq_true
def f_:=@Int.mul_zero
def gb:=@PySem.Calls.call_function_entry
def gc:=@List.mem_of_find?_eq_some
def gf:=@PySem.F.args_dict_keyiterator_next_1
def gg:=@List.getElem?_take_of_lt
def gh:=@PySem.F.args_tuple_add_2
def gp:=@Bool.false_or
def gq:=@PySem.F.entry_dict_keyiterator_next
def gr:=@PySem.F.slot_list_getattribute
def gu:=@List.sum_cons
def gv:=@List.Pairwise.imp_of_mem
def gw:=@List.forIn_cons
def gz:=@PySem.codeAny_builtin
def gA:=@PySem.wpAny_pyIter_tuple
def gB:=@List.find?_eq_none
def gC:=@Int.emod_lt_of_pos
def gD:=@Option.isSome_none
def gE:=@PySem.F.entry_tuple_add
def gF:=@PySem.wpAny_field
def gG:=@PySem.F.args_dict_get_3
def gH:=@PySem.F.slot_tuple_add
def gI:=@List.range_succ_eq_map
def gJ:=@List.all_map
def gK:=@PySem.wpAny_typeOf
def gM:=@PySem.wpAny_setField
def gO:=@Option.isSome_map
def gP:=@PySem.F.entry_dict_get
def gQ:=@PyProof.Rows.wpS_get
def gR:=@List.take_succ_eq_append_getElem
def gS:=@PySem.Heap.get?_push_ne
def gT:=@Array.getElem?_eq_none
def gU:=@Nat.lt_of_succ_lt_succ
def gW:=@List.find?_map
def gY:=@List.eraseIdxIfInBounds_toArray
def gZ:=@PySem.Obj.isFreed_of_fields
def g_:=@List.take_append_drop
def h_:=@PySem.wpAny_isOneOf_keyiter
def ie:=@PySem.F.type_dict_get
def ig:=@Nat.le_of_not_lt
def ir:=@Option.getD_some
def iu:=@PySem.Heap.size_update
def iw:=@List.isEmpty_nil
def iy:=@PySem.wpAny_attempt
def iz:=@Nat.add_assoc
def iA:=@PySem.wpAny_of_eq
def iB:=@PySem.F.slot_list_reversed
def iC:=@Bool.or_eq_false_iff
def iD:=@Nat.pow_le_pow_right
def iE:=@PySem.wpAny_execs_nil
def iF:=@PySem.typeLookup_type
def iG:=@List.find?_some
def iH:=@Int.emod_nonneg
def iI:=@List.filterMap_cons
def iJ:=@List.flatMap_append
def iK:=@List.filter_eq_self
def iL:=@PySem.codeAny_mono
def iM:=@Nat.sub_self
def iN:=@List.map_set
def iO:=@PySem.wpAny_mono
def iP:=@PySem.wpAny_Call_Name_kw
def iQ:=@List.zip_cons_cons
def iR:=@PySem.call_meets
def iS:=@PySem.wpAny_seqItems
def iT:=@Option.isSome_some
def iU:=@List.getElem?_drop
def iV:=@List.perm_ext_iff_of_nodup
def iW:=@PySem.wpAny_fieldsOf
def iX:=@List.getElem_idxOf
def iY:=@PySem.Obj.cls_mapFields
def iZ:=@decide_eq_true_eq
def i6:=@PySem.wpAny_dictEntries
def i7:=@List.flatMap_cons
def i8:=@List.find?_isSome
def i9:=@List.isEmpty_cons
def i_:=@PySem.Paired.length
def ja:=@PySem.wpAny_newList
def jb:=@PySem.W.mg_of
def jc:=@List.zipIdx_cons
def jd:=@List.countP_cons
def je:=@decide_eq_decide
def jf:=@Nat.le_of_lt
def jg:=@Nat.add_comm
def jh:=@List.of_mem_zip
def ji:=@List.filter_map
def jj:=@Bool.and_false
def jk:=@Array.size_zip
def jl:=@List.forIn_nil
def jm:=@List.foldl_map
def jn:=@Int.mul_add
def jo:=@List.map_id
abbrev af:=PySem.Value
abbrev ah:=PySem.World
abbrev aj:=PySem.Program
abbrev ak:=PySem.Addr
abbrev aq:=PySem.Heap
abbrev au:=PySem.W.Frag
abbrev az:=PySem.Around
abbrev aA:=PySem.Shared
abbrev aC:=PySem.Expr
abbrev aE:=PySem.Stmt
theorem anI{a b:Prop}(h:a)(k:b):a/\b:=⟨h,k⟩
open Array (size_map)
open Int (neg_mul one_mul zero_mul)
open List (all_cons)
open Nat (add_zero lt_trans ne_of_gt)
namespace L2
open PySem PySem.Spec PyProof.Rows
noncomputable abbrev Key:=Sum Int Str
noncomputable def A9:Key->af->Bool
 | .inl k,v=>Value.isInt k v
 | .inr x,v=>Value.isStrOf x v
noncomputable def Zn (w:ah):Key->Int
 | .inl k=>hashInt k
 | .inr x=>hashStr w x
theorem kI:∀{k:Key}{v:af},A9 k v=true->(∃i t,k=Sum.inl i/\v=Value.int i t)\/(∃x t,k=Sum.inr x/\v=Value.str x t)
 | .inl i,v,h=>by
  obtain⟨t,e⟩:=Value.isInt_shape (k:=i) (v:=v) h;exact .inl ⟨i,t,rfl,e⟩
 | .inr x,v,h=>by
  obtain⟨t,e⟩:=Value.isStrOf_shape (x:=x) (v:=v) h;exact .inr ⟨x,t,rfl,e⟩
theorem J6(i:Int)(t:Tok):A9 (.inl i) (.int i t)=true:=by simp[A9,Value.isInt]
theorem Kq(x:Str)(t:Tok):A9 (.inr x) (.str x t)=true:=by simp[A9,Value.isStrOf]
theorem Wh(a b:Int):decide ((Sum.inl a:Key)=Sum.inl b)=(a == b):=by
 by_cases e:a=b
 ·subst e;simp
 ·have h:¬(Sum.inl a:Key)=Sum.inl b:=λq=>e (Sum.inl.inj q);rw[bw h];exact(fj.mpr e).symm
theorem T_(a b:Str):decide ((Sum.inr a:Key)=Sum.inr b)=decide (a=b):=by
 by_cases e:a=b
 ·subst e;simp
 ·have h:¬(Sum.inr a:Key)=Sum.inr b:=λq=>e (Sum.inr.inj q);rw[bw h,bw e]
theorem V2(a:Int)(b:Str):decide ((Sum.inl a:Key)=Sum.inr b)=false:=bw (λq=>nomatch q)
theorem Wr(a:Str)(b:Int):decide ((Sum.inr a:Key)=Sum.inl b)=false:=bw (λq=>nomatch q)
noncomputable def j5 (prog:aj)(w:ah):PySem.KeyKind prog w Key where
 is:=A9
 hash:=Zn w
 inj:=λv a b ha hb=>by
  rcases kI ha with⟨i,t,rfl,rfl⟩|⟨x,t,rfl,rfl⟩
  ·rcases kI hb with⟨j,u,rfl,e⟩|⟨y,u,rfl,e⟩
   ·injection e with e1 _;rw[e1]
   ·exact nomatch e
  ·rcases kI hb with⟨j,u,rfl,e⟩|⟨y,u,rfl,e⟩
   ·exact nomatch e
   ·injection e with e1 _;rw[e1]
 byValue:=λk v h=>by
  rcases kI h with⟨i,t,rfl,rfl⟩|⟨x,t,rfl,rfl⟩<;>rfl
 pyHash:=λhv h=>by
  rcases kI hv with⟨i,t,rfl,rfl⟩|⟨x,t,rfl,rfl⟩
  ·exact wpAny_pyHash_int h
  ·exact wpAny_pyHash_str h
 eqBool:=λhu hv h=>by
  rcases kI hu with⟨i,t,rfl,rfl⟩|⟨x,t,rfl,rfl⟩
  ·rcases kI hv with⟨j,u,rfl,rfl⟩|⟨y,u,rfl,rfl⟩
   ·rw[Wh]at h;exact wpAny_eqBool_int h
   ·rw[V2]at h;exact SeqAt.EqAt.int_str i t y u _ _ _ _ h
  ·rcases kI hv with⟨j,u,rfl,rfl⟩|⟨y,u,rfl,rfl⟩
   ·rw[Wr]at h;exact SeqAt.EqAt.str_int x t j u _ _ _ _ h
   ·rw[T_]at h;exact wpAny_eqBool_str h
 «strs»:=λk x t v h=>by
  rcases kI h with⟨i,u,rfl,e⟩|⟨y,u,rfl,e⟩
  ·exact nomatch e
  ·injection e with e1 _
   subst e1
   cases v<;>rfl
theorem DY(prog:aj)(w:ah)(i:Int)(t:Tok):(j5 prog w).is (.inl i) (.int i t)=true:=J6 i t
theorem Ep(prog:aj)(w:ah)(x:Str)(t:Tok):(j5 prog w).is (.inr x) (.str x t)=true:=Kq x t
inductive V where
 | non|bl (b:Bool)|int (i:Int)|str (x:Str)|byt (b:Array UInt8)|flt (b:UInt64)|ref (a:ak)|ty (n:String)
 deriving DecidableEq
noncomputable def RelV:V->af->Prop
 | .non,u=>u=Value.none
 | .bl b,u=>u=Value.bool b
 | .int i,u=>∃t,u=Value.int i t
 | .str x,u=>∃t,u=Value.str x t
 | .byt b,u=>∃t,u=Value.bytes b t
 | .flt b,u=>∃t,u=Value.float b t
 | .ref a,u=>u=Value.ref a
 | .ty n,u=>u=Value.type n
noncomputable abbrev Vals:List V->List af->Prop:=Paired RelV
theorem Vals.length{xs:List V}{us:List af}(r:Vals xs us):xs.length=us.length:=i_ r
theorem Vals.get:∀{xs:List V}{us:List af}{i:Nat}{x:V},Vals xs us->xs[i]?=some x->∃u,us[i]?=some u/\RelV x u
 | _,_,_,_,.nil,e=>by simp at e
 | _,_,0,_,.cons r _,e=>by simp at e;subst e;exact⟨_,rfl,r⟩
 | _,_,i+1,x,.cons _ t,e=>by
  obtain⟨u,h1,h2⟩:=Vals.get (i:=i) (x:=x) t (by simpa using e);exact⟨u,by simpa using h1,h2⟩
theorem Vals.set{x:V}(r:RelV x u):∀{xs:List V}{us:List af}(i:Nat),Vals xs us->Vals (xs.set i x) (us.set i u)
 | _,_,_,.nil=>.nil
 | _,_,0,.cons _ t=>.cons r t
 | _,_,i+1,.cons q t=>.cons q (Vals.set r i t)
theorem Vals.append:∀{xs ys:List V}{us ws:List af},Vals xs us->Vals ys ws->Vals (xs++ys) (us++ws)
 | _,_,_,_,.nil,s=>s
 | _,_,_,_,.cons r t,s=>.cons r (Vals.append t s)
noncomputable def v8:Option V->Option af->Prop
 | some v,some u=>RelV v u
 | none,none=>True
 | _,_=>False
noncomputable def KV {κ:Type}:List (κ×V)->List (κ×af)->Prop:=Paired λ(p:κ×V) (q:κ×af)=>p.1=q.1/\RelV p.2 q.2
noncomputable def kV:Key->V
 | .inl i=>.int i
 | .inr x=>.str x
inductive HO where
 | lst (xs:List V)
 | tup (xs:List V)
 | dK (kvs:List (Key×V))|dT (kvs:List (List Key×V))
 | set (S:Int->Bool) (n:Nat)
 | ins (C dx:ak) (fs:List (Str×V))
 | own (x:ak)
 | xd (fs:List (Str×V))
 | met (f x:ak)
 | rng (lo hi:Int)
 | frz (o:Obj) (u:HO)
 | tbl (ps:Array af)
 | ext (φ:aq->Prop)
noncomputable abbrev Hp:=ak->Option HO
noncomputable def upd (H:Hp)(a:ak)(o:HO):Hp:=λb=>if b=a then some o else H b
theorem kJ{H:Hp}{a:ak}:upd H a o a=some o:=by unfold upd;rw[aM rfl]
theorem jG{H:Hp}{a:ak}(h:b≠a):upd H a o b=H b:=by unfold upd;rw[aJ h]
theorem Yd{H:Hp}{a:ak}(h:H a=some o)(h':H b=some u)(d:o≠u):a≠b:=by
 intro e;subst e;rw[h]at h';exact d (aZ h')
theorem jN{H:Hp}{a:ak}(h:H a=some o)(h':H b=none):a≠b:=by
 intro e;subst e;rw[h]at h';cases h'
noncomputable def pI (h:aq)(a:ak)(items:Array af):Prop:=∃o,h.get? a=some o/\o.cls=.type "tuple" /\ o.dict=none/\∃n,o.data=.seq items n
theorem pI.tup{a:ak}:pI h a items->IsTup h a items:=λ⟨o,e,c,_,n,d⟩=>⟨o,e,c,n,d⟩
theorem pI.new(h:aq)(items:Array af):pI (h.push { cls:=.type "tuple",data:=.seq items }) h.objs.size items:=⟨_,bA _ rfl,rfl,rfl,_,rfl⟩
theorem pI.lt{h:aq}{a:ak}(x:pI h a items):a<h.objs.size:=let⟨_,ho,_⟩:=x;bf ho
section
variable (P:aj) (w:ah)
noncomputable def kK (H:Hp)(h:aq)(a:ak):HO->Prop
 | .lst xs=>xs.length<=sizeLine/\∃(its:List af) (n:Nat),Vals xs its/\h.get? a=some { cls:=.type "list",data:=.seq its.toArray n }
 | .tup xs=>xs.length<=sizeLine/\∃its:List af,Vals xs its/\pI h a its.toArray
 | .dK kvs=>kvs.length<=sizeLine/\(a == sysModules)=false/\∃vs,KV kvs vs/\h.DictOf (j5 P w) a vs
 | .dT kvs=>kvs.length<=sizeLine/\(a == sysModules)=false/\∃xs:List (List Key×ak×af),
   Paired (λ(p:List Key×V) (q:List Key×ak×af)=>p.1=q.1/\H q.2.1=some (.tup (p.1.map kV))/\RelV p.2 q.2.2) kvs xs /\
   ∃o es ep,h.get? a=some o/\o.ExactDict/\o.data=.dict es ep/\es.toList=xs.map (entryOfKey (tupleKind (j5 P w)))/\(xs.map (·.1)).Nodup
 | .set S n=>h.SetOf (intKind P w) a S n
 | .ins C dx fs=>H dx=some (.own a)/\fs.length<=1000/\dx≠a/\h.get? a=some (PySem.W.instObj C dx) /\
   ∃mA,h.Ns1 dx mA/\(∀f,v8 (fs.lookup f) (mA f))/\PySem.Within mA (fs.map (·.1))
 | .own _=>∃o,h.get? a=some o
 | .xd fs=>∃mA,h.Ns1 a mA/\∀f,v8 (fs.lookup f) (mA f)
 | .rng lo hi=>∃t u v,h.get? a=some { cls:=.type "range",data:=.fields #[.int lo t,.int hi u,.int 1 v]}
 | .frz o u=>h.get? a=some o/\kK H h a u
 | .tbl ps=>h.get? a=some { cls:=.none,data:=.fields ps }
 | .met f x=>h.get? a=some (PySem.W.methodObj (.ref f) (.ref x))
 | .ext φ=>φ h/\(∃o,h.get? a=some o)/\∀h1 h2:aq,φ h1->(∀o,h1.get? a=some o->h2.get? a=some o)->φ h2
noncomputable def uW (H:Hp)(h:aq):Prop:=∀a o,H a=some o->kK P w H h a o
end
section
variable {P:aj}{w:ah}{H H':Hp}{h h':aq}{a:ak}{o:HO}
theorem kK.lt(x:kK P w H h a o):a<h.objs.size:=by
 cases o with
 | lst xs=>obtain⟨_,_,_,_,e⟩:=x;exact bf e
 | tup xs=>obtain⟨_,_,_,p⟩:=x;exact pI.lt p
 | dK kvs=>obtain⟨_,_,_,_,o,_,_,e,_⟩:=x;exact bf e
 | dT kvs=>obtain⟨_,_,_,_,o,_,_,e,_⟩:=x;exact bf e
 | set S n=>obtain⟨o,_,_,_,e,_⟩:=x;exact bf e
 | ins C dx fs=>obtain⟨_,_,_,e,_⟩:=x;exact bf e
 | own y=>obtain⟨_,e⟩:=x;exact bf e
 | xd fs=>obtain⟨_,⟨_,_,_,e,_⟩,_⟩:=x;exact bf e
 | rng lo hi=>obtain⟨_,_,_,e⟩:=x;exact bf e
 | frz ob u=>obtain⟨e,_⟩:=x;exact bf e
 | tbl ps=>exact bf (show h.get? a=some _ from x)
 | met f y=>exact bf (show h.get? a=some _ from x)
 | ext φ=>obtain⟨_,⟨_,e⟩,_⟩:=x;exact bf e
theorem Paired.Wy{α β:Type}{F G:α->β->Prop}:∀{l₁:List α}{l₂:List β},Paired F l₁ l₂->(∀a b,F a b->G a b)->Paired G l₁ l₂
 | _,_,.nil,_=>.nil
 | _,_,.cons r t,f=>.cons (f _ _ r) (Paired.Wy t f)
theorem kK.stay(x:kK P w H h a o)(k:∀b u,(b=a\/H b=some (.own a))->h.get? b=some u->h'.get? b=some u)
  (ho:∀b,H b=some (.own a)->H' b=some (.own a)) (ht:∀b xs,H b=some (.tup xs)->H' b=some (.tup xs)):kK P w H' h' a o:=by
 induction o with
 | lst xs=>obtain⟨z,its,n,r,e⟩:=x;exact⟨z,its,n,r,k _ _ (.inl rfl) e⟩
 | tup xs=>obtain⟨z,its,r,ob,e,c⟩:=x;exact⟨z,its,r,ob,k _ _ (.inl rfl) e,c⟩
 | dK kvs=>obtain⟨z,y,vs,r,ob,es,ep,e,c⟩:=x;exact⟨z,y,vs,r,ob,es,ep,k _ _ (.inl rfl) e,c⟩
 | dT kvs=>
  obtain⟨z,y,xs,r,ob,es,ep,e,c⟩:=x;exact⟨z,y,xs,Paired.Wy r λp q z=>⟨z.1,ht _ _ z.2.1,z.2.2⟩,ob,es,ep,k _ _ (.inl rfl) e,c⟩
 | set S n=>obtain⟨ob,es,ep,t,e,c⟩:=x;exact⟨ob,es,ep,t,k _ _ (.inl rfl) e,c⟩
 | ins C dx fs=>
  obtain⟨d,z,ne,e,mA,⟨od,es,ep,e2,c⟩,r⟩:=x;exact⟨ho _ d,z,ne,k _ _ (.inl rfl) e,mA,⟨od,es,ep,k _ _ (.inr d) e2,c⟩,r⟩
 | own y=>obtain⟨ob,e⟩:=x;exact⟨ob,k _ _ (.inl rfl) e⟩
 | xd fs=>obtain⟨mA,⟨od,es,ep,e,c⟩,r⟩:=x;exact⟨mA,⟨od,es,ep,k _ _ (.inl rfl) e,c⟩,r⟩
 | rng lo hi=>obtain⟨t,u,v,e⟩:=x;exact⟨t,u,v,k _ _ (.inl rfl) e⟩
 | frz ob u ih=>obtain⟨e,q⟩:=x;exact⟨k _ _ (.inl rfl) e,ih q⟩
 | tbl ps=>
  have e:h.get? a=some { cls:=.none,data:=.fields ps }:=x;show h'.get? a=some { cls:=.none,data:=.fields ps };exact k a _ (.inl rfl) e
 | met f y=>
  have e:h.get? a=some (PySem.W.methodObj (.ref f) (.ref y)):=x;show h'.get? a=some (PySem.W.methodObj (.ref f) (.ref y));exact k a _ (.inl rfl) e
 | ext φ=>obtain⟨p,⟨o,e⟩,st⟩:=x;exact⟨st _ _ p λo q=>k _ _ (.inl rfl) q,⟨o,k _ _ (.inl rfl) e⟩,st⟩
theorem uW.lt(x:uW P w H h)(e:H a=some o):a<h.objs.size:=(x a o e).lt
theorem uW.fresh(x:uW P w H h)(e:h.objs.size<=a):H a=none:=by
 cases q:H a with
 | none=>rfl
 | some u=>exact absurd (bL (x.lt q) e) (fM _)
theorem uW.kept(x:uW P w H h)(k:∀b u,h.get? b=some u->h'.get? b=some u):uW P w H h':=λa o e=>
 (x a o e).stay (λb u _ q=>k b u q) (λ_ q=>q) λ_ _ q=>q
theorem uW.laid(x:uW P w H h)(k:∀b u,h.get? b=some u->h'.get? b=some u)(hp:h.objs.size<=a)(new:kK P w (upd H a o) h' a o):uW P w (upd H a o) h':=λb u e=>by
 have hn:=x.fresh hp;by_cases hb:b=a
 ·subst hb;rw[kJ]at e;cases e;exact new
 ·rw[jG hb]at e;exact(x b u e).stay (λc v _ q=>k c v q) (λc q=>by rw[jG (jN q hn)];exact q) λc xs q=>by rw[jG (jN q hn)];exact q
end
noncomputable def Rd (H:Hp)(a:ak)(u:HO):Prop:=H a=some u\/∃o,H a=some (.frz o u)
theorem Rd.ok{P:aj}{w:ah}{H:Hp}{a:ak}(r:Rd H a u)(x:uW P w H h):kK P w H h a u:=by
 rcases r with r|⟨o,r⟩
 ·exact x a u r
 ·obtain⟨_,q⟩:=x a _ r;exact q
noncomputable def Xq:Option HO->Prop
 | some (.lst _)=>True
 | some (.dK _)=>True
 | some (.dT _)=>True
 | some (.set _ _)=>True
 | some (.ins _ _ _)=>True
 | some (.ext _)=>True
 | _=>False
section
variable {P:aj}{w:ah}{H:Hp}{h h':aq}{x e:ak}{o':HO}
theorem uW.write(ok:uW P w H h)(mu:Xq (H x))(he:e=x\/H e=some (.own x))(k:∀b u,b≠e->h.get? b=some u->h'.get? b=some u)(heo:∃u,h'.get? e=some u)
  (new:kK P w (upd H x o') h' x o'):uW P w (upd H x o') h':=λb u q=>by
 have nown:∀c y,H c=some (.own y)->c≠x:=λc y r z=>by subst z;rw[r]at mu;exact mu
 have ntup:∀c xs,H c=some (.tup xs)->c≠x:=λc xs r z=>by subst z;rw[r]at mu;exact mu
 by_cases hb:b=x
 ·subst hb;rw[kJ]at q;cases q;exact new
 ·rw[jG hb]at q;by_cases hbe:b=e
  ·have q':H b=some (.own x):=by
    rcases he with z|z
    ·exact absurd (hbe.trans z) hb
    ·rw[hbe];exact z
   rw[q]at q';cases q';obtain⟨v,hv⟩:=heo;exact⟨v,by rw[hbe];exact hv⟩
  ·refine(ok b u q).stay (λc v hc r=>k c v ?_ r) (λc r=>by rw[jG (nown c b r)];exact r) λc xs r=>by rw[jG (ntup c xs r)];exact r
   rcases hc with rfl|hc
   ·exact hbe
   ·rintro rfl
    rcases he with z|z
    ·exact nown c b hc z
    ·rw[hc]at z;cases z;exact hb rfl
end
structure Un (fs ex:List ak)(H H':Hp)(h h':aq):Prop where
 keep:∀b o,h.get? b=some o->H b=none->b∉fs->b∉ex->h'.get? b=some o
 slot:∀b o,h.get? b=some o->H b=none->b∈fs->b∉ex->∃sl,h'.get? b=some { o with slots:=sl }
 free:∀b o,h.get? b=some o->H b=none->b∉ex->H' b=none
 there:∀b o,h.get? b=some o->b∉ex->∃o',h'.get? b=some o'
 tups:∀b xs,H b=some (.tup xs)->H' b=some (.tup xs)
 frzs:∀b o u,H b=some (.frz o u)->H' b=some (.frz o u)
 tbls:∀b ps,H b=some (.tbl ps)->∃more,H' b=some (.tbl (ps++more))
section
variable {fs ex:List ak}{H H1:Hp}{h h1 h':aq}{a x e:ak}{o:HO}
theorem Un.any(u:Un fs ex H H1 h h1){ob:Obj}(q:h.get? b=some ob)(n:H b=none)(hx:b∉ex):∃sl,h1.get? b=some { ob with slots:=sl }:=by
 by_cases hb:b∈fs
 ·exact u.slot b ob q n hb hx
 ·exact⟨ob.slots,u.keep b ob q n hb hx⟩
theorem Un.kept(k:∀b u,h.get? b=some u->h'.get? b=some u):Un fs ex H H h h':=
 ⟨λb ob q _ _ _=>k b ob q,λb ob q _ _ _=>⟨ob.slots,k b ob q⟩,λ_ _ _ n _=>n,λb ob q _=>⟨ob,k b ob q⟩,λ_ _ q=>q,λ_ _ _ q=>q,λ_ ps q=>⟨#[],by rw[q];simp⟩⟩
theorem Un.refl:Un fs ex H H h h:=Un.kept λ_ _ q=>q
theorem Un.laid(k:∀b u,h.get? b=some u->h'.get? b=some u)(hp:h.objs.size<=a)(hn:H a=none):Un fs ex H (upd H a o) h h' where
 keep:=λb u q _ _ _=>k b u q
 slot:=λb u q _ _ _=>⟨u.slots,k b u q⟩
 free:=λb u q n _=>by rw[jG (bE (bL (bf q) hp))];exact n
 there:=λb u q _=>⟨u,k b u q⟩
 tups:=λb xs q=>by rw[jG (jN q hn)];exact q
 frzs:=λb u xs q=>by rw[jG (jN q hn)];exact q
 tbls:=λb ps q=>⟨#[],by rw[jG (jN q hn),q];simp⟩
theorem Un.write(mu:Xq (H x))(he:e=x\/H e=some (.own x))(k:∀b u,b≠e->h.get? b=some u->h'.get? b=some u)(heo:∃u,h'.get? e=some u):Un fs ex H (upd H x o) h h':=by
 have hx:∀b,H b=none->b≠x:=λb n z=>by subst z;rw[n]at mu;exact mu
 have hb:∀b,H b=none->b≠e:=λb n z=>by
  subst z
  rcases he with r|r
  ·exact hx b n r
  ·rw[n]at r;cases r
 have hm:∀b u,H b=some u->¬Xq (some u)->b≠x:=λb u q nm z=>by subst z;rw[q]at mu;exact nm mu
 refine⟨λb u q n _ _=>k b u (hb b n) q,λb u q n _ _=>⟨u.slots,k b u (hb b n) q⟩,λb u q n _=>by rw[jG (hx b n)];exact n,λb u q _=>?_,
  λb xs q=>by rw[jG (hm b _ q λz=>z)];exact q,λb u xs q=>by rw[jG (hm b _ q λz=>z)];exact q,λb ps q=>⟨#[],by rw[jG (hm b _ q λz=>z),q];simp⟩⟩
 by_cases hbe:b=e
 ·subst hbe;exact heo
 ·exact⟨u,k b u hbe q⟩
end
noncomputable def Y0 (h:aq)(H:Hp):List ak:=(List.range h.objs.size).filter λa=>(H a).isSome
noncomputable def Bm (h:aq)(H:Hp):aq:=PySem.W.hideAll h (Y0 h H)
theorem KI(h:aq)(H:Hp):(Bm h H).objs.size=h.objs.size:=PySem.W.hideAll_size _ _
theorem N8{h:aq}{H:Hp}(e:h.get? b=some o)(n:H b=none):(Bm h H).get? b=some o:=
 PySem.W.hideAll_get _ e λhm=>by
  have q:(H b).isSome=true:=(cF.mp hm).2;rw[n]at q;simp at q
theorem QG{h:aq}{H:Hp}(e:(Bm h H).get? b=some o):h.get? b=some o/\H b=none:=by
 have e':h.get? b=some o:=PySem.W.of_hideAll (Y0 h H) e;refine⟨e',?_⟩
 cases q:H b with
 | none=>rfl
 | some x=>
  have hm:b∈Y0 h H:=cF.mpr ⟨cI.mpr (bf e'),by simp[q]⟩;have z:(Bm h H).get? b=none:=PySem.W.hideAll_none (Y0 h H) hm;rw[z]at e;cases e
noncomputable def QA (g h:aq)(L:ak):List (ak×Obj):=(List.range h.objs.size).filterMap λa=>if a=L\/(g.get? a).isSome=true then none else(h.get? a).map λo=>(a,o)
noncomputable def rest (g h:aq)(L d:ak):List (ak×Obj):=(QA g h L).filter λp=>decide (p.1≠d)
structure Mod (K:au)(mg:Str->Option af)(base:aq):Prop where
 kin:K.In base
 glob:base.Ns mainGlobals mg
 blt:∃mb,base.Ns builtinsNs mb/\∀x:Str,x ≠ "__name__" -> mb x=bootBuiltins x
 nolimit:base.NoLimit
structure Cx where
 prog:aj
 w:ah
 K:au
 mg:Str->Option af
 base:aq
 A:az
 N:List Str
 s₀:aA
 H₀:Hp
 env:Env
 outer:List Env
 stack:List Env
 ex:List ak
 fn:Str->Bool
 calm:Bool
 pn:List (ak×Obj)
 xe:af->aA->Prop
noncomputable def frs (l:List Env):List ak:=l.filterMap (·.frame)
noncomputable abbrev Cx.fs (X:Cx):List ak:=frs X.outer
noncomputable def YJ (sc:Scope)(x:Str):Prop:=sc.names.lookup x=some .local\/sc.names.lookup x=some .cell\/sc.names.lookup x=some .free
noncomputable def Loc (sc:Scope)(x:Str):Prop:=sc.names.lookup x=some .local\/sc.names.lookup x=some .cell
noncomputable def Look (env:Env)(h:aq)(m:Str->Option af)(x:Str)(u:af):Prop:=
 (env.kindOf x=some .local/\m x=some u)\/((env.kindOf x=some .cell\/env.kindOf x=some .free)/\∃c,env.cells.lookup x=some c/\h.IsCell c (some u))
structure Cx.Ok (X:Cx):Prop where
 mod:Mod X.K X.mg X.base
 kind:X.env.scope.kind=.function
 glob:X.env.globals=mainGlobals
 blt:X.env.builtins=builtinsNs
 above:X.s₀.heap.objs.size<=X.env.locals
 inj:∀x y c,X.env.cells.lookup x=some c->X.env.cells.lookup y=some c->x=y
 has:∀x,(X.env.kindOf x=some .cell\/X.env.kindOf x=some .free)->∃c,X.env.cells.lookup x=some c
 cab:∀x c,X.fn x=true->X.env.cells.lookup x=some c->X.s₀.heap.objs.size<=c
 hd:X.calm=true->X.A.handled=none
 frames:X.A.frames=some X.stack
 stk:X.stack=X.outer\/(X.stack=X.env::X.outer/\X.env.frame=some X.env.locals)
 exf:∀b∈X.ex,b≠X.env.locals/\∀x c,X.env.cells.lookup x=some c->c≠b
 bs:∀b o,X.base.get? b=some o->X.s₀.heap.get? b=some o/\X.H₀ b=none
 bsz:X.base.objs.size<=X.s₀.heap.objs.size
 noex:∀b o,X.base.get? b=some o->b∉X.ex
 exfs:∀b∈X.ex,b∉X.fs
 yI:X.s₀.heap.FunFrames X.base X.outer
 frf:∀b∈X.fs,X.H₀ b=none
structure Inv (X:Cx)(pins:List (ak×Obj))(σ:List (Option V))(H:Hp)(s:aA):Prop where
 ok:X.Ok
 os:s.os=X.s₀.os
 bare:AllBare s.gens
 base:Un X.fs X.ex X.H₀ H X.s₀.heap s.heap
 loc:∃m,s.heap.Ns X.env.locals m/\∀(i:Nat) (x:Str) (v:V),X.N[i]?=some x->σ[i]?=some (some v)->YJ X.env.scope x->∃u,RelV v u/\Look X.env s.heap m x u
 cell:∀x c,X.env.cells.lookup x=some c->∃v,s.heap.IsCell c v
 free:H X.env.locals=none
 freeC:∀x c,X.env.cells.lookup x=some c->H c=none
 pin:∀p∈X.pn++pins,s.heap.get? p.1=some p.2/\H p.1=none/\p.1≠X.env.locals/\p.1∉X.fs/\∀v,p.2.data≠.cell v
 hok:uW X.prog X.w H s.heap
 len:σ.length=X.N.length
section
variable {X:Cx}{pins:List (ak×Obj)}{σ:List (Option V)}{H H':Hp}{s:aA}{h':aq}
theorem Cx.Ok.Za(ok:X.Ok)(e:X.base.get? b=some o):b∉X.fs:=λhb=>by
 have:=(ok.yI.mem hb).1;rw[e]at this;cases this
theorem Inv.bs(I:Inv X pins σ H s):∀b o,X.base.get? b=some o->s.heap.get? b=some o/\H b=none:=λb o e=>
 ⟨I.base.keep b o (I.ok.bs b o e).1 (I.ok.bs b o e).2 (I.ok.Za e) (I.ok.noex b o e),I.base.free b o (I.ok.bs b o e).1 (I.ok.bs b o e).2 (I.ok.noex b o e)⟩
theorem Inv.bk(I:Inv X pins σ H s):∀b o,X.base.get? b=some o->s.heap.get? b=some o:=λb o e=>(I.bs b o e).1
theorem Inv.mod(I:Inv X pins σ H s):Mod X.K X.mg X.base:=I.ok.mod
theorem Inv.Dd(I:Inv X pins σ H s):X.K.In s.heap:=I.ok.mod.kin.keeps I.bk
theorem Inv.lt(I:Inv X pins σ H s):X.env.locals<s.heap.objs.size:=let⟨_,hn,_⟩:=I.loc;hn.lt
theorem Inv.sz(I:Inv X pins σ H s):X.s₀.heap.objs.size<=s.heap.objs.size:=bH I.ok.above (jf I.lt)
theorem Inv.Zu(I:Inv X pins σ H s){a:ak}(h:s.heap.objs.size<=a):a∉X.fs:=λhb=>by
 obtain⟨_,o,ho,_⟩:=I.ok.yI.mem hb;exact absurd (bL (bf ho) (bH I.sz h)) (fM _)
theorem Inv.UT(I:Inv X pins σ H s):∀x c,X.env.cells.lookup x=some c->c≠X.env.locals:=λx c e z=>by
 obtain⟨v,o,ho,hd⟩:=I.cell x c e;obtain⟨m,⟨o',es,ep,ho',hd',_⟩,_⟩:=I.loc;rw[z,ho']at ho;cases ho;rw[hd']at hd;cases hd
theorem Inv.yI(I:Inv X pins σ H s):s.heap.FunFrames X.base X.outer:=by
 have all:∀(l:List Env),(∀b∈frs l,b∈X.fs)->X.s₀.heap.FunFrames X.base l->s.heap.FunFrames X.base l:=by
  intro l
  induction l with
  | nil=>intro _ _;trivial
  | cons env r ih=>
   intro hs hl;obtain⟨hk,⟨L,o,hf,hn,ho,hd⟩,hr⟩:=hl;have hL:L∈X.fs:=hs L (by unfold frs;rw[iI,hf];exact aG);obtain⟨sl,e⟩:=I.base.slot L o ho (I.ok.frf L hL) hL λz=>I.ok.exfs L z hL;exact⟨hk,⟨L,_,hf,hn,e,hd⟩,ih (λb hb=>hs b (by unfold frs;rw[iI,hf];exact aI _ hb)) hr⟩
 exact all X.outer (λ_ hb=>hb) I.ok.yI
theorem Inv.stack(I:Inv X pins σ H s):s.heap.FunFrames X.base X.stack:=by
 rcases I.ok.stk with e|⟨e,hf⟩
 ·rw[e];exact I.yI
 ·rw[e];obtain⟨m,hn,_⟩:=I.loc;refine .cons (by rw[I.ok.kind];decide) hf hn ?_ I.yI;exact Heap.get?_none_of_le (bH I.ok.bsz I.ok.above)
theorem Inv.FE(I:Inv X pins σ H s):∀b∈frs X.stack,b∈X.env.locals::X.fs:=λb hb=>by
 rcases I.ok.stk with e|⟨e,hf⟩
 ·rw[e]at hb;exact aI _ hb
 ·rw[e]at hb;unfold frs at hb;rw[iI,hf]at hb;exact hb
theorem Inv.IS(I:Inv X pins σ H s):∀b∈frs X.stack,H b=none:=λb hb=>by
 rcases bB.mp (I.FE b hb)with e|hb
 ·rw[e];exact I.free
 ·obtain⟨_,o,ho,_⟩:=I.ok.yI.mem hb;exact I.base.free b o ho (I.ok.frf b hb) λz=>I.ok.exfs b z hb
theorem Inv.step{g':Array GenState}{t':Nat}{d':Drawn}{ch:List ak}(I:Inv X pins σ H s)
  (hch:∀b∈ch,(b∈X.ex\/X.s₀.heap.objs.size<=b)/\b≠X.env.locals/\(∀x c,X.env.cells.lookup x=some c->c≠b)/\∀p∈X.pn++pins,p.1≠b)
  (keep:∀b o,b≠X.env.locals->b∉X.fs->b∉ch->s.heap.get? b=some o->H b=none->h'.get? b=some o)
  (slot:∀b o,b≠X.env.locals->b∈X.fs->b∉ch->s.heap.get? b=some o->H b=none->∃sl,h'.get? b=some { o with slots:=sl }) (free:∀b o,b∉ch->s.heap.get? b=some o->H b=none->H' b=none)
  (there:∀b o,b∉ch->s.heap.get? b=some o->∃o',h'.get? b=some o')
  (tups:∀b xs,H b=some (.tup xs)->H' b=some (.tup xs)) (frzs:∀b o u,H b=some (.frz o u)->H' b=some (.frz o u)) (tbls:∀b ps,H b=some (.tbl ps)->∃more,H' b=some (.tbl (ps++more)))
  (ns:∀m,s.heap.Ns X.env.locals m->h'.Ns X.env.locals m) (hok:uW X.prog X.w H' h') (hg:AllBare g') :
  Inv X pins σ H' { s with heap:=h',gens:=g',drawn:=d',toks:=t' }:=by
 have neL:∀b o,X.s₀.heap.get? b=some o->b≠X.env.locals:=λb o e=>bE (bL (bf e) I.ok.above);have neC:∀b o,X.s₀.heap.get? b=some o->b∉X.ex->b∉ch:=λb o e hx hb=>by
  rcases(hch b hb).1 with z|z
  ·exact hx z
  ·exact absurd (bL (bf e) z) (fM _)
 have cellK:∀x c,X.env.cells.lookup x=some c->∀v,s.heap.IsCell c v->h'.IsCell c v:=λx c e v ⟨o,ho,hd⟩=>by
  have nch:c∉ch:=λz=>(hch c z).2.2.1 x c e rfl;by_cases hc:c∈X.fs
  ·obtain⟨sl,q⟩:=slot c o (I.UT x c e) hc nch ho (I.freeC x c e);exact⟨_,q,hd⟩
  ·exact⟨o,keep c o (I.UT x c e) hc nch ho (I.freeC x c e),hd⟩
 refine⟨I.ok,I.os,hg,⟨λb o e n hb hx=>?_,λb o e n hb hx=>?_,λb o e n hx=>?_,λb o e hx=>?_,λb xs e=>tups b xs (I.base.tups b xs e),λb o xs e=>frzs b o xs (I.base.frzs b o xs e),λb ps e=>?_⟩,?_,λx c e=>?_,?_,λx c e=>?_,λp hp=>?_,hok,I.len⟩
 ·exact keep b o (neL b o e) hb (neC b o e hx) (I.base.keep b o e n hb hx) (I.base.free b o e n hx)
 ·obtain⟨sl,e1⟩:=I.base.slot b o e n hb hx;obtain⟨sl',e2⟩:=slot b _ (neL b o e) hb (neC b o e hx) e1 (I.base.free b o e n hx);exact⟨sl',e2⟩
 ·obtain⟨o',e1⟩:=I.base.there b o e hx;exact free b o' (neC b o e hx) e1 (I.base.free b o e n hx)
 ·obtain⟨o',e1⟩:=I.base.there b o e hx;exact there b o' (neC b o e hx) e1
 ·obtain⟨m1,e1⟩:=I.base.tbls b ps e;obtain⟨m2,e2⟩:=tbls b _ e1;exact⟨m1++m2,by rw[e2,Array.append_assoc]⟩
 ·obtain⟨m,hn,hl⟩:=I.loc;refine⟨m,ns m hn,λi x v e1 e2 e3=>?_⟩;obtain⟨u,r,l⟩:=hl i x v e1 e2 e3;refine⟨u,r,?_⟩
  rcases l with l|⟨k,c,e,z⟩
  ·exact .inl l
  ·exact .inr ⟨k,c,e,cellK x c e _ z⟩
 ·obtain⟨v,z⟩:=I.cell x c e;exact⟨v,cellK x c e v z⟩
 ·obtain⟨m,⟨o,_,_,ho,_⟩,_⟩:=I.loc;exact free _ o (λz=>(hch _ z).2.1 rfl) ho I.free
 ·obtain⟨v,o,ho,hd⟩:=I.cell x c e;exact free c o (λz=>(hch c z).2.2.1 x c e rfl) ho (I.freeC x c e)
 ·obtain⟨e,n,ne,nf,d⟩:=I.pin p hp;have nch:p.1∉ch:=λz=>(hch p.1 z).2.2.2 p hp rfl;exact⟨keep p.1 p.2 ne nf nch e n,free p.1 p.2 nch e n,ne,nf,d⟩
theorem Inv.un{t':Nat}(I:Inv X pins σ H s)(u:Un X.fs [] H H' s.heap h')(hok:uW X.prog X.w H' h'):Inv X pins σ H' { s with heap:=h',toks:=t' }:=by
 obtain⟨m,⟨o,es,ep,ho,r⟩,_⟩:=id I.loc;obtain⟨sl,hL⟩:=u.any ho I.free (by simp);exact I.step (g':=s.gens) (d':=s.drawn) (ch:=[]) (λ_ z=>nomatch z) (λb o _ hb _ e n=>u.keep b o e n hb (by simp)) (λb o _ hb _ e n=>u.slot b o e n hb (by simp)) (λb o _ e n=>u.free b o e n (by simp)) (λb o _ e=>u.there b o e (by simp)) u.tups u.frzs u.tbls (λm' hm=>by
  obtain⟨o',es',ep',ho',r'⟩:=hm;rw[ho]at ho';cases ho';exact⟨_,es',ep',hL,r'⟩) hok I.bare
theorem Inv.call{g':Array GenState}{t':Nat}{d':Drawn}{ch:List ak}(I:Inv X pins σ H s)(u:Un (frs X.stack) ch H H' s.heap h')(hok:uW X.prog X.w H' h')(hg:AllBare g')
  (hch:∀b∈ch,(b∈X.ex\/X.s₀.heap.objs.size<=b)/\b≠X.env.locals/\(∀x c,X.env.cells.lookup x=some c->c≠b)/\∀p∈X.pn++pins,p.1≠b) :
  Inv X pins σ H' { s with heap:=h',gens:=g',drawn:=d',toks:=t' }:=by
 obtain⟨m,⟨o,es,ep,ho,r⟩,_⟩:=id I.loc;obtain⟨sl,hL⟩:=u.any ho I.free λz=>(hch _ z).2.1 rfl;exact I.step (ch:=ch) hch (λb o hL hb hc e n=>u.keep b o e n (λz=>(bB.mp (I.FE b z)).elim hL hb) hc) (λb o _ _ hc e n=>u.any e n hc) (λb o hc e n=>u.free b o e n hc) (λb o hc e=>u.there b o e hc) u.tups u.frzs u.tbls (λm' hm=>by
  obtain⟨o',es',ep',ho',r'⟩:=hm;rw[ho]at ho';cases ho';exact⟨_,es',ep',hL,r'⟩) hok hg
theorem Inv.turned{t':Nat}{it:ak}(I:Inv X pins σ H s)(k:∀b o,b≠it->s.heap.get? b=some o->h'.get? b=some o)(hn:H it=none)(hL:it≠X.env.locals)
  (h1:it∈X.ex\/X.s₀.heap.objs.size<=it) (h2:∀x c,X.env.cells.lookup x=some c->c≠it) (h3:∀p∈X.pn++pins,p.1≠it):Inv X pins σ H { s with heap:=h',toks:=t' }:=by
 have nit:∀b u,H b=some u->b≠it:=λb u e z=>by rw[z,hn]at e;cases e
 refine I.step (g':=s.gens) (d':=s.drawn) (ch:=[it]) (λb hb=>?_) (λb o _ _ hc e _=>k b o (λz=>hc (by simp[z])) e) (λb o _ _ hc e _=>⟨o.slots,k b o (λz=>hc (by simp[z])) e⟩) (λ_ _ _ _ n=>n)
  (λb o hc e=>⟨o,k b o (λz=>hc (by simp[z])) e⟩) (λ_ _ e=>e) (λ_ _ _ e=>e) (λb ps e=>⟨#[],by rw[e];simp⟩) (λm hm=>?_) (λb u e=>?_) I.bare
 ·have e:b=it:=by simpa using hb
  subst e;exact⟨h1,hL,h2,h3⟩
 ·obtain⟨o,es,ep,ho,r⟩:=hm;exact⟨o,es,ep,k _ o (c6 hL) ho,r⟩
 ·refine(I.hok b u e).stay (λc v hc q=>k c v ?_ q) (λ_ q=>q) λ_ _ q=>q
  rcases hc with z|z
  ·rw[z];exact nit b u e
  ·exact nit c _ z
theorem Inv.tok(I:Inv X pins σ H s)(t:Nat):Inv X pins σ H { s with toks:=t }:=I.un (h':=s.heap) (t':=t) Un.refl I.hok
theorem Inv.kept{t':Nat}(I:Inv X pins σ H s)(k:∀b u,s.heap.get? b=some u->h'.get? b=some u):Inv X pins σ H { s with heap:=h',toks:=t' }:=I.un (Un.kept k) (I.hok.kept k)
theorem Inv.laid{a:ak}{t':Nat}(I:Inv X pins σ H s)(k:∀b u,s.heap.get? b=some u->h'.get? b=some u)(hp:s.heap.objs.size<=a)(new:kK X.prog X.w (upd H a o) h' a o) :
  Inv X pins σ (upd H a o) { s with heap:=h',toks:=t' }:=I.un (Un.laid k hp (I.hok.fresh hp)) (I.hok.laid k hp new)
theorem Inv.write{x e:ak}{t':Nat}(I:Inv X pins σ H s)(mu:Xq (H x))(he:e=x\/H e=some (.own x))(k:∀b u,b≠e->s.heap.get? b=some u->h'.get? b=some u)(heo:∃u,h'.get? e=some u)
  (new:kK X.prog X.w (upd H x o) h' x o):Inv X pins σ (upd H x o) { s with heap:=h',toks:=t' }:=I.un (Un.write mu he k heo) (I.hok.write mu he k heo new)
theorem Inv.IA{pins':List (ak×Obj)}(I:Inv X pins σ H s)(h:∀p∈pins',s.heap.get? p.1=some p.2/\H p.1=none/\p.1≠X.env.locals/\p.1∉X.fs/\∀v,p.2.data≠.cell v):Inv X pins' σ H s:=
 ⟨I.ok,I.os,I.bare,I.base,I.loc,I.cell,I.free,I.freeC,λp hp=>(bD.mp hp).elim (λz=>I.pin p (fR _ z)) (h p),I.hok,I.len⟩
theorem Di{N:List Str}(hN:N.Nodup){i j:Nat}{x:Str}(a:N[i]?=some x)(b:N[j]?=some x):i=j:=by
 obtain⟨h1,e1⟩:=aN.mp a;obtain⟨h2,e2⟩:=aN.mp b;exact(dc hN).mp (e1.trans e2.symm)
theorem JT{A:az}{E:af->aA->Prop}{i:Nat}{x:Str}{v:V}{Q:Unit->aA->Prop}(I:Inv X pins σ H s)(hN:X.N.Nodup)(hi:X.N[i]?=some x)(hx:Loc X.env.scope x)(r:RelV v u)
  (h:∀s',Inv X pins (σ.set i (some v)) H s'->(∃a,Heap.SameBut a s.heap s'.heap/\(a=X.env.locals\/X.env.cells.lookup x=some a))->Q () s') (hf:X.fn x=true\/X.env.scope.names.lookup x=some .local:=by first|exact .inl rfl|exact .inr rfl|assumption):wpAny M A (storeName X.env x u) Q E s:=by
 obtain⟨m,hn,hl⟩:=id I.loc;have hcls:(X.env.scope.kind == .class || (X.env.scope.kind == .module && X.env.locals != X.env.globals))=false:=by rw[I.ok.kind];rfl
 have hiσ:i<σ.length:=by rw[I.len];exact(aN.mp hi).1
 have UT:=I.UT;have tracked:∀{a:ak} {h':aq},(∃o,s.heap.get? a=some o/\H a=none)->Heap.SameBut a s.heap h'->uW X.prog X.w H h':=λ{a h'} ha hs b ob e=>by
  obtain⟨_,_,hfree⟩:=ha;refine(I.hok b ob e).stay (λc w' hc q=>(hs.2 c ?_).trans q) (λ_ q=>q) λ_ _ q=>q;rintro rfl
  rcases hc with rfl|hc
  ·rw[hfree]at e;cases e
  ·rw[hfree]at hc;cases hc
 rcases hx with hk|hk
 ·refine wpAny_storeName_local hk hn (λh' hn' hs=>?_) hcls;obtain⟨oL,_,_,hoL,_⟩:=id hn;refine h _ ⟨I.ok,I.os,I.bare,⟨λb o e n hb hx=>?_,λb o e n hb hx=>?_,I.base.free,λb o e hx=>?_,I.base.tups,I.base.frzs,I.base.tbls⟩,⟨_,hn',λj y v' e1 e2 e3=>?_⟩,λy c e=>?_,I.free,I.freeC,λp hp=>?_,tracked ⟨oL,hoL,I.free⟩ hs,by simpa using I.len⟩ ⟨_,hs,.inl rfl⟩
  ·exact(hs.2 b (bE (bL (bf e) I.ok.above))).trans (I.base.keep b o e n hb hx)
  ·obtain⟨sl,e1⟩:=I.base.slot b o e n hb hx;exact⟨sl,(hs.2 b (bE (bL (bf e) I.ok.above))).trans e1⟩
  ·obtain⟨o',e1⟩:=I.base.there b o e hx;exact⟨o',(hs.2 b (bE (bL (bf e) I.ok.above))).trans e1⟩
  ·by_cases hj:j=i
   ·subst hj;rw[hi]at e1;cases e1;rw[bV hiσ]at e2
    cases e2
    exact⟨u,r,.inl ⟨hk,by simp⟩⟩
   ·rw[cu (c6 hj)]at e2;obtain⟨u',r',q⟩:=hl j y v' e1 e2 e3;refine⟨u',r',?_⟩
    rcases q with⟨k,e⟩|⟨k,c,e,z⟩
    ·refine .inl ⟨k,?_⟩;have:y≠x:=λe=>hj (Di hN e1 (e ▸ hi));simp[this,e]
    ·exact .inr ⟨k,c,e,z.sameBut hs (UT y c e)⟩
  ·obtain⟨w',z⟩:=I.cell y c e;exact⟨w',z.sameBut hs (UT y c e)⟩
  ·obtain⟨e,n,ne,nf,d⟩:=I.pin p hp;exact⟨(hs.2 p.1 ne).trans e,n,ne,nf,d⟩
 ·have hfn:X.fn x=true:=by
   rcases hf with z|z
   ·exact z
   ·rw[z]at hk;cases hk
  obtain⟨c,hc⟩:=I.ok.has x (.inl hk);obtain⟨w',z⟩:=I.cell x c hc;refine wpAny_storeName_cell I.ok.kind hk hc z (λh' hc' hs=>?_);obtain⟨oc,hoc,hocd⟩:=id z;refine h { s with heap:=h' } ⟨I.ok,I.os,I.bare,⟨λb o e n hb hx=>?_,λb o e n hb hx=>?_,I.base.free,λb o e hx=>?_,I.base.tups,I.base.frzs,I.base.tbls⟩,⟨m,hn.sameBut hs (c6 (UT x c hc)),λj y v' e1 e2 e3=>?_⟩,λy c' e=>?_,I.free,I.freeC,λp hp=>?_,tracked ⟨oc,hoc,I.freeC x c hc⟩ hs,by simpa using I.len⟩ ⟨c,hs,.inr hc⟩
  ·exact(hs.2 b (bE (bL (bf e) (I.ok.cab x c hfn hc)))).trans (I.base.keep b o e n hb hx)
  ·obtain⟨sl,e1⟩:=I.base.slot b o e n hb hx;exact⟨sl,(hs.2 b (bE (bL (bf e) (I.ok.cab x c hfn hc)))).trans e1⟩
  ·obtain⟨o',e1⟩:=I.base.there b o e hx;exact⟨o',(hs.2 b (bE (bL (bf e) (I.ok.cab x c hfn hc)))).trans e1⟩
  ·by_cases hj:j=i
   ·subst hj;rw[hi]at e1;cases e1;rw[bV hiσ]at e2
    cases e2
    exact⟨u,r,.inr ⟨.inl hk,c,hc,hc'⟩⟩
   ·rw[cu (c6 hj)]at e2;obtain⟨u',r',q⟩:=hl j y v' e1 e2 e3;refine⟨u',r',?_⟩
    rcases q with q|⟨k,c',e,z'⟩
    ·exact .inl q
    ·refine .inr ⟨k,c',e,z'.sameBut hs ?_⟩;rintro rfl;exact hj (Di hN e1 (I.ok.inj _ _ _ e hc ▸ hi))
  ·by_cases hcc:c'=c
   ·subst hcc;exact⟨_,hc'⟩
   ·obtain⟨w2,z2⟩:=I.cell y c' e;exact⟨w2,z2.sameBut hs hcc⟩
  ·obtain⟨e,n,ne,nf,d⟩:=I.pin p hp;refine⟨(hs.2 p.1 ?_).trans e,n,ne,nf,d⟩;intro q;rw[q,hoc]at e;have q':oc=p.2:=aZ e;exact d w' (by rw[<- q'];exact hocd)
theorem EZ{A:az}{E:af->aA->Prop}{i:Nat}{x:Str}{v:V}{Q:Unit->aA->Prop}(I:Inv X pins σ H s)(hN:X.N.Nodup)(hi:X.N[i]?=some x)(hx:Loc X.env.scope x)(r:RelV v u)
  (h:∀s',Inv X pins (σ.set i (some v)) H s'->Q () s') (hf:X.fn x=true\/X.env.scope.names.lookup x=some .local:=by first|exact .inl rfl|exact .inr rfl|assumption):wpAny M A (storeName X.env x u) Q E s:=
 JT I hN hi hx r (λs' I' _=>h s' I') hf
theorem Inv.Ym{s':aA}{ch:List ak}(I:Inv X pins σ H s)(ho:s'.os=s.os)(u:Un (frs X.stack) ch H H' s.heap s'.heap)(hok:uW X.prog X.w H' s'.heap)(hg:AllBare s'.gens)
  (hch:∀b∈ch,(b∈X.ex\/X.s₀.heap.objs.size<=b)/\b≠X.env.locals/\(∀x c,X.env.cells.lookup x=some c->c≠b)/\∀p∈X.pn++pins,p.1≠b):Inv X pins σ H' s':=by
 obtain⟨h',g',d',t',o'⟩:=s';have e:o'=s.os:=ho;subst e;exact I.call (g':=g') (t':=t') (d':=d') u hok hg hch
end
noncomputable abbrev XK:=af->Option ak->Hp->Prop
noncomputable abbrev St:=List (Option V)
noncomputable abbrev VK:=V->Hp->Prop
noncomputable abbrev TE:=St->Hp->VK->Prop
noncomputable abbrev TT:=St->Hp->(Bool->Hp->Prop)->Prop
noncomputable abbrev TA:=St->Hp->(List V->Hp->Prop)->Prop
structure Ends where
 nx:St->Hp->Prop
 rt:VK
 bk:St->Hp->Prop:=λ_ _=>False
 ct:St->Hp->Prop:=λ_ _=>False
noncomputable abbrev TS:=Ends->St->Hp->Prop
noncomputable def EP (X:Cx)(pins:List (ak×Obj))(σ:St)(Q:VK)(u:af)(s':aA):Prop:=∃v H',Inv X pins σ H' s'/\RelV v u/\Q v H'
noncomputable def TP (X:Cx)(pins:List (ak×Obj))(σ:St)(Q:Bool->Hp->Prop)(b:Bool)(s':aA):Prop:=∃H',Inv X pins σ H' s'/\Q b H'
noncomputable def AP (X:Cx)(pins:List (ak×Obj))(σ:St)(Q:List V->Hp->Prop)(us:List af)(s':aA):Prop:=∃vs H',Inv X pins σ H' s'/\Vals vs us/\Q vs H'
noncomputable def SP (X:Cx)(pins:List (ak×Obj))(D:Ends)(f:Flow)(s':aA):Prop:=
 match f with
 | .next=>∃σ' H',Inv X pins σ' H' s'/\D.nx σ' H'
 | .brk=>∃σ' H',Inv X pins σ' H' s'/\D.bk σ' H'
 | .cont=>∃σ' H',Inv X pins σ' H' s'/\D.ct σ' H'
 | .ret u=>∃v σ' H',Inv X pins σ' H' s'/\RelV v u/\D.rt v H'
noncomputable def PE (X:Cx)(e:aC)(t:TE):Prop:=
 ∀(pins:List (ak×Obj)) (s:aA) (σ:St) (H:Hp) (Q:VK),Inv X pins σ H s->t σ H Q->wpAny (model X.prog X.w) X.A (eval e X.env) (EP X pins σ Q) X.xe s
noncomputable def PT (X:Cx)(e:aC)(t:TT):Prop:=
 ∀(pins:List (ak×Obj)) (s:aA) (σ:St) (H:Hp) (Q:Bool->Hp->Prop),Inv X pins σ H s->t σ H Q->wpAny (model X.prog X.w) X.A (isTrue e X.env (eval e X.env)) (TP X pins σ Q) X.xe s
noncomputable def PW (X:Cx)(e:aC)(t:TT):Prop:=
 ∀(whole:Sem af) (pins:List (ak×Obj)) (s:aA) (σ:St) (H:Hp) (Q:Bool->Hp->Prop),Inv X pins σ H s->t σ H Q->wpAny (model X.prog X.w) X.A (isTrue e X.env whole) (TP X pins σ Q) X.xe s
noncomputable def PA (X:Cx)(es:List aC)(t:TA):Prop:=
 ∀(pos:Pos) (pins:List (ak×Obj)) (s:aA) (σ:St) (H:Hp) (Q:List V->Hp->Prop),Inv X pins σ H s->t σ H Q->wpAny (model X.prog X.w) X.A (spliced (backTo pos (starEach es X.env))) (AP X pins σ Q) X.xe s
noncomputable def PS (X:Cx)(st:aE)(t:TS):Prop:=
 ∀(pins:List (ak×Obj)) (s:aA) (σ:St) (H:Hp) (D:Ends),Inv X pins σ H s->t D σ H->wpAny (model X.prog X.w) X.A (exec st X.env) (SP X pins D) X.xe s
noncomputable def C8 (X:Cx)(st:List aE)(t:TS):Prop:=
 ∀(pins:List (ak×Obj)) (s:aA) (σ:St) (H:Hp) (D:Ends),Inv X pins σ H s->t D σ H->wpAny (model X.prog X.w) X.A (execs st X.env) (SP X pins D) X.xe s
theorem m9{α:Type}{t:Sem α}{Q Q':α->aA->Prop}{A:az}{E:af->aA->Prop}(h:wpAny M A t Q E s)(hQ:∀a s,Q a s->Q' a s):wpAny M A t Q' E s:=iO h hQ λ_ _ x=>x
section
variable {X:Cx}
noncomputable def WV (i:Nat):TE:=λσ H Q=>∃v,σ[i]?=some (some v)/\Q v H
noncomputable def tC (v:V):TE:=λ_ H Q=>Q v H
theorem N4{i:Nat}{x:Str}(hN:X.N[i]?=some x)(hv:YJ X.env.scope x)(hd:(x == ("__debug__" : Str))=false:=by decide)(hcd:(x == ("__classdict__" : Str))=false:=by decide):PE X (.Name x pos) (WV i):=by
 intro pins s σ H Q I h;obtain⟨v,e,h⟩:=h;obtain⟨m,hn,hl⟩:=I.loc;obtain⟨u,r,l⟩:=hl i x v hN e hv;have fin:EP X pins σ Q u s:=⟨v,H,I,r,h⟩
 rcases l with⟨hk,hm⟩|⟨hk,c,hc,hcell⟩
 ·exact wpAny_Name (wpAny_loadName_local I.ok.kind hk hn hm fin) hd
 ·rcases hk with hk|hk
  ·exact wpAny_Name (wpAny_loadName_cell I.ok.kind hk hc hcell fin) hd
  ·exact wpAny_Name (wpAny_loadName_free I.ok.kind hk hc hcell fin hcd) hd
theorem Wn{i j pos}:PE X (.Constant (.int i) j pos) (tC (.int i)):=λ_ _ _ H _ I h=>wpAny_Constant_int ⟨.int i,H,I.tok _,⟨_,rfl⟩,h⟩
theorem WT{b j pos}:PE X (.Constant (.bool b) j pos) (tC (.bl b)):=λ_ _ _ H _ I h=>Constant_bool ⟨.bl b,H,I,rfl,h⟩
noncomputable def Gl (X:Cx)(x:Str):Prop:=X.env.kindOf x=some .globalImplicit
theorem HK{E:af->aA->Prop}{H:Hp}{x:Str}{Q:af->aA->Prop}(I:Inv X pins σ H s)(hg:Gl X x)(hm:X.mg x=some u)(h:Q u s)
  (hd:(x == ("__debug__" : Str))=false:=by decide):wpAny (model X.prog X.w) X.A (eval (.Name x pos) X.env) Q E s:=
 Calls.Name_function_global I.ok.kind hg (Calls.loadGlobal_global (by rw[I.ok.glob];exact I.mod.glob.keeps I.bk) hm h) hd
theorem uH{E:af->aA->Prop}{H:Hp}{x:Str}{Q:af->aA->Prop}(I:Inv X pins σ H s)(hg:Gl X x)(hm:X.mg x=none)(hv:bootBuiltins x=some u)(h:Q u s)
  (hn:x ≠ "__name__" := by decide) (hd:(x == ("__debug__" : Str))=false:=by decide):wpAny (model X.prog X.w) X.A (eval (.Name x pos) X.env) Q E s:=by
 obtain⟨mb,h1,h2⟩:=I.mod.blt;exact Calls.Name_function_global I.ok.kind hg (Calls.loadGlobal_builtin (by rw[I.ok.glob];exact I.mod.glob.keeps I.bk) hm (by rw[I.ok.blt];exact h1.keeps I.bk) ((h2 x hn).trans hv) h) hd
theorem QW{x:Str}{v:V}(hg:Gl X x)(hm:X.mg x=some u)(r:RelV v u)(hd:(x == ("__debug__" : Str))=false:=by decide):PE X (.Name x pos) (tC v):=
 λ_ _ _ H _ I h=>HK I hg hm ⟨v,H,I,r,h⟩ hd
theorem PM{x:Str}{v:V}(hg:Gl X x)(hm:X.mg x=none)(hv:bootBuiltins x=some u)(r:RelV v u)(hn:x ≠ "__name__" := by decide)(hd:(x == ("__debug__" : Str))=false:=by decide):PE X (.Name x pos) (tC v):=
 λ_ _ _ H _ I h=>uH I hg hm hv ⟨v,H,I,r,h⟩ hn hd
variable {a b:aC}{ta tb:TE}{pos:Pos}
variable {tA tB':TT}{rest:List aC}
noncomputable def XD (t u:TT):TT:=λσ H Q=>t σ H λc H1=>if c=true then u σ H1 Q else Q false H1
noncomputable def tOr (t u:TT):TT:=λσ H Q=>t σ H λc H1=>if c=true then Q true H1 else u σ H1 Q
noncomputable def Zh (t:TT):TT:=λσ H Q=>t σ H λc H1=>Q (!c) H1
theorem Qf(ha:PT X a tA):PW X (.BoolOp .And [a] pos) tA:=by
 intro wh pins s σ H Q I h;refine isTrue_and (m9 (ha pins s σ H Q I h) λc s1 e=>?_)
 cases c with
 | true=>exact isTrue_and_nil e
 | false=>exact e
theorem UA(ha:PT X a tA):PW X (.BoolOp .Or [a] pos) tA:=by
 intro wh pins s σ H Q I h;refine isTrue_or (m9 (ha pins s σ H Q I h) λc s1 e=>?_)
 cases c with
 | false=>exact isTrue_or_nil e
 | true=>exact e
theorem UK(ha:PT X a tA)(hb:PW X (.BoolOp .And (b::rest) pos) tB'):PW X (.BoolOp .And (a::b::rest) pos) (XD tA tB'):=by
 intro wh pins s σ H Q I h;refine isTrue_and (m9 (ha pins s σ H _ I h) λc s1 ⟨H1,I1,q1⟩=>?_)
 cases c with
 | true=>exact hb wh pins s1 σ H1 Q I1 q1
 | false=>exact⟨H1,I1,q1⟩
theorem Xv(ha:PT X a tA)(hb:PW X (.BoolOp .Or (b::rest) pos) tB'):PW X (.BoolOp .Or (a::b::rest) pos) (tOr tA tB'):=by
 intro wh pins s σ H Q I h;refine isTrue_or (m9 (ha pins s σ H _ I h) λc s1 ⟨H1,I1,q1⟩=>?_)
 cases c with
 | true=>exact⟨H1,I1,q1⟩
 | false=>exact hb wh pins s1 σ H1 Q I1 q1
theorem VL(ha:PT X a tA):PT X (.UnaryOp .Not a pos) (Zh tA):=by
 intro pins s σ H Q I h;exact isTrue_not (ha pins s σ H (λc H1=>Q (!c) H1) I h)
noncomputable def Xb (ta tb:TE):TE:=λσ H Q=>ta σ H λx H1=>∃c,x=.bl c/\if c=true then tb σ H1 Q else Q (.bl false) H1
noncomputable def YQ (ta:TE):TE:=λσ H Q=>ta σ H λx H1=>∃c,x=.bl c/\Q (.bl (!c)) H1
theorem UU{op}{t:TE}(h:PE X a t):PE X (.BoolOp op [a] pos) t:=λpins s σ H Q I hw=>BoolOp_one (h pins s σ H Q I hw)
theorem UM(ha:PE X a ta)(hb:PE X (.BoolOp .And (b::rest) pos) tb):PE X (.BoolOp .And (a::b::rest) pos) (Xb ta tb):=by
 intro pins s σ H Q I h;refine BoolOp_and (m9 (ha pins s σ H _ I h) λv s1 ⟨x,H1,I1,r1,q1⟩=>?_);obtain⟨c,rfl,q1⟩:=q1
 cases r1
 refine dI ?_
 cases c with
 | true=>exact hb pins s1 σ H1 Q I1 q1
 | false=>exact⟨.bl false,H1,I1,rfl,q1⟩
theorem Uc(ha:PE X a ta):PE X (.UnaryOp .Not a pos) (YQ ta):=by
 intro pins s σ H Q I h;refine UnaryOp_ (m9 (ha pins s σ H _ I h) λv s1 ⟨x,H1,I1,r1,q1⟩=>?_);obtain⟨c,rfl,q1⟩:=q1
 cases r1
 exact not_of (dI ⟨.bl (!c),H1,I1,rfl,q1⟩)
end
noncomputable def oX (K:au)(H:Hp)(a:ak)(xs:List V):Prop:=
 Rd H a (.lst xs) \/
  ∃(o:Obj) (its:Array af) (n:Nat),K.lookup a=some o/\o.cls=.type "list" /\ o.dict=none/\o.data=.seq its n/\its.size<=sizeLine/\Vals xs its.toList
noncomputable def mD (K:au)(H:Hp)(a:ak)(xs:List V):Prop:=
 Rd H a (.tup xs) \/
  ∃(o:Obj) (its:Array af) (n:Nat),K.lookup a=some o/\o.cls=.type "tuple" /\ o.dict=none/\o.data=.seq its n/\its.size<=sizeLine/\Vals xs its.toList
noncomputable def ZA:af->Option V
 | .none=>some .non
 | .bool b=>some (.bl b)
 | .int i _=>some (.int i)
 | .str x _=>some (.str x)
 | .bytes b _=>some (.byt b)
 | .float b _=>some (.flt b)
 | .ref a=>some (.ref a)
 | .type n=>some (.ty n)
 | _=>none
theorem RelV.abs{x:V}(r:RelV x u):ZA u=some x:=by
 cases x with
 | non=>cases r;rfl
 | bl _=>cases r;rfl
 | int _=>obtain⟨t,rfl⟩:=r;rfl
 | str _=>obtain⟨t,rfl⟩:=r;rfl
 | byt _=>obtain⟨t,rfl⟩:=r;rfl
 | flt _=>obtain⟨t,rfl⟩:=r;rfl
 | ref _=>cases r;rfl
 | ty _=>cases r;rfl
theorem RelV.inj{x:V}(r:RelV x u)(q:RelV y u):x=y:=aZ (r.abs.symm.trans q.abs)
theorem Vals.inj:∀{xs ys:List V}{us:List af},Vals xs us->Vals ys us->xs=ys
 | _,_,_,.nil,.nil=>rfl
 | _,_,_,.cons r t,.cons r' t'=>by rw[r.inj r',Vals.inj t t']
section
variable {X:Cx}{pins:List (ak×Obj)}{σ:St}{H:Hp}{s:aA}{a:ak}{xs ys:List V}
theorem oX.of{K:au}(h:H a=some (.lst xs)):oX K H a xs:=.inl (.inl h)
theorem mD.of{K:au}(h:H a=some (.tup xs)):mD K H a xs:=.inl (.inl h)
theorem Inv.list(I:Inv X pins σ H s)(h:oX X.K H a xs):∃its:List af,Vals xs its/\PlainL s.heap a its.toArray/\xs.length<=sizeLine:=by
 rcases h with h|⟨o,its,n,hk,hc,hd,hs,hz,r⟩
 ·obtain⟨z,its,n,r,e⟩:=h.ok I.hok;exact⟨its,r,⟨_,n,e,rfl,rfl,rfl⟩,z⟩
 ·refine⟨its.toList,r,⟨o,n,I.Dd a o hk,hc,hd,by simpa using hs⟩,?_⟩;have e:=r.length;simp only[dQ]at e;lia
theorem Inv.tuple(I:Inv X pins σ H s)(h:mD X.K H a xs):∃its:List af,Vals xs its/\IsTup s.heap a its.toArray/\xs.length<=sizeLine:=by
 rcases h with h|⟨o,its,n,hk,hc,_,hs,hz,r⟩
 ·obtain⟨z,its,r,p⟩:=h.ok I.hok;exact⟨its,r,p.tup,z⟩
 ·refine⟨its.toList,r,⟨o,I.Dd a o hk,hc,n,by simpa using hs⟩,?_⟩;have e:=r.length;simp only[dQ]at e;lia
theorem Inv.Er(I:Inv X pins σ H s)(h:oX X.K H a xs)(h':oX X.K H a ys):xs=ys:=by
 obtain⟨its,r,⟨o,n,e,_,_,d⟩,_⟩:=I.list h;obtain⟨its',r',⟨o',n',e',_,_,d'⟩,_⟩:=I.list h';rw[e]at e';cases e';rw[d]at d'
 injection d' with d1 _
 have:its=its':=by simpa using dg Array.toList d1
 subst this;exact r.inj r'
theorem Inv.xg(I:Inv X pins σ H s)(h:mD X.K H a xs)(h':mD X.K H a ys):xs=ys:=by
 obtain⟨its,r,⟨o,e,_,n,d⟩,_⟩:=I.tuple h;obtain⟨its',r',⟨o',e',_,n',d'⟩,_⟩:=I.tuple h';rw[e]at e';cases e';rw[d]at d'
 injection d' with d1 _
 have:its=its':=by simpa using dg Array.toList d1
 subst this;exact r.inj r'
end
noncomputable abbrev Cx.zY (X:Cx)(E:af->aA->Prop):Cx:={ X with xe:=E }
noncomputable abbrev Cx.W5 (X:Cx):Cx:=X.zY λ_ _=>False
theorem Cx.Ok.zY{X:Cx}(ok:X.Ok)(E:af->aA->Prop):(X.zY E).Ok:=
 ⟨ok.mod,ok.kind,ok.glob,ok.blt,ok.above,ok.inj,ok.has,ok.cab,ok.hd,ok.frames,ok.stk,ok.exf,ok.bs,ok.bsz,ok.noex,ok.exfs,ok.yI,ok.frf⟩
theorem Cx.Ok.sX{X:Cx}{E:af->aA->Prop}(ok:(X.zY E).Ok):X.Ok:=
 ⟨ok.mod,ok.kind,ok.glob,ok.blt,ok.above,ok.inj,ok.has,ok.cab,ok.hd,ok.frames,ok.stk,ok.exf,ok.bs,ok.bsz,ok.noex,ok.exfs,ok.yI,ok.frf⟩
section
variable {X:Cx}{pins:List (ak×Obj)}{σ:St}{H:Hp}{s:aA}{E:af->aA->Prop}
theorem Inv.zY(I:Inv X pins σ H s)(E:af->aA->Prop):Inv (X.zY E) pins σ H s:=⟨I.ok.zY E,I.os,I.bare,I.base,I.loc,I.cell,I.free,I.freeC,I.pin,I.hok,I.len⟩
theorem Inv.sX(I:Inv (X.zY E) pins σ H s):Inv X pins σ H s:=⟨I.ok.sX,I.os,I.bare,I.base,I.loc,I.cell,I.free,I.freeC,I.pin,I.hok,I.len⟩
theorem SP.sX{D:Ends}{f:Flow}(h:SP (X.zY E) pins D f s'):SP X pins D f s':=by
 cases f with
 | next=>obtain⟨σ',H',I,q⟩:=h;exact⟨σ',H',I.sX,q⟩
 | brk=>obtain⟨σ',H',I,q⟩:=h;exact⟨σ',H',I.sX,q⟩
 | cont=>obtain⟨σ',H',I,q⟩:=h;exact⟨σ',H',I.sX,q⟩
 | ret u=>obtain⟨v,σ',H',I,r,q⟩:=h;exact⟨v,σ',H',I.sX,r,q⟩
theorem C8.W5{st:List aE}{t:TS}(h:C8 X.W5 st t):C8 X st t:=λpins s σ H D I hw=>
 iO (h pins s σ H D (I.zY _) hw) (λ_ _ q=>q.sX) λ_ _ z=>False.elim z
end
section
variable {X:Cx}{st:aE}{rest:List aE}{t u:TS}{e:aC}{te:TE}{pos:Pos}
noncomputable def Yl:TS:=λD σ H=>D.nx σ H
noncomputable def WY (t u:TS):TS:=λD σ H=>t { D with nx:=u D } σ H
theorem Rk:C8 X [] Yl:=λ_ _ σ H _ I h=>iE ⟨σ,H,I,h⟩
theorem Nv(h1:PS X st t)(h2:C8 X rest u):C8 X (st::rest) (WY t u):=by
 intro pins s σ H D I h;refine wpAny_execs_cons (m9 (h1 pins s σ H { D with nx:=u D } I h) λf s1 q=>?_)
 cases f with
 | next=>
  obtain⟨σ',H',I',q⟩:=q;exact h2 pins s1 σ' H' D I' q
 | ret v=>exact q
 | brk=>exact q
 | cont=>exact q
theorem RE(h1:PS X st t):C8 X [st] t:=by
 intro pins s σ H D I h;refine wpAny_execs_cons (m9 (h1 pins s σ H D I h) λf s1 q=>?_)
 cases f with
 | next=>exact iE q
 | ret v=>exact q
 | brk=>exact q
 | cont=>exact q
theorem Inv.quiet{H:Hp}(I:Inv X pins σ H s):interactive X.env=false:=by simp[interactive,I.ok.kind]
noncomputable def WR (te:TE):TS:=λD σ H=>te σ H λ_ H1=>D.nx σ H1
theorem Q6(he:PE X e te)(hs:swapsWith e none pos.line X.env=pure false:=by rfl):PS X (.Expr e pos) (WR te):=by
 intro pins s σ H D I h;exact wpAny_Expr_any (m9 (he pins s σ H _ I h) λv s1 ⟨x,H1,I1,r1,q1⟩=>⟨σ,H1,I1,q1⟩) I.quiet hs
noncomputable def aad (te:TE):TS:=λD σ H=>te σ H D.rt
theorem Wf(he:PE X e te):PS X (.Return (some e) pos) (aad te):=by
 intro pins s σ H D I h;exact wpAny_Return_some (m9 (he pins s σ H _ I h) λv s1 ⟨x,H1,I1,r1,q1⟩=>⟨x,σ,H1,I1,r1,q1⟩)
noncomputable def Zv (c:TT)(t u:TS):TS:=λD σ H=>c σ H λb H1=>if b=true then t D σ H1 else u D σ H1
theorem XY{c:aC}{a:List aE}{tc:TT}(hc:PT X c tc)(ha:C8 X a t)(hb:C8 X b u):PS X (.If c a b pos) (Zv tc t u):=by
 intro pins s σ H D I h;refine wpAny_If (m9 (hc pins s σ H _ I h) λd s1 ⟨H1,I1,q1⟩=>?_)
 cases d with
 | true=>exact ha pins s1 σ H1 D I1 q1
 | false=>exact hb pins s1 σ H1 D I1 q1
noncomputable def Wm:TS:=λ_ _ _=>False
theorem OT:PS X st Wm:=λ_ _ _ _ _ _ h=>h.elim
end
noncomputable abbrev TG:=V->St->Hp->(St->Hp->Prop)->Prop
noncomputable abbrev TL:=List V->St->Hp->(St->Hp->Prop)->Prop
noncomputable def PG (X:Cx)(target:aC)(t:TG):Prop:=
 ∀(pins:List (ak×Obj)) (s:aA) (σ:St) (H:Hp) (v:V) (u:af) (Q:St->Hp->Prop),Inv X pins σ H s->RelV v u->t v σ H Q ->
  wpAny (model X.prog X.w) X.A (assign target X.env u) (λ_ s'=>∃σ' H',Inv X pins σ' H' s'/\Q σ' H') X.xe s
noncomputable def W2 (X:Cx)(ts:List aC)(t:TL):Prop:=
 ∀(pins:List (ak×Obj)) (s:aA) (σ:St) (H:Hp) (vs:List V) (us:List af) (Q:St->Hp->Prop),Inv X pins σ H s->Vals vs us->t vs σ H Q ->
  wpAny (model X.prog X.w) X.A (assignInOrder ((assignEach ts X.env).map (·.2)) us) (λ_ s'=>∃σ' H',Inv X pins σ' H' s'/\Q σ' H') X.xe s
noncomputable abbrev JI:=V->V->V->Hp->(Hp->Prop)->Prop
noncomputable def J7 (X:Cx)(t:JI):Prop:=
 ∀(pins:List (ak×Obj)) (s:aA) (σ:St) (H:Hp) (o i v:V) (ov iv u:af) (Q:Hp->Prop),Inv X pins σ H s->RelV o ov->RelV i iv->RelV v u->t o i v H Q ->
  wpAny (model X.prog X.w) X.A (setItem ov iv u) (λ_ s'=>∃H',Inv X pins σ H' s'/\Q H') X.xe s
section
variable {X:Cx}{pos:Pos}
noncomputable def RY (i:Nat):TG:=λv σ H Q=>Q (σ.set i (some v)) H
theorem PK{i:Nat}{x:Str}(hN:X.N.Nodup)(hi:X.N[i]?=some x)(hx:Loc X.env.scope x)(hf:X.fn x=true\/X.env.scope.names.lookup x=some .local:=by first|exact .inl rfl|exact .inr rfl|assumption):PG X (.Name x pos) (RY i):=by
 intro pins s σ H v u Q I r h;exact wpAny_assign_Name (EZ I hN hi hx r (λs' I'=>⟨_,H,I',h⟩) hf)
noncomputable def aan:TL:=λvs σ H Q=>vs=[]/\Q σ H
noncomputable def YD (t:TG)(u:TL):TL:=λvs σ H Q=>∃v r,vs=v::r/\t v σ H λσ' H'=>u r σ' H' Q
theorem P6:W2 X [] aan:=by
 intro pins s σ H vs us Q I r h;obtain⟨e,h⟩:=h;subst e
 cases r
 exact assignInOrder_nil ⟨σ,H,I,h⟩
theorem OU{e:aC}{t:TG}{u:TL}(h1:PG X e t)(h2:W2 X es u)
  (hs:(assignEach (e::es) X.env).map (·.2)=assign e X.env::(assignEach es X.env).map (·.2):=by rfl):W2 X (e::es) (YD t u):=by
 intro pins s σ H vs us Q I r h;obtain⟨v,vr,e1,h⟩:=h;subst e1
 cases r with
 | cons r rr=>
  rw[hs];refine assignInOrder_cons (m9 (h1 pins s σ H _ _ _ I r h) λ_ s1 ⟨σ1,H1,I1,q1⟩=>?_);exact h2 pins s1 σ1 H1 _ _ Q I1 rr q1
noncomputable def ZF (K:au)(n:Nat)(t:TL):TG:=λv σ H Q=>∃a xs,v=.ref a/\mD K H a xs/\xs.length=n/\t xs σ H Q
theorem VJ{k:Nat}{t:TL}{n:Nat}(hc:X.calm=true)(h:W2 X es t)
  (hn:(assignEach es X.env).length=n:=by rfl) (hst:(assignEach es X.env).findIdx? (·.1)=none:=by rfl):PG X (.Tuple es k pos) (ZF X.K n t):=by
 intro pins s σ H v u Q I r hw;obtain⟨a,xs,e1,hq,hl,hw⟩:=hw;subst e1
 cases r
 obtain⟨its,rv,ht,hz⟩:=I.tuple hq;refine assign_Tuple_tuple (I.ok.hd hc) ht (by simp[hn,<- hl,rv.length]) hst λh' hx=>?_;have I1:Inv X pins σ H { s with heap:=h' }:=I.kept (t':=s.toks) λb o e=>hx b o (bE (bf e)) e;exact h pins _ σ H xs _ Q I1 (by simpa using rv) hw
noncomputable def ZG (to ti:TE)(t:JI):TG:=λv σ H Q=>to σ H λo H1=>ti σ H1 λi H2=>t o i v H2 λH3=>Q σ H3
theorem Gq{to ti:TE}{t:JI}(ho:PE X o to)(hi:PE X i ti)(hs:J7 X t)
  (ha:∀v,assign (.Subscript o i pos) X.env v=(do
   let ov <- holding [v] (eval o X.env)
   let iv <- holding [v,ov] (eval i X.env)
   standAt pos
   holding [v,ov,iv] (setItem ov iv v)
   release [v,ov,iv] []):=by intro _;rfl):PG X (.Subscript o i pos) (ZG to ti t):=by
 intro pins s σ H v u Q I r h;rw[ha];refine aH (dB (m9 (ho pins s σ H _ I h) λov s1 ⟨x,H1,I1,r1,q1⟩=>?_));refine aH (dB (m9 (hi pins s1 σ H1 _ I1 q1) λiv s2 ⟨y,H2,I2,r2,q2⟩=>?_));refine aH (wpAny_standAt (aH (dB (m9 (hs pins s2 σ H2 x y v ov iv u _ I2 r1 r2 r q2) λ_ s3 ⟨H3,I3,q3⟩=>?_))));exact wpAny_release ⟨σ,H3,I3,q3⟩
noncomputable def Ua (te:TE)(g:TG):TS:=λD σ H=>te σ H λx H1=>g x σ H1 D.nx
theorem Uh{tg e:aC}{te:TE}{g:TG}(he:PE X e te)(hg:PG X tg g)(hs:swapsWithSole [tg] e pos.line X.env=pure false:=by rfl)(hw:swappedStores [tg] e X.env=pure none:=by rfl)
  (h1:(assignEach [tg] X.env).map (·.2)=[assign tg X.env]:=by rfl):PS X (.Assign [tg] e pos) (Ua te g):=by
 intro pins s σ H D I h;refine wpAny_Assign_stores (m9 (he pins s σ H _ I h) λv s1 ⟨x,H1,I1,r1,q1⟩=>?_) hs hw;rw[h1];exact m9 (hg pins s1 σ H1 x v _ I1 r1 q1) λ_ s2 q=>q
theorem U6{i:Nat}{x:Str}{e:aC}{te:TE}(hN:X.N.Nodup)(hi:X.N[i]?=some x)(hx:Loc X.env.scope x)(he:PE X e te)(hs:swapsWith e (some (.Name x pos')) pos.line X.env=pure false:=by rfl)(hf:X.fn x=true\/X.env.scope.names.lookup x=some .local:=by first|exact .inl rfl|exact .inr rfl|assumption) :
  PS X (.Assign [.Name x pos'] e pos) (Ua te (RY i)):=by
 intro pins s σ H D I h;refine wpAny_Assign_Name (m9 (he pins s σ H _ I h) λv s1 ⟨y,H1,I1,r1,q1⟩=>?_) hs;exact EZ I1 hN hi hx r1 (λs2 I2=>⟨_,H1,I2,q1⟩) hf
end
section
variable {X:Cx}{pos:Pos}
noncomputable def Oo (c:TT)(tb:TS):TS:=λD σ H=>∃W:Nat->St->Hp->Prop,(∃m,W m σ H)/\∀m σ H,W m σ H ->
 c σ H λb H1=>if b=true then ∃N:St->Hp->Prop,(∀σ' H',N σ' H'->∃m',m'<m/\W m' σ' H')/\tb { D with nx:=N,ct:=N,bk:=D.nx } σ H1 else D.nx σ H1
theorem Lg{c:aC}{tc:TT}{tb:TS}(hp:PassesOwn (model X.prog X.w) X.A X.env X.xe)(hc:PT X c tc)(hb:C8 X body tb):PS X (.While c body [] pos) (Oo tc tb):=by
 intro pins s σ H D I h;obtain⟨W,⟨m0,w0⟩,turn⟩:=h;refine wpAny_While (codeAny_whileLoop (λn s'=>∃σ' H',Inv X pins σ' H' s'/\W n σ' H') ?_ m0 ⟨σ,H,I,w0⟩);rintro n s1 ⟨σ1,H1,I1,w1⟩;refine eN hp (m9 (hc pins s1 σ1 H1 _ I1 (turn n σ1 H1 w1)) λb s2 ⟨H2,I2,q2⟩=>?_)
 cases b with
 | true=>
  obtain⟨N,hN,q2⟩:=q2;rw[aM rfl];refine eN hp (m9 (hb pins s2 σ1 H2 _ I2 q2) λf s3 q3=>?_)
  cases f with
  | next=>
   obtain⟨σ3,H3,I3,n3⟩:=q3;obtain⟨m',hm,w3⟩:=hN σ3 H3 n3;exact⟨m',hm,σ3,H3,I3,w3⟩
  | cont=>
   obtain⟨σ3,H3,I3,n3⟩:=q3;obtain⟨m',hm,w3⟩:=hN σ3 H3 n3;exact⟨m',hm,σ3,H3,I3,w3⟩
  | brk=>exact q3
  | ret v=>exact q3
 | false=>
  rw[aJ bF];exact iE ⟨σ1,H2,I2,q2⟩
end
structure It where
 go:Nat->Hp->Prop
 yld:Nat->Hp->V->Hp->Prop
 stop:Nat->Hp->Prop
noncomputable def wL (X:Cx)(pins:List (ak×Obj))(H:Hp)(b:ak):Prop:=
 H b=none/\b≠X.env.locals/\b∉X.fs/\(b∈X.ex\/X.s₀.heap.objs.size<=b)/\(∀x c,X.env.cells.lookup x=some c->c≠b)/\∀p∈X.pn++pins,p.1≠b
theorem Inv.D7{X:Cx}{H H':Hp}{s:aA}(I:Inv X pins σ H s)(hb:s.heap.objs.size<=b)(hn:H' b=none):wL X pins H' b:=by
 refine⟨hn,ne_of_gt (bL I.lt hb),I.Zu hb,.inr (bH I.sz hb),λx c e z=>?_,λp hp z=>?_⟩
 ·obtain⟨v,q⟩:=I.cell x c e;exact absurd (bL q.lt (by rw[z];exact hb)) (fM _)
 ·exact absurd (bL (bf (I.pin p hp).1) (by rw[z];exact hb)) (fM _)
structure Turn (P:aj)(w:ah)(K:au)(tg:aC)(J:It)(fp:List ak)(it:ak)(tn:Nat->aq->Prop):Prop where
 mem:it∈fp
 obj:∀i h,tn i h->∀b∈fp,∃o,h.get? b=some o/\∀v,o.data≠.cell v
 keep:∀i h h',tn i h->(∀b∈fp,∀o,h.get? b=some o->h'.get? b=some o)->tn i h'
 item:∀(X:Cx),X.prog=P->X.w=w->X.K=K->X.calm=true->∀(i:Nat) (pins:List (ak×Obj)) (s:aA) (σ:St) (H:Hp) (E:af->aA->Prop),Inv X pins σ H s->(∀b∈fp,wL X pins H b)->tn i s.heap->J.go i H ->
  wpAny (model P w) X.A (pyNext (.ref it)) (λr s1=>∃u,r=some u /\
   wpAny (model P w) X.A (letOwnedTupleGo tg (.ref it) u) (λ_ s2=>∃x H',Inv X pins σ H' s2/\RelV x u/\J.yld i H x H'/\tn (i+1) s2.heap/\∀b∈fp,H' b=none) E s1) E s
 done:∀(X:Cx),X.prog=P->X.w=w->X.K=K->X.calm=true->∀(i:Nat) (pins:List (ak×Obj)) (s:aA) (σ:St) (H:Hp) (E:af->aA->Prop),Inv X pins σ H s->(∀b∈fp,wL X pins H b)->tn i s.heap->J.stop i H ->
  wpAny (model P w) X.A (pyNext (.ref it)) (λr s1=>r=none/\Inv X pins σ H s1) E s
 self:∀(A:az) (i:Nat) (s:aA) (Q:af->aA->Prop) (E:af->aA->Prop),tn i s.heap->Q (.ref it) s->wpAny (model P w) A (pyIter (.ref it)) Q E s
noncomputable abbrev TI:=St->Hp->(It->Hp->Prop)->Prop
noncomputable def PIE (X:Cx)(pins:List (ak×Obj))(σ:St)(tg:aC)(R:It->Hp->Prop)(itv:af)(s2:aA):Prop:=
 ∃(it:ak) (fp:List ak) (tn:Nat->aq->Prop) (J:It) (H':Hp),itv=.ref it/\Inv X pins σ H' s2/\Turn X.prog X.w X.K tg J fp it tn/\tn 0 s2.heap/\(∀b∈fp,wL X pins H' b)/\R J H'
noncomputable def PI (X:Cx)(tg iter:aC)(wi:TI):Prop:=
 ∀(pins:List (ak×Obj)) (s:aA) (σ:St) (H:Hp) (R:It->Hp->Prop),Inv X pins σ H s->wi σ H R ->
  wpAny (model X.prog X.w) X.A (eval iter X.env) (λv s1=>wpAny (model X.prog X.w) X.A (pyIter v) (PIE X pins σ tg R) X.xe s1) X.xe s
theorem EM{A:az}{E:af->aA->Prop}{s:aA}{o:Obj}{n:String}{Q:Unit->aA->Prop}(ho:s.heap.get? it=some o)(hc:o.cls=.type n)(hd:o.data=.fields vs)
  (hn:["enumerate", "zip", "dict_itemiterator", "dict_reverseitemiterator", "odict_iterator", "itertools.zip_longest", "itertools.pairwise"].contains n=false) (hQ:Q () s):wpAny M A (letOwnedTupleGo tg (.ref it) u) Q E s:=by
 unfold letOwnedTupleGo
 cases tg<;>first
  | exact aS hQ
  | (cases u<;>first
    | exact aS hQ
    | (refine aH (wpAny_load ho ?_)
       rw[hc,hd];show wpAny M A (if (["enumerate", "zip", "dict_itemiterator", "dict_reverseitemiterator", "odict_iterator", "itertools.zip_longest", "itertools.pairwise"].contains n && vs[0]? == some (rawInt _))=true then _ else _) Q E s;rw[aJ (by intro h;rw[hn,Bool.false_and]at h;cases h)];exact aS hQ))
noncomputable def YZ (K:au)(a:ak):It:=
 ⟨λi H=>∃xs x,oX K H a xs/\xs[i]?=some x,λi H x H'=>H'=H/\∀xs,oX K H a xs->xs[i]?=some x,λi H=>∃xs,oX K H a xs/\xs.length<=i⟩
noncomputable def ZV (K:au)(a:ak):It:=
 ⟨λi H=>∃xs x,mD K H a xs/\xs[i]?=some x,λi H x H'=>H'=H/\∀xs,mD K H a xs->xs[i]?=some x,λi H=>∃xs,mD K H a xs/\xs.length<=i⟩
noncomputable def W9 (lo:Int)(n:Nat):It:=⟨λi _=>i<n,λi H x H'=>H'=H/\x=.int (lo+i),λi _=>n<=i⟩
theorem KH{P:aj}{w:ah}{K:au}(a it:ak):Turn P w K tg (YZ K a) [it] it (λi h=>h.IsListIter it a i) where
 mem:=by simp
 obj:=λi h st b hb=>by
  have e:b=it:=by simpa using hb
  subst e;obtain⟨o,e,c,d⟩:=st;exact⟨o,e,λv z=>by rw[d]at z;cases z⟩
 keep:=λi h h' st k=>st.at λo e=>k it (by simp) o e
 item:=by
  intro X hP hw hK hc i pins s σ H E I hf st hg;subst hP hw hK;obtain⟨xs,x,hq,hx⟩:=hg;obtain⟨its,rv,p,hz⟩:=I.list hq;obtain⟨u,hu,ru⟩:=rv.get hx;obtain⟨f0,f1,f2,f3,f4,f5⟩:=hf it (by simp);refine wpAny_pyNext_list_item st p.isList (x:=u) (by simpa using hu) λh' st' sb=>?_;have I1:Inv X pins σ H { s with heap:=h' }:=I.turned (t':=s.toks) (λb o hb e=>(sb.2 b hb).trans e) f0 f1 f3 f4 f5;obtain⟨o,e,c,d⟩:=id st';exact⟨u,rfl,EM (s:={ s with heap:=h' }) e c d (by decide) ⟨x,H,I1,ru,⟨rfl,λys hy=>by rw[I.Er hy hq];exact hx⟩,st',λb hb=>(hf b hb).1⟩⟩
 done:=by
  intro X hP hw hK hc i pins s σ H E I hf st hg;subst hP hw hK;obtain⟨xs,hq,hx⟩:=hg;obtain⟨its,rv,p,hz⟩:=I.list hq;obtain⟨f0,f1,f2,f3,f4,f5⟩:=hf it (by simp);have hl:=rv.length;exact wpAny_pyNext_list_end (I.ok.hd hc) st p.isList (by simp;lia) λh' eb=>⟨rfl,I.turned (t':=s.toks) (λb o hb e=>eb b o hb e) f0 f1 f3 f4 f5⟩
 self:=λ_ _ _ _ _ st h=>wpAny_pyIter_listiter st h
theorem Fp{P:aj}{w:ah}{K:au}(a it:ak):Turn P w K tg (ZV K a) [it] it (λi h=>h.IsTupleIter it a i) where
 mem:=by simp
 obj:=λi h st b hb=>by
  have e:b=it:=by simpa using hb
  subst e;obtain⟨o,e,c,d⟩:=st;exact⟨o,e,λv z=>by rw[d]at z;cases z⟩
 keep:=λi h h' st k=>st.at λo e=>k it (by simp) o e
 item:=by
  intro X hP hw hK hc i pins s σ H E I hf st hg;subst hP hw hK;obtain⟨xs,x,hq,hx⟩:=hg;obtain⟨its,rv,p,hz⟩:=I.tuple hq;obtain⟨u,hu,ru⟩:=rv.get hx;obtain⟨f0,f1,f2,f3,f4,f5⟩:=hf it (by simp);refine wpAny_pyNext_tuple_item st (show s.heap.IsTuple a its.toArray from p) (x:=u) (by simpa using hu) λh' st' sb=>?_;have I1:Inv X pins σ H { s with heap:=h' }:=I.turned (t':=s.toks) (λb o hb e=>(sb.2 b hb).trans e) f0 f1 f3 f4 f5;obtain⟨o,e,c,d⟩:=id st';exact⟨u,rfl,EM (s:={ s with heap:=h' }) e c d (by decide) ⟨x,H,I1,ru,⟨rfl,λys hy=>by rw[I.xg hy hq];exact hx⟩,st',λb hb=>(hf b hb).1⟩⟩
 done:=by
  intro X hP hw hK hc i pins s σ H E I hf st hg;subst hP hw hK;obtain⟨xs,hq,hx⟩:=hg;obtain⟨its,rv,p,hz⟩:=I.tuple hq;obtain⟨f0,f1,f2,f3,f4,f5⟩:=hf it (by simp);have hl:=rv.length;exact wpAny_pyNext_tuple_end (I.ok.hd hc) st (show s.heap.IsTuple a its.toArray from p) (by simp;lia) λh' eb=>⟨rfl,I.turned (t':=s.toks) (λb o hb e=>eb b o hb e) f0 f1 f3 f4 f5⟩
 self:=λ_ _ _ _ _ st h=>wpAny_pyIter_tupleiter st h
theorem Fi{P:aj}{w:ah}{K:au}(it:ak)(lo:Int)(n:Nat):Turn P w K tg (W9 lo n) [it] it (λi h=>IsRangeIter h it (lo+(i:Nat) * 1) ((n:Int)-(i:Nat)) 1) where
 mem:=by simp
 obj:=λi h st b hb=>by
  have e:b=it:=by simpa using hb
  subst e;exact⟨_,st,λv z=>by
   have z':Data.fields _=Data.cell v:=z
   cases z'⟩
 keep:=λi h h' st k=>k it (by simp) _ st
 item:=by
  intro X hP hw hK hc i pins s σ H E I hf st hg;subst hP hw hK;obtain⟨f0,f1,f2,f3,f4,f5⟩:=hf it (by simp);have W:=Walks.range (prog:=X.prog) (w:=X.w) (I.ok.hd hc) it lo 1 n;refine W.item i s _ _ hg st λv h' tk hv st' kk=>?_;obtain⟨t,rfl⟩:=hv;have I1:Inv X pins σ H { s with heap:=h',toks:=tk }:=I.turned (λb o hb e=>kk b o (by simpa using hb) e) f0 f1 f3 f4 f5;refine⟨_,rfl,EM (s:={ s with heap:=h',toks:=tk }) (n := "range_iterator") st' rfl rfl (by decide) ⟨.int (lo+i),H,I1,⟨t,?_⟩,⟨rfl,rfl⟩,st',λb hb=>(hf b hb).1⟩⟩;rw[Int.mul_one]
 done:=by
  intro X hP hw hK hc i pins s σ H E I hf st hg;subst hP hw hK;obtain⟨f0,f1,f2,f3,f4,f5⟩:=hf it (by simp);exact wpAny_pyNext_range_end (I.ok.hd hc) st (by have:n<=i:=hg;lia) λh' eb=>⟨rfl,I.turned (t':=s.toks) (λb o hb e=>eb b o hb e) f0 f1 f3 f4 f5⟩
 self:=λ_ _ _ _ _ st h=>wpAny_pyIter_rangeiter st h
section
variable {X:Cx}{tg:aC}
noncomputable def XT (K:au)(tl:TE):TI:=λσ H R=>tl σ H λx H1=>∃a,x=.ref a/\(∃xs,oX K H1 a xs)/\R (YZ K a) H1
noncomputable def Zf (K:au)(tl:TE):TI:=λσ H R=>tl σ H λx H1=>∃a,x=.ref a/\(∃xs,mD K H1 a xs)/\R (ZV K a) H1
theorem Ih{l:aC}{tl:TE}(hl:PE X l tl):PI X tg l (XT X.K tl):=by
 intro pins s σ H R I h;refine m9 (hl pins s σ H _ I h) λv s1 ⟨x,H1,I1,r1,q1⟩=>?_;obtain⟨a,e,⟨xs,hq⟩,q⟩:=q1;subst e
 cases r1
 obtain⟨its,rv,p,hz⟩:=I1.list hq;refine wpAny_pyIter_list p.isList ?_;refine⟨s1.heap.objs.size,[s1.heap.objs.size],_,_,H1,rfl,I1.kept (t':=s1.toks) λb o e=>aQ _ e,KH a _,⟨_,bA _ rfl,rfl,rfl⟩,λb hb=>?_,q⟩;have e:b=s1.heap.objs.size:=by simpa using hb
 subst e;exact I1.D7 (aO _) (I1.hok.fresh (aO _))
theorem Li{l:aC}{tl:TE}(hl:PE X l tl):PI X tg l (Zf X.K tl):=by
 intro pins s σ H R I h;refine m9 (hl pins s σ H _ I h) λv s1 ⟨x,H1,I1,r1,q1⟩=>?_;obtain⟨a,e,⟨xs,hq⟩,q⟩:=q1;subst e
 cases r1
 obtain⟨its,rv,p,hz⟩:=I1.tuple hq;refine gA (show s1.heap.IsTuple a its.toArray from p) ?_;refine⟨s1.heap.objs.size,[s1.heap.objs.size],_,_,H1,rfl,I1.kept (t':=s1.toks) λb o e=>aQ _ e,Fp a _,⟨_,bA _ rfl,rfl,rfl⟩,λb hb=>?_,q⟩;have e:b=s1.heap.objs.size:=by simpa using hb
 subst e;exact I1.D7 (aO _) (I1.hok.fresh (aO _))
theorem DB{H:Hp}{s:aA}{R:It->Hp->Prop}{E:af->aA->Prop}{lo hi:Int}{t v:Tok}{tk:Nat}(I:Inv X pins σ H s)(h1:-(2 ^ 62)<=lo)(h2:lo<2 ^ 62)(h3:-(2 ^ 62)<=hi)(h4:hi<2 ^ 62)
  (q:R (W9 lo (hi-lo).toNat) H):wpAny (model X.prog X.w) X.A (pyIter (.ref s.heap.objs.size)) (PIE X pins σ tg R) E { s with heap:=s.heap.push { cls:=.type "range",data:=.fields #[.int lo t,.int hi u,.int 1 v]},toks:=tk }:=by
 refine wpAny_pyIter_range (IsRange.new ..) (small_one h1 h2 h3 h4) ?_;have I1:Inv X pins σ H { s with heap:=s.heap.push { cls:=.type "range",data:=.fields #[.int lo t,.int hi u,.int 1 v]},toks:=tk }:=I.kept λb o e=>aQ _ e;refine⟨(s.heap.push { cls:=.type "range",data:=.fields #[.int lo t,.int hi u,.int 1 v]}).objs.size,[(s.heap.push { cls:=.type "range",data:=.fields #[.int lo t,.int hi u,.int 1 v]}).objs.size],_,_,H,rfl,
  I1.kept (t':=tk) λb o e=>aQ _ e,Fi _ lo (hi-lo).toNat,?_,λb hb=>?_,q⟩
 ·have e1:lo+((0:Nat):Int) * 1=lo:=by simp
  have e2:(((hi-lo).toNat:Nat):Int)-((0:Nat):Int)=Builtin.Range.rangeSize lo hi 1:=by rw[rangeSize_one];split<;>lia
  show IsRangeIter _ _ (lo+((0:Nat):Int) * 1) ((((hi-lo).toNat:Nat):Int)-((0:Nat):Int)) 1;rw[e1,e2];exact bA _ rfl
 ·have e:b=(s.heap.push { cls:=.type "range",data:=.fields #[.int lo t,.int hi u,.int 1 v]}).objs.size:=by simpa using hb
  subst e;exact I1.D7 (aO _) (I1.hok.fresh (aO _))
noncomputable def vQ (ta:TA):TI:=λσ H R=>ta σ H λvs H1=>∃j:Int,vs=[.int j]/\-(2 ^ 62)<=j/\j<2 ^ 62/\R (W9 0 j.toNat) H1
noncomputable def zz (ta:TA):TI:=λσ H R=>ta σ H λvs H1=>∃i j:Int,vs=[.int i,.int j]/\(-(2 ^ 62)<=i/\i<2 ^ 62/\-(2 ^ 62)<=j/\j<2 ^ 62)/\R (W9 i (j-i).toNat) H1
theorem J8{a:aC}{ta:TA}{p:Pos}(hg:Gl X "range")(hm:X.mg "range" = none)(ha:PA X [a] ta)(hs:starEach [a] X.env=[(false,eval a X.env)]:=by rfl):PI X tg (.Call (.Name "range" p) [a] [] pos) (vQ ta):=by
 intro pins s σ H R I h;refine Call_ (uH I hg hm boot_range (dj (m9 (ha pos pins s σ H _ I h) λus s1 ⟨vs,H1,I1,r1,q1⟩=>?_) hs rfl));obtain⟨j,e,q1,q2,q⟩:=q1;subst e
 cases r1 with
 | cons r rr=>
  cases rr
  obtain⟨t,rfl⟩:=r;exact call_range_1 (DB I1 (by lia) (by lia) q1 q2 (by simpa using q))
theorem KC{a b:aC}{ta:TA}{p:Pos}(hg:Gl X "range")(hm:X.mg "range" = none)(ha:PA X [a,b] ta)(hs:starEach [a,b] X.env=[(false,eval a X.env),(false,eval b X.env)]:=by rfl)(hs2:starEach [b] X.env=[(false,eval b X.env)]:=by rfl) :
  PI X tg (.Call (.Name "range" p) [a,b] [] pos) (zz ta):=by
 intro pins s σ H R I h;refine Call_ (uH I hg hm boot_range (dj (m9 (ha pos pins s σ H _ I h) λus s1 ⟨vs,H1,I1,r1,q1⟩=>?_) (by rw[hs,hs2]) (by rw[hs2];rfl)));obtain⟨i,j,e,⟨q1,q2,q3,q4⟩,q⟩:=q1;subst e
 cases r1 with
 | cons r rr=>
  cases rr with
  | cons r' rr=>
   cases rr
   obtain⟨t,rfl⟩:=r;obtain⟨t',rfl⟩:=r';exact call_range_2 (DB I1 q1 q2 q3 q4 q)
noncomputable def Z1 (wi:TI)(g:TG)(tb:TS):TS:=λD σ H=>wi σ H λJ H1=>∃W:Nat->Nat->St->Hp->Prop,(∃m,W 0 m σ H1)/\∀i m σ H,W i m σ H ->
 (J.stop i H/\D.nx σ H)\/(J.go i H/\∃N:St->Hp->Prop,(∀σ' H',N σ' H'->∃m',m'<m/\W (i+1) m' σ' H')/\∀x H',J.yld i H x H'->g x σ H' λσ2 H2=>tb { D with nx:=N,ct:=N,bk:=D.nx } σ2 H2)
noncomputable def yZ (fp:List ak)(h:aq):List (ak×Obj):=fp.filterMap λb=>(h.get? b).map λo=>(b,o)
theorem rL{fp:List ak}{h:aq}{b:ak}(hb:b∈fp)(e:h.get? b=some o):(b,o)∈yZ fp h:=List.mem_filterMap.mpr ⟨b,hb,by rw[e];rfl⟩
theorem JJ{fp:List ak}{h:aq}{p:ak×Obj}(hp:p∈yZ fp h):p.1∈fp/\h.get? p.1=some p.2:=by
 obtain⟨b,hb,e⟩:=List.mem_filterMap.mp hp
 cases q:h.get? b with
 | none=>rw[q]at e;cases e
 | some o=>
  rw[q]at e;have e':(b,o)=p:=aZ e;subst e';exact⟨hb,q⟩
theorem Inv.pinned{H:Hp}{s:aA}{fp:List ak}(I:Inv X pins σ H s)(hf:∀b∈fp,wL X pins H b)(ho:∀b∈fp,∃o,s.heap.get? b=some o/\∀v,o.data≠.cell v):Inv X (pins++yZ fp s.heap) σ H s:=
 I.IA λp hp=>(bD.mp hp).elim (λz=>I.pin p (bQ _ z)) λz=>by
  obtain⟨hb,e⟩:=JJ z;obtain⟨f0,f1,f2,_⟩:=hf p.1 hb;obtain⟨o,e',d⟩:=ho p.1 hb;rw[e]at e';cases e';exact⟨e,f0,f1,f2,d⟩
theorem Inv.vj{pl:List (ak×Obj)}{H:Hp}(I:Inv X (pins++pl) σ H s):Inv X pins σ H s:=I.IA λp hp=>I.pin p (bQ _ (fR _ hp))
theorem Uq{iter:aC}{wi:TI}{g:TG}{tb:TS}(hp:PassesOwn (model X.prog X.w) X.A X.env X.xe)(hc:X.calm=true)(hi:PI X tg iter wi)(hg:PG X tg g)(hb:C8 X body tb)
  (hs:∀x,foldedSetIterable iter X.env x=pure x:=by intro _;rfl):PS X (.For tg iter body [] pos) (Z1 wi g tb):=by
 intro pins s σ H D I h;refine wpAny_For (m9 (hi pins s σ H _ I h) λv s1 h1=>m9 h1 λitv s2 h2=>?_) hs;obtain⟨it,fp,tn,J,H2,e,I2,T,st2,f2,W,⟨m0,w0⟩,turn⟩:=h2;subst e;have stat:∀{H':Hp},(∀b∈fp,H' b=none)->∀b∈fp,wL X pins H' b:=λhn b hb=>⟨hn b hb,(f2 b hb).2⟩;refine codeAny_forLoop_any (λn s'=>∃i σ' H',Inv X pins σ' H' s'/\tn i s'.heap/\(∀b∈fp,H' b=none)/\W i n σ' H') ?_ m0 ⟨0,σ,H2,I2,st2,λb hb=>(f2 b hb).1,w0⟩;rintro n s3 ⟨i,σ3,H3,I3,st3,fr3,w3⟩
 rcases turn i n σ3 H3 w3 with⟨stop,qn⟩|⟨go,N,hN,step⟩
 ·refine eN hp (m9 (T.done X rfl rfl rfl hc i pins s3 σ3 H3 X.xe I3 (stat fr3) st3 stop) λr s4 ⟨hr,I4⟩=>?_);subst hr;exact iE ⟨σ3,H3,I4,qn⟩
 ·refine eN hp (m9 (T.item X rfl rfl rfl hc i pins s3 σ3 H3 X.xe I3 (stat fr3) st3 go) λr s4 ⟨u,hr,h4⟩=>?_);subst hr;refine eN hp (m9 h4 λ_ s5 ⟨x,H5,I5,r5,y5,st5,fr5⟩=>?_);have I5':=I5.pinned (stat fr5) (T.obj _ _ st5);refine eN hp (m9 (hg _ s5 σ3 H5 x u _ I5' r5 (step x H5 y5)) λ_ s6 ⟨σ6,H6,I6,q6⟩=>?_);refine eN hp (m9 (hb _ s6 σ6 H6 _ I6 q6) λf s7 q7=>?_);have again:∀{σ7:St} {H7:Hp},Inv X (pins++yZ fp s5.heap) σ7 H7 s7->N σ7 H7->∃m,m<n/\∃i σ' H',Inv X pins σ' H' s7/\tn i s7.heap/\(∀b∈fp,H' b=none)/\W i m σ' H':=λ{σ7 H7} I7 n7=>by
   obtain⟨m',hm,w7⟩:=hN σ7 H7 n7;refine⟨m',hm,i+1,σ7,H7,I7.vj,T.keep _ _ _ st5 λb hb o e=>(I7.pin (b,o) (bQ _ (bQ _ (rL hb e)))).1,λb hb=>?_,w7⟩;obtain⟨o,e,d⟩:=T.obj _ _ st5 b hb;exact(I7.pin (b,o) (bQ _ (bQ _ (rL hb e)))).2.1
  cases f with
  | next=>obtain⟨σ7,H7,I7,n7⟩:=q7;exact again I7 n7
  | cont=>obtain⟨σ7,H7,I7,n7⟩:=q7;exact again I7 n7
  | brk=>obtain⟨σ7,H7,I7,q7⟩:=q7;exact⟨σ7,H7,I7.vj,q7⟩
  | ret v=>obtain⟨x7,σ7,H7,I7,r7,q7⟩:=q7;exact⟨x7,σ7,H7,I7.vj,r7,q7⟩
end
theorem zQ{c:TT}{tb:TS}{D:Ends}{H:Hp}(Pv:St->Hp->Prop)(μ:St->Hp->Nat)(h0:Pv σ H)
  (hs:∀σ H,Pv σ H->c σ H λb H1=>if b=true then tb { D with nx:=λσ' H'=>Pv σ' H'/\μ σ' H'<μ σ H,ct:=λσ' H'=>Pv σ' H'/\μ σ' H'<μ σ H,bk:=D.nx } σ H1 else D.nx σ H1)
  (mono:∀σ H Q Q',(∀b H1,Q b H1->Q' b H1)->c σ H Q->c σ H Q'):Oo c tb D σ H:=by
 refine⟨λm σ H=>m=μ σ H/\Pv σ H,⟨_,rfl,h0⟩,?_⟩;rintro m σ H ⟨rfl,p⟩;refine mono σ H _ _ (λb H1 q=>?_) (hs σ H p)
 cases b with
 | true=>exact⟨_,λσ' H' ⟨p',l⟩=>⟨_,l,rfl,p'⟩,q⟩
 | false=>exact q
noncomputable abbrev R2:=V->V->Hp->VK->Prop
noncomputable def n5 (X:Cx)(f:af->af->Sem af)(r:R2):Prop:=
 ∀(pins:List (ak×Obj)) (s:aA) (σ:St) (H:Hp) (x y:V) (v u:af) (Q:VK),Inv X pins σ H s->RelV x v->RelV y u->r x y H Q ->
  wpAny (model X.prog X.w) X.A (f v u) (EP X pins σ Q) X.xe s
noncomputable def Y6 (X:Cx)(f:af->Sem af)(r:V->Hp->VK->Prop):Prop:=
 ∀(pins:List (ak×Obj)) (s:aA) (σ:St) (H:Hp) (x:V) (v:af) (Q:VK),Inv X pins σ H s->RelV x v->r x H Q ->
  wpAny (model X.prog X.w) X.A (f v) (EP X pins σ Q) X.xe s
noncomputable def kh (X:Cx)(f:af)(r:List V->Hp->VK->Prop):Prop:=
 ∀(pins:List (ak×Obj)) (s:aA) (σ:St) (H:Hp) (xs:List V) (us:List af) (Q:VK),Inv X pins σ H s->Vals xs us->r xs H Q ->
  wpAny (model X.prog X.w) X.A (call f us) (EP X pins σ Q) X.xe s
noncomputable def aaa (X:Cx)(r:V->Hp->(Bool->Hp->Prop)->Prop):Prop:=
 ∀(pins:List (ak×Obj)) (s:aA) (σ:St) (H:Hp) (x:V) (v:af) (Q:Bool->Hp->Prop),Inv X pins σ H s->RelV x v->r x H Q ->
  wpAny (model X.prog X.w) X.A (truthy v) (TP X pins σ Q) X.xe s
noncomputable def Yb (r:R2)(ta tb:TE):TE:=λσ H Q=>ta σ H λx H1=>tb σ H1 λy H2=>r x y H2 Q
noncomputable def tUn (r:V->Hp->VK->Prop)(ta:TE):TE:=λσ H Q=>ta σ H λx H1=>r x H1 Q
noncomputable def rI (C:Int->Int->Prop)(g:Int->Int->V):R2:=λx y H Q=>∃i j,x=.int i/\y=.int j/\C i j/\Q (g i j) H
noncomputable def Tf (g:Int->Int->V):R2:=λx y H Q=>∃i j,x=.int i/\y=.int j/\Q (g i j) H
noncomputable def rU (g:Int->V):V->Hp->VK->Prop:=λx H Q=>∃i,x=.int i/\Q (g i) H
section
variable {X:Cx}{a b:aC}{ta tb:TE}{pos:Pos}
theorem Vo(ha:PE X a ta)(hb:PE X b tb){H:Hp}{R:V->V->Hp->Prop}(I:Inv X pins σ H s)
  (h:ta σ H λx H1=>tb σ H1 λy H2=>R x y H2) {Q:af->aA->Prop} {f:af->af->Sem af}
  (hf:∀v u s2 x y H2,Inv X pins σ H2 s2->RelV x v->RelV y u->R x y H2->wpAny (model X.prog X.w) X.A (f v u) Q X.xe s2) :
  wpAny (model X.prog X.w) X.A (eval a X.env) (λv s₁=>wpAny (model X.prog X.w) X.A (eval b X.env) (λu s₂=>wpAny (model X.prog X.w) X.A (f v u) Q X.xe s₂) X.xe s₁) X.xe s:=by
 refine m9 (ha pins s σ H _ I h) λv s1 ⟨x,H1,I1,r1,q1⟩=>?_;refine m9 (hb pins s1 σ H1 _ I1 q1) λu s2 ⟨y,H2,I2,r2,q2⟩=>?_;exact hf v u s2 x y H2 I2 r1 r2 q2
theorem Yj{r:R2}(ho:n5 X (binaryOp op) r)(ha:PE X a ta)(hb:PE X b tb):PE X (.BinOp a op b pos) (Yb r ta tb):=by
 intro pins s σ H Q I h;exact wpAny_BinOp (Vo ha hb I h λv u s2 x y H2 I2 rx ry q=>ho pins s2 σ H2 x y v u Q I2 rx ry q)
theorem YM{r:V->Hp->VK->Prop}(ho:Y6 X (unaryOp op) r)(ha:PE X a ta):PE X (.UnaryOp op a pos) (tUn r ta):=by
 intro pins s σ H Q I h;exact UnaryOp_ (m9 (ha pins s σ H _ I h) λv s1 ⟨x,H1,I1,r1,q1⟩=>ho pins s1 σ H1 x v Q I1 r1 q1)
theorem YT{f:af->af->Sem af}{C:Int->Int->Prop}{g:Int->Int->Int}
  (rule:∀(i j:Int) (t u:Tok) (s:aA) (Q:af->aA->Prop) (E:af->aA->Prop),C i j->Q (.int (g i j) s.toks) { s with toks:=s.toks+1 }->wpAny (model X.prog X.w) X.A (f (.int i t) (.int j u)) Q E s) :
  n5 X f (rI C λi j=>.int (g i j)):=by
 intro pins s σ H x y v u Q I rx ry h;obtain⟨i,j,rfl,rfl,hc,q⟩:=h;obtain⟨t,rfl⟩:=rx;obtain⟨t',rfl⟩:=ry;exact rule i j t t' s _ _ hc ⟨.int (g i j),H,I.tok _,⟨_,rfl⟩,q⟩
theorem W_{f:af->af->Sem af}{g:Int->Int->Int}
  (rule:∀(i j:Int) (t u:Tok) (s:aA) (Q:af->aA->Prop) (E:af->aA->Prop),Q (.int (g i j) s.toks) { s with toks:=s.toks+1 }->wpAny (model X.prog X.w) X.A (f (.int i t) (.int j u)) Q E s) :
  n5 X f (Tf λi j=>.int (g i j)):=by
 intro pins s σ H x y v u Q I rx ry h;obtain⟨i,j,rfl,rfl,q⟩:=h;obtain⟨t,rfl⟩:=rx;obtain⟨t',rfl⟩:=ry;exact rule i j t t' s _ _ ⟨.int (g i j),H,I.tok _,⟨_,rfl⟩,q⟩
theorem QO{f:af->af->Sem af}{g:Int->Int->Bool}
  (rule:∀(i j:Int) (t u:Tok) (s:aA) (Q:af->aA->Prop) (E:af->aA->Prop),Q (.bool (g i j)) s->wpAny (model X.prog X.w) X.A (f (.int i t) (.int j u)) Q E s) :
  n5 X f (Tf λi j=>.bl (g i j)):=by
 intro pins s σ H x y v u Q I rx ry h;obtain⟨i,j,rfl,rfl,q⟩:=h;obtain⟨t,rfl⟩:=rx;obtain⟨t',rfl⟩:=ry;exact rule i j t t' s _ _ ⟨.bl (g i j),H,I,rfl,q⟩
noncomputable def ZX (i j:Int):Prop:=0<=j/\j<=1000000/\i.natAbs<2 ^ 64
noncomputable def Rx (i j:Int):Prop:=(-(2 ^ 64)<i/\i<2 ^ 64)\/(-(2 ^ 64)<j/\j<2 ^ 64)
theorem Rx.ok{i j:Int}(h:Rx i j):IntMulOk i j:=by
 rcases h with⟨h1,h2⟩|⟨h1,h2⟩
 ·exact .of_left (intBits_le_64 h1 h2)
 ·exact .of_right (intBits_le_64 h1 h2)
theorem VO:n5 X (binaryOp .Add) (Tf λi j=>.int (i+j)):=W_ λ_ _ _ _ _ _ _ q=>add_int q
theorem VY:n5 X (binaryOp .Sub) (Tf λi j=>.int (i-j)):=W_ λ_ _ _ _ _ _ _ q=>sub_int q
theorem Uk:n5 X (binaryOp .Mult) (rI Rx λi j=>.int (i * j)):=YT λ_ _ _ _ _ _ _ hc q=>mul_int q hc.ok
theorem VA:n5 X (binaryOp .Mod) (rI (λ_ j=>0<j) λi j=>.int (i % j)):=YT λi j _ _ _ _ _ hc q=>by
 have h1:(0:Int)<j:=hc;exact mod_int' (by lia) (by rw[Int.fmod_eq_emod_of_nonneg i (by lia)];exact q)
theorem Uv:n5 X (binaryOp .Pow) (rI ZX λi j=>.int (i ^ j.toNat)):=YT λ_ _ _ _ _ _ _ hc q=>pow_int_small hc.1 hc.2.1 hc.2.2 q
theorem unI{f:af->Sem af}{g:Int->Int}
  (rule:∀(i:Int) (t:Tok) (s:aA) (Q:af->aA->Prop) (E:af->aA->Prop),Q (.int (g i) s.toks) { s with toks:=s.toks+1 }->wpAny (model X.prog X.w) X.A (f (.int i t)) Q E s) :
  Y6 X f (rU λi=>.int (g i)):=by
 intro pins s σ H x v Q I rx h;obtain⟨i,rfl,q⟩:=h;obtain⟨t,rfl⟩:=rx;exact rule i t s _ _ ⟨.int (g i),H,I.tok _,⟨_,rfl⟩,q⟩
theorem V3:Y6 X (unaryOp .USub) (rU λi=>.int (-i)):=unI λ_ _ _ _ _ q=>neg_int q
end
section
variable {X:Cx}{a b c:aC}{ta tb tc:TE}{pos:Pos}
theorem YI:n5 X (compareOp .Lt) (Tf λi j=>.bl (decide (i<j))):=QO λ_ _ _ _ _ _ _ q=>lt_int q
theorem XG:n5 X (compareOp .LtE) (Tf λi j=>.bl (decide (i<=j))):=QO λ_ _ _ _ _ _ _ q=>le_int q
theorem X9:n5 X (compareOp .Gt) (Tf λi j=>.bl (decide (j<i))):=QO λ_ _ _ _ _ _ _ q=>gt_int q
theorem WZ:n5 X (compareOp .GtE) (Tf λi j=>.bl (decide (j<=i))):=QO λ_ _ _ _ _ _ _ q=>ge_int q
theorem M4(b:aC)(h:op≠.In:=by decide)(h2:op≠.NotIn:=by decide):behindInMarks op b=false:=by
 have e1:(op == CmpOp.In)=false:=by cases op<;>first|rfl|exact absurd rfl h
 have e2:(op == CmpOp.NotIn)=false:=by cases op<;>first|rfl|exact absurd rfl h2
 cases b<;>simp[behindInMarks,e1,e2]
theorem Qc{op:CmpOp}{r:R2}(ho:n5 X (compareOp op) r)(ha:PE X a ta)(hb:PE X b tb)(hm:behindInMarks op b=false):PE X (.Compare a [op] [b] pos) (Yb r ta tb):=by
 intro pins s σ H Q I h;exact wpAny_Compare1 (Vo ha hb I h λv u s2 x y H2 I2 rx ry q=>ho pins s2 σ H2 x y v u Q I2 rx ry q) hm
noncomputable def Xm (t:TE):TT:=λσ H Q=>t σ H λx H'=>∃k,x=.bl k/\Q k H'
theorem Qo{op:CmpOp}{r:R2}(ho:n5 X (compareOp op) r)(ha:PE X a ta)(hb:PE X b tb)(hm:behindInMarks op b=false):PT X (.Compare a [op] [b] pos) (Xm (Yb r ta tb)):=by
 intro pins s σ H Q I h;refine wpAny_isTrue_Compare1 (m9 (ha pins s σ H _ I h) λv s1 ⟨x,H1,I1,r1,q1⟩=>m9 (hb pins s1 σ H1 _ I1 q1) λu s2 ⟨y,H2,I2,r2,q2⟩=>
  m9 (ho pins s2 σ H2 x y v u _ I2 r1 r2 q2) λc s3 ⟨z,H3,I3,r3,k,e,q3⟩=>?_) hm
 subst e
 cases r3
 exact dI ⟨H3,I3,q3⟩
noncomputable def Lz (r r':R2)(ta tb tc:TE):TE:=λσ H Q=>ta σ H λx H1=>tb σ H1 λy H2=>r x y H2 λz H3=>∃k,z=.bl k /\
 (if k=true then tc σ H3 λw' H4=>r' y w' H4 Q else Q (.bl false) H3)
theorem Oq{r r':R2}(ho:n5 X (compareOp op) r)(ho':n5 X (compareOp op') r')(ha:PE X a ta)(hb:PE X b tb)(hc:PE X c tc)
  (hm:lastMarks [op,op'] [b,c]=false:=by with_unfolding_all rfl):PE X (.Compare a [op,op'] [b,c] pos) (Lz r r' ta tb tc):=by
 intro pins s σ H Q I h;refine Compare_chain (m9 (ha pins s σ H _ I h) λv s1 ⟨x,H1,I1,r1,q1⟩=>chain_link (m9 (hb pins s1 σ H1 _ I1 q1) λu s2 ⟨y,H2,I2,r2,q2⟩=>
  m9 (ho pins s2 σ H2 x y v u _ I2 r1 r2 q2) λd s3 ⟨z,H3,I3,r3,k,e,q3⟩=>?_)) hm
 subst e
 cases r3
 refine dI ?_
 cases k with
 | false=>exact ite_ff ⟨.bl false,H3,I3,rfl,q3⟩
 | true=>exact ite_tt (chain_last (m9 (hc pins s3 σ H3 _ I3 q3) λw' s4 ⟨z',H4,I4,r4,q4⟩=>ho' pins s4 σ H4 y z' u w' Q I4 r2 r4 q4))
noncomputable def Ut (K:au)(x:V)(H:Hp)(k:Bool):Prop:=
 match x with
 | .non=>k=false
 | .bl b=>k=b
 | .int i=>k=(i != 0)
 | .str y=>y.length<=sizeLine/\k=((y.length:Int) != 0)
 | .byt y=>y.size<=sizeLine/\k=((y.size:Int) != 0)
 | .ref p=>(∃xs,oX K H p xs/\k=!xs.isEmpty)\/(∃xs,mD K H p xs/\k=!xs.isEmpty)\/∃kvs,H p=some (.dK kvs)/\k=!kvs.isEmpty
 | _=>False
theorem Gr{κ:Type}{kvs:List (κ×V)}{vs:List (κ×af)}(r:KV kvs vs):(!vs.isEmpty)=!kvs.isEmpty:=by
 cases r<;>rfl
theorem ze{xs:List V}{its:List af}(r:Vals xs its):(!its.toArray.isEmpty)=!xs.isEmpty:=by
 cases r<;>simp
theorem wM:(sizeLine:Nat)<2 ^ 63:=by rw[dY];decide
theorem Vk:aaa X (λx H Q=>∃k,Ut X.K x H k/\Q k H):=by
 intro pins s σ H x v Q I rx h;obtain⟨k,e,q⟩:=h;have hl:=wM;have hs:sizeLine=16777216:=dY
 cases x with
 | non=>
  cases rx
  have e':k=false:=e;subst e';exact truthy_none ⟨H,I,q⟩
 | bl b=>
  cases rx
  have e':k=b:=e;subst e';exact dI ⟨H,I,q⟩
 | int i=>
  obtain⟨t,rfl⟩:=rx;have e':k=(i != 0):=e;subst e';exact PySem.P.truthy_int ⟨H,I,q⟩
 | str y=>
  obtain⟨t,rfl⟩:=rx;obtain⟨hy,e'⟩:y.length<=sizeLine/\k=((y.length:Int) != 0):=e;subst e';exact PySem.P.truthy_str (by lia) ⟨H,I.tok _,q⟩
 | byt y=>
  obtain⟨t,rfl⟩:=rx;obtain⟨hy,e'⟩:y.size<=sizeLine/\k=((y.size:Int) != 0):=e;subst e';exact PySem.W.truthy_bytes (by lia) ⟨H,I.tok _,q⟩
 | ref p=>
  cases rx
  have e':(∃xs,oX X.K H p xs/\k=!xs.isEmpty)\/(∃xs,mD X.K H p xs/\k=!xs.isEmpty)\/∃kvs,H p=some (.dK kvs)/\k=!kvs.isEmpty:=e
  rcases e' with⟨xs,hx,e'⟩|⟨xs,hx,e'⟩|⟨kvs,hx,e'⟩
  ·subst e';obtain⟨its,r,pl,hz⟩:=I.list hx;have hlen:=r.length;exact wpAny_truthy_list pl.isList (by simp only[a_];lia) ⟨H,I.tok _,by rw[ze r];exact q⟩
  ·subst e';obtain⟨its,r,pl,hz⟩:=I.tuple hx;have hlen:=r.length;exact truthy_tuple pl (by simp only[a_];lia) ⟨H,I.tok _,by rw[ze r];exact q⟩
  ·subst e';obtain⟨hz,hS,vs,r,m⟩:kvs.length<=sizeLine/\(p == sysModules)=false/\∃vs,KV kvs vs/\s.heap.DictOf (j5 X.prog X.w) p vs:=I.hok p _ hx;have hlen:kvs.length=vs.length:=i_ r;exact wpAny_truthy_dict hS m (by lia) ⟨H,I.tok _,by rw[Gr r];exact q⟩
 | _=>exact(show False from e).elim
theorem M5(ha:PE X a ta)(he:∀whole,isTrue a X.env whole=(do let v <- whole;standAt a.pos;holding [v] (truthy v))) :
  PT X a (λσ H Q=>ta σ H λx H'=>∃k,Ut X.K x H' k/\Q k H'):=by
 intro pins s σ H Q I h;exact isTrue_plain (m9 (ha pins s σ H _ I h) λv s1 ⟨x,H1,I1,r1,q1⟩=>Vk pins s1 σ H1 x v Q I1 r1 q1) (he _)
theorem Fv:n5 X (binaryOp .Add) (λx y H Q=>∃i j,x=.str i/\y=.str j/\i.length+j.length<=sizeLine/\Q (.str (i++j)) H):=by
 intro pins s σ H x y v u Q I rx ry h;obtain⟨i,j,rfl,rfl,hz,q⟩:=h;obtain⟨t,rfl⟩:=rx;obtain⟨t',rfl⟩:=ry;exact add_str (λt' tk=>⟨.str (i++j),H,I.tok _,⟨_,rfl⟩,q⟩) hz
theorem vals1{x:V}(r:Vals [x] us):∃u,us=[u]/\RelV x u:=by
 cases r with
 | cons r1 r2=>cases r2;exact⟨_,rfl,r1⟩
theorem vals2{x:V}(r:Vals [x,y] us):∃u w',us=[u,w']/\RelV x u/\RelV y w':=by
 cases r with
 | cons r1 r2=>
  cases r2 with
  | cons r3 r4=>cases r4;exact⟨_,_,rfl,r1,r3⟩
theorem Lc:kh X (.builtin "abs") (λxs H Q=>∃i,xs=[.int i]/\Q (.int (if i<0 then -i else i)) H):=by
 intro pins s σ H xs us Q I r h;obtain⟨i,rfl,q⟩:=h;obtain⟨u,rfl,t,rfl⟩:=vals1 r;exact call_abs_int λu tk=>⟨.int (if i<0 then -i else i),H,I.tok _,⟨_,rfl⟩,q⟩
noncomputable def Z2 (K:au)(x:V)(H:Hp)(n:Nat):Prop:=
 match x with
 | .str y=>y.length<=sizeLine/\n=y.length
 | .byt y=>y.size<=sizeLine/\n=y.size
 | .ref p=>(∃xs,oX K H p xs/\n=xs.length)\/∃xs,mD K H p xs/\n=xs.length
 | _=>False
theorem LN:kh X (.builtin "len") (λxs H Q=>∃x n,xs=[x]/\Z2 X.K x H n/\Q (.int n) H):=by
 intro pins s σ H xs us Q I r h;obtain⟨x,n,rfl,e,q⟩:=h;obtain⟨u,rfl,rx⟩:=vals1 r;have hl:=wM;have hs:sizeLine=16777216:=dY
 cases x with
 | str y=>
  obtain⟨t,rfl⟩:=rx;obtain⟨hy,e'⟩:y.length<=sizeLine/\n=y.length:=e;subst e';exact len_str (by lia) ⟨.int _,H,I.tok _,⟨_,rfl⟩,q⟩
 | byt y=>
  obtain⟨t,rfl⟩:=rx;obtain⟨hy,e'⟩:y.size<=sizeLine/\n=y.size:=e;subst e';exact PySem.W.len_bytes (by lia) ⟨.int _,H,I.tok _,⟨_,rfl⟩,q⟩
 | ref p=>
  cases rx
  have e':(∃xs,oX X.K H p xs/\n=xs.length)\/∃xs,mD X.K H p xs/\n=xs.length:=e
  rcases e' with⟨xs,hx,e'⟩|⟨xs,hx,e'⟩
  ·subst e';obtain⟨its,r',pl,hz⟩:=I.list hx;have hlen:=r'.length;exact Calls.call_len_list pl.isList (by simp only[a_];lia) ⟨.int xs.length,H,I.tok _,⟨_,by simp only[a_];rw[hlen]⟩,q⟩
  ·subst e';obtain⟨its,r',pl,hz⟩:=I.tuple hx;have hlen:=r'.length;exact len_tuple pl (by simp only[a_];lia) ⟨.int xs.length,H,I.tok _,⟨_,by simp only[a_];rw[hlen]⟩,q⟩
 | _=>exact(show False from e).elim
end
structure ObjM (h:aq)(x dx C:ak)(mA:Str->Option af):Prop where
 obj:h.get? x=some (PySem.W.instObj C dx)
 ns:h.Ns1 dx mA
 ne:dx≠x
theorem KZ{h:aq}{mA:Str->Option af}(n:h.Ns1 dx mA):∃od,h.get? dx=some od/\∀name,PySem.W.lookIn name od=some (mA name):=by
 obtain⟨o,es,ep,ho,hd,hk,_,hm⟩:=n;refine⟨o,ho,λname=>?_⟩;have e:=hm name;unfold nsFind findBy at e;rw[<- Array.find?_toList]at e;unfold PySem.W.lookIn;rw[hd];dsimp only;split
 ·rename_i y q;rw[q]at e;exact dg some e
 ·rename_i q;rw[q]at e;have a:es.toList.any (·.refKey)=false:=by
   rw[List.any_eq_false];intro y hy;obtain⟨z,t,hkey⟩:=hk y (Array.mem_toList_iff.mp hy);simp[DictEntry.refKey,hkey]
  have a':¬es.toList.any (·.refKey)=true:=by rw[a];exact bF
  rw[aJ a'];exact dg some e
theorem ObjM.look{x:ak}{mA:Str->Option af}(I:ObjM h x dx C mA):∃od,PySem.W.InstAt h x (PySem.W.instObj C dx) C (some od)/\∀name,PySem.W.lookIn name od=some (mA name):=
 let⟨od,ho,hl⟩:=KZ I.ns
 ⟨od,⟨I.obj,rfl,rfl,ho⟩,hl⟩
theorem v8.some_of{v:V}(r:v8 (some v) o):∃u,o=some u/\RelV v u:=by
 cases o with
 | none=>exact(show False from r).elim
 | some u=>exact⟨u,rfl,r⟩
section
variable {P:aj}{w:ah}{H:Hp}{h:aq}{a C dx:ak}{fs:List (Str×V)}
theorem Ra(hok:uW P w H h)(e:H a=some (.ins C dx fs)):∃mA,ObjM h a dx C mA/\(∀f,v8 (fs.lookup f) (mA f))/\PySem.Within mA (fs.map (·.1))/\fs.length<=1000/\H dx=some (.own a):=by
 obtain⟨d,z,ne,ob,mA,n,r,q⟩:=(show kK P w H h a (.ins C dx fs)from hok a _ e);exact⟨mA,⟨ob,n,ne⟩,r,q,z,d⟩
end
structure Cls (K:au)(C:ak):Prop where
 pg:PySem.W.plainGet K C Str.empty=true
 hd:PySem.W.hasDictIn K C=true
 po:PySem.W.plainOver K C=true
 sa:PySem.W.findIn K (.ref C) "__setattr__" = some (some (.builtin "object.__setattr__"))
theorem Cls.get{K:au}(c:Cls K C)(f:Str):PySem.W.plainGet K C f=true:=c.pg
structure Con (K:au)(C:ak)(f:Str)(v:V)(u:af):Prop where
 at_:PySem.W.findIn K (.ref C) f=some (some u)
 rel:RelV v u
 get:PySem.W.specialIn K u "__get__" = some none
 cp:PySem.W.copiedNames.contains f=false
structure Meth (K:au)(C:ak)(m:Str)(f:ak):Prop where
 at_:PySem.W.findIn K (.ref C) m=some (some (.ref f))
 fn:PySem.W.isFn K (.ref f)=true
 kp:PySem.W.keepIn K (.ref f)=true
section
variable {X:Cx}{pins:List (ak×Obj)}{σ:St}{H:Hp}{s:aA}{A:az}{E:af->aA->Prop}{Q:af->aA->Prop}{c:af}{b:Bool}
inductive TyOf (K:au) (H:Hp):V->af->Prop where
 | non:TyOf K H .non (.type "NoneType")
 | bl (x:Bool):TyOf K H (.bl x) (.type "bool")
 | int (i:Int):TyOf K H (.int i) (.type "int")
 | str (x:Str):TyOf K H (.str x) (.type "str")
 | flt (x:UInt64):TyOf K H (.flt x) (.type "float")
 | lst {a:ak} {xs:List V} (e:H a=some (.lst xs)):TyOf K H (.ref a) (.type "list")
 | frz {a:ak} {o:Obj} {xs:List V} (e:H a=some (.frz o (.lst xs))):TyOf K H (.ref a) (.type "list")
 | tup {a:ak} {xs:List V} (e:H a=some (.tup xs)):TyOf K H (.ref a) (.type "tuple")
 | dK {a:ak} {kvs:List (Key×V)} (e:H a=some (.dK kvs)):TyOf K H (.ref a) (.type "dict")
 | dT {a:ak} {kvs:List (List Key×V)} (e:H a=some (.dT kvs)):TyOf K H (.ref a) (.type "dict")
 | ins {a C dx:ak} {fs:List (Str×V)} (e:H a=some (.ins C dx fs)) (cl:Cls K C) (ha:PySem.W.findIn K (.ref C) "__class__" = some (some (.builtin "object.__class__")))
   (hn:PySem.W.specialIn K (.builtin "object.__class__") "__get__" = some (some (.builtin "getset_descriptor.__get__"))) (htk:PySem.W.takesIn K (.builtin "object.__class__")=some true)
   (hm:PySem.W.mroIn K C (.type "object")=some true):TyOf K H (.ref a) (.ref C)
theorem Ku{x:V}{t:af}(I:Inv X pins σ H s)(rx:RelV x u)(ty:TyOf X.K H x t)(e:PySem.W.kitOne X.K t c=some b)(h:∀tk,Q (.bool b) { s with toks:=tk }) :
  wpAny (model X.prog X.w) A (call (.builtin "isinstance") [u,c]) Q E s:=by
 cases ty with
 | non=>cases(show u=Value.none from rx);exact cM PySem.W.kitx_none I.Dd True.intro e (λz=>nomatch z) h
 | bl y=>cases(show u=Value.bool y from rx);exact cM PySem.W.kitx_bool I.Dd True.intro e (λz=>nomatch z) h
 | int i=>obtain⟨t,q⟩:=(show ∃t,u=Value.int i t from rx);cases q;exact cM PySem.W.kitx_int I.Dd True.intro e (λz=>nomatch z) h
 | str y=>obtain⟨t,q⟩:=(show ∃t,u=Value.str y t from rx);cases q;exact cM PySem.W.kitx_str I.Dd True.intro e (λz=>nomatch z) h
 | flt y=>obtain⟨t,q⟩:=(show ∃t,u=Value.float y t from rx);cases q;exact cM PySem.W.kitx_float I.Dd True.intro e (λz=>nomatch z) h
 | @lst a xs ea=>
  cases(show u=Value.ref a from rx)
  obtain⟨_,_,n,_,h1⟩:=(show kK X.prog X.w H s.heap a (.lst xs)from I.hok a _ ea);exact cM PySem.W.kitx_list I.Dd ⟨_,h1,rfl⟩ e (λz=>nomatch z) h
 | @frz a ob xs ea=>
  cases(show u=Value.ref a from rx)
  obtain⟨_,_,_,n,_,h1⟩:=(show kK X.prog X.w H s.heap a (.frz ob (.lst xs))from I.hok a _ ea);exact cM PySem.W.kitx_list I.Dd ⟨_,h1,rfl⟩ e (λz=>nomatch z) h
 | @tup a xs ea=>
  cases(show u=Value.ref a from rx)
  obtain⟨_,_,_,p⟩:=(show kK X.prog X.w H s.heap a (.tup xs)from I.hok a _ ea);obtain⟨o,h1,h2,_⟩:=p;exact cM PySem.W.kitx_tuple I.Dd ⟨o,h1,h2⟩ e (λz=>nomatch z) h
 | @dK a kvs ea=>
  cases(show u=Value.ref a from rx)
  obtain⟨_,_,vs,_,p⟩:=(show kK X.prog X.w H s.heap a (.dK kvs)from I.hok a _ ea);obtain⟨o,es,ep,h1,h2,_⟩:=p;exact cM PySem.W.kitx_dict I.Dd ⟨o,h1,h2.1⟩ e (λz=>nomatch z) h
 | @dT a kvs ea=>
  cases(show u=Value.ref a from rx)
  obtain⟨_,_,xs,_,o,es,ep,h1,h2,_⟩:=(show kK X.prog X.w H s.heap a (.dT kvs)from I.hok a _ ea);exact cM PySem.W.kitx_dict I.Dd ⟨o,h1,h2.1⟩ e (λz=>nomatch z) h
 | @ins a C dx fs ea cl ha hn htk hm=>
  cases(show u=Value.ref a from rx)
  obtain⟨mA,O,_⟩:=Ra I.hok ea;obtain⟨od,J,_⟩:=O.look;exact cM (PySem.W.kitx_own (cl.get _) cl.hd ha hn htk hm) I.Dd J e (λz=>nomatch z) h
end
structure Room (k:Nat)(A:az):Prop where
 hd:A.handled=none
 dp:A.depth+3 * k+5<recursionLimit
 un:A.units+16 * k+200<cLine
theorem Room.mono{k:Nat}{A:az}(r:Room k A)(h:j<=k):Room j A:=⟨r.hd,by have:=r.dp;lia,by have:=r.un;lia⟩
theorem Room.deeper{k:Nat}{A:az}(r:Room (k+1) A)(env:Env):Room k (A.deeper env):=
 ⟨r.hd,by have:=r.dp;show A.depth+1+3 * k+5<_;lia,by have:=r.un;show A.units+3+16 * k+200<_;lia⟩
theorem Room.depth{k:Nat}{A:az}(r:Room k A):A.depth<recursionLimit:=by have:=r.dp;lia
theorem Room.units{k:Nat}{A:az}(r:Room k A):A.units+64<cLine:=by have:=r.un;lia
noncomputable def Z7:TA:=λ_ H Q=>Q [] H
noncomputable def W3 (ta:TE)(tr:TA):TA:=λσ H Q=>ta σ H λx H1=>tr σ H1 λxs H2=>Q (x::xs) H2
section
variable {X:Cx}{e:aC}{es:List aC}{te:TE}{t:TA}{pos:Pos}
theorem zP:PA X [] Z7:=λ_ _ _ _ H Q I h=>Calls.spliced_nil ⟨[],H,I,.nil,h⟩
theorem ue(ha:PE X e te)(hr:PA X es t)(hs:starEach (e::es) X.env=(false,eval e X.env)::starEach es X.env:=by rfl):PA X (e::es) (W3 te t):=by
 intro pos pins s σ H Q I h;rw[hs];show wpAny _ _ (spliced ((false,eval e X.env)::backTo pos (starEach es X.env))) _ _ s;refine Calls.spliced_cons (m9 (ha pins s σ H _ I h) λu s1 ⟨x,H1,I1,r1,q1⟩=>?_);exact m9 (hr pos pins s1 σ H1 _ I1 q1) λus s2 ⟨xs,H2,I2,r2,q2⟩=>⟨x::xs,H2,I2,.cons r1 r2,q2⟩
noncomputable def Z3 (t:TA):TE:=λσ H Q=>t σ H λxs H1=>xs.length<=sizeLine/\∀p,H1 p=none->Q (.ref p) (upd H1 p (.tup xs))
noncomputable def aao (t:TA):TE:=λσ H Q=>t σ H λxs H1=>xs.length<=sizeLine/\∀p,H1 p=none->Q (.ref p) (upd H1 p (.lst xs))
theorem WA{x1}(h:PA X es t):PE X (.Tuple es x1 pos) (Z3 t):=by
 intro pins s σ H Q I hq;refine wpAny_Tuple_spliced (m9 (h pos pins s σ H _ I hq) λus s1 ⟨xs,H1,I1,r,z,q⟩=>⟨by rw[<- r.length];exact z,?_⟩);have hf:H1 s1.heap.objs.size=none:=I1.hok.fresh (aO _);refine⟨.ref s1.heap.objs.size,upd H1 s1.heap.objs.size (.tup xs),I1.laid (t':=s1.toks) (λb u e=>aQ _ e) (aO _) ?_,rfl,q _ hf⟩;exact⟨z,us,r,⟨_,bA _ rfl,rfl,rfl,_,rfl⟩⟩
theorem U9(h:PA X es t):PE X (.List es pos) (aao t):=by
 intro pins s σ H Q I hq;refine wpAny_List_spliced (m9 (h pos pins s σ H _ I hq) λus s1 ⟨xs,H1,I1,r,z,q⟩=>⟨by rw[<- r.length];exact z,?_⟩);have hf:H1 s1.heap.objs.size=none:=I1.hok.fresh (aO _);refine⟨.ref s1.heap.objs.size,upd H1 s1.heap.objs.size (.lst xs),I1.laid (t':=s1.toks) (λb u e=>aQ _ e) (aO _) ?_,rfl,q _ hf⟩;exact⟨z,us,0,r,bA _ rfl⟩
end
noncomputable abbrev Sp:=List V->Hp->VK->XK->Prop
noncomputable abbrev Px:=List Env->Hp->aA->XK->af->aA->Prop
structure Env0 (P:aj)(w:ah)(K:au)(mg:Str->Option af)(base:aq)(A:az)(outer:List Env)(s:aA)(H:Hp):Prop where
 frames:A.frames=some outer
 mod:Mod K mg base
 bs:∀b o,base.get? b=some o->s.heap.get? b=some o/\H b=none
 bsz:base.objs.size<=s.heap.objs.size
 yI:s.heap.FunFrames base outer
 frf:∀b∈frs outer,H b=none
 hok:uW P w H s.heap
 bare:AllBare s.gens
noncomputable def CE (outer:List Env)(P:aj)(w:ah)(H:Hp)(s:aA)(Q:VK)(u:af)(s':aA):Prop:=
 ∃v H',s'.os=s.os/\AllBare s'.gens/\Un (frs outer) [] H H' s.heap s'.heap/\uW P w H' s'.heap/\RelV v u/\Q v H'
noncomputable def CR (CX:Px)(outer:List Env)(P:aj)(w:ah)(H:Hp)(s:aA)(Q:VK)(E:XK)(r:Result)(s':aA):Prop:=
 match r with
 | .ok (.ret u)=>CE outer P w H s Q u s'
 | .ok _=>False
 | .error e=>CX outer H s E e s'
structure FnOk (P:aj)(w:ah)(K:au)(mg:Str->Option af)(base:aq)(CX:Px)(k:Nat)(f:ak)(fd:FuncData)(ps:List Str)(sp:Sp):Prop where
 len:∀vs H Q E,sp vs H Q E->vs.length=ps.length
 run:∀(A:az) (outer:List Env) (s:aA) (H:Hp) (args:Args) (us:List af) (vs:List V) (Q:VK) (E:XK),Room k A->Env0 P w K mg base A outer s H->BindsTo s fd args (ps.zip us)->Vals vs us->sp vs H Q E ->
  codeAny (model P w) A (.call (.ref f) args) (CR CX outer P w H s Q E) s
section
variable {X:Cx}{pins:List (ak×Obj)}{σ:St}{H:Hp}{s s':aA}
theorem Inv.aak(I:Inv X pins σ H s):Env0 X.prog X.w X.K X.mg X.base X.A X.stack s H:=
 ⟨I.ok.frames,I.ok.mod,I.bs,bH I.ok.bsz I.sz,I.stack,I.IS,I.hok,I.bare⟩
theorem Inv.after{Q:VK}(I:Inv X pins σ H s)(h:CE X.stack X.prog X.w H s Q u s'):EP X pins σ Q u s':=by
 obtain⟨v,H',os,bare,un,hok,r,q⟩:=h;obtain⟨hh,g,d,t,os'⟩:=s';obtain rfl:os'=s.os:=os;exact⟨v,H',I.call (h':=hh) (g':=g) (d':=d) (t':=t) (ch:=[]) un hok bare (λb z=>absurd z (by simp)),r,q⟩
end
noncomputable def S_ (sp:Sp)(dvs:List V)(E:XK)(t:TA):TE:=λσ H Q=>t σ H λvs H1=>sp (vs++dvs) H1 Q E
noncomputable def Binds (K:au)(fd:FuncData)(ps:List Str)(ds:List af):Prop:=
 ∀(s:aA) (us:List af),K.In s.heap->(us++ds).length=ps.length->BindsTo s fd ⟨us,[]⟩ (ps.zip (us++ds))
theorem Binds.all{K:au}{ps:List Str}(h:∀us:List af,us.length=ps.length->bindArgs fd ⟨us,[]⟩=pure (ps.zip us)):Binds K fd ps []:=λs us _ hl=>by
 rw[ck]at hl ⊢;exact .of_eq (h us hl)
noncomputable def Passes (CX:Px)(X:Cx)(E:XK):Prop:=∀(pins:List (ak×Obj)) (σ:St) (H:Hp) (s:aA) (e:af) (s':aA),Inv X pins σ H s->CX X.stack H s E e s'->X.xe e s'
section
variable {X:Cx}{CX:Px}{k:Nat}{f C:ak}{fd:FuncData}{ps:List Str}{sp:Sp}{dvs:List V}{ds:List af}{E:XK}{x:Str}{p pos:Pos}{e:aC}{es:List aC}{t:TA}
theorem Vg{H:Hp}{Q:VK}(F:FnOk X.prog X.w X.K X.mg X.base CX k f fd ps sp)(hr:Room k X.A)(hb:Binds X.K fd ps ds)(hd:Vals dvs ds)(hx:Passes CX X E)
  (I:Inv X pins σ H s) (r:Vals vs us) (h:sp (vs++dvs) H Q E):wpAny (model X.prog X.w) X.A (call (.ref f) us) (EP X pins σ Q) X.xe s:=by
 have r2:Vals (vs++dvs) (us++ds):=r.append hd;have hl:(us++ds).length=ps.length:=by rw[<- r2.length];exact F.len _ _ _ _ h
 refine wpAny_call (iL (F.run X.A X.stack s H ⟨us,[]⟩ (us++ds) (vs++dvs) Q E hr I.aak (hb s us I.Dd hl) r2 h) λr s' hq=>?_)
 cases r with
 | error e=>exact hx pins σ H s e s' I hq
 | ok fl=>
  cases fl with
  | ret u=>exact I.after hq
  | next=>exact False.elim hq
  | brk=>exact False.elim hq
  | cont=>exact False.elim hq
theorem Qz(F:FnOk X.prog X.w X.K X.mg X.base CX k f fd ps sp)(hr:Room k X.A)(hg:Gl X x)(hm:X.mg x=some (.ref f))(hk:PySem.W.keepIn X.K (.ref f)=true)(hb:Binds X.K fd ps ds)(hd:Vals dvs ds)(hx:Passes CX X E)
  (ha:PA X (e::es) t) (hdb:(x == ("__debug__" : Str))=false:=by decide) (he:starEach (e::es) X.env=(false,eval e X.env)::starEach es X.env:=by rfl) (hpl:(backTo pos (starEach es X.env)).any (·.1)=false:=by rfl) :
  PE X (.Call (.Name x p) (e::es) [] pos) (S_ sp dvs E t):=by
 intro pins s σ H Q I h;refine iP (HK I hg hm ?_ hdb);refine PySem.W.callWith_K (h₀:=X.base) I.ok.mod.kin hk (m9 (ha pos pins s σ H _ I h) λus s1 ⟨vs,H1,I1,r,q⟩=>⟨I1.Dd,?_⟩) he hpl;exact Vg F hr hb hd hx I1 r q
structure Mk (K:au)(C f:ak):Prop where
 makes:PySem.W.makesIn K C=true
 init:PySem.W.findIn K (.ref C) "__init__" = some (some (.ref f))
 fn:PySem.W.isFn K (.ref f)=true
 kp:PySem.W.keepIn K (.ref C)=true
end
section
variable {fd:FuncData}{ps ks:List Str}
structure KBinds (K:au)(fd:FuncData)(ps ks:List Str)(g:List af->List af->List af)(gV:List V->List V->List V):Prop where
 to:∀(s:aA) (us ws:List af),K.In s.heap->(g us ws).length=ps.length->BindsTo s fd ⟨us,ks.zip ws⟩ (ps.zip (g us ws))
 rel:∀{vs:List V} {us:List af} {zs:List V} {ws:List af},Vals vs us->Vals zs ws->Vals (gV vs zs) (g us ws)
end
structure FnScope (N P:List Str)(sc:Scope):Prop where
 kind:sc.kind=.function
 co:sc.isCoroutine=false
 gen:sc.isGenerator=false
 nd:N.Nodup
 pre:N.take P.length=P
 par:∀x∈P,sc.names.lookup x=some .local\/sc.names.lookup x=some .cell
 nofree:∀y∈sc.names,y.2≠.free
theorem Ao{kindOf:Str->Option NameKind}{x:Str}:∀{binds:List (Str×af)}{m:Str->Option af},(∀v,(x,v)∉binds)->bindL kindOf binds m x=m x
 | [],_,_=>rfl
 | (n,v)::r,m,h=>by
  unfold bindL;rw[Ao λw hw=>h w (aI _ hw)];split
  ·have:x≠n:=by rintro rfl;exact h v aG
   simp[this]
  ·rfl
theorem Bg{kindOf:Str->Option NameKind}{x:Str}:∀{binds:List (Str×af)}{m:Str->Option af},(∀v,(x,v)∉binds)->bindC kindOf binds m x=m x
 | [],_,_=>rfl
 | (n,v)::r,m,h=>by
  unfold bindC;rw[Bg λw hw=>h w (aI _ hw)];split
  ·rfl
  ·have:x≠n:=by rintro rfl;exact h v aG
   simp[this]
theorem AQ{kindOf:Str->Option NameKind}{x:Str}{v:af}:∀{P:List Str}{vs:List af}{i:Nat}{m:Str->Option af},P.Nodup->P[i]?=some x->vs[i]?=some v->kindOf x=some .local ->
  bindL kindOf (P.zip vs) m x=some v
 | [],_,_,_,_,h,_,_=>by simp at h
 | _::_,[],_,_,_,_,h,_=>by simp at h
 | p::P,w::vs,0,m,nd,h1,h2,hk=>by
  simp at h1 h2;subst h1;subst h2;show bindL kindOf ((p,w)::P.zip vs) m p=_;unfold bindL;rw[Ao λv hv=>(cG.mp nd).1 (jh hv).1,aM hk];simp
 | p::P,w::vs,i+1,m,nd,h1,h2,hk=>by
  show bindL kindOf ((p,w)::P.zip vs) m x=_;unfold bindL;exact AQ (i:=i) (cG.mp nd).2 (by simpa using h1) (by simpa using h2) hk
theorem A0{kindOf:Str->Option NameKind}{x:Str}{v:af}:∀{P:List Str}{vs:List af}{i:Nat}{m:Str->Option af},P.Nodup->P[i]?=some x->vs[i]?=some v->kindOf x≠some .local ->
  bindC kindOf (P.zip vs) m x=some v
 | [],_,_,_,_,h,_,_=>by simp at h
 | _::_,[],_,_,_,_,h,_=>by simp at h
 | p::P,w::vs,0,m,nd,h1,h2,hk=>by
  simp at h1 h2;subst h1;subst h2;show bindC kindOf ((p,w)::P.zip vs) m p=_;unfold bindC;rw[Bg λv hv=>(cG.mp nd).1 (jh hv).1,aJ hk];simp
 | p::P,w::vs,i+1,m,nd,h1,h2,hk=>by
  show bindC kindOf ((p,w)::P.zip vs) m x=_;unfold bindC;exact A0 (i:=i) (cG.mp nd).2 (by simpa using h1) (by simpa using h2) hk
noncomputable def start (N:List Str)(vs:List V):St:=vs.map some++List.replicate (N.length-vs.length) none
noncomputable def Fe (CX:Px)(P:aj)(w:ah)(K:au)(mg:Str->Option af)(base:aq)(N:List Str)(qual:Str)(scope:Scope)(f:ak)(cd:af)(A:az)(outer:List Env)(s:aA)(H:Hp)(E:XK):Cx where
 prog:=P
 w:=w
 K:=K
 mg:=mg
 base:=base
 A:=A.deeper (envOfC qual scope s.heap.objs.size f cd)
 N:=N
 s₀:=s
 H₀:=H
 env:=envOfC qual scope s.heap.objs.size f cd
 outer:=outer
 stack:=envOfC qual scope s.heap.objs.size f cd::outer
 ex:=[]
 calm:=true
 fn:=λ_=>true
 pn:=[]
 xe:=λe s'=>wpAny (model P w) (A.deeper (envOfC qual scope s.heap.objs.size f cd)) (leaving (envOfC qual scope s.heap.objs.size f cd) e) (λ_ s''=>CX outer H s E e s'') (λe' s''=>CX outer H s E e' s'') s'
theorem DF{sc:Scope}{n:Nat}{x:Str}(h:sc.names.lookup x=some .cell):∃c,(cellsFrom n sc.names []).lookup x=some c:=by
 have q:=PySem.W.cellsFrom_some sc.names n [] (.inl h);exact eY.mp q
theorem Kw{CX:Px}{P:aj}{w:ah}{K:au}{mg:Str->Option af}{base:aq}{N ps:List Str}{scope:Scope}{f:ak}{A:az}{outer:List Env}{s:aA}{H:Hp}{E:XK}{vs:List V}
  (S:FnScope N ps scope) (hd:A.handled=none) (e0:Env0 P w K mg base A outer s H) (hl:vs.length=ps.length) (r:Vals vs us)
  (x:InCallC s s.heap.objs.size (bindL (envOfC qual scope s.heap.objs.size f cd).kindOf (ps.zip us) λ_=>none) (cellsFrom (s.heap.objs.size+1) scope.names []) (bindC (envOfC qual scope s.heap.objs.size f cd).kindOf (ps.zip us) λ_=>none) s1) :
  Inv (Fe CX P w K mg base N qual scope f cd A outer s H E) [] (start N vs) H s1:=by
 have hpl:ps.length<=N.length:=by have:=dg List.length S.pre;rw[b8]at this;lia
 obtain⟨h1,tk,rfl,hk⟩:=x.done;have noA:∀b:ak,b∉(Fe CX P w K mg base N qual scope f cd A outer s H E).ex:=λb z=>absurd (show b∈([]:List ak)from z) (by simp);refine⟨⟨e0.mod,S.kind,rfl,rfl,aO _,λy z c h1 h2=>?_,λy hy=>?_,λy c _ h=>?_,λ_=>hd,Around.frames_deeper e0.frames,.inr ⟨rfl,rfl⟩,λb z=>absurd z (noA b),e0.bs,e0.bsz,λb _ _=>noA b,λb z=>absurd z (noA b),e0.yI,e0.frf⟩,
  rfl,e0.bare,Un.kept hk,⟨_,x.toInCall.ns,λi y v h1 h2 h3=>?_⟩,λy c h=>⟨_,x.cell y c h⟩,e0.hok.fresh (aO _),λy c h=>?_,λp hp=>absurd (show p∈([]:List (ak×Obj))from hp) (by simp),e0.hok.kept hk,?_⟩
 ·exact name_of_addr x.apart (fm h1) (fm h2)
 ·have hy:scope.names.lookup y=some .cell\/scope.names.lookup y=some .free:=hy
  rcases hy with hy|hy
  ·exact DF hy
  ·exact absurd rfl (S.nofree _ (fm hy))
 ·exact jf (x.above y c (fm h))
 ·have hi:i<vs.length:=by
   unfold start at h2;by_cases hi:i<vs.length
   ·exact hi
   ·rw[fS (by simpa using hi)]at h2;rw[List.getElem?_replicate]at h2;split at h2<;>cases h2
  have ha:vs[i]?=some v:=by
   unfold start at h2;rw[bG (by simpa using hi),aP]at h2
   cases e:vs[i]? with
   | none=>rw[e]at h2;cases h2
   | some a=>rw[e]at h2;cases h2;rfl
  obtain⟨u,hu,rv⟩:=r.get ha;have hp:ps[i]?=some y:=by
   rw[<- S.pre,gg (by lia)];exact h1
  have ndP:ps.Nodup:=by rw[<- S.pre];exact S.nd.sublist (List.take_sublist _ _)
  refine⟨u,rv,?_⟩
  rcases S.par y (aX hp)with k|k
  ·exact .inl ⟨k,AQ ndP hp hu k⟩
  ·obtain⟨c,e⟩:=DF (n:=s.heap.objs.size+1) k;refine .inr ⟨.inl k,c,e,?_⟩;have q:=x.cell y c e;rw[A0 ndP hp hu (by show scope.names.lookup y≠_;rw[k];decide)]at q;exact q
 ·exact e0.hok.fresh (jf (x.above y c (fm h)))
 ·unfold start;show _=N.length;rw[aR,aK,List.length_replicate];lia
theorem Yy{CX:Px}{P:aj}{w:ah}{K:au}{mg:Str->Option af}{base:aq}{k:Nat}{f:ak}{kV pm ct:af}
  {osl:Array (Option af)} {N ps:List Str} {sp:Sp} (lk:K.lookup f=some ⟨oc,od,.func (PySem.W.fnOf name qual params body scope dV kV doc pm an cdv ct),osl⟩) (hcd:PySem.W.codeIn K cdv qual=true) (S:FnScope N ps scope)
  (len:∀vs H Q E,sp vs H Q E->vs.length=ps.length)
  (hbody:∀(A:az) (outer:List Env) (s:aA) (H:Hp) (vs:List V) (Q:VK) (E:XK),Room k (A.deeper (envOfC qual scope s.heap.objs.size f cdv))->sp vs H Q E ->
   ∃t,C8 (Fe CX P w K mg base N qual scope f cdv A outer s H E) body t/\t { nx:=λ_ H'=>Q .non H',rt:=Q } (start N vs) H) :
  FnOk P w K mg base CX (k+1) f (PySem.W.fnOf name qual params body scope dV kV doc pm an cdv ct) ps sp:=by
 refine⟨len,λA outer s H args us vs Q E hr e0 hb r hsp=>?_⟩;have hl:=len _ _ _ _ hsp;have KX:K.In s.heap:=e0.mod.kin.keeps λb o e=>(e0.bs b o e).1;have lim:s.heap.NoLimit:=e0.mod.nolimit.keeps λb o e=>(e0.bs b o e).1;have hkind:∀y∈ps.zip us,scope.names.lookup y.1=some .local\/(scope.names.lookup y.1=some .cell/\((cellsFrom (s.heap.objs.size+1) scope.names []).lookup y.1).isSome=true):=λ⟨n,v⟩ hy=>by
  rcases S.par n (jh hy).1 with q|q
  ·exact .inl q
  ·exact .inr ⟨q,PySem.W.cellsFrom_some _ _ _ (.inl q)⟩
 refine codeAny_call_function hr.depth (KX _ _ lk) rfl S.co S.gen rfl (PySem.W.codeRec_of KX hcd) (hb _ _ _ _ ?_);refine wpAny_newFunctionEnv_cells S.kind hkind λenv he s1 x=>?_;subst he;refine⟨lim.keeps x.toInCall.keep,codeAny_func ?_⟩;obtain⟨t,ht,hq⟩:=hbody A outer s H vs Q E (hr.deeper _) hsp;have I:Inv (Fe CX P w K mg base N qual scope f cdv A outer s H E) [] (start N vs) H s1:=Kw S hr.hd e0 hl r x;refine iO (ht [] s1 (start N vs) H _ I hq) (λfl s' hs=>?_) λe s' hs=>hs;have fin:∀{σ':St} {H':Hp} {v:V} {u:af},Inv (Fe CX P w K mg base N qual scope f cdv A outer s H E) [] σ' H' s'->RelV v u->Q v H'->CE outer P w H s Q u s':=
  λ{σ' H' v u} J rv q=>⟨v,H',J.os,J.bare,J.base,J.hok,rv,q⟩
 cases fl with
 | ret u=>
  obtain⟨v,σ',H',J,rv,q⟩:=hs;exact fin J rv q
 | next=>
  obtain⟨σ',H',J,q⟩:=hs;exact fin (v:=V.non) (u:=Value.none) J rfl q
 | brk=>
  obtain⟨_,_,_,q⟩:=hs;exact False.elim q
 | cont=>
  obtain⟨_,_,_,q⟩:=hs;exact False.elim q
section
variable {X:Cx}{x:Str}{p pos:Pos}{e:aC}{es:List aC}{t:TA}{id T:String}{r:List V->Hp->VK->Prop}
noncomputable def Zg (r:List V->Hp->VK->Prop)(t:TA):TE:=λσ H Q=>t σ H λvs H1=>r vs H1 Q
theorem Lm(hc:kh X (.builtin id) r)(hg:Gl X x)(hm:X.mg x=none)(hv:bootBuiltins x=some (.builtin id))(ha:PA X (e::es) t)(hn:x ≠ "__name__" := by decide)(hdb:(x == ("__debug__" : Str))=false:=by decide)
  (he:starEach (e::es) X.env=(false,eval e X.env)::starEach es X.env:=by rfl) (hpl:(backTo pos (starEach es X.env)).any (·.1)=false:=by rfl):PE X (.Call (.Name x p) (e::es) [] pos) (Zg r t):=by
 intro pins s σ H Q I h;refine iP (uH I hg hm hv ?_ hn hdb);exact PyProof.Rows.callWith_builtin1 (m9 (ha pos pins s σ H _ I h) λus s1 ⟨vs,H1,I1,r1,q1⟩=>hc pins s1 σ H1 vs us Q I1 r1 q1) he hpl
theorem JN(hc:kh X (.type T) r)(hg:Gl X x)(hm:X.mg x=none)(hv:bootBuiltins x=some (.type T))(ha:PA X (e::es) t)(hn:x ≠ "__name__" := by decide)(hdb:(x == ("__debug__" : Str))=false:=by decide)
  (he:starEach (e::es) X.env=(false,eval e X.env)::starEach es X.env:=by rfl) (hpl:(backTo pos (starEach es X.env)).any (·.1)=false:=by rfl):PE X (.Call (.Name x p) (e::es) [] pos) (Zg r t):=by
 intro pins s σ H Q I h;refine iP (uH I hg hm hv ?_ hn hdb);exact dj (m9 (ha pos pins s σ H _ I h) λus s1 ⟨vs,H1,I1,r1,q1⟩=>hc pins s1 σ H1 vs us Q I1 r1 q1) he hpl
end
end L2
namespace HT
open PySem PyProof.Rows
noncomputable def lexLt:List Int->List Int->Bool
 | [],[]=>false
 | [],_::_=>true
 | _::_,[]=>false
 | x::xs,y::ys=>if x=y then lexLt xs ys else decide (x<y)
theorem pM(x y:Int)(xs ys:List Int):lexLt (x::xs) (y::ys)=if x=y then lexLt xs ys else decide (x<y):=rfl
theorem nV:lexLt [] []=false:=rfl
theorem l5(y:Int)(ys:List Int):lexLt [] (y::ys)=true:=rfl
theorem nF(x:Int)(xs:List Int):lexLt (x::xs) []=false:=rfl
theorem Ol(A:az)(s:aA)(a:Int)(t:Tok)(c:Int)(u:Tok):∃e,SeqAt.EqAt A s (.int a t) (.int c u) e/\(e=true ↔ a=c):=
 ⟨(a == c),SeqAt.EqAt.int_int a t c u,by simp⟩
theorem Od(A:az)(s:aA)(a:Int)(t:Tok)(c:Int)(u:Tok)(prog:aj)(w:ah)(E:af->aA->Prop)(Q:af->aA->Prop)(h:Q (.bool (decide (a<c))) s) :
  wpAny (model prog w) A (richCompare .Lt (.int a t) (.int c u)) Q E s:=
 (PyProof.Rows.lt_int h:wpAny (model prog w) A (compareOp .Lt (.int a t) (.int c u)) Q E s)
section
open PySem.SeqAt
open PySem.AutoSeq1 (wpAny_loadPart')
open PySem.MeetsSeq PySem.MeetsSeq2 PySem.MeetsSeq3
theorem Ak(l b:ak)(items items2:Array af)(n n2:Nat)(dd dd2:Option ak)(sl sl2:Array (Option af))(ns ms:List Int)(hi:IntsAre items.toList ns)(hj:IntsAre items2.toList ms) :
  Meets (Builtin.«tuple.__lt__» ⟨[.ref l,.ref b],[]⟩)
   (λ_ R s=>s.heap.get? l=some { cls:=.type "tuple",dict:=dd,data:=.seq items n,slots:=sl }/\s.heap.get? b=some { cls:=.type "tuple",dict:=dd2,data:=.seq items2 n2,slots:=sl2 } /\
    R (.ok (.ret (.bool (lexLt ns ms)))) s):=
 .of_wp λprog w A R s h=>by
  obtain⟨hp,g,d,tk,os⟩:=s;obtain⟨hl,hb,h⟩:=h;have f2:=AutoSeq1.sub_tuple_tuple;have z1:items.size=ns.length:=by rw[<- hi.length];simp
  have z2:items2.size=ms.length:=by rw[<- hj.length];simp
  wp_walk using wpAny_loadPart' hl,wpAny_loadPart' hb,wpAny_forIn_list _ (λrest b s'=>b.1=none/\s'=⟨hp,g,d,tk,os⟩/\∃(vs ws:List af) (ns' ms':List Int),rest=vs.zip ws /\
   IntsAre vs ns'/\IntsAre ws ms'/\ns'.length+items2.size=ms'.length+items.size/\R (.ok (.ret (.bool (lexLt ns' ms')))) ⟨hp,g,d,tk,os⟩) _
  case turn=>
   rintro⟨y,x⟩ rest b s' ⟨hb',rfl,vs,ws,ns',ms',hz,hvi,hwi,hlen,hR⟩
   cases hvi with
   | nil=>rw[List.zip_nil_left]at hz;cases hz
   | cons a t hvi'=>
    cases hwi with
    | nil=>rw[List.zip_nil_right]at hz;cases hz
    | cons c u hwi'=>
     rw[iQ]at hz
     injection hz with hyx hrest
     injection hyx with hy hx
     subst hy hx;rw[pM]at hR;simp only[bz]at hlen;obtain⟨e,he,hiff⟩:=Ol A.in1 ⟨hp,g,d,tk,os⟩ a t c u;refine aH (he prog w _ _ ?_)
     cases e with
     | true=>
      rw[aM (hiff.mp rfl)]at hR
      wp_walk
      exact⟨rfl,rfl,_,_,_,_,hrest,hvi',hwi',by lia,hR⟩
     | false=>
      rw[aJ (λq=>absurd (hiff.mpr q) bF)]at hR;have hri:=Od A.in1 ⟨hp,g,d,tk,os⟩ a t c u prog w
      wp_walk using hri
      exact⟨_,rfl,by simpa using hR⟩
  case fin=>
   rintro⟨b1,b2⟩ s' ⟨hb',rfl,vs,ws,ns',ms',hz,hvi,hwi,hlen,hR⟩;simp only at hb';subst hb';have hv:lexLt ns' ms'=decide (items.size<items2.size):=by
    cases hvi with
    | nil=>
     cases hwi with
     | nil=>
      simp only[bX]at hlen;rw[nV];exact(bw (by lia)).symm
     | cons c u hw=>
      simp only[bX,bz]at hlen;rw[l5];exact(bq (by lia)).symm
    | cons a t hv=>
     cases hwi with
     | nil=>
      simp only[bX,bz]at hlen;rw[nF];exact(bw (by lia)).symm
     | cons c u hw=>
      rw[iQ]at hz
      cases hz
   rw[hv]at hR
   wp_walk
   exact⟨_,rfl,by simpa[Builtin.Tuple.tupleCompareSizes]using hR⟩
  case h=>
   exact⟨rfl,rfl,items.toList,items2.toList,ns,ms,rfl,hi,hj,by lia,h⟩
end
section
variable {prog:aj}{w:ah}{A:az}{E:af->aA->Prop}{s:aA}
theorem GH{l:ak}{items items2:Array af}{ns:List Int}{Q:af->aA->Prop}(hl:IsTup s.heap l items)(hb:IsTup s.heap b items2)(hi:IntsAre items.toList ns)(hj:IntsAre items2.toList ms)
  (hu:A.units<cLine) (h:Q (.bool (lexLt ns ms)) s):wpAny (model prog w) A (compareOp .Lt (.ref l) (.ref b)) Q E s:=by
 obtain⟨⟨cls,dd,data,sl⟩,ho,hc,n,hd⟩:=id hl;obtain⟨⟨cls2,dd2,data2,sl2⟩,ho2,hc2,n2,hd2⟩:=id hb;simp only at hc hd hc2 hd2;subst hc hd hc2 hd2;exact richCompare_meets_room (op:=.Lt) ⟨_,ho,rfl⟩ ⟨_,ho2,rfl⟩ PySem.F.slot_tuple_lt PySem.F.entry_tuple_lt (PySem.F.args_tuple_lt_2 _ _) (Ak l b items items2 n n2 dd dd2 sl sl2 ns ms hi hj)
  ⟨ho,ho2,show Value.bool (lexLt ns ms)≠Value.notImplemented/\Q (.bool (lexLt ns ms)) s from⟨(λx=>nomatch x),h⟩⟩ hu
theorem Qn{t:ak}{vs ws:List af}{Q:af->aA->Prop}(ht:IsTup s.heap t vs.toArray)(hb:IsTup s.heap b ws.toArray)(hv:vs≠[])
  (h1:ws=[]->Q (.ref t) s) (h2:ws≠[]->Q (.ref s.heap.objs.size) { s with heap:=s.heap.push { cls:=.type "tuple",data:=.seq (vs++ws).toArray }})
  (hsz:vs.length+ws.length<=sizeLine):wpAny (model prog w) A (binaryOp .Add (.ref t) (.ref b)) Q E s:=by
 obtain⟨⟨cls,dd,data,sl⟩,ho,hc,n,hd⟩:=id ht;obtain⟨⟨cls2,dd2,data2,sl2⟩,ho2,hc2,n2,hd2⟩:=id hb;simp only at hc hd hc2 hd2;subst hc hd hc2 hd2;have e:vs.toArray++ws.toArray=(vs++ws).toArray:=by simp
 by_cases hw:ws=[]
 ·exact concat_meets ⟨_,ho,rfl⟩ ⟨_,ho2,rfl⟩ noFill_tuple_add seq_tuple_add gH gE (gh _ _)
   (tuple_addW1 t b vs.toArray ws.toArray n n2 dd dd2 sl sl2 (by simpa using hv) (by simp[hw])) ⟨ho,ho2,h1 hw⟩
 ·refine concat_meets ⟨_,ho,rfl⟩ ⟨_,ho2,rfl⟩ noFill_tuple_add seq_tuple_add gH gE (gh _ _)
   (tuple_addW2 t b vs.toArray ws.toArray n n2 dd dd2 sl sl2 (by simpa using hv) (by simpa using hw) (by rw[a_,a_];exact hsz)) ⟨ho,ho2,?_⟩
  rw[e];exact h2 hw
noncomputable def Xz (n d:Nat):Option Int->Nat
 | none=>d
 | some v=>if v<0 then(v+(n:Int)).toNat else min v.toNat n
end
end HT
namespace L2
open PySem PySem.Spec PyProof.Rows
noncomputable abbrev TO:=St->Hp->(Option Int->Hp->Prop)->Prop
theorem intsAre_of{ns:List Int}:∀{us:List af},Vals (ns.map V.int) us->IntsAre us ns:=by
 induction ns with
 | nil=>intro us r;rw[f6]at r;cases r;exact .nil
 | cons n ns ih=>
  intro us r;rw[bC]at r
  cases r with
  | cons r1 r2=>
   obtain⟨t,e⟩:=r1;subst e;exact .cons n t (ih r2)
section
variable {X:Cx}{p2:Pos}
noncomputable def Yh (K:au):R2:=λx y H Q=>∃a b xs ys,x=.ref a/\y=.ref b/\mD K H a xs/\mD K H b ys/\xs≠[]/\xs.length+ys.length<=sizeLine /\
 (ys=[]->Q (.ref a) H)/\(ys≠[]->∀p,H p=none->Q (.ref p) (upd H p (.tup (xs++ys))))
theorem Vals.Bw(r:Vals xs us):us=[] ↔ xs=[]:=by
 cases r with
 | nil=>simp
 | cons _ _=>simp
theorem Qe:n5 X (binaryOp .Add) (Yh X.K):=by
 intro pins s σ H x y v u Q I rx ry h;obtain⟨a,b,xs,ys,rfl,rfl,ha,hb,hx,hz,q1,q2⟩:=h
 cases rx
 cases ry
 obtain⟨its,r1,p1,_⟩:=I.tuple ha;obtain⟨its2,r2,p2,_⟩:=I.tuple hb;refine HT.Qn p1 p2 (λz=>hx (r1.Bw.mp z)) (λz=>⟨.ref a,H,I,rfl,q1 (r2.Bw.mp z)⟩) (λz=>?_) (by rw[<- r1.length,<- r2.length];exact hz);refine⟨.ref s.heap.objs.size,_,I.laid (t':=s.toks) (o:=.tup (xs++ys)) (λb ob q=>aQ _ q) (aO _) ?_,rfl,q2 (λw=>z (r2.Bw.mpr w)) _ (I.hok.fresh (aO _))⟩;exact⟨by rw[aR];exact hz,_,r1.append r2,pI.new _ _⟩
end
noncomputable def A7 (n:Nat)(i:Int):Option Nat:=if 0<=i then(if i<n then some i.toNat else none)else if -(n:Int)<=i then some (i+n).toNat else none
noncomputable def rP {α:Type}(xs:List α)(i:Int):Option α:=(A7 xs.length i).bind λj=>xs[j]?
theorem Hf{n:Nat}{i:Int}(h:A7 n i=some j):seqIndex? i n=some j/\j<n/\-(n:Int)<=i/\i<n:=by
 unfold A7 at h;by_cases h0:0<=i
 ·rw[aM h0]at h;by_cases h1:i<n
  ·rw[aM h1]at h;have e:i.toNat=j:=aZ h;exact⟨by rw[seqIndex_of h0 h1,e],by lia,by lia,h1⟩
  ·rw[aJ h1]at h;cases h
 ·rw[aJ h0]at h;by_cases h1:-(n:Int)<=i
  ·rw[aM h1]at h;have e:(i+n).toNat=j:=aZ h;exact⟨by rw[seqIndex_neg (by lia) h1,e],by lia,h1,by lia⟩
  ·rw[aJ h1]at h;cases h
theorem Cd{α:Type}{xs:List α}{i:Int}{v:α}(h:rP xs i=some v):∃j,seqIndex? i xs.length=some j/\xs[j]?=some v/\j<xs.length/\-(xs.length:Int)<=i/\i<xs.length:=by
 unfold rP at h
 cases e:A7 xs.length i with
 | none=>rw[e]at h;cases h
 | some j=>
  rw[e]at h;obtain⟨h1,h2,h3,h4⟩:=Hf e;exact⟨j,h1,h,h2,h3,h4⟩
theorem P9{α:Type}{xs:List α}{j:Nat}{v:α}(h:xs[j]?=some v):rP xs (j:Int)=some v:=by
 have hj:j<xs.length:=(aN.mp h).1;have e:A7 xs.length (j:Int)=some j:=by
  unfold A7;rw[aM (by lia),aM (by lia)];simp
 unfold rP;rw[e];exact h
noncomputable def yg (b:aC):Prop:=∀o i,subscripted b false o i=operate [o,i] (getItem o i)
noncomputable def Tz (X:Cx)(r:R2):Prop:=
 ∀(value slice:aC) (pins:List (ak×Obj)) (s:aA) (σ:St) (H:Hp) (x y:V) (v u:af) (Q:VK),Inv X pins σ H s->RelV x v->RelV y u->r x y H Q ->
  subscripted slice false v u=operate [v,u] (getItem v u)->wpAny (model X.prog X.w) X.A (subscriptTail value slice v u) (EP X pins σ Q) X.xe s
noncomputable def Sb (X:Cx)(id:String)(r:V->List V->Hp->VK->Prop):Prop:=
 ∀(pins:List (ak×Obj)) (s:aA) (σ:St) (H:Hp) (x:V) (xs:List V) (v:af) (us:List af) (Q:VK),Inv X pins σ H s->RelV x v->Vals xs us->r x xs H Q ->
  wpAny (model X.prog X.w) X.A (call (.builtin id) (v::us)) (EP X pins σ Q) X.xe s
section
variable {X:Cx}{a b:aC}{ta tb:TE}{pos:Pos}
theorem NR{r:R2}(hr:Tz X r)(ha:PE X a ta)(hb:PE X b tb)(hs:yg b):PE X (.Subscript a b pos) (Yb r ta tb):=by
 intro pins s σ H Q I h;exact Subscript_ (Vo ha hb I h λv u s2 x y H2 I2 rx ry q=>hr a b pins s2 σ H2 x y v u Q I2 rx ry q (hs _ _))
noncomputable def aal (K:au):R2:=λx y H Q=>∃p xs i v,x=.ref p/\y=.int i/\oX K H p xs/\rP xs i=some v/\Q v H
noncomputable def ZI (K:au):R2:=λx y H Q=>∃p xs i v,x=.ref p/\y=.int i/\mD K H p xs/\rP xs i=some v/\Q v H
noncomputable def ZS:R2:=λx y H Q=>∃z i c,x=.str z/\y=.int i/\z.length<=sizeLine/\rP z.cps.toList i=some c/\Q (.str ⟨#[c]⟩) H
theorem G0:Tz X (aal X.K):=by
 intro value slice pins s σ H x y v u Q I rx ry h hs;obtain⟨p,xs,i,z,rfl,rfl,hq,he,q⟩:=h
 cases rx
 obtain⟨t,rfl⟩:=ry;obtain⟨its,r,pl,hz⟩:=I.list hq;obtain⟨j,h1,h2,h3,h4,h5⟩:=Cd he;obtain⟨w,ew,rw'⟩:=r.get h2;have hl:=r.length;have hn:=wM;have fin:EP X pins σ Q w s:=⟨z,H,I,rw',q⟩;by_cases h0:0<=i
 ·have hj:i.toNat=j:=by
   rw[seqIndex_of h0 h5]at h1;exact aZ h1
  exact item_listR pl.isList h0 (by lia) (by rw[hj];simpa using ew) fin hs
 ·have hj:(i+(its.toArray.size:Int)).toNat=j:=by
   rw[seqIndex_neg (by lia) h4]at h1;rw[a_,<- hl];exact aZ h1
  exact subscriptTail_builtinR (x:=w) pl.isList.typeIs slot_list_getitem.lookup
   (wpAny_getItem_list_neg (Q:=λr s'=>r=w/\EP X pins σ Q r s') pl.isList (by lia) (by rw[a_]<;>lia) (by lia) (by rw[hj];simpa using ew) ⟨rfl,fin⟩) hs
theorem Vc:Tz X (ZI X.K):=by
 intro value slice pins s σ H x y v u Q I rx ry h hs;obtain⟨p,xs,i,z,rfl,rfl,hq,he,q⟩:=h
 cases rx
 obtain⟨t,rfl⟩:=ry;obtain⟨its,r,pl,hz⟩:=I.tuple hq;obtain⟨j,h1,h2,h3,h4,h5⟩:=Cd he;obtain⟨w,ew,rw'⟩:=r.get h2;have hl:=r.length;have hn:=wM;have fin:EP X pins σ Q w s:=⟨z,H,I,rw',q⟩;exact subscriptTail_builtinR (x:=w) pl.typeIs slot_tuple_getitem.lookup
  (getItem_tuple (j:=j) (Q:=λr s'=>r=w/\EP X pins σ Q r s') pl (by lia) (by lia) (by rw[a_,<- hl];exact h1) (by simpa using ew) ⟨rfl,fin⟩) hs
theorem Vx:Tz X ZS:=by
 intro value slice pins s σ H x y v u Q I rx ry h hs;obtain⟨z,i,c,rfl,rfl,hz,he,q⟩:=h;obtain⟨t,rfl⟩:=rx;obtain⟨t',rfl⟩:=ry;obtain⟨j,h1,h2,h3,h4,h5⟩:=Cd he;have hl:z.cps.toList.length=z.length:=by simp[Str.length]
 rw[hl]at h1 h4 h5;have hn:=wM;exact tail_any (typeIs_str s z t) slot_str_getitem.lookup (getItem_str (c:=c) (by
  have e1:decide (i < -(2 ^ 63:Int))=false:=bw (by lia);have e2:decide (i>=2 ^ 63)=false:=bw (by lia);rw[e1,e2,Bool.or_false]) (by rw[h1];simpa using h2) ⟨.str ⟨#[c]⟩,H,I.tok _,⟨_,rfl⟩,q⟩) hs
theorem GF(its:List af)(n j:Nat)(u:af):Obj.mapSeq (·.setIfInBounds j u) { cls:=.type "list",data:=.seq its.toArray n }={ cls:=.type "list",data:=.seq (its.set j u).toArray n }:=by
 simp[Obj.mapSeq]
theorem Inv.lst{H:Hp}{s:aA}{p:ak}{xs:List V}(I:Inv X pins σ H s)(h:H p=some (.lst xs)) :
  ∃(its:List af) (n:Nat),Vals xs its/\s.heap.get? p=some { cls:=.type "list",data:=.seq its.toArray n }/\xs.length<=sizeLine:=by
 obtain⟨z,its,n,r,e⟩:=I.hok p _ h;exact⟨its,n,r,e,z⟩
theorem Inv.UZ{H:Hp}{s:aA}{p:ak}{ys:List V}{its its':List af}{n:Nat}{f:Obj->Obj}(I:Inv X pins σ H s)(h:H p=some (.lst xs))
  (ho:s.heap.get? p=some { cls:=.type "list",data:=.seq its.toArray n }) (hf:f { cls:=.type "list",data:=.seq its.toArray n }={ cls:=.type "list",data:=.seq its'.toArray n' }) (r:Vals ys its') (hz:ys.length<=sizeLine) (t:Nat) :
  Inv X pins σ (upd H p (.lst ys)) { s with heap:=s.heap.update p f,toks:=t }:=by
 have e:(s.heap.update p f).get? p=some { cls:=.type "list",data:=.seq its'.toArray n' }:=by
  rw[fO f ho (by rw[hf]<;>rfl),hf]
 refine I.write (x:=p) (e:=p) (by rw[h];trivial) (.inl rfl) (λb u hb q=>(Heap.get?_update_other _ _ (c6 hb)).trans q) ⟨_,e⟩ ?_;exact⟨hz,its',n',r,e⟩
noncomputable def WL:V->V->V->Hp->(Hp->Prop)->Prop:=λo i v H Q=>∃p xs k j,o=.ref p/\i=.int k/\H p=some (.lst xs)/\A7 xs.length k=some j/\Q (upd H p (.lst (xs.set j v)))
theorem set_list:J7 X WL:=by
 intro pins s σ H o i v ov iv u Q I ro ri rv h;obtain⟨p,xs,k,j,rfl,rfl,hp,hj,q⟩:=h
 cases ro
 obtain⟨t,rfl⟩:=ri;obtain⟨its,n,r,ho,hz⟩:=I.lst hp;obtain⟨h1,h2,h3,h4⟩:=Hf hj;have hl:=r.length;have hn:=wM;have I':Inv X pins σ (upd H p (.lst (xs.set j v))) { s with heap:=s.heap.update p (Obj.mapSeq (·.setIfInBounds j u))}:=
  I.UZ hp ho (GF its n j u) (r.set rv j) (by rw[bY];exact hz) s.toks
 by_cases h0:0<=k
 ·have hk:k.toNat=j:=by
   rw[seqIndex_of h0 h4]at h1;exact aZ h1
  exact PySem.W.ki_setAt ho h0 (by lia) (by rw[a_,<- hl];exact h4) (by rw[hk];exact⟨_,I',q⟩)
 ·have hk:(k+(its.toArray.size:Int)).toNat=j:=by
   rw[seqIndex_neg (by lia) h3]at h1;rw[a_,<- hl];exact aZ h1
  exact PySem.W.ki_setBack ho (by lia) (by rw[a_,<- hl];exact h3) (by lia) (by rw[hk];exact⟨_,I',q⟩)
noncomputable def y9:V->Bool
 | .non=>true
 | .bl _=>true
 | .int _=>true
 | .str _=>true
 | _=>false
noncomputable def PN:V->V->Bool
 | .non,.non=>true
 | .bl a,.bl b=>a == b
 | .bl a,.int b=>(if a then 1 else 0) == b
 | .int a,.bl b=>a == (if b then 1 else 0)
 | .int a,.int b=>a == b
 | .str a,.str b=>a == b
 | _,_=>false
theorem V4{A:az}{x:V}{v:af}(ry:RelV y u)(rx:RelV x v)(fy:y9 y=true)(fx:y9 x=true):SeqAt.EqAt A s u v (PN y x):=by
 cases y with
 | non=>
  cases ry
  cases x with
  | non=>cases rx;exact SeqAt.EqAt.same _
  | bl b=>cases rx;exact SeqAt.EqAt.none_bool b
  | int b=>obtain⟨t,rfl⟩:=rx;exact SeqAt.EqAt.none_int b t
  | str b=>obtain⟨t,rfl⟩:=rx;exact SeqAt.EqAt.none_str b t
  | _=>exact absurd (show false=true from fx) bF
 | bl a=>
  cases ry
  cases x with
  | non=>cases rx;exact SeqAt.EqAt.bool_none a
  | bl b=>cases rx;exact SeqAt.EqAt.bool_bool a b
  | int b=>obtain⟨t,rfl⟩:=rx;exact SeqAt.EqAt.bool_int a b t
  | str b=>obtain⟨t,rfl⟩:=rx;exact SeqAt.EqAt.bool_str a b t
  | _=>exact absurd (show false=true from fx) bF
 | int a=>
  obtain⟨t',rfl⟩:=ry
  cases x with
  | non=>cases rx;exact SeqAt.EqAt.int_none a t'
  | bl b=>cases rx;exact SeqAt.EqAt.int_bool a t' b
  | int b=>obtain⟨t,rfl⟩:=rx;exact SeqAt.EqAt.int_int a t' b t
  | str b=>obtain⟨t,rfl⟩:=rx;exact SeqAt.EqAt.int_str a t' b t
  | _=>exact absurd (show false=true from fx) bF
 | str a=>
  obtain⟨t',rfl⟩:=ry
  cases x with
  | non=>cases rx;exact SeqAt.EqAt.str_none a t'
  | bl b=>cases rx;exact SeqAt.EqAt.str_bool a t' b
  | int b=>obtain⟨t,rfl⟩:=rx;exact SeqAt.EqAt.str_int a t' b t
  | str b=>obtain⟨t,rfl⟩:=rx;exact SeqAt.EqAt.str_str a t' b t
  | _=>exact absurd (show false=true from fx) bF
 | _=>exact absurd (show false=true from fy) bF
theorem qS:kh X (.type "list") (λxs H Q=>∃p ys,xs=[.ref p]/\(oX X.K H p ys\/mD X.K H p ys)/\∀l,H l=none->Q (.ref l) (upd H l (.lst ys))):=by
 intro pins s σ H xs us Q I r h;obtain⟨p,ys,rfl,hq,q⟩:=h;obtain⟨u,rfl,rx⟩:=vals1 r
 cases rx
 have fin:∀(its:List af),Vals ys its->ys.length<=sizeLine->∀(h':aq) (c':Nat),(∀b o',s.heap.get? b=some o'->h'.get? b=some o') ->
   h'.get? s.heap.objs.size=some { cls:=.type "list",dict:=none,data:=.seq its.toArray c',slots:=#[]}->EP X pins σ Q (.ref s.heap.objs.size) { s with heap:=h' }:=λits r' hz h' c' kp e=>
  ⟨.ref s.heap.objs.size,_,I.laid (t':=s.toks) kp (aO _) (show kK X.prog X.w _ h' _ (.lst ys)from⟨hz,its,c',r',e⟩),rfl,q _ (I.hok.fresh (aO _))⟩
 rcases hq with hq|hq
 ·obtain⟨its,r',pl,hz⟩:=I.list hq;have hlen:=r'.length;obtain⟨o,ho,hc,n,hd⟩:=pl.isList;exact call_list_seq p (.inl rfl) ho hc hd (λh' c' kp e=>fin its r' hz h' c' kp e) (by simp only[a_]<;>lia)
 ·obtain⟨its,r',pl,hz⟩:=I.tuple hq;have hlen:=r'.length;obtain⟨o,ho,hc,n,hd⟩:=pl;exact call_list_seq p (.inr rfl) ho hc hd (λh' c' kp e=>fin its r' hz h' c' kp e) (by simp only[a_]<;>lia)
theorem qm:kh X (.type "tuple") (λxs H Q=>∃p ys,xs=[.ref p]/\((oX X.K H p ys/\∀l,H l=none->Q (.ref l) (upd H l (.tup ys)))\/(mD X.K H p ys/\Q (.ref p) H))):=by
 intro pins s σ H xs us Q I r h;obtain⟨p,ys,rfl,h⟩:=h;obtain⟨u,rfl,rx⟩:=vals1 r
 cases rx
 rcases h with⟨hq,q⟩|⟨hq,q⟩
 ·obtain⟨its,r',pl,hz⟩:=I.list hq;have hlen:=r'.length;refine call_tuple_list pl.isList (λh' kp=>?_) (by simp only[a_]<;>lia);have I1:Inv X pins σ H { s with heap:=h' }:=I.kept (t':=s.toks) kp;have I2:Inv X pins σ (upd H h'.objs.size (.tup ys)) { s with heap:=h'.push { cls:=.type "tuple",data:=.seq its.toArray }}:=
   I1.laid (t':=s.toks) (λb o e=>aQ _ e) (aO _) (show kK X.prog X.w _ _ _ (.tup ys)from⟨hz,its,r',pI.new _ _⟩)
  exact⟨.ref h'.objs.size,_,I2,rfl,q _ (I1.hok.fresh (aO _))⟩
 ·obtain⟨its,r',pl,hz⟩:=I.tuple hq;exact call_tuple_same pl ⟨.ref p,H,I,rfl,q⟩
noncomputable def W4 (K:au)(T:String)(x:V)(H:Hp):Prop:=match x with
 | .str _=>T = "str"
 | .int _=>T = "int"
 | .ref p=>(T = "list" /\ ∃xs,oX K H p xs)\/(T = "tuple" /\ ∃o,K.lookup p=some o/\o.cls=.type "tuple" /\ o.dict=none) \/
   (T = "dict" /\ ((∃kvs,H p=some (.dK kvs))\/∃kvs,H p=some (.dT kvs)))\/(T = "set" /\ ∃S n,H p=some (.set S n))
 | _=>False
theorem We{H:Hp}{s:aA}{x:V}{v:af}(I:Inv X pins σ H s)(r:RelV x v)(ty:W4 X.K T x H) :
  s.TypeIs v T/\∀a,v=.ref a->∃ob,s.heap.get? a=some ob/\ob.dict=none:=by
 cases x with
 | str z=>
  obtain⟨t,rfl⟩:=r
  cases(show T = "str" from ty)
  exact⟨typeIs_str s z t,λ_ e=>nomatch e⟩
 | int i=>
  obtain⟨t,rfl⟩:=r
  cases(show T = "int" from ty)
  exact⟨typeIs_int s i t,λ_ e=>nomatch e⟩
 | ref p=>
  cases r
  rcases ty with⟨rfl,xs,hq⟩|⟨rfl,o,hk,hc,hd⟩|⟨rfl,hk⟩|⟨rfl,S,n,hk⟩
  ·obtain⟨its,_,pl,_⟩:=I.list hq;refine⟨pl.isList.typeIs,λa e=>?_⟩
   cases e
   obtain⟨o,n,e,c,hd,_⟩:=pl;exact⟨o,e,hd⟩
  ·refine⟨⟨o,I.Dd p o hk,hc⟩,λa e=>?_⟩
   cases e
   exact⟨o,I.Dd _ o hk,hd⟩
  ·have z:∃o,s.heap.get? p=some o/\o.ExactDict:=by
    rcases hk with⟨kvs,hk⟩|⟨kvs,hk⟩
    ·obtain⟨_,_,_,_,o,_,_,e,ex,_⟩:=I.hok p _ hk;exact⟨o,e,ex⟩
    ·obtain⟨_,_,_,_,o,_,_,e,ex,_⟩:=I.hok p _ hk;exact⟨o,e,ex⟩
   obtain⟨o,e,ex⟩:=z;refine⟨⟨o,e,ex.1⟩,λa e2=>?_⟩
   cases e2
   exact⟨o,e,ex.2.1⟩
  ·obtain⟨o,_,_,_,e,ex,_⟩:=I.hok p _ hk;refine⟨⟨o,e,ex.1⟩,λa e2=>?_⟩
   cases e2
   exact⟨o,e,ex.2.1⟩
 | _=>exact False.elim ty
noncomputable def tBM (K:au)(T:String)(r:V->List V->Hp->VK->Prop)(to:TE)(t:TA):TE:=λσ H Q=>to σ H λx H1=>W4 K T x H1/\t σ H1 λxs H2=>r x xs H2 Q
variable {o e:aC}{es:List aC}{to:TE}{t:TA}{name:Str}{apos cpos:Pos}{T id:String}{r:V->List V->Hp->VK->Prop}
theorem Lu(pa:PlainAttrs T)(slot:Slot T name id)(hty:typeOf (.builtin id)=pure (.type "method_descriptor"))(hm:Sb X id r)(ho:PE X o to)(ha:PA X (e::es) t)
  (hbase:attributeBase o name X.env (eval o X.env)=eval o X.env:=by rfl)
  (hfew:((backTo cpos (starEach (e::es) X.env)).all (λx=>!x.1) && (backToKw cpos (keywordEach [] X.env)).all (λx=>x.1.isSome)
   && decide ((e::es).length+([]:List Keyword).length+(if ([]:List Keyword).isEmpty then 0 else 1)<30))=true:=by rfl)
  (hline:(apos.endLine == cpos.line)=true:=by rfl) (hs:starEach (e::es) X.env=(false,eval e X.env)::starEach es X.env:=by rfl) (hplain:(backTo cpos (starEach es X.env)).any (·.1)=false:=by rfl) :
  PE X (.Call (.Attribute o name apos) (e::es) [] cpos) (tBM X.K T r to t):=by
 intro pins s σ H Q I h;refine wpAny_Call_method_late hbase hfew hline rfl (m9 (ho pins s σ H _ I h) λv s1 ⟨x,H1,I1,r1,ty,q1⟩=>?_);obtain⟨h1,h2⟩:=We I1 r1 ty;refine⟨T,id,pa,slot,hty,h1,h2,?_⟩;have hA:=ha cpos pins s1 σ H1 _ I1 q1;rw[hs]at hA ⊢;refine Calls.callWith_builtin (by show(false || (backTo cpos (starEach es X.env)).any (·.1))=false;rw[hplain]<;>rfl) (Calls.evalArgs_plain ?_);exact m9 hA λus s2 ⟨vs,H2,I2,r2,q2⟩=>hm pins s2 σ H2 x vs v us Q I2 r1 r2 q2
end
noncomputable def Z_ (X:Cx)(id:String)(r:V->List V->Hp->VK->Prop):Prop:=
 ∀(pins:List (ak×Obj)) (s:aA) (σ:St) (H:Hp) (x:V) (xs:List V) (v:af) (us:List af) (Q:VK),Inv X pins σ H s->RelV x v->Vals xs us->r x xs H Q ->
  wpAny (model X.prog X.w) X.A (call (.builtin id) (v::us)) (EP X pins σ Q) X.xe s
theorem Vals.one:∀{x:V}{us:List af},Vals [x] us->∃u,us=[u]/\RelV x u
 | _,_,.cons r .nil=>⟨_,rfl,r⟩
theorem Vals.eraseIdx:∀{xs:List V}{us:List af}(i:Nat),Vals xs us->Vals (xs.eraseIdx i) (us.eraseIdx i)
 | _,_,_,.nil=>.nil
 | _,_,0,.cons _ t=>t
 | _,_,i+1,.cons r t=>.cons r (Vals.eraseIdx i t)
theorem Vals.rep(h:Vals xs us):∀k:Nat,Vals (List.replicate k xs).flatten (List.replicate k us).flatten
 | 0=>.nil
 | k+1=>by
  rw[c5,c5,dJ,dJ];exact Vals.append h (Vals.rep h k)
theorem AY{α:Type}:∀(l:List α) (i:Nat),(l.eraseIdx i).length<=l.length
 | [],_=>aO _
 | _::_,0=>Nat.le_succ _
 | _::r,i+1=>Nat.succ_le_succ (AY r i)
theorem foldl_rep(its:List af):∀(k:Nat) (acc:List af),
  List.foldl (λx1 x2=>x1++x2) acc.toArray (List.replicate k its.toArray)=(acc++(List.replicate k its).flatten).toArray
 | 0,acc=>by simp
 | k+1,acc=>by
  have e:acc.toArray++its.toArray=(acc++its).toArray:=by simp
  have e2:(acc++its)++(List.replicate k its).flatten=acc++(List.replicate (k+1) its).flatten:=by
   rw[c5,dJ,b9]
  rw[<- e2,<- foldl_rep its k (acc++its),<- e,c5,eO]
section
variable {X:Cx}{pins:List (ak×Obj)}{σ:St}{H:Hp}{s:aA}{l:ak}{xs ys:List V}
theorem Inv.XH{its its':List af}{n:Nat}{f:Array af->Array af}{t':Nat}(I:Inv X pins σ H s)(hH:H l=some (.lst xs))
  (e:s.heap.get? l=some { cls:=.type "list",data:=.seq its.toArray n }) (hf:f its.toArray=its'.toArray) (hv:Vals ys its') (hz:ys.length<=sizeLine) :
  Inv X pins σ (upd H l (.lst ys)) { s with heap:=s.heap.update l (Obj.mapSeq f),toks:=t' }:=by
 have q:=PySem.IsL.update e f;rw[hf]at q;refine I.write (x:=l) (e:=l) (by rw[hH];exact trivial) (.inl rfl) (λb' u hb hu=>(Heap.get?_update_other s.heap (Obj.mapSeq f) (c6 hb)).trans hu) ⟨_,q⟩ ?_;exact⟨hz,its',_,hv,q⟩
theorem Inv.Uu{its:List af}{t':Nat}(I:Inv X pins σ H s)(hv:Vals ys its)(hz:ys.length<=sizeLine) :
  Inv X pins σ (upd H s.heap.objs.size (.lst ys)) { s with heap:=s.heap.push { cls:=.type "list",data:=.seq its.toArray },toks:=t' }:=
 I.laid (λ_ _ q=>aQ _ q) (aO _) ⟨hz,its,0,hv,bA _ rfl⟩
theorem Inv.fresh(I:Inv X pins σ H s):H s.heap.objs.size=none:=I.hok.fresh (aO _)
theorem Inv.OB(I:Inv X pins σ H s)(hH:H l=some (.lst xs)):xs.length<=sizeLine/\∃(its:List af) (n:Nat),Vals xs its/\xs.length=its.length/\s.heap.get? l=some { cls:=.type "list",data:=.seq its.toArray n }:=by
 obtain⟨z,its,n,r,e⟩:=I.hok l _ hH;exact⟨z,its,n,r,r.length,e⟩
theorem MY{n:Nat}(h:n<=sizeLine):Builtin.List.listTooLong n=false:=by
 unfold Builtin.List.listTooLong;exact bw (by lia)
end
section
variable {X:Cx}
noncomputable def P0:V->List V->Hp->VK->Prop:=λx vs H Q=>∃l xs y,x=.ref l/\vs=[y]/\H l=some (.lst xs)/\xs.length<sizeLine/\Q .non (upd H l (.lst (xs++[y])))
theorem Bf:Z_ X "list.append" P0:=by
 intro pins s σ H x vs v us Q I rx rv h;obtain⟨l,xs,y,rfl,rfl,hH,hz,q⟩:=h
 cases rx
 obtain⟨u,rfl,ru⟩:=rv.one;obtain⟨z,its,n,r,hl,e⟩:=I.OB hH;refine iR F.slot_list_append ⟨_,e,rfl⟩ F.entry_list_append (F.args_list_append_2 _ _) (PySem.list_append l its.toArray n u (by rw[a_];lia)) ⟨e,?_⟩;refine⟨.non,_,I.XH (its':=its++[u]) hH e (by simp) (r.append (.cons ru .nil)) ?_,rfl,q⟩;rw[aR,bR];lia
noncomputable def VX:V->List V->Hp->VK->Prop:=λx vs H Q=>∃l xs i k y,x=.ref l/\vs=[.int i]/\H l=some (.lst xs)/\-(2 ^ 63)<=i/\i<2 ^ 63/\seqIndex? i xs.length=some k/\xs[k]?=some y/\Q y (upd H l (.lst (xs.eraseIdx k)))
theorem O1:Z_ X "list.pop" VX:=by
 intro pins s σ H x vs v us Q I rx rv h;obtain⟨l,xs,i,k,y,rfl,rfl,hH,h1,h2,hk,hy,q⟩:=h
 cases rx
 obtain⟨u,rfl,ru⟩:=rv.one;obtain⟨t,rfl⟩:=ru;obtain⟨z,its,n,r,hl,e⟩:=I.OB hH;obtain⟨w,hw,rw'⟩:=r.get hy;refine iR F.slot_list_pop ⟨_,e,rfl⟩ F.entry_list_pop (F.args_list_pop_2 _ _)
  (MeetsSeq.list_pop_at l its.toArray n i t k w (fitsIndex_both h1 h2) (by rw[a_,<- hl];exact hk) (by rw[<- eK];exact hw) (by rw[a_];lia)) ⟨e,?_⟩
 refine⟨y,_,I.XH (its':=its.eraseIdx k) hH e ?_ (r.eraseIdx k) ?_,rw',q⟩
 ·show its.toArray.eraseIdxIfInBounds k=(its.eraseIdx k).toArray;rw[gY]
 ·have:=AY xs k;lia
noncomputable def Y_:R2:=λx y H Q=>∃l b xs zs,x=.ref l/\y=.ref b/\H l=some (.lst xs)/\H b=some (.lst zs)/\xs.length+zs.length<=sizeLine/\∀p,H p=none->Q (.ref p) (upd H p (.lst (xs++zs)))
theorem Uw:n5 X (binaryOp .Add) Y_:=by
 intro pins s σ H x y v u Q I rx ry h;obtain⟨l,b,xs,zs,rfl,rfl,hH,hB,hz,q⟩:=h
 cases rx
 cases ry
 obtain⟨z,its,n,r,hl,e⟩:=I.OB hH;obtain⟨z2,its2,n2,r2,hl2,e2⟩:=I.OB hB;refine PySem.P.add_list e e2 ?_ (by rw[a_,a_];lia);have ea:its.toArray++its2.toArray=(its++its2).toArray:=by simp
 rw[ea];exact⟨.ref _,_,I.Uu (t':=s.toks) (r.append r2) (by rw[aR];lia),rfl,q _ I.fresh⟩
noncomputable def ZD:R2:=λx y H Q=>∃l k xs,x=.ref l/\y=.int k/\H l=some (.lst xs)/\-(2 ^ 63)<=k/\k<2 ^ 63/\xs.length * k.toNat<=sizeLine /\
 ∀p,H p=none->Q (.ref p) (upd H p (.lst (List.replicate k.toNat xs).flatten))
theorem len_rep{α:Type}(xs:List α)(k:Nat):(List.replicate k xs).flatten.length=k * xs.length:=by
 induction k with
 | zero=>simp
 | succ k ih=>rw[c5,dJ,aR,ih,dX,jg]
theorem Wv:n5 X (binaryOp .Mult) ZD:=by
 intro pins s σ H x y v u Q I rx ry h;obtain⟨l,k,xs,rfl,rfl,hH,h1,h2,hz,q⟩:=h
 cases rx
 obtain⟨t,rfl⟩:=ry;obtain⟨z,its,n,r,hl,e⟩:=I.OB hH;have hlen:its.toArray.size * k.toNat<=sizeLine:=by rw[a_,<- hl];exact hz
 have hcap:¬its.toArray.size * k.toNat>(2 ^ 63-1) / 8:=by
  have:(sizeLine:Nat)<=(2 ^ 63-1) / 8:=by decide
  lia
 have hfit:¬(!Builtin.List.listFitsIndex k)=true:=by
  rw[fitsIndex_both h1 h2];exact bF
 have hlong:¬Builtin.List.listTooLong (its.toArray.size * k.toNat)=true:=by
  rw[MY hlen];exact bF
 have hnew:List.foldl (λx1 x2=>x1++x2) #[] (List.replicate (if its.toArray.isEmpty=true then 0 else k.toNat) its.toArray)=(List.replicate k.toNat its).flatten.toArray:=by
  have f0:∀m:Nat,List.foldl (λx1 x2=>x1++x2) #[] (List.replicate m its.toArray)=(List.replicate m its).flatten.toArray:=λm=>by
   have:=foldl_rep its m [];rw[List.nil_append]at this;exact this
  rw[f0]
  cases its with
  | nil=>simp
  | cons a r'=>rw[aJ (by simp)]
 refine wpAny_binaryOp_repeat_ref (T := "list") (U := "int") (by decide) ⟨_,e,rfl⟩ (λs'=>typeIs_int s' k t) noFill_list_mul F.fills_int_mul F.slot_int_rmul repeat_list F.slot_int_index.lookup
  (iR F.slot_int_rmul (typeIs_int s k t) F.entry_int_rmul (F.args_int_rmul_2 _ _) (int___rmul___int_list k t l its.toArray n)
   ⟨e,rfl,⟨_,e,rfl⟩,iR F.slot_list_mul ⟨_,e,rfl⟩ F.entry_list_mul (F.args_list_mul_2 _ _) (AutoListH.list___mul___list_int_3 l its.toArray n k t hfit hcap hlong) ⟨e,?_⟩⟩)
 rw[hnew];exact⟨.ref _,_,I.Uu (t':=s.toks) (r.rep k.toNat) (by rw[len_rep,Nat.mul_comm];exact hz),rfl,q _ I.fresh⟩
end
end L2
namespace Att
open PySem PySem.W PySem.Calls PyProof.Rows
theorem xM{P:Params}:∀(ns:List Int) (vs:List af),WellAll P h vs (ns.map WData.int)->IntsAre vs ns:=by
 intro ns
 induction ns with
 | nil=>
  intro vs w;rw[f6]at w
  cases w
  exact .nil
 | cons n ns ih=>
  intro vs w;rw[bC]at w
  cases w with
  | cons a b=>
   cases a
   exact .cons _ _ (ih _ b)
theorem JU{l:OpenLaw}{n:Nat}(hn:l.most=some n){P:Params}{h:aq}
  (hpre:l.row.toRowW.claim.pre args=true) (hwl:WellAll P h vals args) :
  ∃a vs ns,vals=[Value.ref a]/\args=[WData.list (ns.map WData.int)]/\h.get? a=some { cls:=.type "list",data:=.seq vs.toArray }/\IntsAre vs ns/\ns.length<=n:=by
 have hsh:WShape.hasAll [] args [.list .int]=true:=(pre_splitW hpre).1;have hc:l.pre.holds [] { args:=args }=true:=(pre_splitW hpre).2;obtain⟨d,r,rfl,h1,h2⟩:=hasAllW_cons hsh;obtain rfl:=hasAllW_nil h2;obtain⟨xs,rfl,h3⟩:=hasW_list h1;obtain⟨ns,rfl⟩:=items_int h3;have hlen:ns.length<=n:=by
  unfold OpenLaw.pre at hc;have h4:(WTm.not (.lt (.lit (.int (n:Int))) (.len (.arg 0)))).holds [] { args:=[.list (ns.map .int)]}=true:=by
   have h4:=(holds_andW hc).1;rw[hn]at h4;exact h4
  have h5:=condW_of h4 (w_not (w_lt w_lit (w_len_list (w_arg rfl))));rw[aK]at h5;refine ig λq=>?_;have q':(n:Int)<((ns.length:Nat):Int):=by lia
  first
   | (rw[bq q']at h5;exact absurd h5 (by decide))
   | (simp at h5;lia)
 cases hwl with
 | cons w1 w2=>
  cases w2
  cases w1 with
  | list ho hall=>exact⟨_,_,ns,rfl,rfl,ho,xM ns _ hall,hlen⟩
theorem J_(l:OpenLaw)(args:List WData):l.row.toRowW.claim.post args (.bool true) args=true:=
 postW_of (r:=l.row.toRowW) (X:=(true == true))
  (show WShape.has [] (.bool true) .bool=true by first|rfl|decide|simp[WShape.has,WShape.arms,WShape.armsAll])
  (show(WTm.eq .res (.lit (.bool true))).value [] { args:=args,res:=some (.bool true),after:=args }=some (.bool (true == true))from w_eq_bool (w_res rfl) w_lit) rfl
theorem D5{l:OpenLaw}{n:Nat}{q:aj}{XP:(Str->Option af)->aq->Prop}{YP:ah->aq->Prop}{d:DefRec}
  (hn:l.most=some n) (hdf:d.params.defaults=[])
  (call:∀(w:ah) (s₀ s₁:aA) (mg mb:Str->Option af) (fa:ak) (o:Obj) (pm cd doc:af) (a:ak) (vs:List af) (ns:List Int),
   Ground q loose [] XP w s₀ mg mb s₁.heap->YP w s₁.heap ->
   s₁.heap.get? fa=some o->o.data=.func (docDef d.name d.params d.body d.scope pm cd doc)->s₁.heap.CodeRec cd d.name->mg d.name=some (.ref fa) ->
   s₁.heap.get? a=some { cls:=.type "list",data:=.seq vs.toArray }->IntsAre vs ns->ns.length<=n->s₁.gens=#[] ->
   codeAny (model l.prog w) callerA (.call (.ref fa) ⟨[.ref a],[]⟩) (λr s'=>r=.ok (.ret (.bool true))/\OldK s₁.heap s'.heap/\s'.os=s₁.os/\AllBare s'.gens) s₁) :
  WalkO q loose XP YP l.row.toRowW d [] (λf vs=>PySem.call f vs):=by
 intro w s₀ s₁ mg mb G Y fa o pm cd doc dV kV ho hd hcd hD hmg hg args vals as hpre hlay hrd hwl hlo;obtain rfl:dV=.none:=Dflts.none hD hdf;obtain rfl:kV=.none:=Dflts.noKw hD;obtain⟨a,vs,ns,rfl,rfl,hobj,hints,hlen⟩:=JU hn hpre hwl;refine enter_call (iL (call w s₀ s₁ mg mb fa o pm cd doc a vs ns G Y ho (fd_plain hd) hcd hmg hobj hints hlen hg) λr s' hq=>?_);obtain⟨rfl,h2,h3,h4⟩:=hq;exact⟨.inl ⟨.bool true,.bool true,[],rfl,λ_=>rfl,.bool true,J_ l _,λ_=>⟨List.Pairwise.nil,λ_ hm=>(nomatch hm)⟩⟩,h2,h3,h4⟩
end Att
namespace L2
open PySem PySem.Spec PyProof.Rows
theorem uh:∀{vs:List af}{ns:List Int},IntsAre vs ns->Vals (ns.map V.int) vs
 | _,_,.nil=>.nil
 | _,_,.cons n t h=>.cons ⟨t,rfl⟩ (uh h)
noncomputable def PX (H:Hp):Prop:=∀b,H b=none\/∃o xs,H b=some (.frz o (.lst xs))
theorem LI{P:aj}{w:ah}{K:au}{mg mb:Str->Option af}{CX:Px}{k:Nat}{fa a:ak}{x:Str}{sp:Sp}{s₁:aA}{vs:List af}{ns:List Int}
  (KX:K.In s₁.heap) (hns:s₁.heap.Ns mainGlobals mg) (hb:s₁.heap.Ns builtinsNs mb) (hbb:∀x:Str,x ≠ "__name__" -> mb x=bootBuiltins x) (hlim:s₁.heap.NoLimit) (hg:s₁.gens=#[])
  (ha:s₁.heap.get? a=some { cls:=.type "list",data:=.seq vs.toArray }) (hi:IntsAre vs ns) (hl:ns.length<=sizeLine) (hr:Room k callerA)
  (F:∀base:aq,K.In base->base.Ns mainGlobals mg->FnOk P w K mg base CX k fa fd [x] sp) (hbind:∀(s:aA) (u:af),BindsTo s fd ⟨[u],[]⟩ [(x,u)])
  (hsp:∀H:Hp,PX H->oX K H a (ns.map V.int)->sp [.ref a] H (λv _=>v=.bl true) λ_ _ _=>False)
  (hCX:∀H e s',CX [] H s₁ (λ_ _ _=>False) e s'->False) :
  codeAny (model P w) callerA (.call (.ref fa) ⟨[.ref a],[]⟩) (λr s'=>r=.ok (.ret (.bool true))/\OldK s₁.heap s'.heap/\s'.os=s₁.os/\AllBare s'.gens) s₁:=by
 have rv:=uh hi;have lenV:=hi.length;have core:∀H:Hp,PX H->oX K H a (ns.map V.int)->uW P w H s₁.heap->(∀b,H b≠none->b=a)->(H a≠none->K.lookup a=none) ->
   codeAny (model P w) callerA (.call (.ref fa) ⟨[.ref a],[]⟩) (λr s'=>r=.ok (.ret (.bool true))/\OldK s₁.heap s'.heap/\s'.os=s₁.os/\AllBare s'.gens) s₁:=by
  intro H hO hS hok hA hK;have base_of:∀{b:ak} {o:Obj},s₁.heap.get? b=some o->H b=none->(Bm s₁.heap H).get? b=some o:=λe n=>N8 e n;have noA:∀{b:ak} {o:Obj} {es:Array DictEntry} {ep:Nat},s₁.heap.get? b=some o->o.data=.dict es ep->H b=none:=λ{b o es ep} e d=>by
   cases q:H b with
   | none=>rfl
   | some u=>
    have e':b=a:=hA b (by rw[q];simp);subst e';rw[ha]at e;cases e;have d':Data.seq vs.toArray _=Data.dict es ep:=d
    cases d'
  have nsK:∀{b:ak} {m:Str->Option af},s₁.heap.Ns b m->(Bm s₁.heap H).Ns b m:=λ{b m} ⟨o,es,ep,e,d,r⟩=>⟨o,es,ep,base_of e (noA e d),d,r⟩;have hKb:K.In (Bm s₁.heap H):=λb o e=>base_of (KX b o e) (by
   cases q:H b with
   | none=>rfl
   | some u=>
    have e':b=a:=hA b (by rw[q];simp);subst e';rw[hK (by rw[q];simp)]at e;cases e)
  have hM:Mod K mg (Bm s₁.heap H):=⟨hKb,nsK hns,⟨mb,nsK hb,hbb⟩,let⟨mc,h1,h2⟩:=hlim;⟨mc,nsK h1,h2⟩⟩;have e0:Env0 P w K mg (Bm s₁.heap H) callerA [] s₁ H:=⟨rfl,hM,λb o e=>QG e,Nat.le_of_eq (KI _ _),trivial,λb hb=>absurd (show b∈([]:List ak)from hb) (by simp),hok,.of_eq hg⟩;refine iL ((F _ hKb (nsK hns)).run callerA [] s₁ H ⟨[.ref a],[]⟩ [.ref a] [.ref a] _ _ hr e0 (hbind s₁ (.ref a)) (.cons rfl .nil) (hsp H hO hS)) λr s' h=>?_
  cases r with
  | error e=>exact(hCX H e s' h).elim
  | ok fl=>
   cases fl with
   | next=>exact False.elim h
   | brk=>exact False.elim h
   | cont=>exact False.elim h
   | ret u=>
    obtain⟨v,H',os,bare,un,hok',r',q⟩:=h;have q':v=.bl true:=q;subst q';obtain rfl:u=Value.bool true:=r';refine⟨rfl,OldK.of_keep λb o e=>?_,os,bare⟩
    cases q:H b with
    | none=>exact un.keep b o e q (by intro z;exact absurd (show b∈([]:List ak)from z) (by simp)) (by simp)
    | some u=>
     rcases hO b with z|⟨ob,xs,z⟩
     ·rw[q]at z;cases z
     ·have z2:=un.frzs b ob _ z;obtain⟨e1,_⟩:=hok b _ z;obtain⟨e2,_⟩:=hok' b _ z2;rw[e]at e1;cases e1;exact e2
 cases hk:K.lookup a with
 | some o=>
  have e:=KX a o hk;rw[ha]at e
  cases e
  refine core (λ_=>none) (λ_=>.inl rfl) (.inr ⟨_,vs.toArray,_,hk,rfl,rfl,rfl,by rw[a_,lenV];exact hl,by simpa using rv⟩) (λb u z=>by have z':(none:Option HO)=some u:=z;cases z') (λb z=>absurd rfl z) λz=>absurd rfl z
 | none=>
  refine core (λb=>if b=a then some (.frz { cls:=.type "list",data:=.seq vs.toArray } (.lst (ns.map V.int)))else none) (λb=>?_) (.inl (.inr ⟨{ cls:=.type "list",data:=.seq vs.toArray },aM rfl⟩)) (λb u z=>?_) (λb z=>?_) λ_=>hk
  ·by_cases hb:b=a
   ·exact .inr ⟨_,_,aM hb⟩
   ·exact .inl (aJ hb)
  ·by_cases hb:b=a
   ·have z':=(aM hb).symm.trans z
    cases z'
    subst hb;exact⟨ha,by rw[aK];exact hl,vs,_,rv,ha⟩
   ·have z':=(aJ hb).symm.trans z
    cases z'
  ·by_cases hb:b=a
   ·exact hb
   ·exact absurd (aJ hb) z
theorem QM{l:PySem.W.OpenLaw}{n k:Nat}{q:aj}{XP:(Str->Option af)->aq->Prop}{YP:ah->aq->Prop}{d:DefRec}{K:Params->au}{CX:ah->Px}{sp:ah->Sp}{x:Str}
  (hn:l.most=some n) (hn2:n<=sizeLine) (hdf:d.params.defaults=[]) (hr:Room k callerA)
  (hY:∀(w:ah) (h:aq),YP w h->(K w.params).In h)
  (F:∀(w:ah) (mg:Str->Option af) (fa:ak) (h:aq),(K w.params).In h->h.Ns mainGlobals mg->mg d.name=some (.ref fa) ->
   ∃fd:FuncData,(∀(s:aA) (u:af),BindsTo s fd ⟨[u],[]⟩ [(x,u)]) /\
    ∀base:aq,(K w.params).In base->base.Ns mainGlobals mg->FnOk l.prog w (K w.params) mg base (CX w) k fa fd [x] (sp w))
  (hsp:∀(w:ah) (H:Hp) (a:ak) (ns:List Int),ns.length<=n->PX H->oX (K w.params) H a (ns.map V.int)->sp w [.ref a] H (λv _=>v=.bl true) λ_ _ _=>False)
  (hCX:∀(w:ah) (H:Hp) (s:aA) (e:af) (s':aA),CX w [] H s (λ_ _ _=>False) e s'->False) :
  PySem.W.WalkO q loose XP YP l.row.toRowW d [] (λf vs=>PySem.call f vs):=by
 refine Att.D5 hn hdf λw s₀ s₁ mg mb fa o pm cd doc a vs ns G Y ho hd hcd hmg hobj hints hlen hg=>?_;have KX:=hY w _ Y;obtain⟨fd,hb,hF⟩:=F w mg fa _ KX G.T.g hmg;exact LI KX G.T.g G.T.b G.T.builtins G.T.nolimit hg hobj hints (bH hlen hn2) hr hF hb (λH hO hS=>hsp w H a ns hlen hO hS) λH e s'=>hCX w H s₁ e s'
noncomputable def t_ (s:aE):Arguments:=match s with
 | .FunctionDef _ a _ _ _ _ _ _ _ _=>a
 | _=>{ posonlyargs:=[],args:=[],vararg:=none,kwonlyargs:=[],kw_defaults:=[],kwarg:=none,defaults:=[]}
noncomputable def pY (s:aE):List aE:=match s with
 | .FunctionDef _ _ b _ _ _ _ _ _ _=>b
 | _=>[]
noncomputable def jH (s:aE):Scope:=match s with
 | .FunctionDef _ _ _ _ _ _ sc _ _ _=>sc
 | _=>{ kind:=.function,names:=[],isGenerator:=false,isCoroutine:=false }
noncomputable abbrev pQ:Px:=λ_ _ _ _ _ _=>False
noncomputable abbrev E0:XK:=λ_ _ _=>False
theorem WX{X:Cx}:Passes pQ X E0:=λ_ _ _ _ _ _ _ h=>h.elim
structure Fun (K:au)(x qual:Str)(st:aE)(f:ak)(fd:FuncData):Prop where
 ex:∃(oc:af) (od:Option ak) (kV doc pm:af) (an:Option ak) (cdv ct:af) (osl:Array (Option af)),
  fd=PySem.W.fnOf x qual (t_ st) (pY st) (jH st) .none kV doc pm an cdv ct/\K.lookup f=some ⟨oc,od,.func fd,osl⟩/\PySem.W.codeIn K cdv qual=true
 kp:PySem.W.keepIn K (.ref f)=true
section
variable {P:aj}{w:ah}{K:au}{mg:Str->Option af}{base:aq}
theorem Fun.ok{x:Str}{st:aE}{f:ak}{N ps:List Str}{k:Nat}{sp:Sp}(F:Fun K x qual st f fd)(S:FnScope N ps (jH st))(len:∀vs H Q E,sp vs H Q E->vs.length=ps.length)
  (hbody:∀(cdv:af) (A:az) (outer:List Env) (s:aA) (H:Hp) (vs:List V) (Q:VK) (E:XK),Room k (A.deeper (envOfC qual (jH st) s.heap.objs.size f cdv))->sp vs H Q E ->
   ∃t,C8 (Fe pQ P w K mg base N qual (jH st) f cdv A outer s H E).W5 (pY st) t/\t { nx:=λ_ H'=>Q .non H',rt:=Q } (start N vs) H):FnOk P w K mg base pQ (k+1) f fd ps sp:=by
 obtain⟨oc,od,kV,doc,pm,an,cdv,ct,osl,rfl,lk,hcd⟩:=F.ex;refine Yy lk hcd S len λA outer s H vs Q E hr hsp=>?_;obtain⟨t,h,q⟩:=hbody cdv A outer s H vs Q E hr hsp;exact⟨t,h.W5,q⟩
theorem Fun.binds{x:Str}{st:aE}{f:ak}{ps:List Str}(F:Fun K x qual st f fd)
  (h:∀(kV doc pm:af) (an:Option ak) (cdv ct:af) (us:List af),us.length=ps.length->bindArgs (PySem.W.fnOf x qual (t_ st) (pY st) (jH st) .none kV doc pm an cdv ct) ⟨us,[]⟩=pure (ps.zip us)):Binds K fd ps []:=by
 obtain⟨oc,od,kV,doc,pm,an,cdv,ct,osl,rfl,lk,hcd⟩:=F.ex;exact .all (h kV doc pm an cdv ct)
theorem Wt{x:Str}{st:aE}{f:ak}{kV pm ct:af}(l:K.lookup f=some ⟨oc,od,.func (PySem.W.fnOf x qual (t_ st) (pY st) (jH st) .none kV doc pm an cdv ct),osl⟩)
  (c:PySem.W.codeIn K cdv qual=true) (k:PySem.W.keepIn K (.ref f)=true):Fun K x qual st f (PySem.W.fnOf x qual (t_ st) (pY st) (jH st) .none kV doc pm an cdv ct):=⟨⟨oc,od,kV,doc,pm,an,cdv,ct,osl,rfl,l,c⟩,k⟩
end
section
variable {X:Cx}
theorem pv(i:Nat){x:Str}(hN:X.N[i]?=some x:=by rfl)(hv:YJ X.env.scope x:=by first|exact Or.inl rfl|exact Or.inr (Or.inl rfl)|exact Or.inr (Or.inr rfl))(hd:(x == ("__debug__" : Str))=false:=by decide)
  (hcd:(x == ("__classdict__" : Str))=false:=by decide):PE X (.Name x pos) (WV i):=N4 hN hv hd hcd
end
set_option maxHeartbeats 4000000
noncomputable def Wb (σ:St):Option Nat->Option V
 | some j=>(σ[j]?).getD none
 | none=>none
noncomputable def u7 (env:Env):List (Str×NameKind)->List (Str×ak)->List (Str×ak)
 | [],cs=>cs
 | (n,k)::r,cs=>u7 env r (if k == .free then(n,(env.cells.lookup n).getD 0)::cs else cs)
theorem Fy{scope:Scope}{env:Env}(h:∀y∈scope.names,y.2=.free->∃c,env.cells.lookup y.1=some c):closureFor scope env=pure (u7 env scope.names []):=by
 have key:∀(l:List (Str×NameKind)) (cs:List (Str×ak)),(∀y∈l,y.2=.free->∃c,env.cells.lookup y.1=some c) ->
   (forIn l cs (λ(x:Str×NameKind) (r:List (Str×ak))=>(match x with
    | (name,kind)=>if (kind == NameKind.free)=true then(do let c <- cellOf env name;pure (ForInStep.yield ((name,c)::r)))else pure (ForInStep.yield r):Sem (ForInStep (List (Str×ak))))))=(pure (u7 env l cs):Sem (List (Str×ak))):=by
  intro l
  induction l with
  | nil=>intro cs _;rfl
  | cons y r ih=>
   intro cs hl;obtain⟨n,k⟩:=y;rw[gw];by_cases hk:k=.free
   ·subst hk;obtain⟨c,hc⟩:=hl (n,.free) aG rfl;have e1:cellOf env n=pure c:=by
     unfold cellOf;rw[hc]
    simp only[bK,cV,e1,pure_bind];rw[ih _ (λz hz=>hl z (aI _ hz))];simp only[u7,bK,cV,hc,ir]
   ·have hb:(k == NameKind.free)=false:=by simpa using hk
    simp only[hb,bu,bW,pure_bind];rw[ih _ (λz hz=>hl z (aI _ hz))];simp only[u7,hb,bu,bW]
 have:=key scope.names [] h;exact(dg (λz=>z >>= λcs=>(pure cs:Sem (List (Str×ak)))) this).trans (pure_bind _ _)
theorem yy:∀{l:List (Str×NameKind)}{x:Str}{k:NameKind},l.lookup x=some k->(x,k)∈l
 | [],_,_,h=>nomatch h
 | (n,k')::r,x,k,h=>by
  rw[f7]at h
  cases hx:x == n with
  | true=>
   rw[hx]at h;have e:x=n:=by simpa using hx
   subst e
   cases h
   exact aG
  | false=>rw[hx]at h;exact aI _ (yy h)
theorem AK{env:Env}{x:Str}{c:ak}:∀{l:List (Str×NameKind)}{cs:List (Str×ak)},(∀y∈l,y.2=.free->∃c,env.cells.lookup y.1=some c)->(u7 env l cs).lookup x=some c->env.cells.lookup x=some c\/cs.lookup x=some c
 | [],cs,_,h=>.inr h
 | (n,k)::r,cs,hl,h=>by
  have h':=AK (l:=r) (λz hz=>hl z (aI _ hz)) h
  rcases h' with h'|h'
  ·exact .inl h'
  ·by_cases hk:k=.free
   ·subst hk;simp only[bK,cV]at h';obtain⟨c',hc⟩:=hl (n,.free) aG rfl;rw[hc,ir,f7]at h'
    cases hx:x == n with
    | true=>
     rw[hx]at h';have e:x=n:=by simpa using hx
     subst e;left;rw[hc];exact h'
    | false=>rw[hx]at h';exact .inr h'
   ·have hb:(k == NameKind.free)=false:=by simpa using hk
    simp only[hb,bu,bW]at h';exact .inr h'
theorem AH{env:Env}{x:Str}:∀{l:List (Str×NameKind)}{cs:List (Str×ak)},(cs.lookup x).isSome=true->((u7 env l cs).lookup x).isSome=true
 | [],cs,h=>h
 | (n,k)::r,cs,h=>by
  show((u7 env r _).lookup x).isSome=true;refine AH (l:=r) ?_;by_cases hk:(k == NameKind.free)=true
  ·rw[aM hk,f7]
   cases hx:x == n with
   | true=>rfl
   | false=>exact h
  ·rw[aJ hk];exact h
theorem zv{env:Env}{x:Str}:∀{l:List (Str×NameKind)}{cs:List (Str×ak)},(x,NameKind.free)∈l->((u7 env l cs).lookup x).isSome=true
 | [],_,h=>nomatch h
 | (n,k)::r,cs,h=>by
  rcases bB.mp h with e|h
  ·cases e
   show((u7 env r _).lookup x).isSome=true;refine AH (l:=r) ?_;rw[aM (by rfl),f7];simp
  ·exact zv (l:=r) h
noncomputable def pR (X:Cx)(scope:Scope)(N:List Str)(C:ak)(s₀:aA)(H₀:Hp)(ex:List ak):Cx where
 prog:=X.prog
 w:=X.w
 K:=X.K
 mg:=X.mg
 base:=X.base
 A:=X.A
 N:=N
 s₀:=s₀
 H₀:=H₀
 env:=compEnvC scope (u7 X.env scope.names []) C X.env
 outer:=X.stack
 stack:=X.stack
 ex:=ex
 fn:=λ_=>false
 calm:=X.calm
 pn:=[]
 xe:=λ_ _=>False
structure CpScope (X:Cx)(scope:Scope)(N:List Str)(cap:List (Option Nat)):Prop where
 kind:scope.kind=.function
 nocell:∀y∈scope.names,y.2≠.cell
 nm:∀y∈scope.names,y.2=.local->scope.names.lookup y.1=some .local
 fr:∀y∈scope.names,y.2=.free->X.env.kindOf y.1=some .cell\/X.env.kindOf y.1=some .free
 rl:∀y,((relabel scope X.env).names.lookup y=some .cell\/(relabel scope X.env).names.lookup y=some .free)->(y,NameKind.free)∈scope.names
 len:cap.length=N.length
 nolf:∀x,(x,NameKind.free)∈scope.names->scope.names.lookup x≠some .local
 cp:∀(i j:Nat) (x:Str),N[i]?=some x->cap[i]?=some (some j)->X.N[j]?=some x/\(x,NameKind.free)∈scope.names
theorem UW{X:Cx}{N:List Str}{cap:List (Option Nat)}{H:Hp}{s:aA}{fp:List ak}{h₁:aq}{m:Str->Option af}{tk:Nat}(S:CpScope X scope N cap)(I:Inv X pins σ H s)
  (hf:∀b∈fp,wL X pins H b) (ho:∀b∈fp,∃o,s.heap.get? b=some o) (hn:h₁.Ns s.heap.objs.size m) (hk:∀b o,s.heap.get? b=some o->h₁.get? b=some o) :
  Inv (pR X scope N s.heap.objs.size s H fp) [] (cap.map (Wb σ)) H { s with heap:=h₁,toks:=tk }:=by
 have hfree:∀y∈scope.names,y.2=.free->∃c,X.env.cells.lookup y.1=some c:=λy hy e=>I.ok.has _ (S.fr y hy e);have lk:∀x c,(u7 X.env scope.names []).lookup x=some c->X.env.cells.lookup x=some c:=λx c e=>by
  rcases AK hfree e with z|z
  ·exact z
  ·cases z
 have lt:∀b o,s.heap.get? b=some o->b≠s.heap.objs.size:=λb o e=>bE (bf e);refine⟨⟨I.ok.mod,?_,I.ok.glob,I.ok.blt,aO _,?_,?_,?_,I.ok.hd,I.ok.frames,.inl rfl,?_,I.bs,bH I.ok.bsz I.sz,?_,?_,I.stack,I.IS⟩,rfl,I.bare,Un.kept hk,?_,?_,I.hok.fresh (aO _),?_,?_,I.hok.kept hk,?_⟩
 ·exact S.kind
 ·intro x y c e1 e2;exact I.ok.inj x y c (lk x c e1) (lk y c e2)
 ·intro x e;have hm:=S.rl x e;have:=zv (env:=X.env) (cs:=[]) hm;exact eY.mp this
 ·intro x c e _;exact absurd e (by simp[pR])
 ·intro b hb;obtain⟨o,e⟩:=ho b hb;refine⟨lt b o e,λx c e2=>(hf b hb).2.2.2.2.1 x c (lk x c e2)⟩
 ·intro b o e hb;obtain⟨_,_,_,h3,_⟩:=hf b hb
  rcases h3 with z|z
  ·exact I.ok.noex b o e z
  ·exact absurd (bL (bf (I.ok.bs b o e).1) z) (fM _)
 ·intro b hb hz;obtain⟨_,h1,h2,_⟩:=hf b hb
  rcases bB.mp (I.FE b hz)with z|z
  ·exact h1 z
  ·exact h2 z
 ·refine⟨m,hn,λi x v e1 e2 e3=>?_⟩;rw[aP]at e2
  cases hc:cap[i]? with
  | none=>rw[hc]at e2;cases e2
  | some oj=>
   rw[hc]at e2
   cases oj with
   | none=>cases e2
   | some j=>
    have e2':(σ[j]?).getD none=some v:=aZ e2;obtain⟨hj,hm⟩:=S.cp i j x e1 hc;obtain⟨m0,hn0,hl0⟩:=I.loc;have hσ:σ[j]?=some (some v):=by
     cases h:σ[j]? with
     | none=>rw[h]at e2';cases e2'
     | some z=>rw[h,ir]at e2';rw[e2']
    have hkd:=S.fr (x,.free) hm rfl;have hv:YJ X.env.scope x:=.inr hkd;obtain⟨u,ru,lo⟩:=hl0 j x v hj hσ hv;refine⟨u,ru,?_⟩
    rcases lo with⟨lo,_⟩|⟨_,c,ec,ic⟩
    ·rcases hkd with z|z<;>(rw[z]at lo;cases lo)
    ·have h2:=zv (env:=X.env) (cs:=[]) hm;obtain⟨c',hc'⟩:=eY.mp h2;have:c'=c:=aZ ((lk x c' hc').symm.trans ec);subst this;refine .inr ⟨?_,c',hc',?_⟩
     ·rcases e3 with z|z|z
      ·exfalso;have:(relabel scope X.env).names.lookup x=some .local:=z;have hloc:scope.names.lookup x=some .local:=by
        have hmem:∃k,(x,k)∈(relabel scope X.env).names/\k=.local:=by
         clear hc' h2;have:=yy this;exact⟨_,this,rfl⟩
        obtain⟨k,hk1,rfl⟩:=hmem;obtain⟨⟨n',k'⟩,hm1,hm2⟩:=bg.mp hk1;dsimp only at hm2;split at hm2
        ·cases hm2
        ·cases hm2
         exact S.nm (x,.local) hm1 rfl
       exact False.elim (S.nolf x hm hloc)
      ·exact .inl z
      ·exact .inr z
     ·obtain⟨o,ho',hd⟩:=ic;exact⟨o,hk _ _ ho',hd⟩
 ·intro x c e;obtain⟨v,o,ho',hd⟩:=I.cell x c (lk x c e);exact⟨v,o,hk _ _ ho',hd⟩
 ·intro x c e;exact I.freeC x c (lk x c e)
 ·intro p hp
  cases hp
 ·rw[aK,S.len];rfl
noncomputable def WK (X:Cx)(ifs:List aC)(t:TT):Prop:=
 ∀(pins:List (ak×Obj)) (s:aA) (σ:St) (H:Hp) (Q:Bool->Hp->Prop),Inv X pins σ H s->t σ H Q ->
  wpAny (model X.prog X.w) X.A (forIn ifs true λc r=>if r=true then do let ok <- isTrue c X.env (eval c X.env);pure (ForInStep.yield ok)else pure (ForInStep.yield r)) (TP X pins σ Q) X.xe s
noncomputable def Zp:TT:=λ_ H Q=>Q true H
theorem P8{X:Cx}:WK X [] Zp:=λ_ _ _ H _ I h=>wpAny_tests_nil ⟨H,I,h⟩
theorem Ql{X:Cx}{c:aC}{t:TT}(h:PT X c t):WK X [c] t:=λpins s σ H Q I q=>wpAny_tests_one (h pins s σ H Q I q)
noncomputable def Ux (cap:List (Option Nat))(g:TG)(tc:TT)(te:TE)(σ:St)(Q:VK)(J:It)(H1:Hp):Prop:=∀D,H1 D=none ->
 ∃W:Nat->Nat->St->Hp->Prop,(∃m,W 0 m (cap.map (Wb σ)) (upd H1 D (.lst [])))/\∀i m σ' H',W i m σ' H' ->
  (J.stop i H'/\Q (.ref D) H')\/(J.go i H'/\∀x H2,J.yld i H' x H2->g x σ' H2 λσ3 H3=>tc σ3 H3 λb H4=>
   if b=true then te σ3 H4 λy H5=>∃ys,H5 D=some (.lst ys)/\ys.length<sizeLine/\∃m',m'<m/\W (i+1) m' σ3 (upd H5 D (.lst (ys++[y])))
   else ∃m',m'<m/\W (i+1) m' σ3 H4)
noncomputable def YX (cap:List (Option Nat))(wi:TI)(g:TG)(tc:TT)(te:TE):TE:=λσ H Q=>wi σ H (Ux cap g tc te σ Q)
theorem QU{α:Type}{t:Sem α}{Q Q':α->aA->Prop}{A:az}{E:af->aA->Prop}(h:wpAny M A t Q (λ_ _=>False) s)(hQ:∀a s,Q a s->Q' a s):wpAny M A t Q' E s:=
 iO h hQ λ_ _ f=>f.elim
structure TurnG (ok:Cx->Prop)(P:aj)(w:ah)(K:au)(tg:aC)(J:It)(fp:List ak)(it:ak)(tn:Nat->aq->Prop):Prop where
 obj:∀i h,tn i h->∀b∈fp,∃o,h.get? b=some o/\∀v,o.data≠.cell v
 keep:∀i h h',tn i h->(∀b∈fp,∀o,h.get? b=some o->h'.get? b=some o)->tn i h'
 item:∀(X:Cx),X.prog=P->X.w=w->X.K=K->ok X->∀(i:Nat) (pins:List (ak×Obj)) (s:aA) (σ:St) (H:Hp) (E:af->aA->Prop),Inv X pins σ H s->(∀b∈fp,wL X pins H b)->tn i s.heap->J.go i H ->
  wpAny (model P w) X.A (pyNext (.ref it)) (λr s1=>∃u,r=some u /\
   wpAny (model P w) X.A (letOwnedTupleGo tg (.ref it) u) (λ_ s2=>∃x H',Inv X pins σ H' s2/\RelV x u/\J.yld i H x H'/\tn (i+1) s2.heap/\∀b∈fp,H' b=none) E s1) E s
 done:∀(X:Cx),X.prog=P->X.w=w->X.K=K->ok X->∀(i:Nat) (pins:List (ak×Obj)) (s:aA) (σ:St) (H:Hp) (E:af->aA->Prop),Inv X pins σ H s->(∀b∈fp,wL X pins H b)->tn i s.heap->J.stop i H ->
  wpAny (model P w) X.A (pyNext (.ref it)) (λr s1=>r=none/\Inv X pins σ H s1) E s
 self:∀(A:az) (i:Nat) (s:aA) (Q:af->aA->Prop) (E:af->aA->Prop),tn i s.heap->Q (.ref it) s->wpAny (model P w) A (pyIter (.ref it)) Q E s
noncomputable def ZN (ok:Cx->Prop)(X:Cx)(pins:List (ak×Obj))(σ:St)(tg:aC)(R:It->Hp->Prop)(itv:af)(s2:aA):Prop:=
 ∃(it:ak) (fp:List ak) (tn:Nat->aq->Prop) (J:It) (H':Hp),itv=.ref it/\Inv X pins σ H' s2/\TurnG ok X.prog X.w X.K tg J fp it tn/\tn 0 s2.heap/\(∀b∈fp,wL X pins H' b)/\R J H'
noncomputable def Z8 (ok:Cx->Prop)(X:Cx)(tg iter:aC)(wi:TI):Prop:=
 ∀(pins:List (ak×Obj)) (s:aA) (σ:St) (H:Hp) (R:It->Hp->Prop),Inv X pins σ H s->wi σ H R ->
  wpAny (model X.prog X.w) X.A (eval iter X.env) (λv s1=>wpAny (model X.prog X.w) X.A (pyIter v) (ZN ok X pins σ tg R) X.xe s1) X.xe s
theorem PI.g{X:Cx}{iter:aC}{wi:TI}(h:PI X tg iter wi):Z8 (λY=>Y.calm=true) X tg iter wi:=λpins s σ H R I q=>
 m9 (h pins s σ H R I q) λv s1 h1=>m9 h1 λitv s2 ⟨it,fp,tn,J,H',e,I',T,a,b,c⟩=>⟨it,fp,tn,J,H',e,I',⟨T.obj,T.keep,T.item,T.done,T.self⟩,a,b,c⟩
theorem Rz{ok:Cx->Prop}{X:Cx}{use:Option (af->Sem Unit)}{Q':af->aA->Prop}{iter:aC}{N:List Str}{wi:TI}{g:TG}{tc:TT}{te:TE}(S:CpScope X scope N cap)(hok:∀C s₀ H₀ ex,(∀a o u,X.H₀ a=some (.frz o u)->H₀ a=some (.frz o u))->ok (pR X scope N C s₀ H₀ ex))(hi:Z8 ok X tg iter wi)
  (hg:∀C s₀ H₀ ex,PG (pR X scope N C s₀ H₀ ex) tg g) (ht:∀C s₀ H₀ ex,WK (pR X scope N C s₀ H₀ ex) ifs tc) (he:∀C s₀ H₀ ex,PE (pR X scope N C s₀ H₀ ex) elt te)
  (hs:∀x,foldedSetIterable iter X.env x=pure x:=by intro _;rfl):∀(pins:List (ak×Obj)) (s:aA) (σ:St) (H:Hp) (Q:VK),Inv X pins σ H s->YX cap wi g tc te σ H Q ->
  (∀(s6:aA) (C D:ak) (H5:Hp) (m:Str->Option af),s6.heap.Ns C m->wL X pins H5 C->(∀h',Heap.SameBut C s6.heap h'->Inv X pins σ H5 { s6 with heap:=h' })->Q (.ref D) H5->∀v,compPost (model X.prog X.w) X.A X.xe use Q' (.ref D) C (.ok v) s6) ->
  wpAny (model X.prog X.w) X.A (comprehension (.ListComp elt [⟨tg,iter,ifs,0⟩] scope pos) scope X.env (firstIterPos [⟨tg,iter,ifs,0⟩] pos) (newList []) (firstAsync [⟨tg,iter,ifs,0⟩]) (firstIter [⟨tg,iter,ifs,0⟩] X.env) use) Q' X.xe s:=by
 intro pins s σ H Q I h hfin;have hfree:∀y∈scope.names,y.2=.free->∃c,X.env.cells.lookup y.1=some c:=λy hy e=>I.ok.has _ (S.fr y hy e);refine wpAny_comprehension_free (use:=use) rfl hs (Fy hfree) S.kind S.nm (m9 (hi pins s σ H _ I h) λxv s1 h1=>m9 h1 λitv s2 h2=>?_);obtain⟨it,fp,tn,J,H2,rfl,I2,T,st2,f2,h2⟩:=h2;refine cR (wpAny_newFunctionEnv S.nocell (by intro y hy;simp at hy) (λh₁ hns₁ hsb₁=>?_) S.kind);obtain⟨W,⟨m0,w0⟩,turn⟩:=h2 s2.heap.objs.size I2.fresh;dsimp only at hns₁ hsb₁ ⊢;have I3:Inv X pins σ (upd H2 s2.heap.objs.size (.lst [])) { s2 with heap:=s2.heap.push { cls:=.type "list",data:=.seq ([]:List af).toArray }}:=I2.Uu (t':=s2.toks) (its:=[]) .nil (bI _);have hfp:∀b∈fp,∃o,s2.heap.get? b=some o:=λb hb=>by
  obtain⟨o,e,_⟩:=T.obj 0 _ st2 b hb;exact⟨o,e⟩
 have neD:∀b∈fp,b≠s2.heap.objs.size:=λb hb=>by
  obtain⟨o,e⟩:=hfp b hb;exact bE (bf e)
 have f3:∀b∈fp,wL X pins (upd H2 s2.heap.objs.size (.lst [])) b:=λb hb=>⟨by rw[jG (neD b hb)];exact(f2 b hb).1,(f2 b hb).2⟩;have hDC:s2.heap.objs.size≠(s2.heap.push { cls:=.type "list",data:=.seq ([]:List af).toArray }).objs.size:=by rw[ef];exact bE (fC _)
 have old:∀b o,(s2.heap.push { cls:=.type "list",data:=.seq ([]:List af).toArray }).get? b=some o->h₁.get? b=some o:=λb o e=>hsb₁.extBut b o (bE (bf e)) (aQ _ e);have I4:=UW (tk:=s2.toks+([]:List (Str×af)).length) (fp:=fp) S I3 f3 (λb hb=>by
  obtain⟨o,e⟩:=hfp b hb;exact⟨o,aQ _ e⟩) hns₁ old
 have st4:tn 0 h₁:=T.keep _ _ _ st2 λb hb o e=>old b o (aQ _ e);have hc:=hok (s2.heap.push { cls:=.type "list",data:=.seq ([]:List af).toArray }).objs.size { s2 with heap:=s2.heap.push { cls:=.type "list",data:=.seq ([]:List af).toArray }} (upd H2 s2.heap.objs.size (.lst [])) fp λa o u e=>by
  have z:=I2.base.frzs a o u e;rw[jG (λq=>by rw[q,I2.fresh]at z;cases z)];exact z
 have stat:∀{H':Hp},(∀b∈fp,H' b=none)->∀b∈fp,wL (pR X scope N (s2.heap.push { cls:=.type "list",data:=.seq ([]:List af).toArray }).objs.size { s2 with heap:=s2.heap.push { cls:=.type "list",data:=.seq ([]:List af).toArray }} (upd H2 s2.heap.objs.size (.lst [])) fp) [] H' b:=λhn b hb=>by
  have ok:=I4.ok;refine⟨hn b hb,(ok.exf b hb).1,ok.exfs b hb,.inl hb,λx c e=>(ok.exf b hb).2 x c e,λp hp=>nomatch hp⟩
 have loop:∀s4:aA,s4={ s2 with heap:=h₁,toks:=s2.toks+([]:List (Str×af)).length } ->
   codeAny (model X.prog X.w) X.A (.compLoop (.ListComp elt [⟨tg,iter,ifs,0⟩] scope pos) 0 (.ref it) (.ref s2.heap.objs.size) (compEnvC scope (u7 X.env scope.names []) (s2.heap.push { cls:=.type "list",data:=.seq ([]:List af).toArray }).objs.size X.env))
    (compPost (model X.prog X.w) X.A X.xe use Q' (.ref s2.heap.objs.size) (s2.heap.push { cls:=.type "list",data:=.seq ([]:List af).toArray }).objs.size) s4:=by
  rintro s4 rfl;refine codeAny_loop rfl (λn s'=>∃i σ' H',Inv (pR X scope N (s2.heap.push { cls:=.type "list",data:=.seq ([]:List af).toArray }).objs.size { s2 with heap:=s2.heap.push { cls:=.type "list",data:=.seq ([]:List af).toArray }} (upd H2 s2.heap.objs.size (.lst [])) fp) [] σ' H' s'/\tn i s'.heap/\(∀b∈fp,H' b=none)/\W i n σ' H') (λn s5 hI=>?_) m0 ⟨0,_,_,I4,st4,λb hb=>(f3 b hb).1,w0⟩;obtain⟨i,σ5,H5,I5,st5,fr5,w5⟩:=hI;show wpAny _ X.A ((compTurn (.ListComp elt [⟨tg,iter,ifs,0⟩] scope pos) 0 (.ref it) (.ref s2.heap.objs.size) (compEnvC scope (u7 X.env scope.names []) (s2.heap.push { cls:=.type "list",data:=.seq ([]:List af).toArray }).objs.size X.env)).onRaise (λx=>do noteFrame x _;theTreesLotGoes x)) _ _ s5;refine wpAny_noted ?_;rw[compTurn_list];refine aH (wpAny_standAt (aH ?_))
  rcases turn i n σ5 H5 w5 with⟨stop,q⟩|⟨go,step⟩
  ·refine m9 (T.done (pR X scope N (s2.heap.push { cls:=.type "list",data:=.seq ([]:List af).toArray }).objs.size { s2 with heap:=s2.heap.push { cls:=.type "list",data:=.seq ([]:List af).toArray }} (upd H2 s2.heap.objs.size (.lst [])) fp) rfl rfl rfl hc i [] s5 σ5 H5 _ I5 (stat fr5) st5 stop) λr s6 h9=>?_;obtain⟨hr,I6⟩:=h9;subst hr;obtain⟨m6,hn6,_⟩:=I6.loc;refine aS (hfin s6 _ _ H5 m6 hn6 (I3.D7 (aO _) I6.free) (λh' sb=>?_) q _);have u6:=I6.base;have nC:∀b o,(s2.heap.push { cls:=.type "list",data:=.seq ([]:List af).toArray }).get? b=some o->b≠(s2.heap.push { cls:=.type "list",data:=.seq ([]:List af).toArray }).objs.size:=λb o e=>bE (bf e);refine I3.Ym (ch:=fp) I6.os ⟨λb o e n hb hx=>?_,λb o e n hb hx=>?_,λb o e n hx=>?_,λb o e hx=>?_,u6.tups,u6.frzs,u6.tbls⟩ ?_ I6.bare ?_
   ·exact sb.extBut b o (nC b o e) (u6.keep b o e n hb hx)
   ·obtain⟨sl,z⟩:=u6.slot b o e n hb hx;exact⟨sl,sb.extBut b _ (nC b o e) z⟩
   ·exact u6.free b o e n hx
   ·obtain⟨o',z⟩:=u6.there b o e hx;exact⟨o',sb.extBut b _ (nC b o e) z⟩
   ·intro b o e;have hb:∀c v,H5 c=some v->c≠(s2.heap.push { cls:=.type "list",data:=.seq ([]:List af).toArray }).objs.size:=λc v e z=>by
     rw[z]at e;have:=I6.free;rw[show H5 (s2.heap.push { cls:=.type "list",data:=.seq ([]:List af).toArray }).objs.size=none from this]at e
     cases e
    refine(I6.hok b o e).stay (λc v hc q=>sb.extBut c v ?_ q) (λ_ q=>q) λ_ _ q=>q
    rcases hc with z|z
    ·rw[z];exact hb b o e
    ·exact hb c _ z
   ·intro b hb;obtain⟨_,z1,_,z3,z4,z5⟩:=f3 b hb;exact⟨z3,z1,z4,z5⟩
  ·refine m9 (T.item (pR X scope N (s2.heap.push { cls:=.type "list",data:=.seq ([]:List af).toArray }).objs.size { s2 with heap:=s2.heap.push { cls:=.type "list",data:=.seq ([]:List af).toArray }} (upd H2 s2.heap.objs.size (.lst [])) fp) rfl rfl rfl hc i [] s5 σ5 H5 _ I5 (stat fr5) st5 go) λr s6 h9=>?_;obtain⟨u,hr,h6⟩:=h9;subst hr;refine aH (m9 h6 λ_ s7 ⟨x,H7,I7,r7,y7,st7,fr7⟩=>?_);have I7':=I7.pinned (stat fr7) (T.obj _ _ st7);refine aH (QU (hg _ _ _ fp _ s7 σ5 H7 x u _ I7' r7 (step x H7 y7)) λ_ s8 ⟨σ8,H8,I8,q8⟩=>?_);refine aH (QU (ht _ _ _ fp _ s8 σ8 H8 _ I8 q8) λok s9 ⟨H9,I9,q9⟩=>?_);have again:∀{s10:aA} {H10:Hp},Inv (pR X scope N (s2.heap.push { cls:=.type "list",data:=.seq ([]:List af).toArray }).objs.size { s2 with heap:=s2.heap.push { cls:=.type "list",data:=.seq ([]:List af).toArray }} (upd H2 s2.heap.objs.size (.lst [])) fp) ([]++yZ fp s7.heap) σ8 H10 s10->(∃m',m'<n/\W (i+1) m' σ8 H10) ->
     ∃m,m<n/\∃i σ' H',Inv (pR X scope N (s2.heap.push { cls:=.type "list",data:=.seq ([]:List af).toArray }).objs.size { s2 with heap:=s2.heap.push { cls:=.type "list",data:=.seq ([]:List af).toArray }} (upd H2 s2.heap.objs.size (.lst [])) fp) [] σ' H' s10/\tn i s10.heap/\(∀b∈fp,H' b=none)/\W i m σ' H':=λ{s10 H10} I10 h9=>by
    obtain⟨m',hm,w10⟩:=h9;refine⟨m',hm,i+1,σ8,H10,I10.vj,T.keep _ _ _ st7 λb hb o e=>(I10.pin (b,o) (bQ _ (bQ _ (rL hb e)))).1,λb hb=>?_,w10⟩;obtain⟨o,e,d⟩:=T.obj _ _ st7 b hb;exact(I10.pin (b,o) (bQ _ (bQ _ (rL hb e)))).2.1
   cases ok with
   | false=>
    rw[aJ bF]at q9;exact aS ⟨rfl,again I9 q9⟩
   | true=>
    rw[aM rfl]at q9;refine aH (aH (QU (he _ _ _ fp _ s9 σ8 H9 _ I9 q9) λy s10 ⟨v10,H10,I10,r10,ys,hD,hz,w10⟩=>?_));refine aH (QU (Bf _ s10 σ8 H10 (.ref s2.heap.objs.size) [v10] _ [y] (λ_ H'=>H'=upd H10 s2.heap.objs.size (.lst (ys++[v10]))) I10 rfl (.cons r10 .nil) ⟨_,ys,v10,rfl,rfl,hD,hz,rfl⟩) λ_ s11 ⟨_,H11,I11,_,e11⟩=>?_);subst e11;exact aS (aS ⟨rfl,again I11 w10⟩)
 exact codeAny_compStart_list (loop _ rfl) (T.self _ 0 _ _ _ st4 (loop _ rfl))
theorem Vw{ok:Cx->Prop}{X:Cx}{iter:aC}{N:List Str}{wi:TI}{g:TG}{tc:TT}{te:TE}(S:CpScope X scope N cap)(hok:∀C s₀ H₀ ex,(∀a o u,X.H₀ a=some (.frz o u)->H₀ a=some (.frz o u))->ok (pR X scope N C s₀ H₀ ex))(hi:Z8 ok X tg iter wi)
  (hg:∀C s₀ H₀ ex,PG (pR X scope N C s₀ H₀ ex) tg g) (ht:∀C s₀ H₀ ex,WK (pR X scope N C s₀ H₀ ex) ifs tc) (he:∀C s₀ H₀ ex,PE (pR X scope N C s₀ H₀ ex) elt te)
  (hs:∀x,foldedSetIterable iter X.env x=pure x:=by intro _;rfl):PE X (.ListComp elt [⟨tg,iter,ifs,0⟩] scope pos) (YX cap wi g tc te):=by
 intro pins s σ H Q I h;rw[eval_ListComp];exact Rz (use:=none) (Q':=EP X pins σ Q) S hok hi hg ht he hs pins s σ H Q I h λs6 C D H5 m hn fk inv q v=>⟨m,hn,λh' sb=>⟨.ref D,H5,inv h' sb,rfl,q⟩⟩
theorem YH{X:Cx}{iter:aC}{N:List Str}{wi:TI}{g:TG}{tc:TT}{te:TE}(hc:X.calm=true)(S:CpScope X scope N cap)(hi:PI X tg iter wi)
  (hg:∀C s₀ H₀ ex,PG (pR X scope N C s₀ H₀ ex) tg g) (ht:∀C s₀ H₀ ex,WK (pR X scope N C s₀ H₀ ex) ifs tc) (he:∀C s₀ H₀ ex,PE (pR X scope N C s₀ H₀ ex) elt te)
  (hs:∀x,foldedSetIterable iter X.env x=pure x:=by intro _;rfl):PE X (.ListComp elt [⟨tg,iter,ifs,0⟩] scope pos) (YX cap wi g tc te):=
 Vw S (λ_ _ _ _ _=>hc) hi.g hg ht he hs
section
variable {X:Cx}
noncomputable def Pz:List V->List V->Bool
 | [],[]=>true
 | x::xs,y::ys=>PN x y && Pz xs ys
 | _,_=>false
theorem US{xs ys:List V}:∀(n:Nat),n=xs.length->n=ys.length->(List.range n).all (λj=>match xs[j]?,ys[j]? with|some x,some y=>PN x y|_,_=>true)=Pz xs ys:=by
 intro n
 induction n generalizing xs ys with
 | zero=>
  intro h1 h2
  cases xs with
  | nil=>cases ys with
   | nil=>rfl
   | cons y ys=>cases h2
  | cons x xs=>cases h1
 | succ n ih=>
  intro h1 h2
  cases xs with
  | nil=>cases h1
  | cons x xs=>
   cases ys with
   | nil=>cases h2
   | cons y ys=>
    rw[gI,all_cons,gJ];have:=ih (xs:=xs) (ys:=ys) (Nat.succ.inj h1) (Nat.succ.inj h2);show(PN x y && _)=(PN x y && Pz xs ys);rw[<- this];rfl
theorem RK{xs ys:List V}(h:xs.length≠ys.length):Pz xs ys=false:=by
 induction xs generalizing ys with
 | nil=>cases ys with
  | nil=>exact absurd rfl h
  | cons y ys=>rfl
 | cons x xs ih=>cases ys with
  | nil=>rfl
  | cons y ys=>
   show(PN x y && Pz xs ys)=false;rw[ih (λe=>h (by simp[e])),jj]
theorem DG:∀(ns ms:List Int),Pz (ns.map V.int) (ms.map V.int)=decide (ns=ms)
 | [],[]=>rfl
 | [],_::_=>by simp[Pz]
 | _::_,[]=>by simp[Pz]
 | n::ns,m::ms=>by
  show(PN (.int n) (.int m) && Pz (ns.map V.int) (ms.map V.int))=_;rw[DG ns ms];show((n == m) && decide (ns=ms))=_;by_cases h1:n=m<;>by_cases h2:ns=ms<;>simp[h1,h2]
noncomputable def YR (xs ys:List V)(j:Nat):Bool:=match xs[j]?,ys[j]? with|some x,some y=>PN x y|_,_=>true
theorem Ow{A:az}{xs ys:List V}{us ws:List af}(rx:Vals xs us)(ry:Vals ys ws)(fx:xs.all y9=true)(fy:ys.all y9=true) :
  ∀j (h1:j<us.toArray.size) (h2:j<ws.toArray.size),SeqAt.EqAt A s us.toArray[j] ws.toArray[j] (YR xs ys j):=by
 intro j h1 h2;have hx:j<xs.length:=by rw[rx.length];simpa using h1
 have hy:j<ys.length:=by rw[ry.length];simpa using h2
 have e1:xs[j]?=some xs[j]:=aF hx;have e2:ys[j]?=some ys[j]:=aF hy;obtain⟨u,eu,ru⟩:=rx.get e1;obtain⟨w,ew,rw'⟩:=ry.get e2;have fu:y9 xs[j]=true:=d7.mp fx _ (dz hx);have fw:y9 ys[j]=true:=d7.mp fy _ (dz hy);have a1:us.toArray[j]=u:=by
  have:us[j]?=some us.toArray[j]:=by simp at h1;simp[h1]
  rw[eu]at this;exact(aZ this).symm
 have a2:ws.toArray[j]=w:=by
  have:ws[j]?=some ws.toArray[j]:=by simp at h2;simp[h2]
  rw[ew]at this;exact(aZ this).symm
 rw[a1,a2];have e3:YR xs ys j=PN xs[j] ys[j]:=by unfold YR;rw[e1,e2]
 rw[e3];exact V4 ru rw' fu fw
theorem BQ:kh X (.type "range") (λxs H Q=>∃i j,xs=[.int i,.int j]/\∀p,H p=none->Q (.ref p) (upd H p (.rng i j))):=by
 intro pins s σ H xs us Q I r h;obtain⟨i,j,rfl,q⟩:=h;obtain⟨u,w',rfl,⟨t,rfl⟩,⟨t',rfl⟩⟩:=vals2 r;refine call_range_2 ⟨.ref s.heap.objs.size,_,I.laid (o:=.rng i j) (λb o e=>aQ _ e) (aO _) ?_,rfl,q _ I.fresh⟩;exact⟨t,t',s.toks,bA _ rfl⟩
noncomputable def kc (i j:Int):List Int:=(List.range (j-i).toNat).map λk:Nat=>i+(k:Int)
theorem o_(i j:Int):(kc i j).length=(j-i).toNat:=by unfold kc;rw[aK,b_]
theorem zL{i:Int}{n:Nat}{acc:Array af}(h:ItemsOf (λk v=>∃t,v=Value.int (i+(k:Int) * 1) t) acc n):Vals (((List.range n).map λk:Nat=>i+(k:Int)).map V.int) acc.toList:=by
 obtain⟨hs,hv⟩:=h;have gen:∀(l:List af) (b:Nat),(∀j v,l[j]?=some v->∃t,v=Value.int (i+((b+j:Nat):Int)) t)->Vals (((List.range' b l.length).map λk:Nat=>i+(k:Int)).map V.int) l:=by
  intro l
  induction l with
  | nil=>intro b _;exact .nil
  | cons v l ih=>
   intro b hb;rw[bz,List.range'_succ,bC,bC];refine .cons ?_ ?_
   ·obtain⟨t,e⟩:=hb 0 v rfl;exact⟨t,by rw[e];simp⟩
   ·refine ih (b+1) λj w hw=>?_;obtain⟨t,e⟩:=hb (j+1) w hw;exact⟨t,by rw[e,show b+(j+1)=b+1+j by lia]⟩
 have:=gen acc.toList 0 λj v hj=>by
  obtain⟨t,e⟩:=hv j v (by simpa using hj);exact⟨t,by rw[e,cA,Int.mul_one]⟩
 rw[dQ,hs,<- fV]at this;exact this
theorem NZ{i j:Int}:Builtin.Range.rangeSize i j 1=(((j-i).toNat:Nat):Int):=by rw[rangeSize_one];split<;>lia
theorem Ai(hc:X.calm=true):kh X (.type "list") (λxs H Q=>∃p i j,xs=[.ref p]/\H p=some (.rng i j)/\(-(2 ^ 62)<=i/\i<2 ^ 62/\-(2 ^ 62)<=j/\j<2 ^ 62)/\(j-i).toNat<=1000/\∀l,H l=none->Q (.ref l) (upd H l (.lst ((kc i j).map V.int)))):=by
 intro pins s σ H xs us Q I r h;obtain⟨p,i,j,rfl,hp,⟨b1,b2,b3,b4⟩,hn,q⟩:=h;obtain⟨u,rfl,rx⟩:=vals1 r
 cases rx
 obtain⟨t,u',v,e⟩:=I.hok p _ hp;refine call_list_range (n:=(j-i).toNat) (I.ok.hd hc) e (small_one b1 b2 b3 b4) NZ (by lia) λh' tk acc' c' hk hS hacc=>?_;refine⟨.ref s.heap.objs.size,_,I.laid (o:=.lst ((kc i j).map V.int)) hk (aO _) ⟨?_,acc'.toList,c',zL hacc,by rw[hS]⟩,rfl,q _ I.fresh⟩;rw[aK,o_,dY];lia
end
section
variable {X:Cx}
theorem EL{prog:aj}{w:ah}{A:az}{E:af->aA->Prop}{s:aA}{Q:List af->aA->Prop}{r:ak}{a b c:Int}{t v:Tok}{n:Nat}(hh:A.handled=none)(hr:IsRange s.heap r a b c t u v)(hsmall:Builtin.Range.small a b c=true)
  (hn:Builtin.Range.rangeSize a b c=n) (hlen:n<=2 ^ 24)
  (hQ:∀h' tk (acc':Array af),(∀b o,s.heap.get? b=some o->h'.get? b=some o)->ItemsOf (λi v=>∃t,v=.int (a+i * c) t) acc' n->Q acc'.toList { s with heap:=h',toks:=tk }) :
  wpAny (model prog w) A (collect (.ref r)) Q E s:=by
 unfold collect;refine aH (wpAny_runValue (gz F.entry_proto_collect ?_));rw[fW F.plain_proto_collect _];show wpAny _ A.in1 (newList [] >>= λl=>again (.builtin "list.__iadd__" ⟨[l,.ref r],[]⟩)) _ _ s;refine aH (cR ?_);refine aS ⟨plainId_quiet F.plain_list_iadd _,gz F.entry_list_iadd ?_⟩;rw[fW F.plain_list_iadd _];show wpAny _ A.in1 (Builtin.List.listExtendWith (.ref s.heap.objs.size) (.ref r) (.ref s.heap.objs.size)) _ _ _;have hS:(s.heap.push { cls:=.type "list",data:=.seq ([]:List af).toArray }).get? s.heap.objs.size=some { cls:=.type "list",data:=.seq #[] 0 }:=bA _ rfl;have fin':∀(h':aq) (tk:Nat) (acc':Array af) (c':Nat),(∀b o,b≠s.heap.objs.size->(s.heap.push { cls:=.type "list",data:=.seq ([]:List af).toArray }).get? b=some o->h'.get? b=some o) ->
   h'.get? s.heap.objs.size=some { cls:=.type "list",dict:=none,data:=.seq acc' c',slots:=#[]}->ItemsOf (λi v=>∃t,v=.int (a+i * c) t) acc' n ->
   wpAny (model prog w) A (match Value.ref s.heap.objs.size with
   | Value.ref a=>do
    match (<- load a).data with
     | Data.seq xs _=>pure xs.toList
     | _=>unsupported "internal:collect"
   | _=>unsupported "internal:collect") Q E { s with heap:=h',toks:=tk }:=by
  intro h' tk acc' c' hk hS' hacc;show wpAny _ A (load s.heap.objs.size >>= _) _ _ _;refine aH (wpAny_load hS' ?_);refine aS ?_;exact hQ h' tk acc' (λb o e=>hk b o (bE (bf e)) (aQ _ e)) hacc
 refine iO (wpAny_extend_range (A:=A) (R:=λrr s'=>rr=.ok (.ret (.ref s.heap.objs.size))/\∃h' tk acc' c',s'={ s with heap:=h',toks:=tk }/\(∀b o,b≠s.heap.objs.size->(s.heap.push { cls:=.type "list",data:=.seq ([]:List af).toArray }).get? b=some o->h'.get? b=some o) /\
   h'.get? s.heap.objs.size=some { cls:=.type "list",dict:=none,data:=.seq acc' c',slots:=#[]}/\ItemsOf (λi v=>∃t,v=.int (a+i * c) t) acc' n)
  (s:={ s with heap:=s.heap.push { cls:=.type "list",data:=.seq ([]:List af).toArray }}) hh (aQ _ hr) hsmall hn hlen s.heap.objs.size (.ref s.heap.objs.size) 0 hS
  (λh' tk acc' c' hk hS' hacc=>⟨rfl,h',tk,acc',c',rfl,hk,hS',hacc⟩)) (λfin s' h=>?_) (λe s' h=>?_)
 ·cases fin with
  | done f=>
   obtain⟨e,h',tk,acc',c',rfl,hk,hS',hacc⟩:=h
   cases e
   exact fin' h' tk acc' c' hk hS' hacc
  | again c'=>exact⟨h.1,iL h.2 λr s'' hr=>by
    obtain⟨rfl,h',tk,acc',c',rfl,hk,hS',hacc⟩:=hr;exact fin' h' tk acc' c' hk hS' hacc⟩
 ·exact absurd h.1 (by simp)
theorem uq(l:ak){a b:Int}{t v:Tok}{n:Nat}(hsmall:Builtin.Range.small a b 1=true)
  (hn:Builtin.Range.rangeSize a b 1=n) (hlen:n<=1000) :
  Meets (Builtin.«tuple.__new__» ⟨[.type "tuple",.ref l],[]⟩)
   (λA R s=>A.handled=none/\IsRange s.heap l a b 1 t u v/\∀(h':aq) (tk:Nat) (acc':Array af),(∀b o',s.heap.get? b=some o'->h'.get? b=some o')->ItemsOf (λi v=>∃t,v=.int (a+i * 1) t) acc' n->R (.ok (.ret (.ref h'.objs.size))) { s with heap:=h'.push { cls:=.type "tuple",data:=.seq acc' },toks:=tk }):=
 .of_wp λprog w A R s h=>by
  obtain⟨hp,g,d,tk,os⟩:=s;obtain⟨hh,ht,h⟩:=h;have hsub:=sub_tuple_self;have hinit:=init_tuple_lookup;have hmh:=madeHere_tuple;have hT:Shared.TypeIs ⟨hp,g,d,tk,os⟩ (.ref l) "range" := ⟨_,ht,rfl⟩;have hh':A.in1.handled=none:=hh
  wp_walk using cN ht,gK hT,EL (A:=A.in1) hh' ht hsmall hn (by lia)
  intro h' tk' acc' hk hacc;show wpAny _ _ (Builtin.Tuple.tupleExact acc'.toList.toArray >>= λv=>ret v) _ _ _;unfold Builtin.Tuple.tupleExact;have e:acc'.toList.toArray=acc':=by simp
  refine aH (cR ?_ (by show acc'.toList.toArray.size<=sizeLine;rw[e,hacc.1,dY];lia));refine aS ⟨_,rfl,?_⟩;rw[e];exact h h' tk' acc' hk hacc
theorem zw(hc:X.calm=true):kh X (.type "tuple") (λxs H Q=>∃p i j,xs=[.ref p]/\H p=some (.rng i j)/\(-(2 ^ 62)<=i/\i<2 ^ 62/\-(2 ^ 62)<=j/\j<2 ^ 62)/\(j-i).toNat<=1000/\∀l,H l=none->Q (.ref l) (upd H l (.tup ((kc i j).map V.int)))):=by
 intro pins s σ H xs us Q I r h;obtain⟨p,i,j,rfl,hp,⟨b1,b2,b3,b4⟩,hn,q⟩:=h;obtain⟨u,rfl,rx⟩:=vals1 r
 cases rx
 obtain⟨t,u',v,e⟩:=I.hok p _ hp;refine callType_new F.called_tuple (by decide) (F.typeCall_tuple_1 _) (F.newCall_tuple_1 _) (λobj=>F.args_object_init_2 obj _) F.entry_tuple_new
  (uq (n:=(j-i).toNat) p (small_one b1 b2 b3 b4) NZ hn) ⟨I.ok.hd hc,e,λh' tk acc' hk hacc=>⟨⟨_,bA _ rfl,rfl⟩,?_⟩⟩
 have I1:Inv X pins σ H { s with heap:=h',toks:=tk }:=I.kept hk;refine⟨.ref h'.objs.size,_,I1.laid (t':=tk) (o:=.tup ((kc i j).map V.int)) (λb o e=>aQ _ e) (aO _) ⟨?_,acc'.toList,zL hacc,?_⟩,rfl,q _ (I1.hok.fresh (aO _))⟩
 ·rw[aK,o_,dY];lia
 ·have e:acc'.toList.toArray=acc':=by simp
  rw[e];exact pI.new _ _
theorem E8{c:String}:kh X (.builtin "isinstance") (λxs H Q=>∃x t b,xs=[x,.ty c]/\TyOf X.K H x t/\PySem.W.kitOne X.K t (.type c)=some b/\Q (.bl b) H):=by
 intro pins s σ H xs us Q I r h;obtain⟨x,t,b,rfl,ty,e,q⟩:=h;obtain⟨u,w',rfl,rx,rc⟩:=vals2 r
 cases rc
 exact Ku I rx ty e λtk=>⟨.bl b,H,I.tok tk,rfl,q⟩
noncomputable def Wl (K:au):R2:=λx y H Q=>∃a b ys,x=.ref a/\y=.ref b/\mD K H a []/\mD K H b ys/\Q (.ref b) H
theorem OI:n5 X (binaryOp .Add) (Wl X.K):=by
 intro pins s σ H x y v u Q I rx ry h;obtain⟨a,b,ys,rfl,rfl,h1,h2,q⟩:=h
 cases rx
 cases ry
 obtain⟨us,r1,p1,_⟩:=I.tuple h1;obtain⟨ws,r2,p2,_⟩:=I.tuple h2
 cases r1
 obtain⟨⟨cls,dd,data,sl⟩,ho,hc,n,hd⟩:=id p1;obtain⟨⟨cls2,dd2,data2,sl2⟩,ho2,hc2,n2,hd2⟩:=id p2;simp only at hc hd hc2 hd2;subst hc hd hc2 hd2;exact concat_meets ⟨_,ho,rfl⟩ ⟨_,ho2,rfl⟩ noFill_tuple_add seq_tuple_add gH gE (gh _ _)
   (tuple_addW0 a b _ ws.toArray n n2 dd dd2 sl sl2 (by simp)) ⟨ho,ho2,⟨.ref b,H,I,rfl,q⟩⟩
end
theorem rC:bootBuiltins "len" = some (.builtin "len"):=by decide +kernel
theorem Ul:bootBuiltins "abs" = some (.builtin "abs"):=by decide +kernel
theorem qD:bootBuiltins "sorted" = some (.builtin "sorted"):=by decide +kernel
theorem uA:bootBuiltins "isinstance" = some (.builtin "isinstance"):=by decide +kernel
theorem Vz:bootBuiltins "int" = some (.type "int"):=by decide +kernel
theorem Ru:bootBuiltins "bool" = some (.type "bool"):=by decide +kernel
theorem xS:bootBuiltins "list" = some (.type "list"):=by decide +kernel
theorem u_:bootBuiltins "tuple" = some (.type "tuple"):=by decide +kernel
theorem Ed:bootBuiltins "range" = some (.type "range"):=by decide +kernel
structure Blt (mg:Str->Option af):Prop where
 len:mg "len" = none
 abs:mg "abs" = none
 all:mg "all" = none
 any:mg "any" = none
 max:mg "max" = none
 min:mg "min" = none
 sorted:mg "sorted" = none
 isinstance:mg "isinstance" = none
 int:mg "int" = none
 bool:mg "bool" = none
 str:mg "str" = none
 list:mg "list" = none
 tuple:mg "tuple" = none
 range:mg "range" = none
theorem RC:∀{a b:List Int},a.Perm b->a.Pairwise (·<=·)->b.Pairwise (·<=·)->a=b:=λp ha hb=>
 dD (λx y _ _ h1 h2=>Int.le_antisymm h1 h2) ha hb p
theorem BI(i j:Int):(kc i j).Pairwise (·<=·):=by
 unfold kc;rw[cB];exact List.pairwise_lt_range.imp λh=>by lia
theorem pB(i j:Int):(kc i j).Nodup:=by
 unfold kc;rw[List.Nodup,cB];exact List.pairwise_lt_range.imp λh=>by lia
theorem nq{i j k:Int}:k∈kc i j ↔ i<=k/\k<j:=by
 unfold kc;rw[bg];constructor
 ·rintro⟨a,ha,rfl⟩;have:=cI.mp ha;lia
 ·rintro⟨h1,h2⟩;exact⟨(k-i).toNat,cI.mpr (by lia),by lia⟩
theorem xr:∀{l m:List Int},l.Nodup->(∀x∈l,x∈m)->m.length<=l.length->l.Perm m
 | [],m,_,_,h=>by
  have:m=[]:=dM.mp (Nat.le_zero.mp h);rw[this]
 | a::l,m,nd,hs,hl=>by
  have ha:a∈m:=hs a aG;have nd':=cG.mp nd;have pm:m.Perm (a::m.erase a):=List.perm_cons_erase ha;have ih:=xr (l:=l) (m:=m.erase a) nd'.2 (λx hx=>by
   have hxa:x≠a:=λe=>nd'.1 (e ▸ hx);exact(List.mem_erase_of_ne hxa).mpr (hs x (aI _ hx))) (by
   rw[List.length_erase_of_mem ha];simp only[bz]at hl;lia)
  exact(List.Perm.cons a ih).trans pm.symm
noncomputable def Kn (P:aj)(w:ah)(K:au)(mg:Str->Option af)(base:aq)(k:Nat)(x:Str)(ps:List Str)(sp:Sp):Prop:=
 ∃(f:ak) (fd:FuncData),FnOk P w K mg base pQ k f fd ps sp/\mg x=some (.ref f)/\PySem.W.keepIn K (.ref f)=true/\Binds K fd ps []
theorem YF{X:Cx}{k:Nat}{x:Str}{sp:Sp}{e:aC}{t:TA}{p:Pos}(G:Kn X.prog X.w X.K X.mg X.base k x ps sp)(hr:Room k X.A)(ha:PA X (e::es) t)(hg:Gl X x:=by rfl)
  (hdb:(x == ("__debug__" : Str))=false:=by decide) (hs:starEach (e::es) X.env=(false,eval e X.env)::starEach es X.env:=by rfl) (hplain:(backTo pos (starEach es X.env)).any (·.1)=false:=by rfl) :
  PE X (.Call (.Name x p) (e::es) [] pos) (S_ sp [] E0 t):=by
 obtain⟨f,fd,F,hm,hk,hb⟩:=G;exact Qz F hr hg hm hk hb .nil WX ha hdb hs hplain
noncomputable def yz (XN fs:List Str):List Str->List (Option Nat)->Prop
 | [],[]=>True
 | _::N,none::c=>yz XN fs N c
 | x::N,some j::c=>XN[j]?=some x/\x∈fs/\yz XN fs N c
 | _,_=>False
theorem yz.len{fs:List Str}:∀{N:List Str}{c:List (Option Nat)},yz XN fs N c->c.length=N.length
 | [],[],_=>rfl
 | _::N,none::c,h=>dg (·+1) (yz.len (N:=N) (c:=c) h)
 | _::N,some j::c,h=>dg (·+1) (yz.len (N:=N) (c:=c) h.2.2)
 | [],_::_,h=>h.elim
 | _::_,[],h=>h.elim
theorem yz.cp{fs:List Str}:∀{N:List Str}{c:List (Option Nat)},yz XN fs N c->∀(i j:Nat) (x:Str),N[i]?=some x->c[i]?=some (some j)->XN[j]?=some x/\x∈fs
 | [],[],_,i,j,x,h1,_=>by simp at h1
 | y::N,none::c,h,i,j,x,h1,h2=>by
  cases i with
  | zero=>simp at h2
  | succ i=>exact yz.cp (N:=N) (c:=c) h i j x (by simpa using h1) (by simpa using h2)
 | y::N,some k::c,h,i,j,x,h1,h2=>by
  cases i with
  | zero=>
   simp at h1 h2;subst h1 h2;exact⟨h.1,h.2.1⟩
  | succ i=>exact yz.cp (N:=N) (c:=c) h.2.2 i j x (by simpa using h1) (by simpa using h2)
 | [],_::_,h,_,_,_,_,_=>h.elim
 | _::_,[],h,_,_,_,_,_=>h.elim
theorem zy{X:Cx}{scope:Scope}{N:List Str}(fs:List Str)(kind:scope.kind=.function)(nocell:∀y∈scope.names,y.2≠.cell)(nm:∀y∈scope.names,y.2=.local->scope.names.lookup y.1=some .local)
  (nolf:∀y∈scope.names,y.2=.free->scope.names.lookup y.1≠some .local) (hf:∀y∈scope.names,y.2=.free->y.1∈fs) (hfs:∀x∈fs,(x,NameKind.free)∈scope.names) (hk:∀x∈fs,X.env.kindOf x=some .cell\/X.env.kindOf x=some .free) (cp:yz X.N fs N cap):CpScope X scope N cap where
 kind:=kind
 nocell:=nocell
 nm:=nm
 fr:=λy hy e=>hk _ (hf y hy e)
 rl:=λy h=>by
  have go:∀k,(k=NameKind.cell\/k=NameKind.free)->(relabel scope X.env).names.lookup y=some k->(y,NameKind.free)∈scope.names:=λk hk e=>by
   obtain⟨⟨n',k'⟩,hm1,hm2⟩:=bg.mp (yy e);dsimp only at hm2;split at hm2
   ·rename_i hc
    cases hm2
    have:k'=.free:=by
     simp only[Bool.and_eq_true]at hc;simpa using hc.1.1
    subst this;exact hm1
   ·cases hm2
    rcases hk with rfl|rfl
    ·exact absurd rfl (nocell _ hm1)
    ·exact hm1
  rcases h with h|h
  ·exact go _ (.inl rfl) h
  ·exact go _ (.inr rfl) h
 len:=cp.len
 nolf:=λx hx=>nolf (x,.free) hx rfl
 cp:=λi j x h1 h2=>by
  obtain⟨a,b⟩:=cp.cp i j x h1 h2;exact⟨a,hfs x b⟩
inductive Kd where
 | non|bl|int|str|lst|tup
 deriving DecidableEq
noncomputable def Kd.ty:Kd->af
 | .non=>.type "NoneType" | .bl=>.type "bool" | .int=>.type "int" | .str=>.type "str" | .lst=>.type "list" | .tup=>.type "tuple"
noncomputable def V1 (H:Hp)(x:V):Kd->Prop
 | .non=>x=.non
 | .bl=>∃b,x=.bl b
 | .int=>∃i,x=.int i
 | .str=>∃s,x=.str s
 | .lst=>∃a xs,x=.ref a/\H a=some (.lst xs)
 | .tup=>∃a xs,x=.ref a/\H a=some (.tup xs)
theorem V1.ZT{K:au}{H:Hp}{x:V}{k:Kd}(h:V1 H x k):TyOf K H x k.ty:=by
 cases k with
 | non=>cases h;exact .non
 | bl=>obtain⟨b,rfl⟩:=h;exact .bl b
 | int=>obtain⟨b,rfl⟩:=h;exact .int b
 | str=>obtain⟨b,rfl⟩:=h;exact .str b
 | lst=>obtain⟨a,xs,rfl,e⟩:=h;exact .lst e
 | tup=>obtain⟨a,xs,rfl,e⟩:=h;exact .tup e
theorem QN{K:au}(k:Kd):PySem.W.kitOne K k.ty (.type "int")=some (decide (k=.int\/k=.bl)):=by cases k<;>rfl
theorem Ll{K:au}(k:Kd):PySem.W.kitOne K k.ty (.type "bool")=some (decide (k=.bl)):=by cases k<;>rfl
theorem kit_tuple{K:au}(k:Kd):PySem.W.kitOne K k.ty (.type "tuple")=some (decide (k=.tup)):=by cases k<;>rfl
theorem Lj{K:au}(k:Kd):PySem.W.kitOne K k.ty (.type "list")=some (decide (k=.lst)):=by cases k<;>rfl
section
variable {prog:aj}{w:ah}{A:az}{E:af->aA->Prop}{s:aA}
theorem vP{t:ak}{i:Nat}{x:af}{Q:af->aA->Prop}(hit:s.heap.IsTupleIter it t i)
  (ht:s.heap.IsTuple t items) (hx:items[i]?=some x) (hQ:∀h',h'.IsTupleIter it t (i+1)->Heap.SameBut it s.heap h'->Q x { s with heap:=h' }) :
  wpAny (model prog w) A (Builtin.SmallTypes.nextOf (.ref it)) Q E s:=by
 obtain⟨o,ho,hc,hd⟩:=id hit;obtain⟨ol,hol,_,nl,hdl⟩:=ht;unfold Builtin.SmallTypes.nextOf;refine aH (dh (name:=Str.ofString "__next__") hit.typeIs eg
  (cO eg hit.typeIs F.entry_tuple_iterator_next ?_ (F.args_tuple_iterator_next_1 _)))
 show wpAny _ _ (field (.ref it) 0 >>= _) _ _ s;refine aH (gF ho hd (x:=.ref t) rfl ?_);show wpAny _ _ (if (Value.ref t == Value.none)=true then _ else _) _ _ s;rw[aJ (show ¬((Value.ref t == Value.none)=true)from bF)];show wpAny _ _ (field (.ref it) 1 >>= _) _ _ s;refine aH (gF ho hd (x:=.int i 0) rfl ?_);show wpAny _ _ (seqItems? (.ref t) >>= _) _ _ s;refine aH (iS hol hdl ?_);simp only[c7,hx];refine aH (gM ho hd (by simp) (aS ⟨x,rfl,aS (hQ _ ?_ (fq ..))⟩));exact⟨_,fO _ ho (gZ (eB hd _)),(iY ..).trans hc,by
  rw[eB hd];simp[rawInt]⟩
theorem wD{t:ak}{i:Nat}{Q:af->aA->Prop}(hh:A.handled=none)
  (hit:s.heap.IsTupleIter it t i) (ht:s.heap.IsTuple t items) (hx:items[i]?=none)
  (hE:∀h' e,Heap.ExtBut it s.heap h'->(∃o,h'.get? e=some o/\o.cls=.type "StopIteration")->E (.ref e) { s with heap:=h' }) :
  wpAny (model prog w) A (Builtin.SmallTypes.nextOf (.ref it)) Q E s:=by
 obtain⟨o,ho,hc,hd⟩:=id hit;obtain⟨ol,hol,_,nl,hdl⟩:=ht;unfold Builtin.SmallTypes.nextOf;refine aH (dh (name:=Str.ofString "__next__") hit.typeIs eg
  (cO eg hit.typeIs F.entry_tuple_iterator_next ?_ (F.args_tuple_iterator_next_1 _)))
 show wpAny _ _ (field (.ref it) 0 >>= _) _ _ s;refine aH (gF ho hd (x:=.ref t) rfl ?_);show wpAny _ _ (if (Value.ref t == Value.none)=true then _ else _) _ _ s;rw[aJ (show ¬((Value.ref t == Value.none)=true)from bF)];show wpAny _ _ (field (.ref it) 1 >>= _) _ _ s;refine aH (gF ho hd (x:=.int i 0) rfl ?_);show wpAny _ _ (seqItems? (.ref t) >>= _) _ _ s;refine aH (iS hol hdl ?_);simp only[c7,hx];refine aH (eE (aH (gM ho hd (by simp) ?_)));show wpAny _ _ (newExc (.type "StopIteration") [] >>= _) _ _ _;refine aH ?_;simp only[newExc,newTuple];refine aH (cR ?_ (by size_fits));refine aH (m:=firstArgMember _ _) (iA (a:=Value.none) (by first|rfl|(simp only[firstArgMember];rfl)) ?_);refine cR ?_ (by size_fits);simp only[raiseNew];refine aH (wpAny_handled ?_)
 first|rw[show A.in1.handled=none from hh]|rw[hh]
 refine aH (aS (wpAny_throw ?_));exact hE _ _ (((fq ..).extBut.push _).push _) ⟨_,bA _ rfl,rfl⟩
end
theorem Nu{prog:aj}{w:ah}{A:az}(hh:A.handled=none)(it l:ak)(hne:l≠it)(items:Array af) :
  Draws prog w A it [it,l] items.size (λi v=>items[i]?=some v) (λi h=>h.IsTupleIter it l i/\h.IsTuple l items) where
 live:=λ_ _ st=>let⟨o,ho,_⟩:=st.1;⟨o,ho⟩
 frame:=λ_ _ _ st hk=>⟨st.1.at λo e=>hk it (by simp) o e,let⟨o,ho,r⟩:=st.2;⟨o,hk l (by simp) o ho,r⟩⟩
 item:=λi s Q E hi st hQ=>by
  refine vP st.1 st.2 (x:=items[i]) (by simp[hi]) λh' hit' hs'=>?_;exact hQ _ h' s.toks (by simp[hi]) ⟨hit',let⟨o,ho,r⟩:=st.2;⟨o,hs'.extBut l o hne ho,r⟩⟩ hs'
 done:=λs Q E st hE=>wD hh st.1 st.2 (by simp) hE
theorem ET(l:ak)(items:Array af) :
  Meets (Builtin.«enumerate.__new__» ⟨[.type "enumerate",.ref l],[]⟩) (λ_ R s=>s.heap.IsTuple l items /\
   R (.ok (.ret (.ref (s.heap.push { cls:=.type "tuple_iterator",data:=.fields #[.ref l,.int 0 0]}).objs.size)))
    { s with heap:=(s.heap.push { cls:=.type "tuple_iterator",data:=.fields #[.ref l,.int 0 0]}).push { cls:=.type "enumerate",data:=.fields #[.none,.bool false,.ref s.heap.objs.size,rawInt 0,.none,.none]}}):=
 .of_wp λprog w A R s h=>by
  obtain⟨hp,g,d,tk,os⟩:=s;obtain⟨hl,h⟩:=h;have hsub:=sub_enumerate;obtain⟨ol,hol,hcl,nl,hdl⟩:=id hl
  wp_walk using cN hol
  refine wpAny_stack_any λst=>aS ?_;split
  ·rename_i c _ _ _ _ _
   cases(c == Value.type "enumerate")
   ·wp_walk using cN hol,gA hl
    exact⟨_,rfl,h⟩
   ·wp_walk using cN hol,gA hl
    exact⟨_,rfl,h⟩
  ·wp_walk using cN hol,gA hl
   exact⟨_,rfl,h⟩
noncomputable def Ite (K:au)(a:ak):It:=
 ⟨λi H=>∃xs x,mD K H a xs/\xs[i]?=some x,λi H x H'=>∃T,H T=none/\x=.ref T/\∀xs y,mD K H a xs->xs[i]?=some y->H'=upd H T (.tup [.int i,y]),λi H=>∃xs,mD K H a xs/\xs.length=i⟩
theorem FZ{P:aj}{w:ah}{K:au}(a e it:ak)(hei:e≠it):Turn P w K (.Tuple elts x1 tpos) (Ite K a) [e,it] e (λi h=>(∃old,IsEnum h e it i old)/\h.IsTupleIter it a i) where
 mem:=by simp
 obj:=λi h st b hb=>by
  obtain⟨⟨old,st1⟩,st2⟩:=st;have hb':b=e\/b=it:=by simpa using hb
  rcases hb' with rfl|rfl
  ·exact⟨_,st1,λv z=>by cases z⟩
  ·obtain⟨o,e,c,d⟩:=st2;exact⟨o,e,λv z=>by rw[d]at z;cases z⟩
 keep:=λi h h' st k=>by
  obtain⟨⟨old,st1⟩,st2⟩:=st;exact⟨⟨old,k e (by simp) _ st1⟩,st2.at λo ho=>k it (by simp) o ho⟩
 item:=by
  intro X hP hw hK hc i pins s σ H E I hf st hg;subst hP hw hK;obtain⟨⟨old,st1⟩,st2⟩:=st;obtain⟨xs,x,hq,hx⟩:=hg;obtain⟨its,rv,p,hz⟩:=I.tuple hq;obtain⟨u,hu,ru⟩:=rv.get hx;have hia:a≠it:=by
   obtain⟨o,ho,hc1,_⟩:=p;obtain⟨o2,ho2,hc2,_⟩:=st2;intro z;rw[z,ho2]at ho
   cases ho
   rw[hc1]at hc2;exact absurd (Value.type.inj hc2) (by decide)
  have hea:e≠a:=by
   obtain⟨o,ho,hc1,_⟩:=p;intro z;rw[<- z,st1]at ho
   cases ho
   exact absurd (Value.type.inj hc1) (by decide)
  have hlt:i<its.toArray.size:=by
   rw[a_];exact(aN.mp hu).1
  refine wpAny_pyNext_enum_itemD (Nu (A:=X.A.in1) (I.ok.hd hc) it a hia its.toArray) st1 ⟨st2,p⟩ hlt hei (by simp[hei,hea]) λx' h' tk hP hout hst hT hsz hk=>?_;have ex:x'=u:=by
   have:its.toArray[i]?=some u:=by simpa using hu
   rw[this]at hP;exact(aZ hP).symm
  subst ex;refine⟨_,rfl,wpAny_letOwnedTupleGo_enum hout λh2 he2 hs2=>?_⟩;have fT:H s.heap.objs.size=none:=I.hok.fresh (aO _);have hel:e<s.heap.objs.size:=bf st1;have hil:it<s.heap.objs.size:=by obtain⟨o,ho,_⟩:=st2;exact bf ho
  have k2:∀b o,b≠e->b≠it->s.heap.get? b=some o->h2.get? b=some o:=λb o h1 h3 q=>hs2.extBut b o h1 (hk b o h1 h3 q);have hT2:h2.get? s.heap.objs.size=some { cls:=.type "tuple",data:=.seq #[.int i tk,x']}:=hs2.extBut _ _ (ne_of_gt hel) hT;obtain⟨e0,e1,e2,e3,e4,e5⟩:=hf e (by simp);obtain⟨i0,i1,i2,i3,i4,i5⟩:=hf it (by simp);have nT:∀b o,s.heap.get? b=some o->b≠s.heap.objs.size:=λb o q=>bE (bf q);have ne_tr:∀c v,H c=some v->c≠e/\c≠it:=λc v q=>⟨(λz=>by rw[z,e0]at q;cases q),(λz=>by rw[z,i0]at q;cases q)⟩;have I2:Inv X pins σ (upd H s.heap.objs.size (.tup [.int i,x])) { s with heap:=h2,toks:=tk+1 }:=by
   refine I.step (g':=s.gens) (d':=s.drawn) (ch:=[e,it]) (λb hb=>?_) (λb o _ _ hch q _=>?_) (λb o _ _ hch q _=>?_) (λb o hch q n=>?_) (λb o hch q=>?_) (λb ys q=>?_) (λb o u' q=>?_) (λb ps q=>?_) (λm hm=>?_) (λb u' q=>?_) I.bare
   ·have hb':b=e\/b=it:=by simpa using hb
    rcases hb' with rfl|rfl
    ·exact⟨e3,e1,e4,e5⟩
    ·exact⟨i3,i1,i4,i5⟩
   ·exact k2 b o (λz=>hch (by simp[z])) (λz=>hch (by simp[z])) q
   ·exact⟨o.slots,k2 b o (λz=>hch (by simp[z])) (λz=>hch (by simp[z])) q⟩
   ·rw[jG (nT b o q)];exact n
   ·exact⟨o,k2 b o (λz=>hch (by simp[z])) (λz=>hch (by simp[z])) q⟩
   ·rw[jG (jN q fT)];exact q
   ·rw[jG (jN q fT)];exact q
   ·exact⟨#[],by rw[jG (jN q fT),q];simp⟩
   ·obtain⟨o,es,ep,ho,r⟩:=hm;exact⟨o,es,ep,k2 _ o (c6 e1) (c6 i1) ho,r⟩
   ·by_cases z:b=s.heap.objs.size
    ·subst z;rw[kJ]at q
     cases q
     exact⟨by show 2<=sizeLine;decide,[.int i tk,x'],.cons ⟨tk,rfl⟩ (.cons ru .nil),⟨_,hT2,rfl,rfl,0,rfl⟩⟩
    ·rw[jG z]at q;refine(I.hok b u' q).stay (λc v hc q'=>k2 c v ?_ ?_ q') (λc q'=>?_) λc ys q'=>?_
     ·rcases hc with z|z
      ·rw[z];exact(ne_tr b u' q).1
      ·exact(ne_tr c _ z).1
     ·rcases hc with z|z
      ·rw[z];exact(ne_tr b u' q).2
      ·exact(ne_tr c _ z).2
     ·rw[jG (jN q' fT)];exact q'
     ·rw[jG (jN q' fT)];exact q'
  refine⟨.ref s.heap.objs.size,_,I2,rfl,⟨s.heap.objs.size,fT,rfl,λys y hy hyi=>?_⟩,⟨⟨x',by simpa using he2⟩,?_⟩,λb hb=>?_⟩
  ·rw[I.xg hy hq]at hyi;rw[hx]at hyi
   cases hyi
   rfl
  ·exact hst.1.at λo ho=>hs2.extBut it o (c6 hei) ho
  ·have hb':b=e\/b=it:=by simpa using hb
   rcases hb' with rfl|rfl
   ·rw[jG (bE hel)];exact e0
   ·rw[jG (bE hil)];exact i0
 done:=by
  intro X hP hw hK hc i pins s σ H E I hf st hg;subst hP hw hK;obtain⟨⟨old,st1⟩,st2⟩:=st;obtain⟨xs,hq,hx⟩:=hg;obtain⟨its,rv,p,hz⟩:=I.tuple hq;obtain⟨i0,i1,i2,i3,i4,i5⟩:=hf it (by simp);have hia:a≠it:=by
   obtain⟨o,ho,hc1,_⟩:=p;obtain⟨o2,ho2,hc2,_⟩:=st2;intro z;rw[z,ho2]at ho
   cases ho
   rw[hc1]at hc2;exact absurd (Value.type.inj hc2) (by decide)
  have hl:=rv.length;have ei:its.toArray.size=i:=by rw[a_,<- hl,hx]
  exact wpAny_pyNext_enum_endD (Nu (A:=X.A.in1) (I.ok.hd hc) it a hia its.toArray) st1 ⟨by rw[ei];exact st2,p⟩ λh' eb=>⟨rfl,I.turned (t':=s.toks) (λb o hb q=>eb b o hb q) i0 i1 i3 i4 i5⟩
 self:=λ_ _ _ _ _ st h=>let⟨⟨_,st1⟩,_⟩:=st;wpAny_pyIter_enum st1 h
theorem BH:bootBuiltins "enumerate" = some (.type "enumerate"):=by decide +kernel
section
variable {X:Cx}
noncomputable def YB (K:au)(ta:TA):TI:=λσ H R=>ta σ H λvs H1=>∃a xs,vs=[.ref a]/\mD K H1 a xs/\R (Ite K a) H1
theorem LF{a:aC}{ta:TA}{p:Pos}(hg:Gl X "enumerate")(hm:X.mg "enumerate" = none)(ha:PA X [a] ta)(hs:starEach [a] X.env=[(false,eval a X.env)]:=by rfl):PI X (.Tuple elts x1 tpos) (.Call (.Name "enumerate" p) [a] [] pos) (YB X.K ta):=by
 intro pins s σ H R I h;refine Call_ (uH I hg hm BH (dj (m9 (ha pos pins s σ H _ I h) λus s1 ⟨vs,H1,I1,r1,q1⟩=>?_) hs rfl));obtain⟨t,xs,e,hq,q⟩:=q1;subst e;obtain⟨u,rfl,rx⟩:=vals1 r1
 cases rx
 obtain⟨its,rv,pt,hz⟩:=I1.tuple hq;refine callType_new F.called_enumerate (by decide) (F.typeCall_enumerate_1 _) (F.newCall_enumerate_1 _) (λobj=>F.args_object_init_2 obj _) F.entry_enumerate_new (ET t its.toArray) ⟨pt,⟨_,bA _ rfl,rfl⟩,?_⟩;have I2:Inv X pins σ H1 { s1 with heap:=s1.heap.push { cls:=.type "tuple_iterator",data:=.fields #[.ref t,.int 0 0]}}:=I1.kept (t':=s1.toks) λb o e=>aQ _ e;have I3:Inv X pins σ H1 { s1 with heap:=(s1.heap.push { cls:=.type "tuple_iterator",data:=.fields #[.ref t,.int 0 0]}).push { cls:=.type "enumerate",data:=.fields #[.none,.bool false,.ref s1.heap.objs.size,rawInt 0,.none,.none]}}:=I2.kept (t':=s1.toks) λb o e=>aQ _ e;have he:IsEnum ((s1.heap.push { cls:=.type "tuple_iterator",data:=.fields #[.ref t,.int 0 0]}).push { cls:=.type "enumerate",data:=.fields #[.none,.bool false,.ref s1.heap.objs.size,rawInt 0,.none,.none]}) (s1.heap.push { cls:=.type "tuple_iterator",data:=.fields #[.ref t,.int 0 0]}).objs.size s1.heap.objs.size 0 .none:=bA _ rfl;have hit:((s1.heap.push { cls:=.type "tuple_iterator",data:=.fields #[.ref t,.int 0 0]}).push { cls:=.type "enumerate",data:=.fields #[.none,.bool false,.ref s1.heap.objs.size,rawInt 0,.none,.none]}).IsTupleIter s1.heap.objs.size t 0:=⟨_,aQ _ (bA _ rfl),rfl,rfl⟩;have hne:(s1.heap.push { cls:=.type "tuple_iterator",data:=.fields #[.ref t,.int 0 0]}).objs.size≠s1.heap.objs.size:=by rw[ef];exact ne_of_gt (fC _)
 refine wpAny_pyIter_enum he ⟨_,[_,s1.heap.objs.size],_,_,H1,rfl,I3,FZ t _ s1.heap.objs.size hne,⟨⟨.none,he⟩,hit⟩,λb hb=>?_,q⟩;have hb':b=(s1.heap.push { cls:=.type "tuple_iterator",data:=.fields #[.ref t,.int 0 0]}).objs.size\/b=s1.heap.objs.size:=by simpa using hb
 rcases hb' with rfl|rfl
 ·exact I1.D7 (by rw[ef];exact Nat.le_succ _) (I2.hok.fresh (aO _))
 ·exact I1.D7 (aO _) (I1.hok.fresh (aO _))
end
end L2
namespace L2
open PySem PySem.Spec PyProof.Rows
open PySem.SeqAt
open PySem.AutoSeq1 (wpAny_loadPart')
open PySem.MeetsSeq PySem.MeetsSeq2 PySem.MeetsSeq3 PySem.SeqAt
section
variable {X:Cx}
theorem O9:n5 X (binaryOp .FloorDiv) (rI (λ_ j=>0<j/\j<18446744073709551616) λi j=>.int (i / j)):=YT λi j _ _ _ _ _ hc q=>by
 have h1:(0:Int)<j:=hc.1;have h2:j<18446744073709551616:=hc.2;refine floordiv_int (by lia) (by rw[Int.fdiv_eq_ediv_of_nonneg i (by lia)];exact q) (.inl (PyProof.noPylong_of_log2 ?_));exact bL ((Nat.log2_lt (by lia)).mpr (show j.natAbs<2 ^ 64 by lia)) (by decide)
end
end L2
namespace L2
open PySem PySem.Spec PyProof.Rows
noncomputable def Zb (x:Str):It:=⟨λi _=>i<x.cps.size,λi H v H'=>H'=H/\∃c,x.cps[i]?=some c/\v=.str ⟨#[c]⟩,λi _=>i=x.cps.size⟩
theorem Pj{P:aj}{w:ah}{K:au}(x:Str)(t:Tok)(it:ak):Turn P w K tg (Zb x) [it] it (λi h=>h.IsStrIter it "str_ascii_iterator" x t i) where
 mem:=by simp
 obj:=λi h st b hb=>by
  have e:b=it:=by simpa using hb
  subst e;obtain⟨o,e,c,d⟩:=st;exact⟨o,e,λv z=>by rw[d]at z;cases z⟩
 keep:=λi h h' st k=>let⟨o,ho,r⟩:=st;⟨o,k it (by simp) o ho,r⟩
 item:=by
  intro X hP hw hK hc i pins s σ H E I hf st hg;subst hP hw hK;obtain⟨f0,f1,f2,f3,f4,f5⟩:=hf it (by simp);have W:=Walks.strAscii (prog:=X.prog) (w:=X.w) (I.ok.hd hc) it x t;refine W.item i s _ _ hg st λv h' tk hv st' kk=>?_;obtain⟨c,u,hcx,rfl⟩:=hv;have I1:Inv X pins σ H { s with heap:=h',toks:=tk }:=I.turned (λb o hb e=>kk b o (by simpa using hb) e) f0 f1 f3 f4 f5;obtain⟨o,e,cc,d⟩:=id st';exact⟨_,rfl,EM (s:={ s with heap:=h',toks:=tk }) e cc d (by decide) ⟨.str ⟨#[c]⟩,H,I1,⟨u,rfl⟩,⟨rfl,c,hcx,rfl⟩,st',λb hb=>(hf b hb).1⟩⟩
 done:=by
  intro X hP hw hK hc i pins s σ H E I hf st hg;subst hP hw hK;obtain⟨f0,f1,f2,f3,f4,f5⟩:=hf it (by simp);have hg:i=x.cps.size:=hg;subst hg;have W:=Walks.strAscii (prog:=X.prog) (w:=X.w) (I.ok.hd hc) it x t;exact W.done s _ _ st λh' tk kk=>⟨rfl,I.turned (λb o hb e=>kk b o (by simpa using hb) e) f0 f1 f3 f4 f5⟩
 self:=λ_ _ _ _ _ st h=>wpAny_pyIter_striter_ascii st h
section
variable {X:Cx}{tg:aC}
noncomputable def Zl (tl:TE):TI:=λσ H R=>tl σ H λx H1=>∃y:Str,x=.str y/\y.cps.all (· < 128)=true/\R (Zb y) H1
theorem VN{l:aC}{tl:TE}(hl:PE X l tl):PI X tg l (Zl tl):=by
 intro pins s σ H R I h;refine m9 (hl pins s σ H _ I h) λv s1 h9=>?_;obtain⟨x,H1,I1,r1,q1⟩:=h9;obtain⟨y,e,ha,q⟩:=q1;subst e;obtain⟨t,rfl⟩:=r1;refine wpAny_pyIter_ascii ha ?_;refine⟨s1.heap.objs.size,[s1.heap.objs.size],_,_,H1,rfl,I1.kept (t':=s1.toks) λb o e=>aQ _ e,Pj y t _,⟨_,bA _ rfl,rfl,rfl⟩,λb hb=>?_,q⟩;have e:b=s1.heap.objs.size:=by simpa using hb
 subst e;exact I1.D7 (aO _) (I1.hok.fresh (aO _))
end
section
variable {κ:Type}[DecidableEq κ]
noncomputable def pL (kvs:List (κ×V))(k:κ):Option V:=(kvs.find? λkv=>decide (kv.1=k)).map (·.2)
noncomputable def putK (kvs:List (κ×V))(k:κ)(v:V):List (κ×V):=
 if (kvs.any λkv=>decide (kv.1=k))=true then kvs.map (λkv=>if kv.1=k then(kv.1,v)else kv)else kvs++[(k,v)]
theorem sV{p:κ×V}{r:List (κ×V)}{k:κ}(e:p.1=k):pL (p::r) k=some p.2:=by simp[pL,cH,e]
theorem sL{p:κ×V}{r:List (κ×V)}{k:κ}(e:¬p.1=k):pL (p::r) k=pL r k:=by simp[pL,cH,e]
theorem vp(k:κ):∀kvs:List (κ×V),(kvs.any λkv=>decide (kv.1=k))=(pL kvs k).isSome
 | []=>rfl
 | p::r=>by
  rw[fN];by_cases e:p.1=k
  ·simp only[sV e,bq e,Bool.true_or,iT]
  ·rw[sL e,bw e,gp];exact vp k r
theorem su(kvs:List (κ×V))(k:κ)(v:V):(putK kvs k v).length<=kvs.length+1:=by
 unfold putK;split
 ·rw[aK];lia
 ·rw[aR,bz,bX];lia
theorem v8.xj{o:Option V}{u:Option af}(r:v8 o u):o.isSome=u.isSome:=by
 cases o with
 | none=>cases u with
  | none=>rfl
  | some _=>exact(show False from r).elim
 | some _=>cases u with
  | none=>exact(show False from r).elim
  | some _=>rfl
theorem v8.getD{o:Option V}{u:Option af}(r:v8 o u)(rd:RelV d d'):RelV (o.getD d) (u.getD d'):=by
 cases o with
 | none=>cases u with
  | none=>exact rd
  | some _=>exact(show False from r).elim
 | some _=>cases u with
  | none=>exact(show False from r).elim
  | some _=>exact r
theorem KV.val(r:KV kvs vs)(k:κ):v8 (pL kvs k) (valueAt vs k):=by
 unfold KV at r
 induction r with
 | nil=>exact True.intro
 | @cons p q ps qs h t ih=>
  obtain⟨h1,h2⟩:=h;by_cases e:p.1=k
  ·have e':q.1=k:=h1.symm.trans e;have b:valueAt (q::qs) k=some q.2:=by simp[valueAt,cH,e']
   rw[sV e,b];exact h2
  ·have e':¬q.1=k:=λz=>e (h1.trans z);have b:valueAt (q::qs) k=valueAt qs k:=by simp[valueAt,cH,e']
   rw[sL e,b];exact ih
theorem KV.any{kvs:List (κ×V)}{vs:List (κ×af)}(r:KV kvs vs)(k:κ):(kvs.any λkv=>decide (kv.1=k))=vs.any λkv=>decide (kv.1=k):=by
 unfold KV at r
 induction r with
 | nil=>rfl
 | cons h t ih=>rw[fN,fN,ih,h.1]
theorem KV.repl{kvs:List (κ×V)}{vs:List (κ×af)}(r:KV kvs vs)(k:κ)(ry:RelV y u) :
  KV (kvs.map λkv=>if kv.1=k then(kv.1,y)else kv) (vs.map λkv=>if kv.1=k then(kv.1,u)else kv):=by
 unfold KV at r ⊢
 induction r with
 | nil=>exact .nil
 | @cons p q ps qs h t ih=>
  rw[bC,bC];refine .cons ?_ ih;obtain⟨h1,h2⟩:=h;by_cases e:p.1=k
  ·rw[aM e,aM (h1.symm.trans e)];exact⟨h1,ry⟩
  ·rw[aJ e,aJ (λz=>e (h1.trans z))];exact⟨h1,h2⟩
theorem KV.put(r:KV kvs vs)(k:κ)(ry:RelV y u):KV (putK kvs k y) (stored vs k u):=by
 unfold putK stored;rw[r.any k];by_cases e:(vs.any λkv=>decide (kv.1=k))=true
 ·rw[aM e,aM e];exact r.repl k ry
 ·rw[aJ e,aJ e];exact Paired.snoc r ⟨rfl,ry⟩
theorem KV.length{kvs:List (κ×V)}{vs:List (κ×af)}(r:KV kvs vs):kvs.length=vs.length:=i_ r
end
theorem DM{P:aj}{w:ah}{k:Key}(r:RelV (kV k) u):(j5 P w).is k u=true:=by
 cases k with
 | inl i=>obtain⟨t,e⟩:=(show ∃t,u=Value.int i t from r);subst e;exact DY P w i t
 | inr x=>obtain⟨t,e⟩:=(show ∃t,u=Value.str x t from r);subst e;exact Ep P w x t
theorem Aq{P:aj}{w:ah}:∀{ks:List Key}{us:List af},Vals (ks.map kV) us->ItemsAre (j5 P w) ks us
 | [],_,r=>by rw[f6]at r;cases r;exact .nil
 | k::ks,_,r=>by
  rw[bC]at r
  cases r with
  | cons h t=>exact .cons (DM h) (Aq t)
noncomputable abbrev KT (H:Hp):List (List Key×V)->List (List Key×ak×af)->Prop:=Paired λp q=>p.1=q.1/\H q.2.1=some (.tup (p.1.map kV))/\RelV p.2 q.2.2
theorem KT.val{H:Hp}(r:KT H kvs xs)(k:List Key):v8 (pL kvs k) ((atKey xs k).map (·.2)):=by
 induction r with
 | nil=>exact True.intro
 | @cons p q ps qs h t ih=>
  obtain⟨h1,_,h2⟩:=h;by_cases e:p.1=k
  ·have e':q.1=k:=h1.symm.trans e;have b:atKey (q::qs) k=some q.2:=by simp[atKey,cH,e']
   rw[sV e,b];exact h2
  ·have e':¬q.1=k:=λz=>e (h1.trans z);have b:atKey (q::qs) k=atKey qs k:=by simp[atKey,cH,e']
   rw[sL e,b];exact ih
theorem KT.repl{H:Hp}{kvs:List (List Key×V)}{xs:List (List Key×ak×af)}(r:KT H kvs xs)(k:List Key)(ry:RelV y u) :
  KT H (kvs.map λkv=>if kv.1=k then(kv.1,y)else kv) (xs.map (putAt k u)):=by
 induction r with
 | nil=>exact .nil
 | @cons p q ps qs h t ih=>
  rw[bC,bC];refine .cons ?_ ih;obtain⟨h1,h2,h3⟩:=h;unfold putAt;by_cases e:p.1=k
  ·rw[aM e,aM (h1.symm.trans e)];exact⟨h1,h2,ry⟩
  ·rw[aJ e,aJ (λz=>e (h1.trans z))];exact⟨h1,h2,h3⟩
theorem KT.put{H:Hp}(r:KT H kvs xs)(k:List Key)(hb:H b=some (.tup (k.map kV)))(ry:RelV y u) :
  KT H (putK kvs k y) (storedH xs k b u):=by
 have e:(kvs.any λkv=>decide (kv.1=k))=(atKey xs k).isSome:=by
  rw[vp,(r.val k).xj,gO]
 unfold putK storedH;rw[e];by_cases q:(atKey xs k).isSome=true
 ·rw[aM q,aM q];exact r.repl k ry
 ·rw[aJ q,aJ q];exact Paired.snoc r ⟨rfl,hb,ry⟩
theorem KT.keeps{H H':Hp}(r:KT H kvs xs)(ht:∀b ys,H b=some (.tup ys)->H' b=some (.tup ys)):KT H' kvs xs:=
 Paired.Wy r λ_ _ z=>⟨z.1,ht _ _ z.2.1,z.2.2⟩
section
variable {P:aj}{w:ah}{H:Hp}{h:aq}{a:ak}
theorem SH(ok:uW P w H h)(e:Rd H a u):kK P w H h a u:=e.ok ok
theorem DN{kvs:List (Key×V)}(ok:uW P w H h)(e:Rd H a (.dK kvs)):kvs.length<=sizeLine/\(a == sysModules)=false/\∃vs,KV kvs vs/\h.DictOf (j5 P w) a vs:=
 show kK P w H h a (.dK kvs)from SH ok e
theorem TJ{kvs:List (Key×V)}(ok:uW P w H h)(e:H a=some (.dK kvs)):kvs.length<=sizeLine/\(a == sysModules)=false/\∃vs,KV kvs vs/\h.DictOf (j5 P w) a vs:=DN ok (.inl e)
theorem wk{ks:List Key}(ok:uW P w H h)(e:H a=some (.tup (ks.map kV))):(tupleKind (j5 P w)).is h ks a:=by
 obtain⟨_,its,r,o,h1,h2,_,n,h3⟩:=(show kK P w H h a (.tup (ks.map kV))from ok a _ e);exact⟨o,its.toArray,n,h1,h2,h3,by simpa using Aq r⟩
theorem EE{kvs:List (List Key×V)}(ok:uW P w H h)(e:Rd H a (.dT kvs)):kvs.length<=sizeLine/\(a == sysModules)=false /\
  ∃xs,KT H kvs xs/\h.DictOfH (tupleKind (j5 P w)) a xs:=by
 obtain⟨z,y,xs,r,o,es,ep,h1,h2,h3,h4,h5⟩:=(show kK P w H h a (.dT kvs)from SH ok e);refine⟨z,y,xs,r,o,es,ep,h1,h2,h3,h4,λx hx=>?_,h5⟩;have all:∀{l:List (List Key×V)} {m:List (List Key×ak×af)},KT H l m->∀x∈m,(tupleKind (j5 P w)).is h x.1 x.2.1:=by
  intro l m q
  induction q with
  | nil=>intro x hx;exact nomatch hx
  | @cons p q ps qs hq t ih=>
   intro x hx
   rcases bB.mp hx with e|hx
   ·subst e;exact wk ok (by rw[<- hq.1];exact hq.2.1)
   ·exact ih x hx
 exact all r x hx
theorem Pk{kvs:List (List Key×V)}(ok:uW P w H h)(e:H a=some (.dT kvs)):kvs.length<=sizeLine/\(a == sysModules)=false /\
  ∃xs,KT H kvs xs/\h.DictOfH (tupleKind (j5 P w)) a xs:=EE ok (.inl e)
end
noncomputable def uO (H:Hp)(a:ak)(y:V)(r:Option V):Prop:=
 (∃kvs k,Rd H a (.dK kvs)/\y=kV k/\r=pL kvs k)\/∃kvs k b,Rd H a (.dT kvs)/\y=.ref b/\H b=some (.tup (k.map kV))/\r=pL kvs k
noncomputable def Eb (H:Hp)(a:ak)(y v:V)(H':Hp):Prop:=
 (∃kvs k,H a=some (.dK kvs)/\y=kV k/\kvs.length<sizeLine/\H'=upd H a (.dK (putK kvs k v))) \/
 ∃kvs k b,H a=some (.dT kvs)/\y=.ref b/\H b=some (.tup (k.map kV))/\kvs.length<sizeLine/\H'=upd H a (.dT (putK kvs k v))
theorem uO.k{H:Hp}{a:ak}{k:Key}(e:H a=some (.dK kvs)):uO H a (kV k) (pL kvs k):=.inl ⟨kvs,k,.inl e,rfl,rfl⟩
theorem uO.t{H:Hp}{a:ak}{k:List Key}(e:H a=some (.dT kvs))(eb:H b=some (.tup (k.map kV))):uO H a (.ref b) (pL kvs k):=.inr ⟨kvs,k,b,.inl e,rfl,eb,rfl⟩
theorem Eb.k{H:Hp}{a:ak}{kvs:List (Key×V)}{k:Key}{v:V}(e:H a=some (.dK kvs))(hl:kvs.length<sizeLine):Eb H a (kV k) v (upd H a (.dK (putK kvs k v))):=.inl ⟨kvs,k,e,rfl,hl,rfl⟩
theorem Eb.t{H:Hp}{a:ak}{kvs:List (List Key×V)}{k:List Key}{v:V}(e:H a=some (.dT kvs))(eb:H b=some (.tup (k.map kV)))(hl:kvs.length<sizeLine) :
  Eb H a (.ref b) v (upd H a (.dT (putK kvs k v))):=.inr ⟨kvs,k,b,e,rfl,eb,hl,rfl⟩
section
variable {X:Cx}{pins:List (ak×Obj)}{σ:St}{H:Hp}{s:aA}{a:ak}{y v:V}{u r:af}{o:Option V}{A:az}{E:af->aA->Prop}
theorem Inv.big(I:Inv X pins σ H s):sysModules<s.heap.objs.size:=by
 have h:mainGlobals<s.heap.objs.size:=(I.mod.glob.keeps I.bk).lt;exact lt_trans (by decide) h
theorem Kg{Q:af->aA->Prop}(hu:A.units+1<cLine)(I:Inv X pins σ H s)(g:uO H a y (some v))(ry:RelV y u)(h:∀w' s',Inv X pins σ H s'->RelV v w'->Q w' s') :
  wpAny (model X.prog X.w) A (getItem (.ref a) u) Q E s:=by
 rcases g with⟨kvs,k,e,ey,l⟩|⟨kvs,k,b,e,ey,eb,l⟩
 ·subst ey;obtain⟨z,hd,vs,rel,dd⟩:=DN I.hok e;obtain⟨w',hw,rw'⟩:=v8.some_of (v:=v) (o:=valueAt vs k) (by rw[l];exact rel.val k);exact wpAny_getItem_of (DM ry) dd.mapOf hw (h w' _ (I.tok _) rw')
 ·subst ey
  cases(show u=Value.ref b from ry)
  obtain⟨z,hd,xs,rel,dd⟩:=EE I.hok e;obtain⟨w',hw,rw'⟩:=v8.some_of (v:=v) (o:=(atKey xs k).map (·.2)) (by rw[l];exact rel.val k);obtain⟨p,hp,hp2⟩:=aY.mp hw;refine wpAny_getItem_heap (fJ hu) (wk I.hok eb) dd hp ?_;rw[hp2];exact h w' _ (I.tok _) rw'
theorem RQ{Q:af->aA->Prop}(hu:A.units+1<cLine)(I:Inv X pins σ H s)(g:uO H a y o)(ry:RelV y u)(h:∀s',Inv X pins σ H s'->Q (.bool (!o.isSome)) s') :
  wpAny (model X.prog X.w) A (compareOp .NotIn u (.ref a)) Q E s:=by
 rcases g with⟨kvs,k,e,ey,l⟩|⟨kvs,k,b,e,ey,eb,l⟩
 ·subst ey;obtain⟨z,hd,vs,rel,dd⟩:=DN I.hok e;refine wpAny_notIn_of (DM ry) hd dd.mapOf ?_;rw[<- (rel.val k).xj,<- l];exact h _ (I.tok _)
 ·subst ey
  cases(show u=Value.ref b from ry)
  obtain⟨z,hd,xs,rel,dd⟩:=EE I.hok e;refine wpAny_notIn_heap (fJ hu) (wk I.hok eb) hd dd ?_;have q:=(rel.val k).xj;rw[gO]at q;rw[<- q,<- l];exact h _ (I.tok _)
theorem G6{h':aq}{t':Nat}{ob:HO}(I:Inv X pins σ H s)(mu:Xq (H a))(hs:Heap.SameBut a s.heap h')(he:∃q,h'.get? a=some q)(new:kK X.prog X.w (upd H a ob) h' a ob) :
  Inv X pins σ (upd H a ob) { s with heap:=h',toks:=t' }:=
 I.write (x:=a) (e:=a) mu (.inl rfl) (λb q hb z=>(hs.2 b hb).trans z) he new
theorem Me{P:aj}{w:ah}{H':Hp}{h':aq}{kvs:List (Key×V)}(z:kvs.length<=sizeLine)(hd:(a == sysModules)=false)(rel:KV kvs vs)(dd:h'.DictOf (j5 P w) a vs) :
  kK P w H' h' a (.dK kvs):=⟨z,hd,vs,rel,dd⟩
theorem KP{H':Hp}{Q:Unit->aA->Prop}(hu:A.units+1<cLine)(I:Inv X pins σ H s)(g:Eb H a y v H')(ry:RelV y u)(rv:RelV v r)(h:∀s',Inv X pins σ H' s'->Q () s') :
  wpAny (model X.prog X.w) A (setItem (.ref a) u r) Q E s:=by
 rcases g with⟨kvs,k,e,ey,l,eH⟩|⟨kvs,k,b,e,ey,eb,l,eH⟩
 ·subst ey eH;obtain⟨z,hd,vs,rel,dd⟩:=TJ I.hok e;have hz:vs.length<=sizeLine:=by rw[<- rel.length];exact z
  have hl:(putK kvs k v).length<=sizeLine:=by have:=su kvs k v;lia
  refine wpAny_setItem_pairs (hsz:=hz) (DM ry) dd λh' dd' hs=>h _ ?_;have he:∃q,h'.get? a=some q:=let⟨q,_,_,hq,_⟩:=dd';⟨q,hq⟩
  exact G6 I (by rw[e];exact True.intro) hs he (Me hl hd (rel.put k rv) dd')
 ·subst ey eH
  cases(show u=Value.ref b from ry)
  obtain⟨z,hd,xs,rel,dd⟩:=Pk I.hok e;have hz:xs.length<=sizeLine:=by rw[<- i_ rel];exact z
  have hl:(putK kvs k v).length<=sizeLine:=by have:=su kvs k v;lia
  refine wpAny_setItem_heap (hsz:=hz) (fJ hu) (wk I.hok eb) dd λh' dd' hs=>h _ ?_;obtain⟨q,es,ep,hq,h2,h3,h4,_,h5⟩:=dd';refine G6 I (by rw[e];exact True.intro) hs ⟨q,hq⟩ ⟨hl,hd,_,(rel.put k eb rv).keeps λc ys ec=>?_,q,es,ep,hq,h2,h3,h4,h5⟩;rw[jG (Yd ec e (λz=>nomatch z))];exact ec
end
theorem E3{X:Cx}{H:Hp}{s:aA}{a:ak}(I:Inv X pins σ H s)(g:uO H a y o):s.TypeIs (.ref a) "dict" := by
 rcases g with⟨kvs,k,e,_,_⟩|⟨kvs,k,b,e,_,_,_⟩
 ·obtain⟨_,_,vs,_,dd⟩:=DN I.hok e;exact dd.typeIs
 ·obtain⟨_,_,xs,_,dd⟩:=EE I.hok e;exact dd.typeIs
theorem MU{P:aj}{w:ah}{H:Hp}(h:aq)(hb:sysModules<h.objs.size):kK P w H (h.push { cls:=.type "dict",data:=.dict #[]}) h.objs.size (.dK []):=
 ⟨bI _,fj.mpr (c6 (bE hb)),[],.nil,Heap.DictOf.new h⟩
theorem OO{P:aj}{w:ah}{H:Hp}(h:aq)(hb:sysModules<h.objs.size):kK P w H (h.push { cls:=.type "dict",data:=.dict #[]}) h.objs.size (.dT []):=
 ⟨bI _,fj.mpr (c6 (bE hb)),[],.nil,_,#[],0,bA _ rfl,⟨rfl,rfl,rfl⟩,rfl,rfl,c9⟩
noncomputable def VU:TE:=λ_ H Q=>∀p,H p=none->Q (.ref p) (upd H p (.dK []))
noncomputable def UJ:TE:=λ_ H Q=>∀p,H p=none->Q (.ref p) (upd H p (.dT []))
section
variable {X:Cx}{pos:Pos}
theorem NJ:PE X (.Dict [] [] pos) VU:=λpins s σ H Q I h=>
 wpAny_Dict_empty ⟨.ref s.heap.objs.size,_,I.laid (a:=s.heap.objs.size) (o:=.dK []) (t':=s.toks) (λ_ _ q=>aQ _ q) (aO _) (MU s.heap I.big),rfl,h _ (I.hok.fresh (aO _))⟩
theorem Mj:PE X (.Dict [] [] pos) UJ:=λpins s σ H Q I h=>
 wpAny_Dict_empty ⟨.ref s.heap.objs.size,_,I.laid (a:=s.heap.objs.size) (o:=.dT []) (t':=s.toks) (λ_ _ q=>aQ _ q) (aO _) (OO s.heap I.big),rfl,h _ (I.hok.fresh (aO _))⟩
end
structure M1 (X:Cx)(o:aC)(m:Str)(apos:Pos)(e:aC)(cpos:Pos):Prop where
 base:attributeBase o m X.env (eval o X.env)=eval o X.env
 few:((backTo cpos (starEach [e] X.env)).all (λx=>!x.1) && (backToKw cpos (keywordEach [] X.env)).all (λx=>x.1.isSome)
  && decide (([e]:List aC).length+([]:List Keyword).length+(if ([]:List Keyword).isEmpty then 0 else 1)<30))=true
 line:(apos.endLine == cpos.line)=true
 trees:backTo cpos (starEach [e] X.env)=[(false,eval e X.env)]
structure M2 (X:Cx)(o:aC)(m:Str)(apos:Pos)(e f:aC)(cpos:Pos):Prop where
 base:attributeBase o m X.env (eval o X.env)=eval o X.env
 few:((backTo cpos (starEach [e,f] X.env)).all (λx=>!x.1) && (backToKw cpos (keywordEach [] X.env)).all (λx=>x.1.isSome)
  && decide (([e,f]:List aC).length+([]:List Keyword).length+(if ([]:List Keyword).isEmpty then 0 else 1)<30))=true
 line:(apos.endLine == cpos.line)=true
 trees:backTo cpos (starEach [e,f] X.env)=[(false,eval e X.env),(false,eval f X.env)]
section
variable {X:Cx}{pins:List (ak×Obj)}{σ:St}{H:Hp}{s:aA}{a:ak}{y d:V}{u r:af}{o:Option V}{A:az}{E:af->aA->Prop}
theorem V9{Q:af->aA->Prop}(hu:A.units+1<cLine)(I:Inv X pins σ H s)(g:uO H a y o)(ry:RelV y u)(rd:RelV d r)(h:∀w' s',Inv X pins σ H s'->RelV (o.getD d) w'->Q w' s') :
  wpAny (model X.prog X.w) A (call (.builtin "dict.get") [.ref a,u,r]) Q E s:=by
 rcases g with⟨kvs,k,e,ey,l⟩|⟨kvs,k,b,e,ey,eb,l⟩
 ·subst ey;obtain⟨z,hd,vs,rel,dd⟩:=DN I.hok e;refine call_meetsIn dm dd.typeIs gP (gG _ _ _) (meets_dict_get_default (j5 X.prog X.w) a (DM ry) hd r) ⟨_,dd.mapOf,h _ _ (I.tok _) ?_⟩;rw[l];exact(rel.val k).getD rd
 ·subst ey
  cases(show u=Value.ref b from ry)
  obtain⟨z,hd,xs,rel,dd⟩:=EE I.hok e;refine call_meetsIn dm dd.typeIs gP (gG _ _ _) (meetsH_dict_get_default (tupleKind (j5 X.prog X.w)) a b hd r) ⟨fJ hu,k,xs,wk I.hok eb,dd,h _ _ (I.tok _) ?_⟩;rw[l];exact(rel.val k).getD rd
end
section
variable {X:Cx}
theorem HB(hu:X.A.units+1<cLine):Tz X (λx y H Q=>∃a v,x=.ref a/\uO H a y (some v)/\Q v H):=by
 intro value slice pins s σ H x y v u Q I rx ry h hs;obtain⟨a,z,rfl,g,q⟩:=h
 cases rx
 have hT:=E3 I g;unfold subscriptTail;refine aH ?_;rw[getitemInPython_of_ne hT.not_modules];refine aH (wpAny_specialOf hT PySem.F.slot_dict_getitem.lookup ?_);have fin:wpAny (model X.prog X.w) X.A (subscripted slice false (.ref a) u) (λr s₃=>wpAny (model X.prog X.w) X.A (letTemporaryGo value (.ref a) r >>= λ_=>pure r) (EP X pins σ Q) X.xe s₃) X.xe s:=by
  rw[hs];exact wpAny_operating (Kg hu I g ry λw' s3 I3 rw'=>aH (wpAny_letTemporaryGo (aS ⟨z,H,I3,rw',q⟩)))
 first
  | exact aS (aH fin)
  | exact aH (aS (aH fin))
  | exact aH fin
theorem Kx(hu:X.A.units+1<cLine):n5 X (compareOp .NotIn) (λy x H Q=>∃a o,x=.ref a/\uO H a y o/\Q (.bl (!o.isSome)) H):=by
 intro pins s σ H y x v u Q I ry rx h;obtain⟨a,o,rfl,g,q⟩:=h
 cases rx
 exact RQ hu I g ry λs3 I3=>⟨.bl (!o.isSome),H,I3,rfl,q⟩
theorem set_dict(hu:X.A.units+1<cLine):J7 X (λo i v H Q=>∃a H',o=.ref a/\Eb H a i v H'/\Q H'):=by
 intro pins s σ H o i v ov iv u Q I ro ri rv h;obtain⟨a,H',rfl,g,q⟩:=h
 cases ro
 exact KP hu I g ri rv λs4 I4=>⟨H',I4,q⟩
noncomputable def Yq:V->List V->Hp->VK->Prop:=λx vs H Q=>∃a b ks kvs y,x=.ref a/\vs=[.ref b,y]/\H a=some (.dT kvs)/\H b=some (.tup (ks.map kV))/\Q ((pL kvs ks).getD y) H
theorem Qy(hu:X.A.units+1<cLine):Z_ X "dict.get" Yq:=by
 intro pins s σ H x vs v us Q I rx rv h;obtain⟨a,b,ks,kvs,y,rfl,rfl,ea,eb,q⟩:=h
 cases rx
 cases rv with
 | @cons _ u1 _ LM r1 rv=>
  cases rv with
  | @cons _ u2 _ Dg r2 rv=>
   cases rv
   cases r1
   obtain⟨z,hd,xs,rel,dd⟩:=Pk I.hok ea;refine call_meetsIn dm dd.typeIs gP (gG _ _ _) (meetsH_dict_get_default (tupleKind (j5 X.prog X.w)) a b hd u2) ⟨fJ hu,ks,xs,wk I.hok eb,dd,?_⟩;refine⟨(pL kvs ks).getD y,H,I.tok _,?_,q⟩;have rl:=rel.val ks
   cases e1:pL kvs ks with
   | none=>
    rw[e1]at rl
    cases e2:(atKey xs ks).map (·.2)with
    | none=>exact r2
    | some w'=>rw[e2]at rl;exact rl.elim
   | some w1=>
    rw[e1]at rl
    cases e2:(atKey xs ks).map (·.2)with
    | none=>rw[e2]at rl;exact rl.elim
    | some w'=>rw[e2]at rl;exact rl
end
section
theorem kt_at{H:Hp}:∀{kvs:List (List Key×V)}{xs:List (List Key×ak×af)},KT H kvs xs->kvs.length=xs.length/\∀(i:Nat) (p:List Key×V),kvs[i]?=some p->∃y:List Key×ak×af,xs[i]?=some y/\p.1=y.1/\H y.2.1=some (.tup (p.1.map kV))/\RelV p.2 y.2.2
 | [],[],_=>⟨rfl,λi p h=>by simp at h⟩
 | [],_::_,r=>nomatch r
 | _::_,[],r=>nomatch r
 | a::kvs,b::xs,.cons z r=>by
  obtain⟨l,q⟩:=kt_at r;refine⟨by simp[l],λi p h=>?_⟩
  cases i with
  | zero=>
   have:a=p:=by simpa using h
   subst this;exact⟨b,rfl,z⟩
  | succ i=>exact q i p (by simpa using h)
end
noncomputable def C0 (e:ak)(h:aq):Prop:=∃o vs,h.get? e=some o/\o.data=.fields vs/\vs[2]?=some .none/\o.dict=none
structure Fly (l:List Env)(g:aq)(pn:List (ak×Obj))(H:Hp)(e:ak)(cls:af)(h:aq):Prop where
 ex:∃(B:aq) (a0:af),Heap.FlyingW B l e cls a0 h/\(∀a u,H a=some u->∃o,B.get? a=some o)/\(∀b o,g.get? b=some o->b∉frs l->∃o',B.get? b=some o')/\(∀p∈pn,∃o',B.get? p.1=some o')/\C0 e h
structure Made (X:Cx)(H:Hp)(e:ak)(cls:af)(g:aq)(h:aq):Prop where
 ex:∃(g':aq) (vs:List af),Heap.MadeExcOf g' h e cls vs/\g'.FunFrames X.base X.stack/\(∀a u,H a=some u->∃o,g'.get? a=some o)/\(∀b o,g.get? b=some o->∃o',g'.get? b=some o')/\(∀p∈X.pn,∃o',g'.get? p.1=some o')
noncomputable def VG (X:Cx)(H:Hp)(e:ak)(cls:af)(s':aA):Prop:=Made X H e cls X.s₀.heap s'.heap\/Fly X.stack X.s₀.heap X.pn H e cls s'.heap
section
noncomputable def EX (X:Cx):XK:=λcls _ H'=>X.ex=[]/\∀pins σ' s' e,Inv X pins σ' H' s'->VG X H' e cls s'->X.xe (.ref e) s'
end
inductive FParts (X:Cx):List aC->List (Str ⊕ TE)->Prop
 | nil:FParts X [] []
 | txt {x:Str} {j pos} {es:List aC} {ps:List (Str ⊕ TE)} (h:FParts X es ps):FParts X (.Constant (.str x) j pos::es) (.inl x::ps)
 | val {e:aC} {pos:Pos} {t:TE} {es:List aC} {ps:List (Str ⊕ TE)} (he:PE X e t) (h:FParts X es ps):FParts X (.FormattedValue e (-1) none pos::es) (.inr t::ps)
noncomputable def xu:HO:=.ext λ_=>True
structure XO (C:ak)(o:Obj):Prop where
 cls:o.cls=.ref C
 dict:o.dict=none
 ctx:∃vs,o.data=.fields vs/\vs[2]?=some .none
structure Fr0 (X:Cx)(e:ak):Prop where
 no:∀o,X.s₀.heap.get? e≠some o
 tup:∀xs,X.H₀ e≠some (.tup xs)
 frz:∀o u,X.H₀ e≠some (.frz o u)
 tbl:∀ps,X.H₀ e≠some (.tbl ps)
noncomputable def mroIn (K:au)(C:ak):Option (List af):=match K.lookup C with
 | some ⟨.type "type",_,.cls cd,sl⟩=>(match cd.mro,sl.toList with
  | .ref C'::bm,[_,_,_,_,some (.builtin _),_]=>if C'=C/\cd.hasDel=false then some bm else none
  | _,_=>none)
 | _=>none
structure ClsAt (h:aq)(C:ak)(bm:List af):Prop where
 ex:∃nm q N bs hdct sn sub ab col dd k0 k1 k2 k3 k5 newId,h.get? C=some (excClassObj nm q C N bs bm hdct sn sub ab col dd k0 k1 k2 k3 k5 newId)
open PySem.W in
structure XCls (K:au)(C:ak):Prop where
 ga:findIn K (.ref C) "__getattribute__" = some (some (.builtin "BaseException.__getattribute__"))
 gt:findIn K (.ref C) "__getattr__" = some none
 fc:findObj K C none "__class__" = some (.bind (.builtin "getset_descriptor.__get__") (.builtin "object.__class__"))
 ob:PySem.W.mroIn K C (.type "object")=some true
 bs:subIn K (.ref C) (.type "BaseException")=some true
noncomputable def UY (A:az):az:={ A with handled:=none }
noncomputable def W7 (k:Nat)(A:az):Prop:=Room k (UY A)
structure Hnd (A:az)(H:Hp)(e:ak)(oe:Obj)(C:ak):Prop where
 hh:A.handled=some (.ref e)
 h0:H e=some (.frz oe xu)
 xo:XO C oe
structure FnOkH (P:aj)(w:ah)(K:au)(mg:Str->Option af)(base:aq)(k:Nat)(f:ak)(fd:FuncData)(ps:List Str)(sp:Sp):Prop where
 len:∀vs H Q E,sp vs H Q E->vs.length=ps.length
 run:∀(A:az) (outer:List Env) (s:aA) (H:Hp) (args:Args) (us:List af) (vs:List V) (Q:VK) (e:ak) (oe:Obj) (C:ak),W7 k A->Hnd A H e oe C->Env0 P w K mg base A outer s H->BindsTo s fd args (ps.zip us)->Vals vs us->sp vs H Q E0 ->
  codeAny (model P w) A (.call (.ref f) args) (CR pQ outer P w H s Q E0) s
end L2
namespace L2
open PySem PySem.Spec PyProof.Rows PySem.SeqAt
theorem Eu:bootBuiltins "reversed" = some (.type "reversed"):=by decide +kernel
theorem owner_lri:Manifest.owners.lookup (String.ofList ['r','o','t','a','r','e','t','i','e','s','r','e','v','e','r','_','t','s','i','l'].reverse)=some Manifest.sig_list_reverseiterator:=by kernel_rfl
theorem slot_lri_next:Slot "list_reverseiterator" "__next__" "list_reverseiterator.__next__" :=
 .of (owner := "list_reverseiterator") (n := "__next__") (by rw[iF,fP];kernel_rfl) (by decide +kernel) (by decide +kernel) (by decide +kernel)
  (by first|exact .inl (by decide +kernel)|exact .inr (by decide +kernel)) (by rw[fX];kernel_rfl)
theorem entry_lri_next:entryFor table "list_reverseiterator.__next__" = some Builtin.«list_reverseiterator.__next__»:=entryFor_of_tree (by kernel_rfl)
theorem uv(a:af):argsOk "list_reverseiterator.__next__" ⟨[a],[]⟩:=by
 unfold argsOk;rw[signature?_of (id := "list_reverseiterator.__next__") (n:=['_','_','t','x','e','n','_','_']) (o:=['r','o','t','a','r','e','t','i','e','s','r','e','v','e','r','_','t','s','i','l']) (by kernel_rfl) owner_lri];kernel_rfl
theorem slot_lri_iter:Slot "list_reverseiterator" "__iter__" "list_reverseiterator.__iter__" :=
 .of (owner := "list_reverseiterator") (n := "__iter__") (by rw[iF,fP];kernel_rfl) (by decide +kernel) (by decide +kernel) (by decide +kernel)
  (by first|exact .inl (by decide +kernel)|exact .inr (by decide +kernel)) (by rw[fX];kernel_rfl)
theorem entry_lri_iter:entryFor table "list_reverseiterator.__iter__" = some Builtin.«dict_keyiterator.__iter__»:=
 entryFor_alias (id' := "dict_keyiterator.__iter__") (by kernel_rfl) (by first|rfl|decide +kernel|(unfold String.splitOn;simp +decide [String.splitOnAux])) (by decide +kernel) (by kernel_rfl)
theorem Ae(a:af):argsOk "list_reverseiterator.__iter__" ⟨[a],[]⟩:=by
 unfold argsOk;rw[signature?_of (id := "list_reverseiterator.__iter__") (n:=['_','_','r','e','t','i','_','_']) (o:=['r','o','t','a','r','e','t','i','e','s','r','e','v','e','r','_','t','s','i','l']) (by kernel_rfl) owner_lri];kernel_rfl
theorem uT:Slot "reversed" "__init__" "object.__init__" :=
 .of (owner := "object") (n := "__init__") (by rw[iF,fP];kernel_rfl) (by decide +kernel) (by decide +kernel) (by decide +kernel)
  (by first|exact .inl (by decide +kernel)|exact .inr (by decide +kernel)) (by rw[fX];kernel_rfl)
theorem mro_reversed:mroOf (.type "reversed")=pure [.type "reversed",.type "object"]:=by rw[mroOf_type];kernel_rfl
theorem lookup_reversed_new:typeLookup (.type "reversed") "__new__" = pure (some (.builtin "reversed.__new__")):=by rw[iF,fP];kernel_rfl
theorem xP:TypeCalled "reversed" "reversed.__new__" "object.__init__" :=
 ⟨by decide +kernel,by decide +kernel,⟨_,_,mro_reversed⟩,madeBy_type mro_reversed lookup_reversed_new (by decide +kernel),by decide +kernel,by rw[fX];kernel_rfl,uT⟩
theorem typeCall_reversed_1(a:af):checkTypeCall "reversed" ⟨[a],[]⟩=pure ():=by kernel_rfl
theorem newCall_reversed_1(a:af):checkBuiltinCall "reversed.__new__" ⟨[.type "reversed",a],[]⟩=pure ():=by kernel_rfl
theorem entry_reversed_new:entryFor table "reversed.__new__" = some Builtin.«reversed.__new__»:=entryFor_of_tree (by kernel_rfl)
theorem sub_lri_reversed:isSubtype (.type "list_reverseiterator") (.type "reversed")=pure false:=by rw[fX];kernel_rfl
theorem CN:isSubtype (.type "reversed") (.type "reversed")=pure true:=by rw[fX];kernel_rfl
section
variable {prog:aj}{w:ah}{A:az}{E:af->aA->Prop}{s:aA}
theorem callType_other{Q:af->aA->Prop}(ft:TypeCalled T newId "object.__init__")
  (hct:checkTypeCall T ⟨args,[]⟩=pure ()) (hcn:checkBuiltinCall newId ⟨.type T::args,[]⟩=pure ())
  (entryN:entryFor table newId=some Bn) (g:Meets (Bn ⟨.type T::args,[]⟩) S) (hns:isSubtype (.type T') (.type T)=pure false)
  (h:S A.in1 (wants (λobj s₁=>s₁.TypeIs obj T'/\Q obj s₁) E) s):wpAny (model prog w) A (call (.type T) args) Q E s:=by
 obtain⟨c,tl,hmro⟩:=ft.mro;have hmade:=ft.made;refine wpAny_call (codeAny_of_tree ?_);show wpAny _ _ (callAny (.type T) _) _ _ _;refine aS ⟨Code.quiet_builtin _ (by decide +kernel),gz F.entry_type_call ?_⟩;rw[Around.under_plain (weight_type_call_type T args []) (units_type_call_type T args [])];have h1:=ft.notType;have h2:=ft.canCreate
 repeat (any_goals (first|assumption|wp_step))
 refine iL (codeAny_call_builtin ft.plain entryN (iA hcn (g prog w A.in1 _ s h))) λr s₁ hr=>?_
 cases r with
 | error e=>exact hr
 | ok fl=>
  cases fl with
  | ret obj=>
   obtain⟨hT,hq⟩:=hr
   repeat (any_goals (first|assumption|wp_step))
  | _=>exact hr.elim
end
noncomputable def sC (h:aq)(a l:ak)(i:Int):Prop:=∃o,h.get? a=some o/\o.cls=.type "list_reverseiterator" /\ o.data=.fields #[.ref l,rawInt i]
theorem sC.typeIs{s:aA}{a l:ak}{i:Int}(x:sC s.heap a l i):s.TypeIs (.ref a) "list_reverseiterator" := let⟨o,ho,hc,_⟩:=x;⟨o,ho,hc⟩
theorem sC.at{h h':aq}{a l:ak}{i:Int}(x:sC h a l i)(k:∀o,h.get? a=some o->h'.get? a=some o):sC h' a l i:=let⟨o,ho,r⟩:=x;⟨o,k o ho,r⟩
section
variable {prog:aj}{w:ah}{A:az}{E:af->aA->Prop}{s:aA}
theorem yx{l:ak}{i:Int}{Q:af->aA->Prop}(hz:sC s.heap it l i)(h:Q (.ref it) s):wpAny (model prog w) A (pyIter (.ref it)) Q E s:=by
 refine wpAny_pyIter_slot hz.typeIs slot_lri_iter (cO slot_lri_iter hz.typeIs entry_lri_iter ?_ (Ae _));show wpAny _ _ (ret (.ref it)) _ _ s;exact aS ⟨_,rfl, "list_reverseiterator",_,hz.typeIs,slot_lri_next.lookup,h⟩
theorem xH{l:ak}{i:Nat}{x:af}{Q:Option af->aA->Prop}(hit:sC s.heap it l i)
  (ht:s.heap.IsList l items) (hx:items[i]?=some x) (hQ:∀h',sC h' it l ((i:Int)-1)->Heap.SameBut it s.heap h'->Q (some x) { s with heap:=h' }) :
  wpAny (model prog w) A (pyNext (.ref it)) Q E s:=by
 obtain⟨o,ho,hc,hd⟩:=id hit;obtain⟨ol,hol,_,nl,hdl⟩:=ht;unfold pyNext;refine aH (iy (dh (name:=Str.ofString "__next__") hit.typeIs slot_lri_next
  (cO slot_lri_next hit.typeIs entry_lri_next ?_ (uv _))))
 show wpAny _ _ (field (.ref it) 1 >>= _) _ _ s;refine aH (gF ho hd (x:=rawInt i) rfl ?_);show wpAny _ _ (if (i:Int)<0 then _ else _) _ _ s;rw[aJ (by lia)];show wpAny _ _ (field (.ref it) 0 >>= _) _ _ s;refine aH (gF ho hd (x:=.ref l) rfl ?_);show wpAny _ _ (seqItems? (.ref l) >>= _) _ _ s;refine aH (iS hol hdl ?_);simp only[c7,hx];refine aH (gM ho hd (by simp) (aS ⟨x,rfl,aS (hQ _ ?_ (fq ..))⟩));exact⟨_,fO _ ho (gZ (eB hd _)),(iY ..).trans hc,by
  rw[eB hd];simp[rawInt]⟩
theorem zC{l:ak}{i:Int}{Q:Option af->aA->Prop}(hh:A.handled=none)(hit:sC s.heap it l i)(hi:i<0)
  (hQ:∀h',(∀b o,s.heap.get? b=some o->h'.get? b=some o)->Q none { s with heap:=h' }):wpAny (model prog w) A (pyNext (.ref it)) Q E s:=by
 obtain⟨o,ho,hc,hd⟩:=id hit;unfold pyNext;refine aH (iy (dh (name:=Str.ofString "__next__") hit.typeIs slot_lri_next
  (cO slot_lri_next hit.typeIs entry_lri_next ?_ (uv _))))
 show wpAny _ _ (field (.ref it) 1 >>= _) _ _ s;refine aH (gF ho hd (x:=rawInt i) rfl ?_);show wpAny _ _ (if i<0 then _ else _) _ _ s;rw[aM hi];refine aH (eE ?_);refine aH ?_;show wpAny _ _ (newExc (.type "StopIteration") [] >>= _) _ _ _;refine aH ?_;simp only[newExc,newTuple];refine aH (cR ?_ (by size_fits));refine aH (m:=firstArgMember _ _) (iA (a:=Value.none) (by first|rfl|(simp only[firstArgMember];rfl)) ?_);refine cR ?_ (by size_fits);simp only[raiseNew];refine aH (wpAny_handled ?_)
 first|rw[show A.in1.handled=none from hh]|rw[hh]
 refine aH (aS (wpAny_throw ?_));refine aH (wpAny_isInstance (T := "StopIteration") (b:=true) ⟨_,bA _ rfl,rfl⟩ isSubtype_stop ?_);exact aS (hQ _ λb o e=>aQ _ (aQ _ e))
end
theorem JO(l:ak)(items:Array af)(n:Nat)(dd:Option ak)(sl:Array (Option af)) :
  Meets (Builtin.«list.__reversed__» ⟨[.ref l],[]⟩) (λ_ R s=>s.heap.get? l=some { cls:=.type "list",dict:=dd,data:=.seq items n,slots:=sl }/\R (.ok (.ret (Value.ref s.heap.objs.size))) { s with heap:=s.heap.push { cls:=Value.type "list_reverseiterator",data:=Data.fields #[Value.ref l,rawInt (((items.size:Nat):Int)-1)]},toks:=s.toks }):=
 .of_wp λprog w A R s h=>by obtain⟨hp,g,d,tk,os⟩:=s;obtain⟨hl,h⟩:=h;wp_walk using cN hl;exact⟨_,rfl,h⟩
theorem yQ(l:ak)(items:Array af)(n:Nat)(dd:Option ak)(sl:Array (Option af)) :
  Meets (Builtin.«reversed.__new__» ⟨[.type "reversed",.ref l],[]⟩) (λ_ R s=>s.heap.get? l=some { cls:=.type "list",dict:=dd,data:=.seq items n,slots:=sl } /\
   R (.ok (.ret (.ref s.heap.objs.size))) { s with heap:=s.heap.push { cls:=Value.type "list_reverseiterator",data:=Data.fields #[Value.ref l,rawInt (((items.size:Nat):Int)-1)]}}):=
 .of_wp λprog w A R s h=>by
  obtain⟨hp,g,d,tk,os⟩:=s;obtain⟨hl,h⟩:=h;have hsub:=CN;have hlk:=iB.lookup;have hT:Shared.TypeIs ⟨hp,g,d,tk,os⟩ (.ref l) "list" := ⟨_,hl,rfl⟩
  wp_walk using cN hl,wpAny_specialOf hT hlk
  refine iA (iB.bind (.ref l)) ?_;show wpAny _ _ (if (Value.builtin "list.__reversed__" == Value.none)=true then _ else _) _ _ _;rw[aJ (show ¬((Value.builtin "list.__reversed__" == Value.none)=true)from by decide)];refine aH (eE ?_);show wpAny _ _ (call (.builtin "list.__reversed__") [.ref l] >>= _) _ _ _;refine aH (iR iB ⟨_,hl,rfl⟩ F.entry_list_reversed (F.args_list_reversed_1 _) (JO l items n dd sl) ⟨hl,?_⟩);exact aS ⟨_,rfl,h⟩
noncomputable def Zs (K:au)(a:ak)(n:Nat):It:=
 ⟨λi H=>i<n/\∃xs x,oX K H a xs/\xs[n-1-i]?=some x,λi H x H'=>H'=H/\∀xs y,oX K H a xs->xs[n-1-i]?=some y->x=y,λi H=>n<=i⟩
theorem LV{P:aj}{w:ah}{K:au}(a it:ak)(n:Nat) :
  Turn P w K tg (Zs K a n) [it] it (λi h=>sC h it a ((n:Int)-1-i)) where
 mem:=by simp
 obj:=λi h st b hb=>by
  rw[aV]at hb;subst hb;obtain⟨o,e,c,d⟩:=st;exact⟨o,e,λv z=>by rw[d]at z;cases z⟩
 keep:=λi h h' st k=>st.at λo ho=>k it (by simp) o ho
 item:=by
  intro X hP hw hK hc i pins s σ H E I hf st hg;subst hP hw hK;obtain⟨hi,xs,x,hq,hx⟩:=hg;obtain⟨its,rv,p,hz⟩:=I.list hq;obtain⟨u,hu,ru⟩:=rv.get hx;obtain⟨i0,i1,i2,i3,i4,i5⟩:=hf it (by simp);refine xH (i:=n-1-i) (by rw[show(((n-1-i:Nat)):Int)=(n:Int)-1-i by lia];exact st) p.isList (x:=u) (by simpa using hu) λh' hit' hs'=>?_;obtain⟨oo,e1,c1,d1⟩:=id hit';refine⟨u,rfl,EM (s:={ s with heap:=h' }) e1 c1 d1 (by decide) ⟨x,H,I.turned (t':=s.toks) (λb o hb q=>hs'.extBut b o hb q) i0 i1 i3 i4 i5,ru,⟨rfl,λys y hy hyi=>?_⟩,?_,λb hb=>?_⟩⟩
  ·rw[I.Er hy hq,hx]at hyi;exact aZ hyi
  ·rw[show(n:Int)-1-((i+1:Nat):Int)=((n-1-i:Nat):Int)-1 by lia];exact hit'
  ·rw[aV]at hb;rw[hb];exact i0
 done:=by
  intro X hP hw hK hc i pins s σ H E I hf st hg;subst hP hw hK;have hg:n<=i:=hg;exact zC (I.ok.hd hc) st (by lia) λh' hk=>⟨rfl,I.kept (t':=s.toks) hk⟩
 self:=λ_ _ _ _ _ st h=>yx st h
section
variable {X:Cx}
noncomputable def aae (K:au)(ta:TA):TI:=λσ H R=>ta σ H λvs H1=>∃a xs,vs=[.ref a]/\oX K H1 a xs/\R (Zs K a xs.length) H1
theorem Vv{a:aC}{ta:TA}{p:Pos}(hg:Gl X "reversed")(hm:X.mg "reversed" = none)(ha:PA X [a] ta)(hs:starEach [a] X.env=[(false,eval a X.env)]:=by rfl):PI X tg (.Call (.Name "reversed" p) [a] [] pos) (aae X.K ta):=by
 intro pins s σ H R I h;refine Call_ (uH I hg hm Eu (dj (m9 (ha pos pins s σ H _ I h) λus s1 ⟨vs,H1,I1,r1,q1⟩=>?_) hs rfl));obtain⟨t,xs,e,hq,q⟩:=q1;subst e;obtain⟨u,rfl,rx⟩:=vals1 r1
 cases rx
 obtain⟨its,rv,⟨⟨cls,dd,data,sl⟩,n,g1,g2,g3,g4⟩,hz⟩:=I1.list hq;simp only at g2 g3 g4;subst g2 g3 g4;have hl:=rv.length;refine callType_other (T' := "list_reverseiterator") xP (typeCall_reversed_1 _) (newCall_reversed_1 _) entry_reversed_new (yQ t its.toArray n none sl) sub_lri_reversed ⟨g1,⟨_,bA _ rfl,rfl⟩,?_⟩;have I2:Inv X pins σ H1 { s1 with heap:=s1.heap.push { cls:=.type "list_reverseiterator",data:=.fields #[.ref t,rawInt (((its.toArray.size:Nat):Int)-1)]}}:=I1.kept (t':=s1.toks) λb o e=>aQ _ e;have he:sC (s1.heap.push { cls:=.type "list_reverseiterator",data:=.fields #[.ref t,rawInt (((its.toArray.size:Nat):Int)-1)]}) s1.heap.objs.size t ((xs.length:Int)-1-((0:Nat):Int)):=⟨_,bA _ rfl,rfl,by rw[a_,hl];simp⟩;refine yx he ⟨_,[s1.heap.objs.size],_,_,H1,rfl,I2,LV t _ xs.length,he,λb hb=>?_,q⟩;rw[aV]at hb;rw[hb];exact I1.D7 (aO _) (I1.hok.fresh (aO _))
end
end L2
namespace Sx
open PySem PyProof.Rows
structure Ord where
 lt:Nat->Nat->Bool
 K2:∀i,lt i i=false
 tr:∀i j k,lt i j=true->lt j k=true->lt i k=true
 neg:∀i j k,lt i k=true->lt i j=true\/lt j k=true
noncomputable def P (o:Ord)(i j:Nat):Prop:=o.lt i j=true\/(o.lt j i=false/\i<j)
theorem Ord.ZY(o:Ord)(h:o.lt i j=true):o.lt j i=false:=by
 cases e:o.lt j i with
 | false=>rfl
 | true=>have:=o.tr _ _ _ h e;rw[o.K2]at this;cases this
theorem P.K2(h:P o i i):False:=by
 rcases h with h|⟨_,h⟩
 ·rw[o.K2]at h;cases h
 ·lia
theorem P.trans{k:Nat}(a:P o i j)(b:P o j k):P o i k:=by
 rcases a with a|⟨a,a'⟩
 ·rcases b with b|⟨b,b'⟩
  ·exact .inl (o.tr _ _ _ a b)
  ·rcases o.neg i k j a with z|z
   ·exact .inl z
   ·rw[b]at z;cases z
 ·rcases b with b|⟨b,b'⟩
  ·rcases o.neg j i k b with z|z
   ·rw[a]at z;cases z
   ·exact .inl z
  ·refine .inr ⟨?_,by lia⟩
   cases e:o.lt k i with
   | false=>rfl
   | true=>
    rcases o.neg k j i e with z|z
    ·rw[b]at z;cases z
    ·rw[a]at z;cases z
theorem P.of_lt{o:Ord}(h:o.lt i j=true):P o i j:=.inl h
theorem P.xq{o:Ord}(h:o.lt j i=false)(hij:i<j):P o i j:=.inr ⟨h,hij⟩
theorem P.lt{o:Ord}(h:P o i j)(hij:j<i):o.lt i j=true:=by
 rcases h with h|⟨_,h⟩
 ·exact h
 ·lia
theorem P.ge{o:Ord}(h:P o i j):o.lt j i=false:=by
 rcases h with h|⟨h,_⟩
 ·exact o.ZY h
 ·exact h
noncomputable def So (o:Ord)(g:Nat->Nat)(a b:Nat):Prop:=∀i j,a<=i->i<j->j<b->P o (g i) (g j)
noncomputable def Cl (g:Nat->Nat)(a b:Nat):Prop:=∀i,a<=i->i<b->a<=g i/\g i<b
noncomputable def rev (g:Nat->Nat)(i j:Nat):Nat->Nat:=λk=>if i<=k/\k<j then g (i+j-1-k)else g k
noncomputable def mv (g:Nat->Nat)(src dst:Nat):Nat->Nat:=λk=>if k=dst then g src else if dst<k/\k<=src then g (k-1)else g k
theorem yS{g:Nat->Nat}{k:Nat}(h:i<=k)(h2:k<j):rev g i j k=g (i+j-1-k):=aM ⟨h,h2⟩
theorem oR{g:Nat->Nat}{k:Nat}(h:k<i\/j<=k):rev g i j k=g k:=aJ (by lia)
theorem OZ{g:Nat->Nat}:mv g s d d=g s:=aM rfl
theorem Eg{g:Nat->Nat}{k:Nat}(h:d<k)(h2:k<=s):mv g s d k=g (k-1):=by
 unfold mv;rw[aJ (by lia),aM ⟨h,h2⟩]
theorem Bo{g:Nat->Nat}{k:Nat}(hd:d<=s)(h:k<d\/s<k):mv g s d k=g k:=by
 unfold mv;rw[aJ (by lia),aJ (by lia)]
section
variable {prog:aj}{w:ah}{A:az}{E:af->aA->Prop}{s:aA}{o:Ord}{N:Nat}{f:Nat->Keyed}{kd:SortKind}{g:Nat->Nat}{p:Array (Nat×Nat×Nat)}{st:SortSt}
noncomputable def Bh (prog:aj)(w:ah)(A:az)(s:aA)(o:Ord)(N:Nat)(f:Nat->Keyed)(kd:SortKind):Prop:=
 ∀i j,i<N->j<N->∀(E':af->aA->Prop) (Q:Bool->aA->Prop),Q (o.lt i j) s->wpAny (model prog w) A (keyLt' kd (f i).1 (f j).1) Q E' s
structure Sg (N:Nat)(f:Nat->Keyed)(kd:SortKind)(g:Nat->Nat)(p:Array (Nat×Nat×Nat))(st:SortSt):Prop where
 size:(arrOf st).size=N
 get:∀i,i<N->(arrOf st)[i]?=some (f (g i))
 lt:∀i,i<N->g i<N
 kind:kindOf st=kd
 failed:failedOf st=none
 pend:pendingOf st=p
theorem zD(C:Bh prog w A s o N f kd)(hk:kindOf st=kd)(hi:i<N)(hj:j<N){Q:Option Bool->SortSt->Prop}(q:Q (some (o.lt i j)) st):wpS (model prog w) A E s (lt' (f i) (f j)) Q st:=by
 rw[lt'_eq];refine aW (gQ ?_);rw[hk];refine aW (wpS_lift (iy (C i j hi hj _ _ ⟨rfl,?_⟩)));exact br q
theorem jX{xs:Array Keyed}{i:Nat}{x:Keyed}(e:xs[i]?=some x){Q:Keyed->SortSt->Prop}(q:Q x st):wpS (model prog w) A E s (elem' xs i) Q st:=by
 rw[elem'_eq,e];exact br q
theorem vE(C:Bh prog w A s o N f kd)(h:Sg N f kd g p st)(hi:i<N)(hj:j<N){Q:Option Bool->SortSt->Prop}(q:Q (some (o.lt (g i) (g j))) st):wpS (model prog w) A E s (ltAt' i j) Q st:=by
 rw[ltAt'_eq];refine aW (gQ ?_);show wpS _ _ _ _ (do let u <- elem' (arrOf st) i;let v <- elem' (arrOf st) j;lt' u v) Q st;exact aW (jX (h.get i hi) (aW (jX (h.get j hj) (zD C h.kind (h.lt i hi) (h.lt j hj) q))))
theorem Sg.arr(h:Sg N f kd g p st){xs:Array Keyed}{g':Nat->Nat}(hs:xs.size=N)(hg:∀i,i<N->xs[i]?=some (f (g' i)))(hl:∀i,i<N->g' i<N):Sg N f kd g' p (setArr st xs):=⟨hs,hg,hl,h.kind,h.failed,h.pend⟩
theorem xW(h:Sg N f kd g p st)(hj:j<=N){Q:Unit->SortSt->Prop}(q:∀st',Sg N f kd (rev g i j) p st'->Q () st'):wpS (model prog w) A E s (reverseSlice' i j) Q st:=by
 rw[reverseSlice'_eq];refine fK (q _ (h.arr (by rw[mirror_size];exact h.size) (λk hk=>?_) λk hk=>?_))
 ·rw[getElem?_mirror_all (by rw[h.size];exact hj)];unfold rev;by_cases c:i<=k/\k<j
  ·rw[aM c,aM c];exact h.get _ (by lia)
  ·rw[aJ c,aJ c];exact h.get _ hk
 ·unfold rev;by_cases c:i<=k/\k<j
  ·rw[aM c];exact h.lt _ (by lia)
  ·rw[aJ c];exact h.lt _ hk
theorem VF(h:Sg N f kd g p st){a:Nat}(ha:a<N)(hb:b<=a){Q:Unit->SortSt->Prop}(q:∀st',Sg N f kd (mv g a b) p st'->Q () st'):wpS (model prog w) A E s (moveDown' a b) Q st:=by
 rw[moveDown'_eq];refine fK (q _ (h.arr (by rw[bubble_size];exact h.size) (λk hk=>?_) λk hk=>?_))
 ·rw[getElem?_bubble (by rw[h.size];exact ha) _ (by lia),show a-(a-b)=b by lia];unfold mv;by_cases c:k=b
  ·rw[aM c,aM c];exact h.get _ ha
  ·rw[aJ c,aJ c];by_cases c2:b<k/\k<=a
   ·rw[aM c2,aM c2];exact h.get _ (by lia)
   ·rw[aJ c2,aJ c2];exact h.get _ hk
 ·unfold mv;by_cases c:k=b
  ·rw[aM c];exact h.lt _ ha
  ·rw[aJ c];by_cases c2:b<k/\k<=a
   ·rw[aM c2];exact h.lt _ (by lia)
   ·rw[aJ c2];exact h.lt _ hk
structure Rn (o:Ord)(g0 g:Nat->Nat)(a b:Nat):Prop where
 out:∀i,i<a\/b<=i->g i=g0 i
 cl:Cl g a b
 so:So o g a b
theorem U_{g0:Nat->Nat}{lo k l:Nat}(R:Rn o g0 g lo (lo+k))(hk:g (lo+k)=lo+k)(hl:l<=k)(h1:∀i,i<l->P o (g (lo+i)) (lo+k))(h2:∀i,l<=i->i<k->P o (lo+k) (g (lo+i))):Rn o g0 (mv g (lo+k) (lo+l)) lo (lo+(k+1)) where
 out i hi:=by rw[Bo (by lia) (by lia)];exact R.out i (by lia)
 cl i a b:=by
  by_cases c:i=lo+l
  ·subst c;rw[OZ,hk];lia
  ·by_cases c2:lo+l<i
   ·rw[Eg c2 (by lia)];have:=R.cl (i-1) (by lia) (by lia);lia
   ·rw[Bo (by lia) (by lia)];have:=R.cl i (by lia) (by lia);lia
 so i j a b d:=by
  by_cases c:i=lo+l
  ·subst c;rw[OZ,Eg b (by lia),hk];have:=h2 (j-1-lo) (by lia) (by lia)
   rwa [show lo+(j-1-lo)=j-1 by lia]at this
  ·by_cases c2:lo+l<i
   ·rw[Eg c2 (by lia),Eg (by lia) (by lia)];exact R.so _ _ (by lia) (by lia) (by lia)
   ·rw[Bo (k:=i) (by lia) (by lia)];by_cases c3:j=lo+l
    ·subst c3;rw[OZ,hk];have:=h1 (i-lo) (by lia)
     rwa [show lo+(i-lo)=i by lia]at this
    ·by_cases c4:lo+l<j
     ·rw[Eg c4 (by lia)];exact R.so _ _ (by lia) (by lia) (by lia)
     ·rw[Bo (by lia) (by lia)];exact R.so _ _ (by lia) (by lia) (by lia)
theorem UE(C:Bh prog w A s o N f kd){g0:Nat->Nat}{lo n ok:Nat}(h:Sg N f kd g p st)(hn:lo+n<=N)(h1:1<=ok)(hok:ok<=n)(R:Rn o g0 g lo (lo+ok))(hid:∀i,lo+ok<=i->i<lo+n->g0 i=i)
  {Q:Bool->SortSt->Prop} (q:∀g' st',Sg N f kd g' p st'->Rn o g0 g' lo (lo+n)->Q true st'):wpS (model prog w) A E s (binarySort' lo n ok) Q st:=by
 rw[binarySort'_eq,show max ok 1=ok by lia];refine aW (dR (cD (I:=λk c st'=>c=(none,())/\∃g',Sg N f kd g' p st'/\Rn o g0 g' lo (lo+min k n))
  (Q:=λc st'=>c=(none,())/\∃g',Sg N f kd g' p st'/\Rn o g0 g' lo (lo+n)) ?step ?fin ?init) ?post)
 case post=>
  rintro c st' ⟨rfl,g',h',R'⟩;exact br (q g' st' h' R')
 case init=>exact⟨rfl,g,h,by rw[show min ok n=ok by lia];exact R⟩
 case fin=>
  rintro c st' ⟨hc,g',h',R'⟩;exact⟨hc,g',h',by rwa [show min (max ok n) n=n by lia]at R'⟩
 case step=>
  rintro k c st' hak hkn ⟨rfl,g',h',R'⟩;rw[show min k n=k by lia]at R';have gk:g' (lo+k)=lo+k:=by rw[R'.out _ (by lia)];exact hid _ (by lia) (by lia)
  refine aW (dR (cD (I:=λx c s2=>s2=st'/\∃u v,c=(none,u,v)/\u<=v/\v<=k/\v-u<=k-x /\
    (∀i,i<u->P o (g' (lo+i)) (lo+k))/\(∀i,v<=i->i<k->P o (lo+k) (g' (lo+i))))
   (Q:=λc s2=>s2=st'/\∃u v,c=(none,u,v)/\u<=k /\
    (∀i,i<u->P o (g' (lo+i)) (lo+k))/\(∀i,u<=i->i<k->P o (lo+k) (g' (lo+i)))) ?istep ?ifin ?iinit) ?ipost)
  case iinit=>exact⟨rfl,0,k,rfl,by lia,by lia,by lia,λi hi=>by lia,λi h1 h2=>by lia⟩
  case ifin=>
   rintro c s2 ⟨rfl,u,v,rfl,huv,hvk,hm,low,top⟩;have:u=v:=by lia
   subst this;exact⟨rfl,u,u,rfl,hvk,low,top⟩
  case istep=>
   rintro x c s2 _ hxk ⟨rfl,u,v,rfl,huv,hvk,hm,low,top⟩;dsimp only;by_cases hge:u>=v
   ·rw[aM hge];have:u=v:=by lia
    subst this;exact br ⟨rfl,u,u,rfl,hvk,low,top⟩
   ·rw[aJ hge];have hmk:(u+v) / 2<k:=by lia
    have gm:=R'.cl (lo+(u+v) / 2) (by lia) (by lia);refine aW (vE C h' (by lia) (by lia) ?_);rw[gk]
    cases hless:o.lt (lo+k) (g' (lo+(u+v) / 2))
    case true=>
     simp only[cV];refine br ⟨rfl,u,(u+v) / 2,rfl,by lia,by lia,by lia,low,λi h1 h2=>?_⟩;by_cases c:i=(u+v) / 2
     ·subst c;exact .inl hless
     ·exact(P.of_lt hless).trans (R'.so _ _ (by lia) (by lia) (by lia))
    case false=>
     simp only[bu,bW];refine br ⟨rfl,(u+v) / 2+1,v,rfl,by lia,by lia,by lia,λi h1=>?_,top⟩;have last:=P.xq hless gm.2;by_cases c:i=(u+v) / 2
     ·subst c;exact last
     ·exact(R'.so _ _ (by lia) (by lia) (by lia)).trans last
  case ipost=>
   rintro c s2 ⟨rfl,u,v,rfl,huk,low,top⟩;dsimp only;refine aW (VF h' (by lia) (by lia) λst3 h3=>?_);refine br ⟨rfl,_,h3,?_⟩;rw[show min (k+1) n=k+1 by lia];exact U_ R' gk huk low top
end
noncomputable abbrev As:=Option (Option Nat)×Nat
noncomputable abbrev Ds:=Option (Option Nat)×Nat×Nat
noncomputable def Pd (lo a nrem:Nat):StateT SortSt Sem As:=
 forIn [a:nrem] ((none,a):As) λ_ c=>do
  let x <- ltAt' (lo+c.2) (lo+c.2-1)
  match x with
  | some b=>if b=true then pure (ForInStep.done (none,c.2))else pure (ForInStep.yield (none,c.2+1))
  | _=>pure (ForInStep.done (some none,c.2))
noncomputable def EC (lo n nrem:Nat):StateT SortSt Sem (Option Nat):=do
 reverseSlice' lo (lo+n)
 let c <- Pd lo n nrem
 match c.1 with
 | some r=>pure r
 | none=>pure (some c.2)
noncomputable def QY (lo n nrem:Nat):StateT SortSt Sem Ds:=
 forIn [n:nrem] ((none,n,0):Ds) λ_ c=>do
  let x <- ltAt' (lo+c.2.1) (lo+c.2.1-1)
  match x with
  | some b=>
   if b=true then
    if c.2.2>0 then do
     reverseSlice' (lo+c.2.1-(c.2.2+1)) (lo+c.2.1)
     pure (ForInStep.yield (none,c.2.1+1,0))
    else pure (ForInStep.yield (none,c.2.1+1,0))
   else do
    let x <- ltAt' (lo+c.2.1-1) (lo+c.2.1)
    match x with
    | some b=>
     if b=true then pure (ForInStep.done (none,c.2.1,c.2.2))
     else pure (ForInStep.yield (none,c.2.1+1,c.2.2+1))
    | _=>pure (ForInStep.done (some none,c.2.1,c.2.2))
  | _=>pure (ForInStep.done (some none,c.2.1,c.2.2))
noncomputable def Lv (lo n nrem:Nat):StateT SortSt Sem (Option Nat):=do
 liftM (rule "list.sort.descending-run")
 let c <- QY lo (n+1) nrem
 match c.1 with
 | some r=>pure r
 | none=>
  if c.2.2>0 then do
   reverseSlice' (lo+c.2.1-(c.2.2+1)) (lo+c.2.1)
   EC lo c.2.1 nrem
  else EC lo c.2.1 nrem
theorem count_eq(lo nrem:Nat):countRun' lo nrem=(do
  let c <- Pd lo 1 nrem
  match c.1 with
  | some r=>pure r
  | none=>
   if (c.2 == nrem)=true then pure (some c.2)
   else if c.2>1 then do
    let x <- ltAt' lo (lo+c.2-1)
    match x with
    | some b=>if b=true then pure (some c.2)else do
      reverseSlice' lo (lo+c.2)
      Lv lo c.2 nrem
    | _=>pure none
   else Lv lo c.2 nrem):=by
 rw[countRun'_eq];dsimp only;unfold Lv EC QY Pd;congr 1
 funext c
 obtain⟨r,n⟩:=c
 cases r with
 | some r=>rfl
 | none=>
  dsimp only;split
  ·rfl
  ·split
   ·congr 1
    funext x
    cases x with
    | none=>rfl
    | some b=>
     dsimp only;split
     ·rfl
     ·congr 1
      funext _r
      congr 1
      funext _u
      congr 1;congr 1
      funext s2
      obtain⟨r2,n2,q2⟩:=s2
      cases r2 with
      | some r2=>rfl
      | none=>
       dsimp only;split
       ·congr 1
        funext _v
        congr 1
        funext _w
        congr 1
        funext s3
        obtain⟨r3,n3⟩:=s3
        cases r3<;>rfl
       ·congr 1
        funext _w
        congr 1
        funext s3
        obtain⟨r3,n3⟩:=s3
        cases r3<;>rfl
   ·congr 1
    funext _u
    congr 1;congr 1
    funext s2
    obtain⟨r2,n2,q2⟩:=s2
    cases r2 with
    | some r2=>rfl
    | none=>
     dsimp only;split
     ·congr 1
      funext _v
      congr 1
      funext _w
      congr 1
      funext s3
      obtain⟨r3,n3⟩:=s3
      cases r3<;>rfl
     ·congr 1
      funext _w
      congr 1
      funext s3
      obtain⟨r3,n3⟩:=s3
      cases r3<;>rfl
section
variable {prog:aj}{w:ah}{A:az}{E:af->aA->Prop}{s:aA}{o:Ord}{N:Nat}{f:Nat->Keyed}{kd:SortKind}{g g0:Nat->Nat}{p:Array (Nat×Nat×Nat)}{st:SortSt}
theorem Rn.snoc{a:Nat}(R:Rn o g0 g a b)(hab:a<b)(hb:g b=b)(h:o.lt b (g (b-1))=false):Rn o g0 g a (b+1) where
 out i hi:=R.out i (by lia)
 cl i h1 h2:=by
  by_cases c:i=b
  ·subst c;lia
  ·have:=R.cl i h1 (by lia);lia
 so i j h1 h2 h3:=by
  by_cases c:j=b
  ·subst c;rw[hb];have l:=R.cl (j-1) (by lia) (by lia);have last:P o (g (j-1)) j:=P.xq h l.2;by_cases c2:i=j-1
   ·subst c2;exact last
   ·exact(R.so i (j-1) h1 (by lia) (by lia)).trans last
  ·exact R.so i j h1 h2 (by lia)
theorem Ov(C:Bh prog w A s o N f kd){lo a:Nat}(h:Sg N f kd g p st)(hn:lo+nrem<=N)(h1:1<=a)(han:a<=nrem)(R:Rn o g0 g lo (lo+a))(hid:∀i,lo+a<=i->i<lo+nrem->g0 i=i)
  {Q:As->SortSt->Prop} (q:∀n,a<=n->n<=nrem->Rn o g0 g lo (lo+n)->(n=nrem\/o.lt (lo+n) (g (lo+n-1))=true)->Q (none,n) st):wpS (model prog w) A E s (Pd lo a nrem) Q st:=by
 unfold Pd;refine cD (I:=λx c st'=>st'=st/\c=(none,x)/\Rn o g0 g lo (lo+x)) ?step ?fin ⟨rfl,rfl,R⟩
 case fin=>
  rintro c st' ⟨rfl,rfl,R'⟩;rw[show max a nrem=nrem by lia]at R' ⊢;exact q nrem han (aO _) R' (.inl rfl)
 case step=>
  rintro x c st' hax hxn ⟨rfl,rfl,R'⟩;dsimp only;have gx:g (lo+x)=lo+x:=by rw[R'.out _ (by lia)];exact hid _ (by lia) (by lia)
  refine aW (vE C h (by lia) (by lia) ?_);rw[gx]
  cases hl:o.lt (lo+x) (g (lo+x-1))
  case true=>
   simp only[cV];exact br (q x hax (by lia) R' (.inr hl))
  case false=>
   simp only[bu,bW];exact br ⟨rfl,rfl,R'.snoc (by lia) gx hl⟩
structure Dc (o:Ord)(g0 g:Nat->Nat)(a b q:Nat):Prop where
 out:∀i,i<a\/b<=i->g i=g0 i
 cl:Cl g a b
 few:a+(q+1)<=b
 dn:∀i j,a<=i->i<j->j<b->i<b-(q+1)->P o (g j) (g i)
 id:∀i,b-(q+1)<=i->i<b->g i=i
 al:∀i j,b-(q+1)<=i->i<b->b-(q+1)<=j->j<b->o.lt i j=false
theorem Dc.turn{a q:Nat}(D:Dc o g0 g a b q):(∀i,i<a\/b<=i->rev g (b-(q+1)) b i=g0 i)/\Cl (rev g (b-(q+1)) b) a b/\(∀i j,a<=i->i<j->j<b->P o (rev g (b-(q+1)) b j) (rev g (b-(q+1)) b i))/\(∀i,b-(q+1)<=i->i<b->∃k,rev g (b-(q+1)) b i=k/\b-(q+1)<=k/\k<b):=by
 have few:=D.few;have inn:∀i,b-(q+1)<=i->i<b->rev g (b-(q+1)) b i=b-(q+1)+b-1-i:=λi h1 h2=>by
  rw[yS h1 h2];exact D.id _ (by lia) (by lia)
 refine⟨λi hi=>?_,λi h1 h2=>?_,λi j h1 h2 h3=>?_,λi h1 h2=>⟨_,inn i h1 h2,by lia,by lia⟩⟩
 ·rw[oR (by lia)];exact D.out i hi
 ·by_cases c:i<b-(q+1)
  ·rw[oR (by lia)];exact D.cl i h1 h2
  ·rw[inn i (by lia) h2];lia
 ·by_cases c:i<b-(q+1)
  ·rw[oR (k:=i) (by lia)];by_cases c2:j<b-(q+1)
   ·rw[oR (by lia)];exact D.dn i j h1 h2 h3 c
   ·rw[inn j (by lia) h3];have:=D.dn i (b-(q+1)+b-1-j) h1 (by lia) (by lia) c
    rwa [D.id _ (by lia) (by lia)]at this
  ·rw[inn i (by lia) (by lia),inn j (by lia) h3];exact P.xq (D.al _ _ (by lia) (by lia) (by lia) (by lia)) (by lia)
noncomputable def Fin (o:Ord)(g0 g:Nat->Nat)(a b:Nat):Prop:=(∀i,i<a\/b<=i->g i=g0 i)/\Cl g a b/\(∀i j,a<=i->i<j->j<b->P o (g j) (g i))
theorem Dc.Dq{a:Nat}(D:Dc o g0 g a b 0):Fin o g0 g a b:=⟨D.out,D.cl,λi j h1 h2 h3=>D.dn i j h1 h2 h3 (by lia)⟩
theorem Fin.rn{a:Nat}(D:Fin o g0 g a b):Rn o g0 (rev g a b) a b where
 out i hi:=by rw[oR hi];exact D.1 i hi
 cl i h1 h2:=by
  rw[yS h1 h2];exact D.2.1 _ (by lia) (by lia)
 so i j h1 h2 h3:=by
  rw[yS h1 (by lia),yS (by lia) h3];exact D.2.2 _ _ (by lia) (by lia) (by lia)
theorem Fin.add{a:Nat}(D:Fin o g0 g a b)(hb:g b=b)(hab:a<b)(h:∀i,a<=i->i<b->P o b (g i)):Dc o g0 g a (b+1) 0 where
 out i hi:=D.1 i (by lia)
 cl i h1 h2:=by
  by_cases c:i=b
  ·subst c;lia
  ·have:=D.2.1 i h1 (by lia);lia
 few:=by lia
 dn i j h1 h2 h3 _:=by
  by_cases c:j=b
  ·subst c;rw[hb];exact h i h1 h2
  ·exact D.2.2 i j h1 h2 (by lia)
 id i h1 h2:=by
  have:i=b:=by lia
  rw[this,hb]
 al i j h1 h2 h3 h4:=by
  have:i=j:=by lia
  rw[this];exact o.K2 _
theorem Io(C:Bh prog w A s o N f kd){lo n:Nat}(h:Sg N f kd g p st)(hn:lo+nrem<=N)(h1:1<=n)(han:n<=nrem)(D:Fin o g0 g lo (lo+n))(hid:∀i,lo<=i->i<lo+nrem->g0 i=i)
  {Q:Option Nat->SortSt->Prop} (q:∀m g' st',Sg N f kd g' p st'->1<=m->m<=nrem->Rn o g0 g' lo (lo+m)->Q (some m) st'):wpS (model prog w) A E s (EC lo n nrem) Q st:=by
 unfold EC;refine aW (xW h (by lia) λst2 h2=>?_);exact aW (Ov C h2 hn h1 han D.rn (λi a b=>hid i (by lia) b) λm hm1 hm2 R _=>br (q m _ _ h2 (by lia) hm2 R))
theorem UX(C:Bh prog w A s o N f kd){lo n:Nat}(h:Sg N f kd g p st)(hn:lo+nrem<=N)(h1:1<=n)(han:n<=nrem)(D:Dc o g0 g lo (lo+n) 0)(hid:∀i,lo<=i->i<lo+nrem->g0 i=i)
  {Q:Ds->SortSt->Prop} (q:∀m e g' st',Sg N f kd g' p st'->1<=m->m<=nrem->Dc o g0 g' lo (lo+m) e->Q (none,m,e) st'):wpS (model prog w) A E s (QY lo n nrem) Q st:=by
 unfold QY;refine cD (I:=λx c st'=>∃e g',c=(none,x,e)/\Sg N f kd g' p st'/\Dc o g0 g' lo (lo+x) e) ?step ?fin ⟨0,g,rfl,h,D⟩
 case fin=>
  rintro c st' ⟨e,g',rfl,h',D'⟩;rw[show max n nrem=nrem by lia]at D' ⊢;exact q nrem e g' st' h' (by lia) (aO _) D'
 case step=>
  rintro x c st' hax hxn ⟨e,g',rfl,h',D'⟩;dsimp only;have few:=D'.few;have gx:g' (lo+x)=lo+x:=by rw[D'.out _ (by lia)];exact hid _ (by lia) (by lia)
  have gy:g' (lo+x-1)=lo+x-1:=D'.id _ (by lia) (by lia);refine aW (vE C h' (by lia) (by lia) ?_);rw[gx,gy]
  cases hl:o.lt (lo+x) (lo+x-1)
  case true=>
   simp only[cV];by_cases he:e>0
   ·rw[aM he];obtain⟨t1,t2,t3,t4⟩:=D'.turn;refine aW (xW h' (by lia) λst2 h2=>br ⟨0,_,rfl,h2,?_⟩);refine Fin.add (b:=lo+x) ⟨t1,t2,t3⟩ (by rw[oR (by lia)];exact gx) (by lia) λi a b=>?_;by_cases c:lo+x-(e+1)<=i
    ·obtain⟨k,ek,k1,k2⟩:=t4 i c b;rw[ek]
     rcases o.neg _ k _ hl with z|z
     ·exact .inl z
     ·rw[D'.al _ _ k1 k2 (by lia) (by lia)]at z;cases z
    ·rw[oR (by lia)];have:=D'.dn i (lo+x-1) a (by lia) (by lia) (by lia);rw[gy]at this;exact(P.of_lt hl).trans this
   ·rw[aJ he];have:e=0:=by lia
    subst this;refine br ⟨0,_,rfl,h',Fin.add (b:=lo+x) D'.Dq gx (by lia) λi a b=>?_⟩;by_cases c:i=lo+x-1
    ·subst c;rw[gy];exact .inl hl
    ·have:=D'.dn i (lo+x-1) a (by lia) (by lia) (by lia);rw[gy]at this;exact(P.of_lt hl).trans this
  case false=>
   simp only[bu,bW];refine aW (vE C h' (by lia) (by lia) ?_);rw[gx,gy]
   cases hg:o.lt (lo+x-1) (lo+x)
   case true=>
    simp only[cV];exact br (q x e g' st' h' (by lia) (by lia) D')
   case false=>
    simp only[bu,bW];refine br ⟨e+1,g',rfl,h',?_⟩;have eq1:∀i,lo+x-(e+1)<=i->i<lo+x->o.lt i (lo+x)=false/\o.lt (lo+x) i=false:=λi a b=>by
     constructor
     ·cases z:o.lt i (lo+x)with
      | false=>rfl
      | true=>
       rcases o.neg _ (lo+x-1) _ z with y|y
       ·rw[D'.al _ _ a b (by lia) (by lia)]at y;cases y
       ·rw[hg]at y;cases y
     ·cases z:o.lt (lo+x) i with
      | false=>rfl
      | true=>
       rcases o.neg _ (lo+x-1) _ z with y|y
       ·rw[hl]at y;cases y
       ·rw[D'.al _ _ (by lia) (by lia) a b]at y;cases y
    exact {
     out:=λi hi=>D'.out i (by lia)
     cl:=λi a b=>by
      by_cases c:i=lo+x
      ·subst c;lia
      ·have:=D'.cl i a (by lia);lia
     few:=by lia
     dn:=λi j a b c d=>by
      by_cases z:j=lo+x
      ·subst z;rw[gx];have y:=D'.dn i (lo+x-1) a (by lia) (by lia) (by lia);rw[gy]at y;have gi:=D'.cl i a (by lia)
       rcases y with y|⟨_,y⟩
       ·rcases o.neg _ (lo+x) _ y with v|v
        ·rw[hg]at v;cases v
        ·exact .inl v
       ·lia
      ·exact D'.dn i j a b (by lia) (by lia)
     id:=λi a b=>by
      by_cases z:i=lo+x
      ·subst z;exact gx
      ·exact D'.id i (by lia) (by lia)
     al:=λi j a b c d=>by
      by_cases z:i=lo+x
      ·subst z;by_cases y:j=lo+x
       ·subst y;exact o.K2 _
       ·exact(eq1 j (by lia) (by lia)).2
      ·by_cases y:j=lo+x
       ·subst y;exact(eq1 i (by lia) (by lia)).1
       ·exact D'.al i j (by lia) (by lia) (by lia) (by lia)}
theorem G8(C:Bh prog w A s o N f kd){lo n:Nat}(h:Sg N f kd g p st)(hn:lo+nrem<=N)(han:n+1<=nrem)(D:Dc o g0 g lo (lo+(n+1)) 0)(hid:∀i,lo<=i->i<lo+nrem->g0 i=i)
  {Q:Option Nat->SortSt->Prop} (q:∀m g' st',Sg N f kd g' p st'->1<=m->m<=nrem->Rn o g0 g' lo (lo+m)->Q (some m) st'):wpS (model prog w) A E s (Lv lo n nrem) Q st:=by
 unfold Lv;refine aW (wpS_lift (eE ⟨rfl,?_⟩));refine aW (UX C h hn (by lia) han D hid λm e g' st' h' m1 m2 D'=>?_);dsimp only;by_cases he:e>0
 ·rw[aM he];obtain⟨t1,t2,t3,_⟩:=D'.turn;exact aW (xW h' (by lia) λst2 h2=>Io C h2 hn m1 m2 ⟨t1,t2,t3⟩ hid q)
 ·rw[aJ he];have:e=0:=by lia
  subst this;exact Io C h' hn m1 m2 D'.Dq hid q
theorem Nz(C:Bh prog w A s o N f kd){lo:Nat}(h:Sg N f kd g p st)(hn:lo+nrem<=N)(h1:1<=nrem)(hid:∀i,lo<=i->i<lo+nrem->g i=i)
  {Q:Option Nat->SortSt->Prop} (q:∀m g' st',Sg N f kd g' p st'->1<=m->m<=nrem->Rn o g g' lo (lo+m)->Q (some m) st'):wpS (model prog w) A E s (countRun' lo nrem) Q st:=by
 rw[count_eq];refine aW (Ov C h hn (aO 1) h1 (g0:=g) ⟨λ_ _=>rfl,λi a b=>?_,λi j a b c=>by lia⟩ (λi a b=>hid i (by lia) b) λn n1 n2 R hor=>?_)
 ·have:i=lo:=by lia
  subst this;rw[hid i (aO _) (by lia)];lia
 dsimp only;by_cases hnn:n=nrem
 ·rw[aM (by simpa using hnn)];exact br (q n g st h n1 n2 R)
 ·rw[aJ (by simpa using hnn)];have hlt:=hor.resolve_left hnn;rw[hid (lo+n-1) (by lia) (by lia)]at hlt;have gn:g (lo+n)=lo+n:=hid _ (by lia) (by lia);by_cases hgt:n>1
  ·rw[aM hgt];refine aW (vE C h (by lia) (by lia) ?_);rw[hid lo (by lia) (by lia),hid (lo+n-1) (by lia) (by lia)]
   cases hr:o.lt lo (lo+n-1)
   case true=>
    simp only[cV];exact br (q n g st h n1 n2 R)
   case false=>
    simp only[bu,bW];have id':∀i,lo<=i->i<lo+n->g i=i:=λi a b=>hid i a (by lia);have pp:∀i j,lo<=i->i<j->j<lo+n->o.lt i j=false/\o.lt j i=false:=λi j a b c=>by
     have r:=R.so i j a b c;rw[id' i a (by lia),id' j (by lia) c]at r;refine⟨?_,r.ge⟩
     cases z:o.lt i j with
     | false=>rfl
     | true=>
      rcases o.neg _ lo _ z with y|y
      ·by_cases x:i=lo
       ·subst x;rw[o.K2]at y;cases y
       ·have r2:=R.so lo i (by lia) (by lia) (by lia);rw[id' i a (by lia),id' lo (by lia) (by lia)]at r2;rw[r2.ge]at y;cases y
      ·rcases o.neg _ (lo+n-1) _ y with x|x
       ·rw[hr]at x;cases x
       ·by_cases v:j=lo+n-1
        ·subst v;rw[o.K2]at x;cases x
        ·have r2:=R.so j (lo+n-1) (by lia) (by lia) (by lia);rw[id' j (by lia) c,id' (lo+n-1) (by lia) (by lia)]at r2;rw[r2.ge]at x;cases x
    refine aW (xW h (by lia) λst2 h2=>G8 C h2 hn (by lia) ?_ hid q);have rin:∀i,lo<=i->i<lo+n->rev g lo (lo+n) i=lo+(lo+n)-1-i:=λi a b=>by rw[yS a b];exact id' _ (by lia) (by lia)
    refine Fin.add (b:=lo+n) ⟨λi hi=>oR hi,λi a b=>by rw[rin i a b];lia,λi j a b c=>?_⟩ (by rw[oR (by lia)];exact gn) (by lia) λi a b=>?_
    ·rw[rin i a (by lia),rin j (by lia) c];exact P.xq (pp _ _ (by lia) (by lia) (by lia)).2 (by lia)
    ·rw[rin i a b];by_cases x:lo+(lo+n)-1-i=lo+n-1
     ·rw[x];exact .inl hlt
     ·rcases o.neg _ (lo+(lo+n)-1-i) _ hlt with z|z
      ·exact .inl z
      ·rw[(pp _ _ (by lia) (by lia) (by lia)).1]at z;cases z
  ·rw[aJ hgt];have:n=1:=by lia
   subst this;refine G8 C h hn (by lia) ?_ hid q;refine Fin.add (b:=lo+1) ⟨λi hi=>rfl,R.cl,λi j a b c=>by lia⟩ gn (by lia) λi a b=>?_;have:i=lo:=by lia
   subst this;rw[hid i (by lia) (by lia)];rw[show i+1-1=i by lia]at hlt;exact .inl hlt
end
noncomputable def l7:Bool->Keyed->Array Keyed->Nat->Nat->Nat->StateT SortSt Sem (Option Nat):=sortPriv% PySem.Builtin.gallop
noncomputable def Uj (ask:Nat->StateT SortSt Sem (Option Bool))(n at0:Nat):StateT SortSt Sem (Option Nat):=do
 let mut was:=0
 let mut far:=1
 let mut low:=0
 let mut top:=0
 let some yes <- ask at0|return none
 if yes then
  let most:=n-at0
  for _ in [0:n] do
   if far>=most then break
   let some ok <- ask (at0+far)|return none
   if !ok then break
   was:=far
   far:=2 * far+1
  low:=at0+was+1
  top:=at0+min far most
 else
  let most:=at0+1
  for _ in [0:n] do
   if far>=most then break
   let some hit <- ask (at0-far)|return none
   if hit then break
   was:=far
   far:=2 * far+1
  low:=at0+1-min far most
  top:=at0-was
 for _ in [0:n] do
  if low>=top then break
  let m:=low+(top-low) / 2
  let some ok <- ask m|return none
  if ok then low:=m+1 else top:=m
 return some top
theorem Ar(left:Bool)(key:Keyed)(arr:Array Keyed)(base n hint:Nat):l7 left key arr base n hint=Uj (λi=>do
  let x <- elem' arr (base+i)
  if left then lt' x key else return (<- lt' key x).map (!·)) n hint:=rfl
section
variable {prog:aj}{w:ah}{A:az}{E:af->aA->Prop}{s:aA}{st:SortSt}
noncomputable def Y5 (be:Nat->StateT SortSt Sem (Option Bool))(n l0 h0:Nat):StateT SortSt Sem (Option Nat):=do
 let mut low:=l0
 let mut top:=h0
 for _ in [0:n] do
  if low>=top then break
  let m:=low+(top-low) / 2
  let some ok <- be m|return none
  if ok then low:=m+1 else top:=m
 return some top
theorem TX{be:Nat->StateT SortSt Sem (Option Bool)}{n h0:Nat}(b:Nat->Bool)(hbe:∀i,i<n->∀Q:Option Bool->SortSt->Prop,Q (some (b i)) st->wpS (model prog w) A E s (be i) Q st)(hb:∀i j,i<=j->j<n->b j=true->b i=true)
  (hlh:l0<=h0) (hn:h0<=n) (hl:∀i,i<l0->b i=true) (hh:∀i,h0<=i->i<n->b i=false)
  {Q:Option Nat->SortSt->Prop} (q:∀k,k<=n->(∀i,i<k->b i=true)->(∀i,k<=i->i<n->b i=false)->Q (some k) st):wpS (model prog w) A E s (Y5 be n l0 h0) Q st:=by
 unfold Y5;refine aW (dR (cD (I:=λx c st'=>st'=st/\∃lo hi,c=(none,lo,hi)/\lo<=hi/\hi<=n/\hi-lo<=n-x/\(∀i,i<lo->b i=true)/\(∀i,hi<=i->i<n->b i=false))
  (Q:=λc st'=>st'=st/\∃k,c=(none,k,k)/\k<=n/\(∀i,i<k->b i=true)/\(∀i,k<=i->i<n->b i=false)) ?step ?fin ⟨rfl,l0,h0,rfl,hlh,hn,by lia,hl,hh⟩) ?post)
 case post=>
  rintro c st' ⟨rfl,k,rfl,h1,h2,h3⟩;exact br (q k h1 h2 h3)
 case fin=>
  rintro c st' ⟨rfl,lo,hi,rfl,h1,h2,h3,h4,h5⟩;have:lo=hi:=by lia
  subst this;exact⟨rfl,lo,rfl,h2,h4,h5⟩
 case step=>
  rintro x c st' _ hx ⟨rfl,lo,hi,rfl,h1,h2,h3,h4,h5⟩;dsimp only;by_cases hge:lo>=hi
  ·rw[aM hge];have:lo=hi:=by lia
   subst this;exact br ⟨rfl,lo,rfl,h2,h4,h5⟩
  ·rw[aJ hge];have hm:lo+(hi-lo) / 2<hi:=by lia
   obtain⟨m,hm'⟩:∃m,m=lo+(hi-lo) / 2:=⟨_,rfl⟩;rw[<- hm']at hm ⊢;refine aW (hbe m (by lia) _ ?_)
   cases hv:b m
   ·simp only[bu,bW];refine br ⟨rfl,lo,m,rfl,by lia,by lia,by lia,h4,λi a c=>?_⟩
    cases z:b i with
    | false=>rfl
    | true=>rw[hb m i a c z]at hv;cases hv
   ·simp only[cV];exact br ⟨rfl,m+1,hi,rfl,by lia,h2,by lia,λi a=>hb i m (by lia) (by lia) hv,h5⟩
theorem I0{be:Nat->StateT SortSt Sem (Option Bool)}{n:Nat}(b:Nat->Bool)(hbe:∀i,i<n->∀Q:Option Bool->SortSt->Prop,Q (some (b i)) st->wpS (model prog w) A E s (be i) Q st)(hb:∀i j,i<=j->j<n->b j=true->b i=true)(hh:hint<n)
  {Q:Option Nat->SortSt->Prop} (q:∀k,k<=n->(∀i,i<k->b i=true)->(∀i,k<=i->i<n->b i=false)->Q (some k) st):wpS (model prog w) A E s (Uj be n hint) Q st:=by
 unfold Uj;have hb':∀i j,i<=j->j<n->b i=false->b j=false:=λi j a c d=>by
  cases z:b j with
  | false=>rfl
  | true=>rw[hb i j a c z]at d;cases d
 refine aW (hbe hint hh _ ?_)
 cases hr:b hint
 ·dsimp only;simp only[bu,bW];refine aW (dR (cD (I:=λx c st'=>st'=st/\∃l u,c=(none,l,u)/\x+1<=u/\l<u/\l<=hint/\b (hint-l)=false)
   (Q:=λc st'=>st'=st/\∃l u,c=(none,l,u)/\l<u/\l<=hint/\b (hint-l)=false/\(u>=hint+1\/b (hint-u)=true)) ?step ?fin ⟨rfl,0,1,rfl,by lia,by lia,by lia,hr⟩) ?post)
  case post=>
   rintro c st' ⟨rfl,l,u,rfl,h1,h2,h3,h4⟩;dsimp only;refine(TX b hbe hb (l0:=hint+1-min u (hint+1)) (h0:=hint-l) (by lia) (by lia) (λi a=>?_) (λi a c=>hb' _ _ a c h3) q:wpS (model prog w) A E s (Y5 be n _ _) Q st')
   rcases h4 with h4|h4
   ·lia
   ·exact hb i (hint-u) (by lia) (by lia) h4
  case fin=>
   rintro c st' ⟨rfl,l,u,rfl,h1,h2,h3,h4⟩;exact⟨rfl,l,u,rfl,h2,h3,h4,.inl (by lia)⟩
  case step=>
   rintro x c st' _ hx ⟨rfl,l,u,rfl,h1,h2,h3,h4⟩;dsimp only;by_cases hge:u>=hint+1
   ·rw[aM hge];exact br ⟨rfl,l,u,rfl,h2,h3,h4,.inl hge⟩
   ·rw[aJ hge];refine aW (hbe _ (by lia) _ ?_)
    cases hv:b (hint-u)
    ·simp only[bu,bW];exact br ⟨rfl,u,2 * u+1,rfl,by lia,by lia,by lia,hv⟩
    ·simp only[cV];exact br ⟨rfl,l,u,rfl,h2,h3,h4,.inr hv⟩
 ·dsimp only;simp only[cV];refine aW (dR (cD (I:=λx c st'=>st'=st/\∃l u,c=(none,l,u)/\x+1<=u/\l<u/\hint+l<n/\b (hint+l)=true)
   (Q:=λc st'=>st'=st/\∃l u,c=(none,l,u)/\l<u/\hint+l<n/\b (hint+l)=true/\(u>=n-hint\/b (hint+u)=false)) ?step2 ?fin2 ⟨rfl,0,1,rfl,by lia,by lia,by lia,hr⟩) ?post2)
  case post2=>
   rintro c st' ⟨rfl,l,u,rfl,h1,h2,h3,h4⟩;dsimp only;refine(TX b hbe hb (l0:=hint+l+1) (h0:=hint+min u (n-hint)) (by lia) (by lia) (λi a=>hb i _ (by lia) h2 h3) (λi a c=>?_) q:wpS (model prog w) A E s (Y5 be n _ _) Q st')
   rcases h4 with h4|h4
   ·lia
   ·exact hb' (hint+u) i (by lia) c h4
  case fin2=>
   rintro c st' ⟨rfl,l,u,rfl,h1,h2,h3,h4⟩;exact⟨rfl,l,u,rfl,h2,h3,h4,.inl (by lia)⟩
  case step2=>
   rintro x c st' _ hx ⟨rfl,l,u,rfl,h1,h2,h3,h4⟩;dsimp only;by_cases hge:u>=n-hint
   ·rw[aM hge];exact br ⟨rfl,l,u,rfl,h2,h3,h4,.inl hge⟩
   ·rw[aJ hge];refine aW (hbe _ (by lia) _ ?_)
    cases hv:b (hint+u)
    ·simp only[c_,cV];exact br ⟨rfl,l,u,rfl,h2,h3,h4,.inr hv⟩
    ·simp only[cP,bu,bW];exact br ⟨rfl,u,2 * u+1,rfl,by lia,by lia,by lia,hv⟩
end
section
variable {prog:aj}{w:ah}{A:az}{E:af->aA->Prop}{s:aA}{o:Ord}{N:Nat}{f:Nat->Keyed}{kd:SortKind}{st:SortSt}
theorem O0(C:Bh prog w A s o N f kd)(hk:kindOf st=kd){base n:Nat}{arr:Array Keyed}{h:Nat->Nat}(ha:∀i,i<n->arr[base+i]?=some (f (h i)))(hN:∀i,i<n->h i<key)(hkN:key<N)(so:So o h 0 n)(hh:hint<n)
  {Q:Option Nat->SortSt->Prop} (q:∀k,k<=n->(∀i,i<k->P o (h i) key)->(∀i,k<=i->i<n->P o key (h i))->Q (some k) st):wpS (model prog w) A E s (l7 false (f key) arr base n hint) Q st:=by
 rw[Ar];refine I0 (λi=>!o.lt key (h i)) (λi hi Q' q'=>?_) (λi j a b c=>?_) hh λk h1 h2 h3=>q k h1 (λi a=>?_) λi a b=>?_
 ·refine aW (jX (ha i hi) ?_);simp only[bu,bW];exact aW (zD C hk hkN (by have:=hN i hi;lia) (br q'))
 ·by_cases z:i=j
  ·subst z;exact c
  ·have r:=so i j (bI _) (by lia) b;have c':o.lt key (h j)=false:=by simpa using c
   cases e:o.lt key (h i)with
   | false=>rfl
   | true=>
    have:=(P.of_lt e).trans r;rw[this.lt (hN j b)]at c';cases c'
 ·have:=h2 i a;exact P.xq (by simpa using this) (hN i (by lia))
 ·have:=h3 i a b;exact .inl (by simpa using this)
theorem Lf(C:Bh prog w A s o N f kd)(hk:kindOf st=kd){base n:Nat}{arr:Array Keyed}{h:Nat->Nat}(ha:∀i,i<n->arr[base+i]?=some (f (h i)))(hN:∀i,i<n->key<h i/\h i<N)(so:So o h 0 n)(hh:hint<n)
  {Q:Option Nat->SortSt->Prop} (q:∀k,k<=n->(∀i,i<k->P o (h i) key)->(∀i,k<=i->i<n->P o key (h i))->Q (some k) st):wpS (model prog w) A E s (l7 true (f key) arr base n hint) Q st:=by
 rw[Ar];refine I0 (λi=>o.lt (h i) key) (λi hi Q' q'=>?_) (λi j a b c=>?_) hh λk h1 h2 h3=>q k h1 (λi a=>?_) λi a b=>?_
 ·refine aW (jX (ha i hi) ?_);simp only[cV];exact zD C hk (hN i hi).2 (by have:=hN i hi;lia) q'
 ·by_cases z:i=j
  ·subst z;exact c
  ·have r:=so i j (bI _) (by lia) b;exact(r.trans (P.of_lt c)).lt (hN i (by lia)).1
 ·exact .inl (h2 i a)
 ·exact P.xq (h3 i a b) (hN i b).1
end
noncomputable def zT:Array Keyed->Array Keyed->StateT SortSt Sem (Array Keyed):=sortPriv% PySem.Builtin.mergeLo
noncomputable def yX:Array Keyed->Array Keyed->StateT SortSt Sem (Array Keyed):=sortPriv% PySem.Builtin.mergeHi
noncomputable def xm:Nat->StateT SortSt Sem Unit:=sortPriv% PySem.Builtin.setMinGallop
theorem RB(m:Nat):xm m=modify λs=>SortSt.mk' (kindOf s) (arrOf s) (pendingOf s) m (failedOf s):=rfl
theorem Gp(a b:Array Keyed):zT a b=(do
 rule "list.sort.merge-lo"
 let all_:=a.size+b.size
 let end1 (acc:Array Keyed) (p q:Nat):=acc++a.extract p a.size++b.extract q b.size
 let end2 (acc:Array Keyed) (p q:Nat):=acc++b.extract q b.size++a.extract p a.size
 let mut acc:Array Keyed:=#[<- elem' b 0]
 let mut p:=0
 let mut q:=1
 if q == b.size then return end1 acc p q
 if p+1 == a.size then return end2 acc p q
 let mut mg:=gallopOf (<- get)
 for _ in [0:all_] do
  let mut ca:=0
  let mut cb:=0
  for _ in [0:all_] do
   let some won <- lt' (<- elem' b q) (<- elem' a p)|return end1 acc p q
   if won then
    acc:=acc.push (<- elem' b q);q:=q+1;cb:=cb+1;ca:=0
    if q == b.size then return end1 acc p q
    if cb>=mg then break
   else
    acc:=acc.push (<- elem' a p);p:=p+1;ca:=ca+1;cb:=0
    if p+1 == a.size then return end2 acc p q
    if ca>=mg then break
  rule "list.sort.gallop"
  mg:=mg+1
  for _ in [0:all_] do
   if mg>1 then mg:=mg-1
   xm mg
   let some k <- l7 false (<- elem' b q) a p (a.size-p) 0|return end1 acc p q
   ca:=k
   if k>0 then
    acc:=acc++a.extract p (p+k);p:=p+k
    if p+1 == a.size then return end2 acc p q
    if p == a.size then return end1 acc p q
   acc:=acc.push (<- elem' b q);q:=q+1
   if q == b.size then return end1 acc p q
   let some k <- l7 true (<- elem' a p) b q (b.size-q) 0|return end1 acc p q
   cb:=k
   if k>0 then
    acc:=acc++b.extract q (q+k);q:=q+k
    if q == b.size then return end1 acc p q
   acc:=acc.push (<- elem' a p);p:=p+1
   if p+1 == a.size then return end2 acc p q
   if ca<7 && cb<7 then break
  mg:=mg+1
  xm mg
 unsupported "internal:list.sort.merge-bound"):=rfl
section
variable {o:Ord}{N:Nat}{f:Nat->Keyed}{A B hs:List Nat}{ia ib:Nat}
noncomputable def fa (f:Nat->Keyed)(l:List Nat):Array Keyed:=(l.map f).toArray
theorem t8(l:List Nat):(fa f l).size=l.length:=by unfold fa;rw[a_,aK]
theorem LZ(l:List Nat)(i:Nat):(fa f l)[i]?=(l[i]?).map f:=by unfold fa;rw[eL,aP]
theorem mw{l:List Nat}{i x:Nat}(h:l[i]?=some x):(fa f l)[i]?=some (f x):=by rw[LZ,h];rfl
theorem vB(l:List Nat)(x:Nat):(fa f l).push (f x)=fa f (l++[x]):=by
 unfold fa;rw[List.push_toArray,bO];rfl
theorem oY(l m:List Nat):fa f l++fa f m=fa f (l++m):=by
 unfold fa;rw[List.append_toArray,bO]
theorem wz(l:List Nat)(i j:Nat):(fa f l).extract i j=fa f ((l.drop i).take (j-i)):=by
 unfold fa;rw[List.extract_toArray,List.extract_eq_take_drop,List.map_take,List.map_drop]
theorem xU(l:List Nat)(i:Nat):(fa f l).extract i l.length=fa f (l.drop i):=by
 rw[wz,List.take_of_length_le (by rw[fF];lia)]
structure Ab (o:Ord)(N:Nat)(A B:List Nat):Prop where
 sa:A.Pairwise (P o)
 sb:B.Pairwise (P o)
 lt:∀x∈A,∀y∈B,x<y
 nb:∀y∈B,y<N
 na:∀x∈A,x<N
structure Mg (o:Ord)(A B hs:List Nat)(ia ib:Nat):Prop where
 la:ia<=A.length
 lb:ib<=B.length
 len:hs.length=ia+ib
 so:hs.Pairwise (P o)
 mem:∀x∈hs,x∈A\/x∈B
 ua:∀x∈hs,∀y∈A.drop ia,P o x y
 ub:∀x∈hs,∀y∈B.drop ib,P o x y
noncomputable def Res (o:Ord)(f:Nat->Keyed)(A B:List Nat)(out:Array Keyed):Prop:=∃hs:List Nat,out=fa f hs/\hs.length=A.length+B.length/\hs.Pairwise (P o)/\∀x∈hs,x∈A\/x∈B
theorem sY{l:List Nat}(h:l.Pairwise (P o)){i j x:Nat}(hx:l[i]?=some x)(hy:l[j]?=some y)(hij:i<j):P o x y:=by
 obtain⟨h1,e1⟩:=aN.mp hx;obtain⟨h2,e2⟩:=aN.mp hy;rw[<- e1,<- e2];exact cY.mp h i j h1 h2 hij
theorem vN{l:List Nat}{y:Nat}(h:y∈l.drop i):∃j,i<=j/\l[j]?=some y:=by
 obtain⟨k,hk⟩:=eT h;rw[iU]at hk;exact⟨i+k,by lia,hk⟩
theorem Mg.xC(ab:Ab o N A B)(m:Mg o A B hs ia ib){x:Nat}(hx:A[ia]?=some x)(h:∀y∈B.drop ib,P o x y):Mg o A B (hs++[x]) (ia+1) ib:=by
 obtain⟨h1,e1⟩:=aN.mp hx;have hd:A.drop ia=x::A.drop (ia+1):=by rw[<- e1];exact cZ h1
 refine⟨by lia,m.lb,by rw[aR,m.len];show ia+ib+1=_;lia,?_,λz hz=>?_,λz hz y hy=>?_,λz hz y hy=>?_⟩
 ·rw[b6];exact⟨m.so,cJ ..,λa ha b hb=>by rw[aV.mp hb];exact m.ua a ha x (by rw[hd];exact aG ..)⟩
 ·rcases bD.mp hz with z'|z'
  ·exact m.mem z z'
  ·rw[aV.mp z'];exact .inl (aX hx)
 ·rcases bD.mp hz with z'|z'
  ·exact m.ua z z' y (by rw[hd];exact aI _ hy)
  ·rw[aV.mp z'];obtain⟨j,hj,ej⟩:=vN hy;exact sY ab.sa hx ej (by lia)
 ·rcases bD.mp hz with z'|z'
  ·exact m.ub z z' y hy
  ·rw[aV.mp z'];exact h y hy
theorem Ab.yv(ab:Ab o N A B)(m:Mg o A B hs ia ib){x:Nat}(hx:B[ib]?=some x)(h:∀y∈A.drop ia,P o x y):Mg o A B (hs++[x]) ia (ib+1):=by
 obtain⟨h1,e1⟩:=aN.mp hx;have hd:B.drop ib=x::B.drop (ib+1):=by rw[<- e1];exact cZ h1
 refine⟨m.la,by lia,by rw[aR,m.len];rfl,?_,λz hz=>?_,λz hz y hy=>?_,λz hz y hy=>?_⟩
 ·rw[b6];exact⟨m.so,cJ ..,λa ha b hb=>by rw[aV.mp hb];exact m.ub a ha x (by rw[hd];exact aG ..)⟩
 ·rcases bD.mp hz with z'|z'
  ·exact m.mem z z'
  ·rw[aV.mp z'];exact .inr (aX hx)
 ·rcases bD.mp hz with z'|z'
  ·exact m.ua z z' y hy
  ·rw[aV.mp z'];exact h y hy
 ·rcases bD.mp hz with z'|z'
  ·exact m.ub z z' y (by rw[hd];exact aI _ hy)
  ·rw[aV.mp z'];obtain⟨j,hj,ej⟩:=vN hy;exact sY ab.sb hx ej (by lia)
theorem qC{l:List Nat}(h:l.Pairwise (P o)){i x:Nat}(hx:l[i]?=some x)(hxy:P o y x):∀z∈l.drop i,P o y z:=λz hz=>by
 obtain⟨j,hj,ej⟩:=vN hz;by_cases c:j=i
 ·subst c;rw[hx]at ej;cases ej;exact hxy
 ·exact hxy.trans (sY h hx ej (by lia))
theorem take_snoc{l:List Nat}{k x:Nat}(h:l[i+k]?=some x):(l.drop i).take (k+1)=(l.drop i).take k++[x]:=by
 have h':(l.drop i)[k]?=some x:=by rw[iU];exact h
 obtain⟨h1,e1⟩:=aN.mp h';rw[gR h1,e1]
theorem Mg.zm(ab:Ab o N A B)(m:Mg o A B hs ia ib)(hy:B[ib]?=some y):∀k,ia+k<=A.length->(∀i x,i<k->A[ia+i]?=some x->P o x y)->Mg o A B (hs++(A.drop ia).take k) (ia+k) ib
 | 0,_,_=>by rw[fG,ck];exact m
 | k+1,hk,h=>by
  have ih:=Mg.zm ab m hy k (by lia) λi x hi=>h i x (by lia);have hx:A[ia+k]?=some (A[ia+k]'(by lia)):=aF _;rw[take_snoc hx,<- b9];exact ih.xC ab hx (qC ab.sb hy (h k _ (by lia) hx))
theorem Mg.yV(ab:Ab o N A B)(m:Mg o A B hs ia ib)(hy:A[ia]?=some y):∀k,ib+k<=B.length->(∀i x,i<k->B[ib+i]?=some x->P o x y)->Mg o A B (hs++(B.drop ib).take k) ia (ib+k)
 | 0,_,_=>by rw[fG,ck];exact m
 | k+1,hk,h=>by
  have ih:=Mg.yV ab m hy k (by lia) λi x hi=>h i x (by lia);have hx:B[ib+k]?=some (B[ib+k]'(by lia)):=aF _;rw[take_snoc hx,<- b9];exact ab.yv ih hx (qC ab.sa hy (h k _ (by lia) hx))
theorem ym{l:List Nat}(h:l.Pairwise (P o))(i:Nat):(l.drop i).Pairwise (P o):=h.sublist (List.drop_sublist ..)
theorem Mg.fin(ab:Ab o N A B)(m:Mg o A B hs ia ib)(h:∀x∈A.drop ia,∀y∈B.drop ib,P o x y):Res o f A B (fa f hs++(fa f A).extract ia A.length++(fa f B).extract ib B.length):=by
 rw[xU,xU,oY,oY];have la:=m.la;have lb:=m.lb;refine⟨_,rfl,by rw[aR,aR,m.len,fF,fF];lia,?_,λx hx=>?_⟩
 ·rw[b6,b6];refine⟨⟨m.so,ym ab.sa _,m.ua⟩,ym ab.sb _,λx hx y hy=>?_⟩
  rcases bD.mp hx with z|z
  ·exact m.ub x z y hy
  ·exact h x z y hy
 ·rcases bD.mp hx with z|z
  ·rcases bD.mp z with z|z
   ·exact m.mem x z
   ·exact .inl (eU z)
  ·exact .inr (eU z)
theorem Mg.Vd(ab:Ab o N A B)(m:Mg o A B hs ia ib)(h:∀x∈A.drop ia,∀y∈B.drop ib,P o y x):Res o f A B (fa f hs++(fa f B).extract ib B.length++(fa f A).extract ia A.length):=by
 rw[xU,xU,oY,oY];have la:=m.la;have lb:=m.lb;refine⟨_,rfl,by rw[aR,aR,m.len,fF,fF];lia,?_,λx hx=>?_⟩
 ·rw[b6,b6];refine⟨⟨m.so,ym ab.sb _,m.ub⟩,ym ab.sa _,λx hx y hy=>?_⟩
  rcases bD.mp hx with z|z
  ·exact m.ua x z y hy
  ·exact h y hy x z
 ·rcases bD.mp hx with z|z
  ·rcases bD.mp z with z|z
   ·exact m.mem x z
   ·exact .inr (eU z)
  ·exact .inl (eU z)
theorem drop_nil{l:List Nat}(h:l.length<=i):l.drop i=[]:=List.drop_eq_nil_of_le h
theorem Jo{l:List Nat}(h:l.Pairwise (P o))(b n:Nat)(hn:b+n<=l.length):So o (λi=>l.getD (b+i) 0) 0 n:=λi j _ hij hj=>
 sY h (i:=b+i) (j:=b+j) (by show _=some (l.getD (b+i) 0);rw[aL,aF (show b+i<l.length by lia)];rfl) (by show _=some (l.getD (b+j) 0);rw[aL,aF (show b+j<l.length by lia)];rfl) (by lia)
theorem getD_at{l:List Nat}{i:Nat}(h:i<l.length):l[i]?=some (l.getD i 0):=by
 rw[aL,aF h];rfl
end
structure Sm (st st':SortSt):Prop where
 a:arrOf st'=arrOf st
 k:kindOf st'=kindOf st
 p:pendingOf st'=pendingOf st
 f:failedOf st'=failedOf st
theorem Sm.refl{st:SortSt}:Sm st st:=⟨rfl,rfl,rfl,rfl⟩
theorem Sm.trans{st:SortSt}(a:Sm st st')(b:Sm st' st''):Sm st st'':=⟨b.a.trans a.a,b.k.trans a.k,b.p.trans a.p,b.f.trans a.f⟩
noncomputable abbrev G:=Option (Array Keyed)×Array Keyed×Nat×Nat×Nat×Nat×Nat
noncomputable def T3 (a b out:Array Keyed)(ia ib mg ac bc:Nat):StateT SortSt Sem (ForInStep G):=do
 let x <- elem' a ia
 if (ia+1+1 == a.size)=true then pure (ForInStep.done (some (out.push x++b.extract ib b.size++a.extract (ia+1) a.size),out.push x,ia+1,ib,mg,ac,bc))
 else if (decide (ac<7) && decide (bc<7))=true then pure (ForInStep.done (none,out.push x,ia+1,ib,mg,ac,bc))
 else pure (ForInStep.yield (none,out.push x,ia+1,ib,mg,ac,bc))
noncomputable def T2 (a b out:Array Keyed)(ia ib mg ac bc:Nat):StateT SortSt Sem (ForInStep G):=do
 let x <- elem' b ib
 if (ib+1 == b.size)=true then pure (ForInStep.done (some (out.push x++a.extract ia a.size++b.extract (ib+1) b.size),out.push x,ia,ib+1,mg,ac,bc))
 else
  let y <- elem' a ia
  let r <- l7 true y b (ib+1) (b.size-(ib+1)) 0
  match r with
  | some k=>
   if k>0 then
    if (ib+1+k == b.size)=true then pure (ForInStep.done (some (out.push x++b.extract (ib+1) (ib+1+k)++a.extract ia a.size++b.extract (ib+1+k) b.size),out.push x++b.extract (ib+1) (ib+1+k),ia,ib+1+k,mg,ac,k))
    else T3 a b (out.push x++b.extract (ib+1) (ib+1+k)) ia (ib+1+k) mg ac k
   else T3 a b (out.push x) ia (ib+1) mg ac k
  | _=>pure (ForInStep.done (some (out.push x++a.extract ia a.size++b.extract (ib+1) b.size),out.push x,ia,ib+1,mg,ac,bc))
noncomputable def T1 (a b out:Array Keyed)(ia ib mg ac bc:Nat):StateT SortSt Sem (ForInStep G):=do
 xm mg
 let x <- elem' b ib
 let r <- l7 false x a ia (a.size-ia) 0
 match r with
 | some k=>
  if k>0 then
   if (ia+k+1 == a.size)=true then pure (ForInStep.done (some (out++a.extract ia (ia+k)++b.extract ib b.size++a.extract (ia+k) a.size),out++a.extract ia (ia+k),ia+k,ib,mg,k,bc))
   else if (ia+k == a.size)=true then pure (ForInStep.done (some (out++a.extract ia (ia+k)++a.extract (ia+k) a.size++b.extract ib b.size),out++a.extract ia (ia+k),ia+k,ib,mg,k,bc))
   else T2 a b (out++a.extract ia (ia+k)) (ia+k) ib mg k bc
  else T2 a b out ia ib mg k bc
 | _=>pure (ForInStep.done (some (out++a.extract ia a.size++b.extract ib b.size),out,ia,ib,mg,ac,bc))
section
variable {prog:aj}{w:ah}{A:az}{E:af->aA->Prop}{s:aA}{o:Ord}{N:Nat}{f:Nat->Keyed}{kd:SortKind}{st st0:SortSt}{X Y hs:List Nat}{ia ib:Nat}
theorem u5(h:Sm st0 st){Q:Unit->SortSt->Prop}(q:∀st',Sm st0 st'->Q () st'):wpS (model prog w) A E s (xm m) Q st:=by
 rw[RB];exact fK (q _ (h.trans ⟨rfl,rfl,rfl,rfl⟩))
noncomputable def On (o:Ord)(f:Nat->Keyed)(X Y:List Nat)(n:Nat)(hs:List Nat)(ia ib:Nat):Prop:=Mg o X Y hs ia ib/\ia+1<X.length/\ib<Y.length/\n<=ia+ib
noncomputable def G2 (o:Ord)(f:Nat->Keyed)(X Y:List Nat)(n:Nat)(st0:SortSt):ForInStep G->SortSt->Prop:=λr st'=>Sm st0 st'/\match r with
 | .done c=>(∃r z,c=(some r,z)/\Res o f X Y r)\/∃hs ia ib mg ac bc,c=(none,fa f hs,ia,ib,mg,ac,bc)/\On o f X Y n hs ia ib
 | .yield c=>∃hs ia ib mg ac bc,c=(none,fa f hs,ia,ib,mg,ac,bc)/\On o f X Y n hs ia ib
noncomputable def Top (o:Ord)(X Y:List Nat):Prop:=∀i x,X[i]?=some x->i+1=X.length->∀y∈Y,P o y x
theorem un4{α β γ δ κ:Type}{S:Prop}{g:α->β->γ->δ->κ}{O:α->β->γ->δ->Prop}{T:κ->Prop}(k:S->∀a b c d,O a b c d->T (g a b c d)):∀q,(S/\∃a b c d,q=g a b c d/\O a b c d)->T q:=by
 rintro q ⟨s,a,b,c,d,rfl,o⟩;exact k s a b c d o
theorem un5{α β γ δ ε κ:Type}{S:Prop}{g:α->β->γ->δ->ε->κ}{O:α->β->γ->δ->ε->Prop}{T:κ->Prop}(k:S->∀a b c d e,O a b c d e->T (g a b c d e)):∀q,(S/\∃a b c d e,q=g a b c d e/\O a b c d e)->T q:=by
 rintro q ⟨s,a,b,c,d,e,rfl,o⟩;exact k s a b c d e o
theorem un6{α β γ δ ε ζ κ:Type}{S:Prop}{g:α->β->γ->δ->ε->ζ->κ}{O:α->β->γ->δ->ε->ζ->Prop}{T:κ->Prop}(k:S->∀a b c d e f,O a b c d e f->T (g a b c d e f)):∀q,(S/\∃a b c d e f,q=g a b c d e f/\O a b c d e f)->T q:=by
 rintro q ⟨s,a,b,c,d,e,f,rfl,o⟩;exact k s a b c d e f o
theorem uo5{α β γ δ ε κ ρ σ:Type}{S:Prop}{j:ρ->σ->κ}{R:ρ->Prop}{g:α->β->γ->δ->ε->κ}{O:α->β->γ->δ->ε->Prop}{T:κ->Prop}(k1:S->∀r z,R r->T (j r z))(k:S->∀a b c d e,O a b c d e->T (g a b c d e)):∀q,(S/\((∃r z,q=j r z/\R r)\/∃a b c d e,q=g a b c d e/\O a b c d e))->T q:=by
 rintro q ⟨s,⟨r,z,rfl,hr⟩|⟨a,b,c,d,e,rfl,o⟩⟩
 ·exact k1 s r z hr
 ·exact k s a b c d e o
theorem uo6{α β γ δ ε ζ κ ρ σ:Type}{S:Prop}{j:ρ->σ->κ}{R:ρ->Prop}{g:α->β->γ->δ->ε->ζ->κ}{O:α->β->γ->δ->ε->ζ->Prop}{T:κ->Prop}(k1:S->∀r z,R r->T (j r z))(k:S->∀a b c d e f,O a b c d e f->T (g a b c d e f)):∀q,(S/\((∃r z,q=j r z/\R r)\/∃a b c d e f,q=g a b c d e f/\O a b c d e f))->T q:=by
 rintro q ⟨s,⟨r,z,rfl,hr⟩|⟨a,b,c,d,e,f,rfl,o⟩⟩
 ·exact k1 s r z hr
 ·exact k s a b c d e f o
theorem vA(ab:Ab o N X Y)(tp:Top o X Y)(m:Mg o X Y hs ia ib)(h:ia+1=X.length):Res o f X Y (fa f hs++(fa f Y).extract ib Y.length++(fa f X).extract ia X.length):=
 m.Vd ab λx hx y hy=>by
  obtain⟨j,hj,ej⟩:=vN hx;have:=(aN.mp ej).1;exact tp j x ej (by lia) y (eU hy)
theorem TM(ab:Ab o N X Y)(tp:Top o X Y)(hm:Sm st0 st){n mg x:Nat}(m:Mg o X Y hs ia ib)(ha:ia+1<X.length)(hb:ib<Y.length)(hn:n<=ia+ib)(hx:X[ia]?=some x)(hy:Y[ib]?=some y)(hxy:P o x y) :
  wpS (model prog w) A E s (T3 (fa f X) (fa f Y) (fa f hs) ia ib mg ac bc) (G2 o f X Y n st0) st:=by
 unfold T3;simp only[t8];refine aW (jX (mw hx) ?_);have m2:=m.xC ab hx (qC ab.sb hy hxy);rw[vB];by_cases c:ia+1+1=X.length
 ·rw[aM (by rw[c];exact bK _)];exact br ⟨hm,.inl ⟨_,_,rfl,vA ab tp m2 c⟩⟩
 ·rw[aJ (by simpa using c)];by_cases c2:(decide (ac<7) && decide (bc<7))=true
  ·rw[aM c2];exact br ⟨hm,.inr ⟨_,_,_,_,_,_,rfl,m2,by lia,hb,by lia⟩⟩
  ·rw[aJ c2];exact br ⟨hm,⟨_,_,_,_,_,_,rfl,m2,by lia,hb,by lia⟩⟩
theorem TH(C:Bh prog w A s o N f kd)(hk:kindOf st=kd)(ab:Ab o N X Y)(tp:Top o X Y)(hm:Sm st0 st){n mg x:Nat}(m:Mg o X Y hs ia ib)(ha:ia+1<X.length)(hb:ib<Y.length)(hn:n<=ia+ib)(hx:X[ia]?=some x)(hy:Y[ib]?=some y)(hxy:P o y x) :
  wpS (model prog w) A E s (T2 (fa f X) (fa f Y) (fa f hs) ia ib mg ac bc) (G2 o f X Y n st0) st:=by
 unfold T2;simp only[t8];refine aW (jX (mw hy) ?_);have m2:=ab.yv m hy (qC ab.sa hx hxy);rw[vB];by_cases c:ib+1=Y.length
 ·rw[aM (by rw[c];exact bK _)];exact br ⟨hm,.inl ⟨_,_,rfl,m2.fin ab λx _ y hy=>by rw[drop_nil (by lia)]at hy;cases hy⟩⟩
 ·rw[aJ (by simpa using c)];refine aW (jX (mw hx) ?_);refine aW (Lf C hk (h:=λi=>Y.getD (ib+1+i) 0) (λi hi=>mw (getD_at (by lia))) (λi hi=>?_) (Jo ab.sb _ _ (by lia)) (by lia) λk k1 k2 k3=>?_)
  ·have:=aX (getD_at (l:=Y) (i:=ib+1+i) (by lia));exact⟨ab.lt x (aX hx) _ this,ab.nb _ this⟩
  ·dsimp only;have m3:=m2.yV ab hx k (by lia) λi z hi ez=>by
    have:=k2 i hi;rw[aL,ez]at this;exact this
   by_cases c2:k>0
   ·rw[aM c2,wz,show ib+1+k-(ib+1)=k by lia,oY];by_cases c3:ib+1+k=Y.length
    ·rw[aM (by rw[c3];exact bK _)];exact br ⟨hm,.inl ⟨_,_,rfl,m3.fin ab λx _ y hy=>by rw[drop_nil (by lia)]at hy;cases hy⟩⟩
    ·rw[aJ (by simpa using c3)];exact TM ab tp hm m3 ha (by lia) (by lia) hx (getD_at (by lia)) (k3 k (aO _) (by lia))
   ·rw[aJ c2];have:k=0:=by lia
    subst this;exact TM ab tp hm m2 ha (by lia) (by lia) hx (getD_at (by lia)) (k3 0 (aO _) (by lia))
theorem Yk(C:Bh prog w A s o N f kd)(hk:kindOf st0=kd)(ab:Ab o N X Y)(tp:Top o X Y)(hm:Sm st0 st){n mg:Nat}(m:Mg o X Y hs ia ib)(ha:ia+1<X.length)(hb:ib<Y.length)(hn:n<=ia+ib) :
  wpS (model prog w) A E s (T1 (fa f X) (fa f Y) (fa f hs) ia ib mg ac bc) (G2 o f X Y n st0) st:=by
 unfold T1;simp only[t8];refine aW (u5 hm λst1 hm1=>?_);have hy:=getD_at (l:=Y) (i:=ib) hb;have yB:=aX hy;refine aW (jX (mw hy) ?_);refine aW (O0 C (by rw[hm1.k];exact hk) (h:=λi=>X.getD (ia+i) 0) (λi hi=>mw (getD_at (by lia))) (λi hi=>ab.lt _ (aX (getD_at (l:=X) (i:=ia+i) (by lia))) _ yB) (ab.nb _ yB) (Jo ab.sa _ _ (by lia)) (by lia) λk k1 k2 k3=>?_);dsimp only;have m3:=m.zm ab hy k (by lia) λi z hi ez=>by
  have:=k2 i hi;rw[aL,ez]at this;exact this
 by_cases c2:k>0
 ·rw[aM c2,wz,show ia+k-ia=k by lia,oY];by_cases c3:ia+k+1=X.length
  ·rw[aM (by rw[c3];exact bK _)];exact br ⟨hm1,.inl ⟨_,_,rfl,vA ab tp m3 c3⟩⟩
  ·rw[aJ (by simpa using c3)];by_cases c4:ia+k=X.length
   ·rw[aM (by rw[c4];exact bK _)];exact br ⟨hm1,.inl ⟨_,_,rfl,m3.fin ab λx hx y _=>by rw[drop_nil (by lia)]at hx;cases hx⟩⟩
   ·rw[aJ (by simpa using c4)];exact TH C (by rw[hm1.k];exact hk) ab tp hm1 m3 (by lia) hb (by lia) (getD_at (by lia)) hy (k3 k (aO _) (by lia))
 ·rw[aJ c2];have:k=0:=by lia
  subst this;exact TH C (by rw[hm1.k];exact hk) ab tp hm1 m ha hb hn (getD_at (by lia)) hy (k3 0 (aO _) (by lia))
theorem X0(C:Bh prog w A s o N f kd)(hk:kindOf st=kd)(ab:Ab o N X Y)(tp:Top o X Y)(h1:1<=X.length)(hy0:Y[0]?=some y0)(h0:∀x∈X,P o y0 x)
  {Q:Array Keyed->SortSt->Prop} (q:∀out st',Sm st st'->Res o f X Y out->Q out st'):wpS (model prog w) A E s (zT (fa f X) (fa f Y)) Q st:=by
 rw[Gp];refine aW (wpS_lift (eE ⟨rfl,?_⟩));dsimp only;simp only[t8];have hY:=(aN.mp hy0).1;refine aW (jX (mw hy0) ?_);have m0:Mg o X Y [] 0 0:=⟨bI _,bI _,rfl,List.Pairwise.nil,(λ_ h=>nomatch h),(λ_ h=>nomatch h),(λ_ h=>nomatch h)⟩;have m1:Mg o X Y [y0] 0 1:=ab.yv m0 hy0 h0;have e1:(#[f y0]:Array Keyed)=fa f [y0]:=rfl;rw[e1];by_cases c:1=Y.length
 ·rw[aM (by rw[<- c];rfl)];exact br (q _ _ Sm.refl (m1.fin ab λx _ y hy=>by rw[drop_nil (by lia)]at hy;cases hy))
 ·rw[aJ (by simpa using c)];by_cases c2:0+1=X.length
  ·rw[aM (by rw[<- c2];rfl)];exact br (q _ _ Sm.refl (vA ab tp m1 c2))
  ·rw[aJ (by simpa using c2)];refine aW (gQ ?_);refine aW (dR (cD (I:=λx c st'=>Sm st st'/\∃hs ia ib mg,c=(none,fa f hs,ia,ib,mg)/\On o f X Y (x+1) hs ia ib)
    (Q:=λc st'=>Sm st st'/\∃r z,c=(some r,z)/\Res o f X Y r) ?step ?fin ⟨Sm.refl,_,_,_,_,rfl,m1,by lia,by lia,aO _⟩) ?post)
   case post=>
    rintro c st' ⟨hm,r,z,rfl,hr⟩;exact br (q _ _ hm hr)
   case fin=>
    rintro c st' ⟨hm,hs,ia,ib,mg,rfl,m,a1,a2,a3⟩;exfalso;lia
   case step=>
    intro x c st' _ hx hh;revert hh;revert c;refine un4 λhm hs ia ib mg ho=>?_;have m:=ho.1;have a1:=ho.2.1;have a2:=ho.2.2.1;have a3:=ho.2.2.2;clear ho;dsimp only;refine aW (dR (cD (I:=λx' c st''=>Sm st st''/\∃hs ia ib ac bc,c=(none,fa f hs,ia,ib,ac,bc)/\On o f X Y (x+1+min x' 1) hs ia ib)
     (Q:=λc st''=>Sm st st''/\((∃r z,c=(some r,z)/\Res o f X Y r)\/∃hs ia ib ac bc,c=(none,fa f hs,ia,ib,ac,bc)/\On o f X Y (x+1+1) hs ia ib)) ?istep ?ifin ⟨hm,_,_,_,_,_,rfl,m,a1,a2,a3⟩) ?ipost)
    case ifin=>
     rintro c st'' ⟨hm',hs,ia,ib,ac,bc,rfl,m,a1,a2,a3⟩;exact⟨hm',.inr ⟨_,_,_,_,_,rfl,m,a1,a2,by lia⟩⟩
    case istep=>
     intro x' c st'' _ hx' hh;revert hh;revert c;refine un5 λhm' hs ia ib ac bc ho=>?_;have m:=ho.1;have a1:=ho.2.1;have a2:=ho.2.2.1;have a3:=ho.2.2.2;clear ho;dsimp only;have hy:=getD_at (l:=Y) (i:=ib) a2;have hxx:=getD_at (l:=X) (i:=ia) (by lia);have yB:=aX hy;have xA:=aX hxx;have lt:=ab.lt _ xA _ yB;refine aW (jX (mw hy) ?_);refine aW (jX (mw hxx) ?_);refine aW (zD C (by rw[hm'.k];exact hk) (ab.nb _ yB) (ab.na _ xA) ?_)
     cases hl:o.lt (Y.getD ib 0) (X.getD ia 0)
     ·simp only[bu,bW];refine aW (jX (mw hxx) ?_);have m2:=m.xC ab hxx (qC ab.sb hy (P.xq hl lt));rw[vB];by_cases c3:ia+1+1=X.length
      ·rw[aM (by rw[c3];exact bK _)];exact br ⟨hm',.inl ⟨_,_,rfl,vA ab tp m2 c3⟩⟩
      ·rw[aJ (by simpa using c3)];by_cases c4:ac+1>=mg
       ·rw[aM c4];exact br ⟨hm',.inr ⟨_,_,_,_,_,rfl,m2,by lia,a2,by lia⟩⟩
       ·rw[aJ c4];exact br ⟨hm',_,_,_,_,_,rfl,m2,by lia,a2,by lia⟩
     ·simp only[cV];refine aW (jX (mw hy) ?_);have m2:=ab.yv m hy (qC ab.sa hxx (P.of_lt hl));rw[vB];by_cases c3:ib+1=Y.length
      ·rw[aM (by rw[c3];exact bK _)];exact br ⟨hm',.inl ⟨_,_,rfl,m2.fin ab λx _ y hy=>by rw[drop_nil (by lia)]at hy;cases hy⟩⟩
      ·rw[aJ (by simpa using c3)];by_cases c4:bc+1>=mg
       ·rw[aM c4];exact br ⟨hm',.inr ⟨_,_,_,_,_,rfl,m2,a1,by lia,by lia⟩⟩
       ·rw[aJ c4];exact br ⟨hm',_,_,_,_,_,rfl,m2,a1,by lia,by lia⟩
    case ipost=>
     intro c st'' hh;revert hh;revert c;refine uo5 (λhm' r z hr=>?_) λhm' hs ia ib ac bc ho=>?_
     ·dsimp only;exact br ⟨hm',r,_,rfl,hr⟩
     ·have m:=ho.1;have a1:=ho.2.1;have a2:=ho.2.2.1;have a3:=ho.2.2.2;clear ho;dsimp only;refine aW (wpS_lift (eE ⟨rfl,?_⟩));refine aW (dR (cD (I:=λx' c st''=>Sm st st''/\∃hs ia ib mg ac bc,c=(none,fa f hs,ia,ib,mg,ac,bc)/\On o f X Y (x+1+1) hs ia ib)
       (Q:=λc st''=>Sm st st''/\((∃r z,c=(some r,z)/\Res o f X Y r)\/∃hs ia ib mg ac bc,c=(none,fa f hs,ia,ib,mg,ac,bc)/\On o f X Y (x+1+1) hs ia ib)) ?jstep ?jfin ⟨hm',_,_,_,_,_,_,rfl,m,a1,a2,a3⟩) ?jpost)
      case jfin=>
       rintro c st3 ⟨hm3,hh⟩;exact⟨hm3,.inr hh⟩
      case jstep=>
       intro x' c st3 _ hx' hh;revert hh;revert c;refine un6 λhm3 hs ia ib mg ac bc ho=>?_;have m:=ho.1;have a1:=ho.2.1;have a2:=ho.2.2.1;have a3:=ho.2.2.2;clear ho;dsimp only;have t1:=λmg=>Yk (n:=x+1+1) (mg:=mg) (ac:=ac) (bc:=bc) (E:=E) C hk ab tp hm3 m a1 a2 a3;unfold T1 T2 T3 at t1;simp only[t8]at t1;refine dR (Q:=G2 o f X Y (x+1+1) st) ?_ ?_
       ·by_cases c3:mg>1
        ·rw[aM c3];exact t1 (mg-1)
        ·rw[aJ c3];exact t1 mg
       ·rintro r st4 ⟨hm4,hr⟩
        cases r with
        | done c=>exact⟨hm4,hr⟩
        | yield c=>exact⟨hm4,hr⟩
      case jpost=>
       intro c st3 hh;revert hh;revert c;refine uo6 (λhm3 r z hr=>?_) λhm3 hs ia ib mg ac bc ho=>?_
       ·dsimp only;exact br ⟨hm3,r,_,rfl,hr⟩
       ·have m:=ho.1;have a1:=ho.2.1;have a2:=ho.2.2.1;have a3:=ho.2.2.2;clear ho;dsimp only;refine aW (u5 hm3 λst4 hm4=>?_);exact br ⟨hm4,_,_,_,_,rfl,m,a1,a2,a3⟩
end
theorem Gi(a b:Array Keyed):yX a b=(do
 rule "list.sort.merge-hi"
 let all_:=a.size+b.size
 let end1 (acc:Array Keyed) (p q:Nat):=a.extract 0 p++b.extract 0 q++acc.reverse
 let end2 (acc:Array Keyed) (p q:Nat):=b.extract 0 q++a.extract 0 p++acc.reverse
 let mut p:=a.size-1
 let mut q:=b.size
 let mut acc:Array Keyed:=#[<- elem' a p]
 if p == 0 then return end1 acc p q
 if q == 1 then return end2 acc p q
 let mut mg:=gallopOf (<- get)
 for _ in [0:all_] do
  let mut ca:=0
  let mut cb:=0
  for _ in [0:all_] do
   let some won <- lt' (<- elem' b (q-1)) (<- elem' a (p-1))|return end1 acc p q
   if won then
    p:=p-1;acc:=acc.push (<- elem' a p);ca:=ca+1;cb:=0
    if p == 0 then return end1 acc p q
    if ca>=mg then break
   else
    q:=q-1;acc:=acc.push (<- elem' b q);cb:=cb+1;ca:=0
    if q == 1 then return end2 acc p q
    if cb>=mg then break
  rule "list.sort.gallop"
  mg:=mg+1
  for _ in [0:all_] do
   if mg>1 then mg:=mg-1
   xm mg
   let some t <- l7 false (<- elem' b (q-1)) a 0 p (p-1)|return end1 acc p q
   let k:=p-t
   ca:=k
   if k>0 then
    acc:=acc++(a.extract t p).reverse;p:=t
    if p == 0 then return end1 acc p q
   q:=q-1;acc:=acc.push (<- elem' b q)
   if q == 1 then return end2 acc p q
   let some t <- l7 true (<- elem' a (p-1)) b 0 q (q-1)|return end1 acc p q
   let k:=q-t
   cb:=k
   if k>0 then
    acc:=acc++(b.extract t q).reverse;q:=t
    if q == 1 then return end2 acc p q
    if q == 0 then return end1 acc p q
   p:=p-1;acc:=acc.push (<- elem' a p)
   if p == 0 then return end1 acc p q
   if ca<7 && cb<7 then break
  mg:=mg+1
  xm mg
 unsupported "internal:list.sort.merge-bound"):=rfl
section
variable {o:Ord}{N:Nat}{f:Nat->Keyed}{A B ts:List Nat}{na nb:Nat}
theorem Nr(l:List Nat):(fa f l).reverse=fa f l.reverse:=by
 unfold fa;rw[List.reverse_toArray,List.map_reverse]
theorem yd(l:List Nat)(i:Nat):(fa f l).extract 0 i=fa f (l.take i):=by
 rw[wz,List.drop_zero,Nat.sub_zero]
structure Mh (o:Ord)(A B ts:List Nat)(na nb:Nat):Prop where
 la:na<=A.length
 lb:nb<=B.length
 len:ts.length+na+nb=A.length+B.length
 so:ts.Pairwise (P o)
 mem:∀x∈ts,x∈A\/x∈B
 ua:∀y∈A.take na,∀x∈ts,P o y x
 ub:∀y∈B.take nb,∀x∈ts,P o y x
theorem vJ{l:List Nat}{y:Nat}(h:y∈l.take i):∃j,j<i/\l[j]?=some y:=by
 obtain⟨k,hk⟩:=eT h;have:=(aN.mp hk).1;rw[b8]at this;rw[gg (by lia)]at hk;exact⟨k,by lia,hk⟩
theorem take_one{l:List Nat}{i x:Nat}(h:l[i]?=some x):l.take (i+1)=l.take i++[x]:=by
 obtain⟨h1,e1⟩:=aN.mp h;rw[gR h1,e1]
theorem Mh.xC(ab:Ab o N A B)(m:Mh o A B ts (na+1) nb){x:Nat}(hx:A[na]?=some x)(h:∀y∈B.take nb,P o y x):Mh o A B (x::ts) na nb:=by
 have la:=m.la;have len:=m.len;have ht:=take_one hx;have xin:x∈A.take (na+1):=by rw[ht];exact bQ _ (aV.mpr rfl)
 refine⟨by lia,m.lb,by rw[bz];lia,bM.mpr ⟨λy hy=>m.ua x xin y hy,m.so⟩,λz hz=>?_,λy hy z hz=>?_,λy hy z hz=>?_⟩
 ·rcases bB.mp hz with rfl|z'
  ·exact .inl (aX hx)
  ·exact m.mem z z'
 ·rcases bB.mp hz with rfl|z'
  ·obtain⟨j,hj,ej⟩:=vJ hy;exact sY ab.sa ej hx hj
  ·exact m.ua y (by rw[ht];exact fR _ hy) z z'
 ·rcases bB.mp hz with rfl|z'
  ·exact h y hy
  ·exact m.ub y hy z z'
theorem Mh.Oj(ab:Ab o N A B)(m:Mh o A B ts na (nb+1)){x:Nat}(hx:B[nb]?=some x)(h:∀y∈A.take na,P o y x):Mh o A B (x::ts) na nb:=by
 have lb:=m.lb;have len:=m.len;have ht:=take_one hx;have xin:x∈B.take (nb+1):=by rw[ht];exact bQ _ (aV.mpr rfl)
 refine⟨m.la,by lia,by rw[bz];lia,bM.mpr ⟨λy hy=>m.ub x xin y hy,m.so⟩,λz hz=>?_,λy hy z hz=>?_,λy hy z hz=>?_⟩
 ·rcases bB.mp hz with rfl|z'
  ·exact .inr (aX hx)
  ·exact m.mem z z'
 ·rcases bB.mp hz with rfl|z'
  ·exact h y hy
  ·exact m.ua y hy z z'
 ·rcases bB.mp hz with rfl|z'
  ·obtain⟨j,hj,ej⟩:=vJ hy;exact sY ab.sb ej hx hj
  ·exact m.ub y (by rw[ht];exact fR _ hy) z z'
theorem qI{l:List Nat}(h:l.Pairwise (P o)){i x:Nat}(hx:l[i]?=some x)(hxy:P o x y):∀z∈l.take (i+1),P o z y:=λz hz=>by
 obtain⟨j,hj,ej⟩:=vJ hz;by_cases c:j=i
 ·subst c;rw[hx]at ej;cases ej;exact hxy
 ·exact(sY h ej hx (by lia)).trans hxy
theorem Mh.zm(ab:Ab o N A B){mb:Nat}(hy:B[mb]?=some y):∀(k:Nat) {ts:List Nat}{at_:Nat},Mh o A B ts (at_+k) (mb+1)->(∀i x,at_<=i->i<at_+k->A[i]?=some x->P o y x)->Mh o A B ((A.drop at_).take k++ts) at_ (mb+1)
 | 0,ts,at_,m,_=>by rw[fG];exact m
 | k+1,ts,at_,m,h=>by
  have la:=m.la;have hx:A[at_+k]?=some (A[at_+k]'(by lia)):=aF _;have m2:=Mh.xC ab (show Mh o A B ts (at_+k+1) (mb+1)from m) hx (qI ab.sb hy (h _ _ (by lia) (by lia) hx));have m3:=Mh.zm ab hy k m2 λi x h1 h2=>h i x h1 (by lia);rw[take_snoc hx,b9];exact m3
theorem Mh.yV(ab:Ab o N A B){ma:Nat}(hy:A[ma]?=some y):∀(k:Nat) {ts:List Nat}{at_:Nat},Mh o A B ts (ma+1) (at_+k)->(∀i x,at_<=i->i<at_+k->B[i]?=some x->P o y x)->Mh o A B ((B.drop at_).take k++ts) (ma+1) at_
 | 0,ts,at_,m,_=>by rw[fG];exact m
 | k+1,ts,at_,m,h=>by
  have lb:=m.lb;have hx:B[at_+k]?=some (B[at_+k]'(by lia)):=aF _;have m2:=Mh.Oj ab (show Mh o A B ts (ma+1) (at_+k+1)from m) hx (qI ab.sa hy (h _ _ (by lia) (by lia) hx));have m3:=Mh.yV ab hy k m2 λi x h1 h2=>h i x h1 (by lia);rw[take_snoc hx,b9];exact m3
theorem xZ{l:List Nat}(h:l.Pairwise (P o))(i:Nat):(l.take i).Pairwise (P o):=h.sublist (List.take_sublist ..)
theorem Mh.fin(ab:Ab o N A B)(m:Mh o A B ts na nb)(h:∀x∈A.take na,∀y∈B.take nb,P o x y):Res o f A B ((fa f A).extract 0 na++(fa f B).extract 0 nb++fa f ts):=by
 rw[yd,yd,oY,oY];have la:=m.la;have lb:=m.lb;have len:=m.len;refine⟨_,rfl,by rw[aR,aR,b8,b8];lia,?_,λx hx=>?_⟩
 ·rw[b6,b6];refine⟨⟨xZ ab.sa _,xZ ab.sb _,h⟩,m.so,λx hx y hy=>?_⟩
  rcases bD.mp hx with z|z
  ·exact m.ua x z y hy
  ·exact m.ub x z y hy
 ·rcases bD.mp hx with z|z
  ·rcases bD.mp z with z|z
   ·exact .inl (dF z)
   ·exact .inr (dF z)
  ·exact m.mem x z
theorem Mh.Vd(ab:Ab o N A B)(m:Mh o A B ts na nb)(h:∀x∈A.take na,∀y∈B.take nb,P o y x):Res o f A B ((fa f B).extract 0 nb++(fa f A).extract 0 na++fa f ts):=by
 rw[yd,yd,oY,oY];have la:=m.la;have lb:=m.lb;have len:=m.len;refine⟨_,rfl,by rw[aR,aR,b8,b8];lia,?_,λx hx=>?_⟩
 ·rw[b6,b6];refine⟨⟨xZ ab.sb _,xZ ab.sa _,λx hx y hy=>h y hy x hx⟩,m.so,λx hx y hy=>?_⟩
  rcases bD.mp hx with z|z
  ·exact m.ub x z y hy
  ·exact m.ua x z y hy
 ·rcases bD.mp hx with z|z
  ·rcases bD.mp z with z|z
   ·exact .inr (dF z)
   ·exact .inl (dF z)
  ·exact m.mem x z
noncomputable def XU (o:Ord)(X Y:List Nat):Prop:=∀y,Y[0]?=some y->∀x∈X,P o y x
theorem tN(ab:Ab o N A B)(bt:XU o A B)(m:Mh o A B ts na nb)(h:nb=1):Res o f A B ((fa f B).extract 0 nb++(fa f A).extract 0 na++fa f ts):=
 m.Vd ab λx hx y hy=>by
  obtain⟨j,hj,ej⟩:=vJ hy;have:j=0:=by lia
  subst this;exact bt y ej x (dF hx)
theorem Mh.Dq(ab:Ab o N A B)(m:Mh o A B ts na nb)(h:na=0\/nb=0):Res o f A B ((fa f A).extract 0 na++(fa f B).extract 0 nb++fa f ts):=
 m.fin ab λx hx y hy=>by
  rcases h with rfl|rfl
  ·rw[fG]at hx;cases hx
  ·rw[fG]at hy;cases hy
theorem yo(l:List Nat)(x:Nat):(fa f l.reverse).push (f x)=fa f (x::l).reverse:=by rw[vB,eV]
theorem NU(l m:List Nat):fa f l.reverse++(fa f m).reverse=fa f (m++l).reverse:=by rw[Nr,oY,List.reverse_append]
theorem uN(l:List Nat):(fa f l.reverse).reverse=fa f l:=by rw[Nr,fY]
end
noncomputable abbrev H:=Option (Array Keyed)×Nat×Nat×Array Keyed×Nat×Nat×Nat
noncomputable def U3 (a b out:Array Keyed)(na nb mg ac bc:Nat):StateT SortSt Sem (ForInStep H):=do
 let x <- elem' a (na-1)
 if (na-1 == 0)=true then pure (ForInStep.done (some (a.extract 0 (na-1)++b.extract 0 nb++(out.push x).reverse),na-1,nb,out.push x,mg,ac,bc))
 else if (decide (ac<7) && decide (bc<7))=true then pure (ForInStep.done (none,na-1,nb,out.push x,mg,ac,bc))
 else pure (ForInStep.yield (none,na-1,nb,out.push x,mg,ac,bc))
noncomputable def U2 (a b out:Array Keyed)(na nb mg ac bc:Nat):StateT SortSt Sem (ForInStep H):=do
 let x <- elem' b (nb-1)
 if (nb-1 == 1)=true then pure (ForInStep.done (some (b.extract 0 (nb-1)++a.extract 0 na++(out.push x).reverse),na,nb-1,out.push x,mg,ac,bc))
 else
  let y <- elem' a (na-1)
  let r <- l7 true y b 0 (nb-1) (nb-1-1)
  match r with
  | some t=>
   if nb-1-t>0 then
    if (t == 1)=true then pure (ForInStep.done (some (b.extract 0 t++a.extract 0 na++(out.push x++(b.extract t (nb-1)).reverse).reverse),na,t,out.push x++(b.extract t (nb-1)).reverse,mg,ac,nb-1-t))
    else if (t == 0)=true then pure (ForInStep.done (some (a.extract 0 na++b.extract 0 t++(out.push x++(b.extract t (nb-1)).reverse).reverse),na,t,out.push x++(b.extract t (nb-1)).reverse,mg,ac,nb-1-t))
    else U3 a b (out.push x++(b.extract t (nb-1)).reverse) na t mg ac (nb-1-t)
   else U3 a b (out.push x) na (nb-1) mg ac (nb-1-t)
  | _=>pure (ForInStep.done (some (a.extract 0 na++b.extract 0 (nb-1)++(out.push x).reverse),na,nb-1,out.push x,mg,ac,bc))
noncomputable def U1 (a b out:Array Keyed)(na nb mg ac bc:Nat):StateT SortSt Sem (ForInStep H):=do
 xm mg
 let x <- elem' b (nb-1)
 let r <- l7 false x a 0 na (na-1)
 match r with
 | some t=>
  if na-t>0 then
   if (t == 0)=true then pure (ForInStep.done (some (a.extract 0 t++b.extract 0 nb++(out++(a.extract t na).reverse).reverse),t,nb,out++(a.extract t na).reverse,mg,na-t,bc))
   else U2 a b (out++(a.extract t na).reverse) t nb mg (na-t) bc
  else U2 a b out na nb mg (na-t) bc
 | _=>pure (ForInStep.done (some (a.extract 0 na++b.extract 0 nb++out.reverse),na,nb,out,mg,ac,bc))
section
variable {prog:aj}{w:ah}{A:az}{E:af->aA->Prop}{s:aA}{o:Ord}{N:Nat}{f:Nat->Keyed}{kd:SortKind}{st st0:SortSt}{X Y ts:List Nat}{na nb:Nat}
noncomputable def Oh (o:Ord)(X Y:List Nat)(n:Nat)(ts:List Nat)(na nb:Nat):Prop:=Mh o X Y ts na nb/\1<=na/\2<=nb/\na+nb+n<=X.length+Y.length
noncomputable def H2 (o:Ord)(f:Nat->Keyed)(X Y:List Nat)(n:Nat)(st0:SortSt):ForInStep H->SortSt->Prop:=λr st'=>Sm st0 st'/\match r with
 | .done c=>(∃r z,c=(some r,z)/\Res o f X Y r)\/∃ts na nb mg ac bc,c=(none,na,nb,fa f ts.reverse,mg,ac,bc)/\Oh o X Y n ts na nb
 | .yield c=>∃ts na nb mg ac bc,c=(none,na,nb,fa f ts.reverse,mg,ac,bc)/\Oh o X Y n ts na nb
theorem TU(ab:Ab o N X Y)(hm:Sm st0 st){n mg x:Nat}(m:Mh o X Y ts (na+1) (nb+1))(hb:1<=nb)(hn:na+1+(nb+1)+n<=X.length+Y.length)(hx:X[na]?=some x)(hy:Y[nb]?=some y)(hxy:P o y x) :
  wpS (model prog w) A E s (U3 (fa f X) (fa f Y) (fa f ts.reverse) (na+1) (nb+1) mg ac bc) (H2 o f X Y n st0) st:=by
 unfold U3;rw[show na+1-1=na by lia];refine aW (jX (mw hx) ?_);have m2:=m.xC ab hx (qI ab.sb hy hxy);rw[yo,uN];by_cases c:na=0
 ·rw[aM (by rw[c];rfl)];exact br ⟨hm,.inl ⟨_,_,rfl,m2.Dq ab (.inl c)⟩⟩
 ·rw[aJ (by simpa using c)];by_cases c2:(decide (ac<7) && decide (bc<7))=true
  ·rw[aM c2];exact br ⟨hm,.inr ⟨_,_,_,_,_,_,rfl,m2,by lia,by lia,by lia⟩⟩
  ·rw[aJ c2];exact br ⟨hm,⟨_,_,_,_,_,_,rfl,m2,by lia,by lia,by lia⟩⟩
theorem TZ(C:Bh prog w A s o N f kd)(hk:kindOf st=kd)(ab:Ab o N X Y)(bt:XU o X Y)(hm:Sm st0 st){n mg x:Nat}(m:Mh o X Y ts (na+1) (nb+1))(hb:1<=nb)(hn:na+1+(nb+1)+n<=X.length+Y.length)(hx:X[na]?=some x)(hy:Y[nb]?=some y)(hxy:P o x y) :
  wpS (model prog w) A E s (U2 (fa f X) (fa f Y) (fa f ts.reverse) (na+1) (nb+1) mg ac bc) (H2 o f X Y n st0) st:=by
 unfold U2;rw[show nb+1-1=nb by lia,show na+1-1=na by lia];refine aW (jX (mw hy) ?_);have m2:=m.Oj ab hy (qI ab.sa hx hxy);have lb:=m.lb;rw[yo,uN];by_cases c:nb=1
 ·rw[aM (by rw[c];rfl)];exact br ⟨hm,.inl ⟨_,_,rfl,tN ab bt m2 c⟩⟩
 ·rw[aJ (by simpa using c)];refine aW (jX (mw hx) ?_);refine aW (Lf C hk (h:=λi=>Y.getD (0+i) 0) (λi hi=>mw (getD_at (by lia))) (λi hi=>?_) (Jo ab.sb _ _ (by lia)) (by lia) λt t1 t2 t3=>?_)
  ·have:=aX (getD_at (l:=Y) (i:=0+i) (by lia));exact⟨ab.lt x (aX hx) _ this,ab.nb _ this⟩
  ·dsimp only;have m3:=Mh.yV ab hx (nb-t) (at_:=t) (by rw[show t+(nb-t)=nb by lia];exact m2) λi z hi1 hi2 ez=>by
    have:=t3 i hi1 (by lia);rw[cA,aL (l:=Y),ez]at this;exact this
   by_cases c2:nb-t>0
   ·rw[aM c2,wz Y t nb,NU,uN];by_cases c3:t=1
    ·rw[aM (by rw[c3];rfl)];exact br ⟨hm,.inl ⟨_,_,rfl,tN ab bt m3 c3⟩⟩
    ·rw[aJ (by simpa using c3)];by_cases c4:t=0
     ·rw[aM (by rw[c4];rfl)];exact br ⟨hm,.inl ⟨_,_,rfl,m3.Dq ab (.inr c4)⟩⟩
     ·rw[aJ (by simpa using c4)];obtain⟨u,rfl⟩:∃u,t=u+1:=⟨t-1,by lia⟩;have:=t2 u (by lia);rw[cA]at this;exact TU ab hm m3 (by lia) (by lia) hx (getD_at (by lia)) this
   ·rw[aJ c2];have:t=nb:=by lia
    subst this;obtain⟨u,rfl⟩:∃u,t=u+1:=⟨t-1,by lia⟩;have:=t2 u (by lia);rw[cA]at this;exact TU ab hm m2 (by lia) (by lia) hx (getD_at (by lia)) this
theorem WS(C:Bh prog w A s o N f kd)(hk:kindOf st0=kd)(ab:Ab o N X Y)(bt:XU o X Y)(hm:Sm st0 st){n mg:Nat}(m:Mh o X Y ts (na+1) (nb+1))(hb:1<=nb)(hn:na+1+(nb+1)+n<=X.length+Y.length) :
  wpS (model prog w) A E s (U1 (fa f X) (fa f Y) (fa f ts.reverse) (na+1) (nb+1) mg ac bc) (H2 o f X Y n st0) st:=by
 unfold U1;refine aW (u5 hm λst1 hm1=>?_);have lb:=m.lb;have la:=m.la;rw[show nb+1-1=nb by lia,show na+1-1=na by lia];have hy:=getD_at (l:=Y) (i:=nb) (by lia);have yB:=aX hy;refine aW (jX (mw hy) ?_);refine aW (O0 C (by rw[hm1.k];exact hk) (h:=λi=>X.getD (0+i) 0) (λi hi=>mw (getD_at (by lia))) (λi hi=>ab.lt _ (aX (getD_at (l:=X) (i:=0+i) (by lia))) _ yB) (ab.nb _ yB) (Jo ab.sa _ _ (by lia)) (by lia) λt t1 t2 t3=>?_);dsimp only;have m3:=Mh.zm ab hy (na+1-t) (at_:=t) (by rw[show t+(na+1-t)=na+1 by lia];exact m) λi z hi1 hi2 ez=>by
  have:=t3 i hi1 (by lia);rw[cA,aL (l:=X),ez]at this;exact this
 by_cases c2:na+1-t>0
 ·rw[aM c2,wz X t (na+1),NU,uN];by_cases c4:t=0
  ·rw[aM (by rw[c4];rfl)];exact br ⟨hm1,.inl ⟨_,_,rfl,m3.Dq ab (.inl c4)⟩⟩
  ·rw[aJ (by simpa using c4)];obtain⟨u,rfl⟩:∃u,t=u+1:=⟨t-1,by lia⟩;have:=t2 u (by lia);rw[cA]at this;exact TZ C (by rw[hm1.k];exact hk) ab bt hm1 m3 hb (by lia) (getD_at (by lia)) hy this
 ·rw[aJ c2];have:t=na+1:=by lia
  subst this;have:=t2 na (by lia);rw[cA]at this;exact TZ C (by rw[hm1.k];exact hk) ab bt hm1 m hb hn (getD_at (by lia)) hy this
theorem XW(C:Bh prog w A s o N f kd)(hk:kindOf st=kd)(ab:Ab o N X Y)(tp:Top o X Y)(bt:XU o X Y)(h1:1<=X.length)(h2:1<=Y.length)
  {Q:Array Keyed->SortSt->Prop} (q:∀out st',Sm st st'->Res o f X Y out->Q out st'):wpS (model prog w) A E s (yX (fa f X) (fa f Y)) Q st:=by
 rw[Gi];refine aW (wpS_lift (eE ⟨rfl,?_⟩));dsimp only;simp only[t8];have hx0:=getD_at (l:=X) (i:=X.length-1) (by lia);refine aW (jX (mw hx0) ?_);have m0:Mh o X Y [] (X.length-1+1) Y.length:=⟨by lia,aO _,by rw[bX];lia,List.Pairwise.nil,(λ_ h=>nomatch h),(λ_ _ _ h=>nomatch h),(λ_ _ _ h=>nomatch h)⟩;have m1:=m0.xC ab hx0 λy hy=>tp _ _ hx0 (by lia) y (dF hy);obtain⟨x0,ex0⟩:∃x0,x0=X.getD (X.length-1) 0:=⟨_,rfl⟩;rw[<- ex0]at m1 ⊢;have e1:(#[f x0]:Array Keyed)=fa f [x0].reverse:=rfl;rw[e1,uN];by_cases c:X.length-1=0
 ·rw[aM (by rw[c];rfl)];exact br (q _ _ Sm.refl (m1.Dq ab (.inl c)))
 ·rw[aJ (by simpa using c)];by_cases c2:Y.length=1
  ·rw[aM (by rw[c2];rfl)];exact br (q _ _ Sm.refl (tN ab bt m1 c2))
  ·rw[aJ (by simpa using c2)];refine aW (gQ ?_);refine aW (dR (cD (I:=λx c st'=>Sm st st'/\∃ts na nb mg,c=(none,na,nb,fa f ts.reverse,mg)/\Oh o X Y (x+1) ts na nb)
    (Q:=λc st'=>Sm st st'/\∃r z,c=(some r,z)/\Res o f X Y r) ?step ?fin ⟨Sm.refl,_,_,_,_,rfl,m1,by lia,by lia,by lia⟩) ?post)
   case post=>
    rintro c st' ⟨hm,r,z,rfl,hr⟩;exact br (q _ _ hm hr)
   case fin=>
    rintro c st' ⟨hm,ts,na,nb,mg,rfl,m,a1,a2,a3⟩;exfalso;lia
   case step=>
    intro x c st' _ hx hh;revert hh;revert c;refine un4 λhm ts na nb mg ho=>?_;have m:=ho.1;have a1:=ho.2.1;have a2:=ho.2.2.1;have a3:=ho.2.2.2;clear ho;dsimp only;refine aW (dR (cD (I:=λx' c st''=>Sm st st''/\∃ts na nb ac bc,c=(none,na,nb,fa f ts.reverse,ac,bc)/\Oh o X Y (x+1+min x' 1) ts na nb)
     (Q:=λc st''=>Sm st st''/\((∃r z,c=(some r,z)/\Res o f X Y r)\/∃ts na nb ac bc,c=(none,na,nb,fa f ts.reverse,ac,bc)/\Oh o X Y (x+1+1) ts na nb)) ?istep ?ifin ⟨hm,_,_,_,_,_,rfl,m,a1,a2,a3⟩) ?ipost)
    case ifin=>
     rintro c st'' ⟨hm',ts,na,nb,ac,bc,rfl,m,a1,a2,a3⟩;exact⟨hm',.inr ⟨_,_,_,_,_,rfl,m,a1,a2,by lia⟩⟩
    case istep=>
     intro x' c st'' _ hx' hh;revert hh;revert c;refine un5 λhm' ts na nb ac bc ho=>?_;have m:=ho.1;have a1:=ho.2.1;have a2:=ho.2.2.1;have a3:=ho.2.2.2;clear ho;dsimp only;obtain⟨u,rfl⟩:∃u,na=u+1:=⟨na-1,by lia⟩;obtain⟨v,rfl⟩:∃v,nb=v+1:=⟨nb-1,by lia⟩;have la:=m.la;have lb:=m.lb;rw[show u+1-1=u by lia,show v+1-1=v by lia];have hy:=getD_at (l:=Y) (i:=v) (by lia);have hxx:=getD_at (l:=X) (i:=u) (by lia);have yB:=aX hy;have xA:=aX hxx;have lt:=ab.lt _ xA _ yB;refine aW (jX (mw hy) ?_);refine aW (jX (mw hxx) ?_);refine aW (zD C (by rw[hm'.k];exact hk) (ab.nb _ yB) (ab.na _ xA) ?_)
     cases hl:o.lt (Y.getD v 0) (X.getD u 0)
     ·simp only[bu,bW];refine aW (jX (mw hy) ?_);have m2:=m.Oj ab hy (qI ab.sa hxx (P.xq hl lt));rw[yo,uN];by_cases c3:v=1
      ·rw[aM (by rw[c3];rfl)];exact br ⟨hm',.inl ⟨_,_,rfl,tN ab bt m2 c3⟩⟩
      ·rw[aJ (by simpa using c3)];by_cases c4:bc+1>=mg
       ·rw[aM c4];exact br ⟨hm',.inr ⟨_,_,_,_,_,rfl,m2,a1,by lia,by lia⟩⟩
       ·rw[aJ c4];exact br ⟨hm',_,_,_,_,_,rfl,m2,a1,by lia,by lia⟩
     ·simp only[cV];refine aW (jX (mw hxx) ?_);have m2:=m.xC ab hxx (qI ab.sb hy (P.of_lt hl));rw[yo,uN];by_cases c3:u=0
      ·rw[aM (by rw[c3];rfl)];exact br ⟨hm',.inl ⟨_,_,rfl,m2.Dq ab (.inl c3)⟩⟩
      ·rw[aJ (by simpa using c3)];by_cases c4:ac+1>=mg
       ·rw[aM c4];exact br ⟨hm',.inr ⟨_,_,_,_,_,rfl,m2,by lia,a2,by lia⟩⟩
       ·rw[aJ c4];exact br ⟨hm',_,_,_,_,_,rfl,m2,by lia,a2,by lia⟩
    case ipost=>
     intro c st'' hh;revert hh;revert c;refine uo5 (λhm' r z hr=>?_) λhm' ts na nb ac bc ho=>?_
     ·dsimp only;exact br ⟨hm',r,_,rfl,hr⟩
     ·have m:=ho.1;have a1:=ho.2.1;have a2:=ho.2.2.1;have a3:=ho.2.2.2;clear ho;dsimp only;refine aW (wpS_lift (eE ⟨rfl,?_⟩));refine aW (dR (cD (I:=λx' c st''=>Sm st st''/\∃ts na nb mg ac bc,c=(none,na,nb,fa f ts.reverse,mg,ac,bc)/\Oh o X Y (x+1+1) ts na nb)
       (Q:=λc st''=>Sm st st''/\((∃r z,c=(some r,z)/\Res o f X Y r)\/∃ts na nb mg ac bc,c=(none,na,nb,fa f ts.reverse,mg,ac,bc)/\Oh o X Y (x+1+1) ts na nb)) ?jstep ?jfin ⟨hm',_,_,_,_,_,_,rfl,m,a1,a2,a3⟩) ?jpost)
      case jfin=>
       rintro c st3 ⟨hm3,hh⟩;exact⟨hm3,.inr hh⟩
      case jstep=>
       intro x' c st3 _ hx' hh;revert hh;revert c;refine un6 λhm3 ts na nb mg ac bc ho=>?_;have m:=ho.1;have a1:=ho.2.1;have a2:=ho.2.2.1;have a3:=ho.2.2.2;clear ho;dsimp only;obtain⟨u,rfl⟩:∃u,na=u+1:=⟨na-1,by lia⟩;obtain⟨v,rfl⟩:∃v,nb=v+1:=⟨nb-1,by lia⟩;have t1:=λmg=>WS (n:=x+1+1) (mg:=mg) (ac:=ac) (bc:=bc) (E:=E) C hk ab bt hm3 m (by lia) a3;unfold U1 U2 U3 at t1;refine dR (Q:=H2 o f X Y (x+1+1) st) ?_ ?_
       ·by_cases c3:mg>1
        ·rw[aM c3];exact t1 (mg-1)
        ·rw[aJ c3];exact t1 mg
       ·rintro r st4 ⟨hm4,hr⟩
        cases r with
        | done c=>exact⟨hm4,hr⟩
        | yield c=>exact⟨hm4,hr⟩
      case jpost=>
       intro c st3 hh;revert hh;revert c;refine uo6 (λhm3 r z hr=>?_) λhm3 ts na nb mg ac bc ho=>?_
       ·dsimp only;exact br ⟨hm3,r,_,rfl,hr⟩
       ·have m:=ho.1;have a1:=ho.2.1;have a2:=ho.2.2.1;have a3:=ho.2.2.2;clear ho;dsimp only;refine aW (u5 hm3 λst4 hm4=>?_);exact br ⟨hm4,_,_,_,_,rfl,m,a1,a2,a3⟩
end
theorem GI(i:Nat):mergeAt' i=(do
 let s <- get
 let(some (a1,n1,pw),some (a2,n2,_)):=((pendingOf s)[i]?,(pendingOf s)[i+1]?)|unsupported "internal:list.sort.pending"
 set (setPending s (((pendingOf s).setIfInBounds i (a1,n1+n2,pw)).eraseIdxIfInBounds (i+1)))
 let some k <- l7 false (<- elem' (arrOf s) a2) (arrOf s) a1 n1 0|return false
 let(a1,n1):=(a1+k,n1-k)
 if n1 == 0 then return true
 let some n2 <- l7 true (<- elem' (arrOf s) (a1+n1-1)) (arrOf s) a2 n2 (n2-1)|return false
 if n2 == 0 then return true
 let x:=(arrOf s).extract a1 a2
 let y:=(arrOf s).extract a2 (a2+n2)
 let both <- if n1<=n2 then zT x y else yX x y
 modify λs=>setArr s (both.toList.zipIdx.foldl (λa (p,j)=>a.setIfInBounds (a1+j) p) (arrOf s))
 return (failedOf (<- get)).isNone):=rfl
noncomputable def seg (g:Nat->Nat)(a n:Nat):List Nat:=(List.range n).map λi=>g (a+i)
section
variable {o:Ord}{N:Nat}{f:Nat->Keyed}{g:Nat->Nat}
theorem nZ(g:Nat->Nat)(a n:Nat):(seg g a n).length=n:=by unfold seg;rw[aK,b_]
theorem rH{a n i:Nat}(h:i<n):(seg g a n)[i]?=some (g (a+i)):=by unfold seg;rw[aP,dS h];rfl
theorem pU{a n x:Nat}(h:x∈seg g a n):∃i,i<n/\x=g (a+i):=by
 obtain⟨i,hi,rfl⟩:=bg.mp h;exact⟨i,cI.mp hi,rfl⟩
theorem MB{a n:Nat}(h:So o g a (a+n)):(seg g a n).Pairwise (P o):=by
 rw[cY];intro i j hi hj hij;rw[nZ]at hi hj;have e1:=rH (g:=g) (a:=a) hi;have e2:=rH (g:=g) (a:=a) hj;rw[aF (by rw[nZ];exact hi)]at e1;rw[aF (by rw[nZ];exact hj)]at e2;rw[aZ e1,aZ e2];exact h _ _ (by lia) (by lia) (by lia)
theorem HD{arr:Array Keyed}(hs:arr.size=N)(hg:∀i,i<N->arr[i]?=some (f (g i))){a n:Nat}(h:a+n<=N):arr.extract a (a+n)=fa f (seg g a n):=by
 apply Array.ext_getElem?;intro i;rw[LZ,Array.getElem?_extract];by_cases c:i<n
 ·rw[aM (by lia),rH c,hg _ (by lia)];rfl
 ·rw[aJ (by lia),bS (by rw[nZ];lia)];rfl
theorem AM{α:Type}(b:Nat):∀(l:List α) (n:Nat) (arr:Array α),((l.zipIdx n).foldl (λa (p,j)=>a.setIfInBounds (b+j) p) arr).size=arr.size
 | [],_,_=>rfl
 | x::l,n,arr=>by
  rw[jc,eO,AM b l (n+1)];exact Array.size_setIfInBounds ..
theorem E_{α:Type}(b:Nat):∀(l:List α) (n:Nat) (arr:Array α) (k:Nat),b+n+l.length<=arr.size->((l.zipIdx n).foldl (λa (p,j)=>a.setIfInBounds (b+j) p) arr)[k]?=if b+n<=k/\k<b+n+l.length then l[k-(b+n)]? else arr[k]?
 | [],n,arr,k,h=>by rw[aJ (by rw[bX];lia)];rfl
 | x::l,n,arr,k,h=>by
  rw[bz]at h;rw[jc,eO,E_ b l (n+1) _ k (by rw[Array.size_setIfInBounds];lia),bz];by_cases c:k=b+n
  ·subst c;rw[aJ (by lia),aM (by lia),iM];show(arr.setIfInBounds (b+n) x)[b+n]?=some x;rw[Array.getElem?_setIfInBounds_self_of_lt (by lia)]
  ·by_cases c2:b+n<=k/\k<b+n+(l.length+1)
   ·rw[aM (by lia),aM c2,show k-(b+n)=k-(b+(n+1))+1 by lia,List.getElem?_cons_succ]
   ·rw[aJ (by lia),aJ c2];show(arr.setIfInBounds (b+n) x)[k]?=arr[k]?;rw[Array.getElem?_setIfInBounds_ne (by lia)]
end
section
variable {prog:aj}{w:ah}{A:az}{E:af->aA->Prop}{s:aA}{o:Ord}{N:Nat}{f:Nat->Keyed}{kd:SortKind}{g:Nat->Nat}{st:SortSt}
theorem PL{Q:PUnit->SortSt->Prop}(h:Q ⟨⟩ st'):wpS (model prog w) A E s (set st':StateT SortSt Sem PUnit) Q st:=by
 unfold wpS;rw[StateT.run_set];exact aS ⟨rfl,h⟩
theorem XQ(C:Bh prog w A s o N f kd){l1:List (Nat×Nat×Nat)}{sa na nb pw pv:Nat}(h:Sg N f kd g (l1++(sa,na,pw)::(sa+na,nb,pv)::l2).toArray st)(ha:1<=na)(hb:1<=nb)(hN:sa+na+nb<=N)
  (c1:Cl g sa (sa+na)) (s1:So o g sa (sa+na)) (c2:Cl g (sa+na) (sa+na+nb)) (s2:So o g (sa+na) (sa+na+nb))
  {Q:Bool->SortSt->Prop} (q:∀g' st',Sg N f kd g' (l1++(sa,na+nb,pw)::l2).toArray st'->Rn o g g' sa (sa+na+nb)->Q true st'):wpS (model prog w) A E s (mergeAt' l1.length) Q st:=by
 rw[GI];refine aW (gQ ?_);have e1:(pendingOf st)[l1.length]?=some (sa,na,pw):=by rw[h.pend];simp
 have e2:(pendingOf st)[l1.length+1]?=some (sa+na,nb,pv):=by rw[h.pend];simp
 have e3:((pendingOf st).setIfInBounds l1.length (sa,na+nb,pw)).eraseIdxIfInBounds (l1.length+1)=(l1++(sa,na+nb,pw)::l2).toArray:=by
  rw[h.pend,List.setIfInBounds_toArray,gY];congr 1;rw[fQ _ _ (aO _),iM,List.eraseIdx_append_of_length_le (by lia),show l1.length+1-l1.length=1 by lia];rfl
 rw[e1,e2];dsimp only;rw[e3];refine aW (PL ?_);have h':Sg N f kd g (l1++(sa,na+nb,pw)::l2).toArray (setPending st (l1++(sa,na+nb,pw)::l2).toArray):=⟨h.size,h.get,h.lt,h.kind,h.failed,rfl⟩;obtain⟨st1,hst1⟩:∃st1,st1=setPending st (l1++(sa,na+nb,pw)::l2).toArray:=⟨_,rfl⟩;rw[<- hst1]at h' ⊢;refine aW (jX (h.get (sa+na) (by lia)) ?_);have b0:=c2 (sa+na) (by lia) (by lia);refine aW (O0 C h'.kind (h:=λi=>g (sa+i)) (λi hi=>h.get _ (by lia)) (λi hi=>by have:=c1 (sa+i) (by lia) (by lia);lia) (by lia) (λi j _ a b=>s1 _ _ (by lia) (by lia) (by lia)) (by lia) λk k1 k2 k3=>?_);dsimp only;by_cases cz:na-k=0
 ·rw[aM (by rw[cz];rfl)];refine br (q g st1 h' ⟨λ_ _=>rfl,λi a b=>?_,λi j a b c=>?_⟩)
  ·by_cases d:i<sa+na
   ·have:=c1 i a d;lia
   ·have:=c2 i (by lia) b;lia
  ·by_cases d:j<sa+na
   ·exact s1 i j a b d
   ·by_cases d2:sa+na<=i
    ·exact s2 i j d2 b c
    ·have r:=k2 (i-sa) (by lia);rw[show sa+(i-sa)=i by lia]at r;by_cases d3:j=sa+na
     ·subst d3;exact r
     ·exact r.trans (s2 _ _ (by lia) (by lia) c)
 ·rw[aJ (by simpa using cz)];have hlast:sa+k+(na-k)-1=sa+na-1:=by lia
  rw[hlast];refine aW (jX (h.get (sa+na-1) (by lia)) ?_);have a0:=c1 (sa+na-1) (by lia) (by lia);refine aW (Lf C h'.kind (h:=λi=>g (sa+na+i)) (λi hi=>h.get _ (by lia)) (λi hi=>by have:=c2 (sa+na+i) (by lia) (by lia);lia) (λi j _ a b=>s2 _ _ (by lia) (by lia) (by lia)) (by lia) λt t1 t2 t3=>?_);dsimp only;by_cases cy:t=0
  ·rw[aM (by rw[cy];rfl)];subst cy;refine br (q g st1 h' ⟨λ_ _=>rfl,λi a b=>?_,λi j a b c=>?_⟩)
   ·by_cases d:i<sa+na
    ·have:=c1 i a d;lia
    ·have:=c2 i (by lia) b;lia
   ·by_cases d:j<sa+na
    ·exact s1 i j a b d
    ·by_cases d2:sa+na<=i
     ·exact s2 i j d2 b c
     ·have r:=t3 (j-(sa+na)) (by lia) (by lia);rw[show sa+na+(j-(sa+na))=j by lia]at r;by_cases d3:i=sa+na-1
      ·subst d3;exact r
      ·exact(s1 i (sa+na-1) a (by lia) (by lia)).trans r
  ·rw[aJ (by simpa using cy)];have x1:(arrOf st).extract (sa+k) (sa+na)=fa f (seg g (sa+k) (na-k)):=by
    have:=HD (f:=f) (g:=g) h.size h.get (a:=sa+k) (n:=na-k) (by lia)
    rwa [show sa+k+(na-k)=sa+na by lia]at this
   have x2:(arrOf st).extract (sa+na) (sa+na+t)=fa f (seg g (sa+na) t):=HD h.size h.get (by lia);rw[x1,x2];have sx:So o g (sa+k) (sa+k+(na-k)):=λi j a b c=>s1 i j (by lia) b (by lia);have sy:So o g (sa+na) (sa+na+t):=λi j a b c=>s2 i j a b (by lia);have ab:Ab o N (seg g (sa+k) (na-k)) (seg g (sa+na) t):={
    sa:=MB sx
    sb:=MB sy
    lt:=λx hx y hy=>by
     obtain⟨i,hi,rfl⟩:=pU hx;obtain⟨j,hj,rfl⟩:=pU hy;have:=c1 (sa+k+i) (by lia) (by lia);have:=c2 (sa+na+j) (by lia) (by lia);lia
    nb:=λy hy=>by
     obtain⟨j,hj,rfl⟩:=pU hy;exact h.lt _ (by lia)
    na:=λy hy=>by
     obtain⟨j,hj,rfl⟩:=pU hy;exact h.lt _ (by lia)}
   have tp:Top o (seg g (sa+k) (na-k)) (seg g (sa+na) t):=λi x hx hi y hy=>by
    rw[nZ]at hi;rw[rH (by lia)]at hx
    cases hx
    obtain⟨j,hj,rfl⟩:=pU hy;rw[show sa+k+i=sa+na-1 by lia];exact t2 j hj
   have bt:XU o (seg g (sa+k) (na-k)) (seg g (sa+na) t):=λy hy x hx=>by
    rw[rH (by lia)]at hy
    cases hy
    obtain⟨i,hi,rfl⟩:=pU hx;have:=k3 (k+i) (by lia) (by lia)
    rwa [<- iz]at this
   have fin:∀out st2,Sm st1 st2->Res o f (seg g (sa+k) (na-k)) (seg g (sa+na) t) out->wpS (model prog w) A E s (do
     modify λs=>setArr s (out.toList.zipIdx.foldl (λa (p,j)=>a.setIfInBounds (sa+k+j) p) (arrOf s))
     let s <- get
     pure (failedOf s).isNone) Q st2:=by
    rintro out st2 hm ⟨hs,rfl,hlen,hso,hmem⟩;rw[nZ,nZ]at hlen;refine aW (fK (aW (gQ ?_)));have hf:(failedOf st2)=none:=by rw[hm.f];exact h'.failed
    have hmx:∀j x,hs[j]?=some x->(∃i,i<na-k/\x=g (sa+k+i))\/∃i,i<t/\x=g (sa+na+i):=λj x e=>by
     rcases hmem x (aX e)with z|z
     ·exact .inl (pU z)
     ·exact .inr (pU z)
    have ez:(fa f hs).toList=hs.map f:=by unfold fa;rfl
    have hsz:sa+k+0+(hs.map f).length<=(arrOf st2).size:=by rw[aK,hlen,hm.a,h'.size];lia
    refine br ?_;show Q (failedOf st2).isNone _;rw[hf];refine q (λi=>if sa+k<=i/\i<sa+k+(na-k+t)then hs.getD (i-(sa+k)) 0 else g i) _ ⟨?_,λi hi=>?_,λi hi=>?_,by rw[show kindOf (setArr st2 _)=kindOf st2 from rfl,hm.k];exact h'.kind,hf,by rw[show pendingOf (setArr st2 _)=pendingOf st2 from rfl,hm.p];exact h'.pend⟩ ?_
    ·have:=AM (sa+k) (fa f hs).toList 0 (arrOf st2);rw[hm.a,h'.size]at this;rw[<- this,<- hm.a]
    ·show(List.foldl _ _ _)[i]?=_;rw[ez,E_ _ _ _ _ _ hsz,aK,hlen,hm.a];by_cases d:sa+k<=i/\i<sa+k+(na-k+t)
     ·rw[aM (by lia),aM d,aP,add_zero,getD_at (l:=hs) (by lia)];rfl
     ·rw[aJ (by lia),aJ d];exact h'.get i hi
    ·by_cases d:sa+k<=i/\i<sa+k+(na-k+t)
     ·rw[aM d]
      rcases hmx _ _ (getD_at (l:=hs) (i:=i-(sa+k)) (by lia))with⟨j,hj,e⟩|⟨j,hj,e⟩
      ·rw[e];exact h.lt _ (by lia)
      ·rw[e];exact h.lt _ (by lia)
     ·rw[aJ d];exact h.lt i hi
    ·have gin:∀i,sa+k<=i->i<sa+na+t->(if sa+k<=i/\i<sa+k+(na-k+t)then hs.getD (i-(sa+k)) 0 else g i)=hs.getD (i-(sa+k)) 0:=λi a b=>aM (by lia);have gout:∀i,i<sa+k\/sa+na+t<=i->(if sa+k<=i/\i<sa+k+(na-k+t)then hs.getD (i-(sa+k)) 0 else g i)=g i:=λi a=>aJ (by lia);refine⟨λi hi=>gout i (by lia),λi a b=>?_,λi j a b c=>?_⟩
     ·by_cases d:sa+k<=i/\i<sa+na+t
      ·show _<=ite _ _ _/\ite _ _ _<_;rw[gin i d.1 d.2]
       rcases hmx _ _ (getD_at (l:=hs) (i:=i-(sa+k)) (by lia))with⟨j,hj,e⟩|⟨j,hj,e⟩
       ·rw[e];have:=c1 (sa+k+j) (by lia) (by lia);lia
       ·rw[e];have:=c2 (sa+na+j) (by lia) (by lia);lia
      ·show _<=ite _ _ _/\ite _ _ _<_;rw[gout i (by lia)];by_cases d2:i<sa+na
       ·have:=c1 i a d2;lia
       ·have:=c2 i (by lia) b;lia
     ·show P o (ite _ _ _) (ite _ _ _);by_cases d1:i<sa+k
      ·rw[gout i (.inl d1)];have r:=k2 (i-sa) (by lia);rw[show sa+(i-sa)=i by lia]at r;by_cases d2:j<sa+k
       ·rw[gout j (.inl d2)];exact s1 i j a b (by lia)
       ·by_cases d3:j<sa+na+t
        ·rw[gin j (by lia) d3]
         rcases hmx _ _ (getD_at (l:=hs) (i:=j-(sa+k)) (by lia))with⟨v,hv,e⟩|⟨v,hv,e⟩
         ·rw[e];exact s1 _ _ a (by lia) (by lia)
         ·rw[e];by_cases d4:v=0
          ·subst d4;exact r
          ·exact r.trans (s2 _ _ (by lia) (by lia) (by lia))
        ·rw[gout j (by lia)];exact r.trans (s2 _ _ (by lia) (by lia) c)
      ·by_cases d2:i<sa+na+t
       ·rw[gin i (by lia) d2];by_cases d3:j<sa+na+t
        ·rw[gin j (by lia) d3];exact sY hso (getD_at (by lia)) (getD_at (by lia)) (by lia)
        ·rw[gout j (by lia)]
         rcases hmx _ _ (getD_at (l:=hs) (i:=i-(sa+k)) (by lia))with⟨v,hv,e⟩|⟨v,hv,e⟩
         ·rw[e];have r:=t3 (j-(sa+na)) (by lia) (by lia);rw[show sa+na+(j-(sa+na))=j by lia]at r;by_cases d4:sa+k+v=sa+na-1
          ·rw[d4];exact r
          ·exact(s1 _ (sa+na-1) (by lia) (by lia) (by lia)).trans r
         ·rw[e];exact s2 _ _ (by lia) (by lia) c
       ·rw[gout i (by lia),gout j (by lia)];exact s2 i j (by lia) b c
   by_cases cl:na-k<=t
   ·rw[aM cl];exact aW (X0 C h'.kind ab tp (by rw[nZ];lia) (rH (by lia)) (bt _ (rH (by lia))) fin)
   ·rw[aJ cl];exact aW (XW C h'.kind ab tp bt (by rw[nZ];lia) (by rw[nZ];lia) fin)
end
noncomputable abbrev pr (x:Nat×Nat×Nat):Nat×Nat:=(x.1,x.2.1)
noncomputable def qH (o:Ord)(g:Nat->Nat):List (Nat×Nat)->Nat->Nat->Prop
 | [],a,b=>a=b
 | x::l,a,b=>x.1=a/\1<=x.2/\Cl g a (a+x.2)/\So o g a (a+x.2)/\qH o g l (a+x.2) b
noncomputable def PA (o:Ord)(g:Nat->Nat)(p:Array (Nat×Nat×Nat))(b:Nat):Prop:=qH o g (p.toList.map pr) 0 b
section
variable {o:Ord}{g:Nat->Nat}
theorem qH.le:∀{l:List (Nat×Nat)}{a b:Nat},qH o g l a b->a+l.length<=b
 | [],a,b,h=>by have h:a=b:=h;rw[bX];lia
 | x::l,a,b,h=>by
  have:=h.2.2.2.2.le;have:=h.2.1;rw[bz];lia
theorem qH.congr{g':Nat->Nat}:∀{l:List (Nat×Nat)}{a b:Nat},qH o g l a b->(∀i,a<=i->i<b->g' i=g i)->qH o g' l a b
 | [],a,b,h,_=>h
 | x::l,a,b,h,e=>by
  have hb:=h.2.2.2.2.le;refine⟨h.1,h.2.1,λi h1 h2=>?_,λi j h1 h2 h3=>?_,h.2.2.2.2.congr λi h1 h2=>e i (by lia) h2⟩
  ·rw[e i h1 (by lia)];exact h.2.2.1 i h1 h2
  ·rw[e i h1 (by lia),e j (by lia) (by lia)];exact h.2.2.2.1 i j h1 h2 h3
theorem qH.app:∀{l m:List (Nat×Nat)}{a b:Nat},qH o g (l++m) a b ↔ ∃c,qH o g l a c/\qH o g m c b
 | [],m,a,b=>⟨λh=>⟨a,rfl,h⟩,λ⟨c,h1,h2⟩=>by have h1:a=c:=h1;subst h1;exact h2⟩
 | x::l,m,a,b=>by
  constructor
  ·rintro⟨h1,h2,h3,h4,h5⟩;obtain⟨c,h6,h7⟩:=qH.app.mp h5;exact⟨c,⟨h1,h2,h3,h4,h6⟩,h7⟩
  ·rintro⟨c,⟨h1,h2,h3,h4,h5⟩,h6⟩;exact⟨h1,h2,h3,h4,qH.app.mpr ⟨c,h5,h6⟩⟩
theorem V7{p:Array (Nat×Nat×Nat)}(h:i+1<p.size):∃l1 x y l2,p=(l1++x::y::l2).toArray/\l1.length=i:=by
 have h':i+1<p.toList.length:=h;refine⟨p.toList.take i,p.toList[i],p.toList[i+1],p.toList.drop (i+2),?_,by rw[b8];lia⟩;apply Array.toList_inj.mp;show p.toList=_
 conv=>lhs;rw[<- g_ i p.toList,cZ (show i<p.toList.length by lia),cZ h']
end
section
variable {prog:aj}{w:ah}{A:az}{E:af->aA->Prop}{s:aA}{o:Ord}{N:Nat}{f:Nat->Keyed}{kd:SortKind}{g:Nat->Nat}{p:Array (Nat×Nat×Nat)}{st:SortSt}
theorem GK(C:Bh prog w A s o N f kd)(h:Sg N f kd g p st){lo:Nat}(hp:PA o g p lo)(hlo:lo<=N)(hi:i+1<p.size)
  {Q:Bool->SortSt->Prop} (q:∀g' p' st',Sg N f kd g' p' st'->PA o g' p' lo->p'.size+1=p.size->(∀k,lo<=k->g' k=g k)->Q true st'):wpS (model prog w) A E s (mergeAt' i) Q st:=by
 obtain⟨l1,⟨sa,na,pw⟩,⟨sb,nb,pv⟩,l2,rfl,rfl⟩:=V7 hi;unfold PA at hp;rw[show(l1++(sa,na,pw)::(sb,nb,pv)::l2).toArray.toList=l1++(sa,na,pw)::(sb,nb,pv)::l2 from rfl,bO]at hp;obtain⟨c,h1,h2⟩:=qH.app.mp hp;obtain⟨e1,n1,cl1,so1,e2,n2,cl2,so2,rest⟩:=h2;have e1:sa=c:=e1;subst e1;have e2:sb=sa+na:=e2;subst e2;have l2b:=rest.le;have n1:1<=na:=n1;have n2:1<=nb:=n2;have l2b:sa+na+nb<=lo:=by
  have:sa+na+nb+(List.map pr l2).length<=lo:=l2b;lia
 refine XQ C h n1 n2 (by lia) cl1 so1 cl2 so2 λg' st' h' R=>q g' _ st' h' ?_ (by simp;lia) λk hk=>R.out k (by lia);unfold PA;rw[show(l1++(sa,na+nb,pw)::l2).toArray.toList=l1++(sa,na+nb,pw)::l2 from rfl,bO];refine qH.app.mpr ⟨sa,h1.congr λi a b=>R.out i (by lia),rfl,by show 1<=na+nb;lia,?_,?_,?_⟩
 ·show Cl g' sa (sa+(na+nb));rw[<- iz];exact R.cl
 ·show So o g' sa (sa+(na+nb));rw[<- iz];exact R.so
 ·show qH o g' _ (sa+(na+nb)) lo;rw[<- iz];exact rest.congr λi a b=>R.out i (.inr a)
theorem A6{p:Array (Nat×Nat×Nat)}{lo:Nat}{u:Nat×Nat×Nat->Nat×Nat×Nat}(hu:∀x,pr (u x)=pr x)(h:PA o g p lo):PA o g (p.modify i u) lo:=by
 unfold PA at h ⊢;have:(p.modify i u).toList.map pr=p.toList.map pr:=by
  rw[Array.toList_modify];apply cT;intro k;rw[aP,aP,List.getElem?_modify]
  cases p.toList[k]? with
  | none=>rfl
  | some x=>
   show some (pr (if i=k then u x else x))=some (pr x);by_cases c:i=k
   ·rw[aM c,hu x]
   ·rw[aJ c]
 rw[this];exact h
theorem xT{p:Array (Nat×Nat×Nat)}{lo n v:Nat}(h:PA o g p lo)(hn:1<=n)(c:Cl g lo (lo+n))(d:So o g lo (lo+n)):PA o g (p.push (lo,n,v)) (lo+n):=by
 unfold PA at h ⊢;rw[Array.toList_push,bO];exact qH.app.mpr ⟨lo,h,rfl,hn,c,d,rfl⟩
theorem Sg.WI(h:Sg N f kd g p st)(p':Array (Nat×Nat×Nat)):Sg N f kd g p' (setPending st p'):=⟨h.size,h.get,h.lt,h.kind,h.failed,rfl⟩
theorem QS(C:Bh prog w A s o N f kd)(h:Sg N f kd (λi=>i) #[] st)(hN:1<=N)
  {Q:Unit->SortSt->Prop} (q:∀g' p' st',Sg N f kd g' p' st'->Cl g' 0 N->So o g' 0 N->Q () st'):wpS (model prog w) A E s sortRuns' Q st:=by
 rw[sortRuns'_eq];refine aW (gQ ?_);dsimp only;rw[h.size];refine aW (dR (cD
  (I:=λx c st'=>∃lo g p,c=(none,lo)/\lo<=N/\(x<=lo\/lo=N)/\Sg N f kd g p st'/\PA o g p lo/\(∀i,lo<=i->g i=i))
  (Q:=λc st'=>∃g p,c=(none,N)/\Sg N f kd g p st'/\PA o g p N) ?step ?fin ⟨0,_,_,rfl,bI _,.inl (aO _),h,rfl,λ_ _=>rfl⟩) ?post)
 case fin=>
  rintro c st' ⟨lo,g,p,rfl,h1,h2,h3,h4,h5⟩;have:lo=N:=by lia
  subst this;exact⟨g,p,rfl,h3,h4⟩
 case step=>
  rintro x c st' _ hx ⟨lo,g,p,rfl,h1,h2,h3,h4,h5⟩;dsimp only;by_cases hge:lo>=N
  ·rw[aM hge];have:lo=N:=by lia
   subst this;exact br ⟨g,p,rfl,h3,h4⟩
  ·rw[aJ hge];refine aW (Nz C h3 (by lia) (by lia) (λi a b=>h5 i a) λm g1 st1 s1 m1 m2 R1=>?_);dsimp only;by_cases c2:m<minRun' N N 0
   ·rw[aM c2];refine aW (wpS_lift (eE ⟨rfl,?_⟩));refine aW (UE C s1 (by lia) m1 (by lia) R1 (λi a b=>h5 i (by lia)) λg2 st2 s2 R2=>?_);rw[aJ (by decide)];have n2:1<=min (N-lo) (minRun' N N 0):=by lia
    have n3:lo+min (N-lo) (minRun' N N 0)<=N:=by lia
    refine aW (gQ ?_);rw[s2.pend];have hp2:=qH.congr h4 λi a b=>R2.out i (.inl b)
    cases e:p.back? with
    | none=>
     dsimp only;refine aW (fK (br ⟨_,_,_,rfl,n3,by lia,s2.WI _,?_,λi hi=>by rw[R2.out i (.inr hi),h5 i (by lia)]⟩));rw[s2.pend];exact xT hp2 n2 R2.cl R2.so
    | some y=>
     obtain⟨y1,y2,y3⟩:=y;dsimp only;refine aW (dR (cD (I:=λ_ c st'=>c=(none,())/\∃g' p',Sg N f kd g' p' st'/\PA o g' p' lo/\(∀k,lo<=k->g' k=g2 k)) (Q:=λc st'=>c=(none,())/\∃g' p',Sg N f kd g' p' st'/\PA o g' p' lo/\(∀k,lo<=k->g' k=g2 k)) ?vstep (λ_ _ h=>h) ⟨rfl,_,_,s2,hp2,λ_ _=>rfl⟩) ?vpost)
     case vstep=>
      rintro x c st' _ hx ⟨rfl,g',p',h1,h2,h3⟩;refine aW (gQ ?_);rw[h1.pend];by_cases c:p'.size>1
      ·rw[aM c]
       cases e:p'[p'.size-2]? with
       | none=>exact br ⟨rfl,g',p',h1,h2,h3⟩
       | some y=>
        obtain⟨y1,y2,y3⟩:=y;dsimp only;split
        ·exact br ⟨rfl,g',p',h1,h2,h3⟩
        ·refine aW (GK C h1 h2 (by lia) (by lia) λg3 p3 st3 s3 q3 _ z3=>?_);exact br ⟨rfl,g3,p3,s3,q3,λk hk=>by rw[z3 k hk,h3 k hk]⟩
      ·rw[aJ c];exact br ⟨rfl,g',p',h1,h2,h3⟩
     case vpost=>
      rintro c st' ⟨rfl,g',p',h1,h2,h3⟩;dsimp only;refine aW (fK (aW (fK (br ⟨_,_,_,rfl,n3,by lia,(h1.WI _).WI _,?_,λi hi=>by rw[h3 i (by lia),R2.out i (.inr hi),h5 i (by lia)]⟩))));show PA o g' (((pendingOf st').modify _ _).push _) _;rw[h1.pend];exact xT (A6 (λ_=>rfl) h2) n2 (λi a b=>by rw[h3 i a];exact R2.cl i a b) (λi j a b c=>by rw[h3 i a,h3 j (by lia)];exact R2.so i j a b c)
   ·rw[aJ c2];have n3:lo+m<=N:=by lia
    obtain⟨g2,hg2⟩:∃g2,g2=g1:=⟨_,rfl⟩;rw[<- hg2]at R1 s1;have R2:=R1;have s2:=s1;have n2:=m1;refine aW (gQ ?_);rw[s2.pend];have hp2:=qH.congr h4 λi a b=>R2.out i (.inl b)
    cases e:p.back? with
    | none=>
     dsimp only;refine aW (fK (br ⟨_,_,_,rfl,n3,by lia,s2.WI _,?_,λi hi=>by rw[R2.out i (.inr hi),h5 i (by lia)]⟩));rw[s2.pend];exact xT hp2 n2 R2.cl R2.so
    | some y=>
     obtain⟨y1,y2,y3⟩:=y;dsimp only;refine aW (dR (cD (I:=λ_ c st'=>c=(none,())/\∃g' p',Sg N f kd g' p' st'/\PA o g' p' lo/\(∀k,lo<=k->g' k=g2 k)) (Q:=λc st'=>c=(none,())/\∃g' p',Sg N f kd g' p' st'/\PA o g' p' lo/\(∀k,lo<=k->g' k=g2 k)) ?vstep (λ_ _ h=>h) ⟨rfl,_,_,s2,hp2,λ_ _=>rfl⟩) ?vpost)
     case vstep=>
      rintro x c st' _ hx ⟨rfl,g',p',h1,h2,h3⟩;refine aW (gQ ?_);rw[h1.pend];by_cases c:p'.size>1
      ·rw[aM c]
       cases e:p'[p'.size-2]? with
       | none=>exact br ⟨rfl,g',p',h1,h2,h3⟩
       | some y=>
        obtain⟨y1,y2,y3⟩:=y;dsimp only;split
        ·exact br ⟨rfl,g',p',h1,h2,h3⟩
        ·refine aW (GK C h1 h2 (by lia) (by lia) λg3 p3 st3 s3 q3 _ z3=>?_);exact br ⟨rfl,g3,p3,s3,q3,λk hk=>by rw[z3 k hk,h3 k hk]⟩
      ·rw[aJ c];exact br ⟨rfl,g',p',h1,h2,h3⟩
     case vpost=>
      rintro c st' ⟨rfl,g',p',h1,h2,h3⟩;dsimp only;refine aW (fK (aW (fK (br ⟨_,_,_,rfl,n3,by lia,(h1.WI _).WI _,?_,λi hi=>by rw[h3 i (by lia),R2.out i (.inr hi),h5 i (by lia)]⟩))));show PA o g' (((pendingOf st').modify _ _).push _) _;rw[h1.pend];exact xT (A6 (λ_=>rfl) h2) n2 (λi a b=>by rw[h3 i a];exact R2.cl i a b) (λi j a b c=>by rw[h3 i a,h3 j (by lia)];exact R2.so i j a b c)
 case post=>
  rintro c st' ⟨g,p,rfl,h1,h2⟩;dsimp only;refine aW (dR (cD
   (I:=λx c st''=>c=(none,())/\∃g p,Sg N f kd g p st''/\PA o g p N/\(p.size<=1\/p.size+x<=N))
   (Q:=λc st''=>c=(none,())/\∃g p,Sg N f kd g p st''/\PA o g p N/\p.size<=1) ?fstep ?ffin ⟨rfl,g,p,h1,h2,.inr ?finit⟩) ?fpost)
  case finit=>
   have:=qH.le h2;rw[aK]at this;show p.toList.length+0<=N;lia
  case ffin=>
   rintro c st'' ⟨rfl,g,p,h1,h2,h3⟩;exact⟨rfl,g,p,h1,h2,by lia⟩
  case fstep=>
   rintro x c st'' _ hx ⟨rfl,g,p,h1,h2,h3⟩;refine aW (gQ ?_);rw[h1.pend];by_cases c:p.size<=1
   ·rw[aM c];exact br ⟨rfl,g,p,h1,h2,c⟩
   ·rw[aJ c];have il:∀(d:Prop) [Decidable d],(if d then p.size-2-1 else p.size-2)+1<p.size:=λd _=>by
     by_cases hd:d
     ·rw[aM hd];lia
     ·rw[aJ hd];lia
    refine aW (GK C h1 h2 (aO _) (il _) λg' p' st3 s3 q3 z3 _=>?_);exact br ⟨rfl,g',p',s3,q3,by lia⟩
  case fpost=>
   rintro c st'' ⟨rfl,g,p,h1,h2,h3⟩;dsimp only;refine br ?_;unfold PA at h2;have h3:p.toList.length<=1:=h3
   match hl:p.toList,h3 with
   | [],_=>
    rw[hl]at h2;have:0=N:=h2;lia
   | [x],_=>
    rw[hl]at h2;obtain⟨e1,e2,e3,e4,e5⟩:=h2;have e5:0+x.2.1=N:=e5;have e3:Cl g 0 (0+x.2.1):=e3;have e4:So o g 0 (0+x.2.1):=e4;rw[e5]at e3 e4;exact q g p st'' h1 e3 e4
end
noncomputable abbrev Aa (h:aq)(a:ak)(vs:List af):aq:=((h.update a (Obj.mapSeq λ_=>#[])).push (seqObj "tuple" vs.toArray 0)).push (seqObj "list" #[] 0)
theorem Il{h:aq}{a:ak}(hb:b≠a)(hlt:b<h.objs.size):(Aa h a vs).get? b=h.get? b:=by
 rw[gS _ _ _ (by rw[size_push',iu];exact bE (dN hlt)),
  gS _ _ _ (by rw[iu];exact bE hlt),Heap.get?_update_ne _ _ _ _ hb]
noncomputable abbrev vv (vs:List af)(i:Nat):Keyed:=(vs.getD i .none,vs.getD i .none)
theorem zip_get(vs:List af){i:Nat}(h:i<vs.length):(vs.toArray.zip vs.toArray)[i]?=some (vv vs i):=by
 have e:vs[i]?=some (vs.getD i .none):=by rw[aL,aF h];rfl
 rw[Array.getElem?_zip_eq_some];exact⟨by rw[eL];exact e,by rw[eL];exact e⟩
section
variable {prog:aj}{w:ah}{A:az}{E:af->aA->Prop}{s:aA}{o:Ord}{kd:SortKind}
theorem wX{a:ak}{vs:List af}{n:Nat}{P:PySem.Fin->aA->Prop}(hL:s.heap.get? a=some (seqObj "list" vs.toArray n))(hsz:vs.length<=sizeLine)
  (hkk:2<=vs.length->∀Q:SortKind->aA->Prop,Q kd { s with heap:=Aa s.heap a vs }->wpAny (model prog w) A (keyKind' vs.toArray) Q E { s with heap:=Aa s.heap a vs })
  (C:2<=vs.length->Bh prog w A { s with heap:=Aa s.heap a vs } o vs.length (vv vs) kd)
  (h:∀g,Cl g 0 vs.length->So o g 0 vs.length->P (.done (.ret .none)) { s with heap:=sortedHeap s.heap a vs ((List.range vs.length).map λi=>vs.getD (g i) .none).toArray }) :
  wpAny (model prog w) A (Builtin.«list.sort» ⟨[.ref a],[]⟩) P E s:=by
 rw[list_sort_plain];have lta:a<s.heap.objs.size:=bf hL;refine aH (eW hL rfl ?_);refine aH (listUpdate_at hL rfl ?_ (by rw[a_];exact hsz) (bI _));obtain⟨ep,hL1⟩:∃ep,(s.heap.update a (Obj.mapSeq λ_=>#[])).get? a=some (seqObj "list" #[] ep):=⟨_,get?_update_seq hL (λ_=>#[])⟩;refine aH (seqEpoch_at hL1 rfl ?_);refine aH (wpAny_newTuple ?_);refine aH (ja ?_);refine dB ?_;have hL6:(Aa s.heap a vs).get? a=some (seqObj "list" #[] ep):=by
  rw[gS _ _ _ (by rw[size_push',iu];exact bE (dN lta)),gS _ _ _ (by rw[iu];exact bE lta)];exact hL1
 show wpAny (model prog w) A _ P E { s with heap:=Aa s.heap a vs };dsimp only;have hz:vs.toArray.size=vs.length:=by simp
 have getE:∀i,i<vs.length->vs[i]?=some (vs.getD i .none):=λi hi=>by rw[aL,aF hi];rfl
 have qL:∀(arr:Array Keyed) (g:Nat->Nat),arr.size=vs.length->(∀i,i<vs.length->arr[i]?=some (vv vs (g i)))->arr.map (·.2)=((List.range vs.length).map λi=>vs.getD (g i) .none).toArray:=λarr g h1 two=>by
  apply Array.ext_getElem?;intro i;have e0:((List.range vs.length).map λi=>vs.getD (g i) Value.none).toArray[i]?=((List.range vs.length).map λi=>vs.getD (g i) Value.none)[i]?:=eL ..;rw[Array.getElem?_map,e0,aP];by_cases c:i<vs.length
  ·rw[two i c,dS c];rfl
  ·rw[gT (by lia),bS (by rw[b_];lia)];rfl
 by_cases two:vs.toArray.size<2
 ·rw[aM two,aM two];refine aH (aS ?_);rw[StateT.run_pure];refine aH (aS ?_);dsimp only;refine aH (seqEpoch_at hL6 rfl ?_);have oe:=qL (vs.toArray.zip vs.toArray) (λi=>i) (by rw[jk,hz];lia) λi hi=>zip_get vs hi;refine aH (listUpdate_at hL6 rfl ?_ (by simp) (hsz2:=by rw[size_map];show(vs.toArray.zip vs.toArray).size<=_;rw[jk,hz];lia));simp only[bne_self_eq_false,bu,bW];refine aS ?_;have:=h (λi=>i) (λi a b=>⟨a,b⟩) (λi j a b c=>by lia);rw[<- oe]at this;exact this
 ·rw[aJ two,aJ two];have h2':2<=vs.length:=by lia
  refine aH (hkk h2' _ ?_);refine aH (iO (QS (f:=vv vs) (N:=vs.length) (C h2') (st:=SortSt.mk' kd (vs.toArray.zip vs.toArray) #[] 7 none)
   (Q:=λ_ st'=>∃g p,Sg vs.length (vv vs) kd g p st'/\Cl g 0 vs.length/\So o g 0 vs.length)
   ⟨by show(vs.toArray.zip vs.toArray).size=_;rw[jk,hz];lia,λi hi=>zip_get vs hi,λi hi=>hi,rfl,rfl,rfl⟩ (by lia) λg' p' st' a1 a2 a3=>⟨g',p',a1,a2,a3⟩) ?_ λ_ _ e=>e)
  rintro⟨⟨⟩,st'⟩ s' ⟨rfl,g,p,hS,hc,hso⟩;dsimp only;refine aH (seqEpoch_at hL6 rfl ?_);have oe:=qL (arrOf st') g hS.size hS.get;refine aH (listUpdate_at hL6 rfl ?_ (by simp) (hsz2:=by have hh:(arrOf st').size=vs.length:=hS.size;show((arrOf st').map (·.2)).size<=_;rw[size_map,hh];lia));rw[hS.failed];simp only[bne_self_eq_false,bu,bW];have:=h g hc hso;rw[<- oe]at this;exact aS this
end
section
variable {prog:aj}{w:ah}{A:az}{E:af->aA->Prop}{s:aA}
theorem wF(b:Bool)(x y:af):keyLt' (tuples' b) x y=(do
  let us <- Builtin.List.listItems x
  let vs <- Builtin.List.listItems y
  for ((u,v),k)in (us.toList.zip vs.toList).zipIdx do
   if !(<- eqBool u v)then return <- oneLt' (b && k == 0) u v
  return us.size<vs.size):=rfl
theorem HW(b:Bool){x y:Int}{t:Tok}{Q:Bool->aA->Prop}(h:Q (decide (x<y)) s):wpAny (model prog w) A (oneLt' b (.int x t) (.int y u)) Q E s:=by
 cases b with
 | true=>exact oneLt_int h
 | false=>
  rw[oneLt'_eq];simp only[bu,bW];exact aH (PySem.P.lt_int (dI h))
theorem Ff(b:Bool){l k:ak}{xs ys:List af}{ns:List Int}{Q:Bool->aA->Prop}(hl:IsTup s.heap l xs.toArray)(hk:IsTup s.heap k ys.toArray)(hi:IntsAre xs ns)(hj:IntsAre ys ms)(h:Q (HT.lexLt ns ms) s) :
  wpAny (model prog w) A (keyLt' (tuples' b) (.ref l) (.ref k)) Q E s:=by
 rw[wF];obtain⟨o1,ho1,_,n1,hd1⟩:=hl;obtain⟨o2,ho2,_,n2,hd2⟩:=hk;refine aH (eW ho1 hd1 ?_);refine aH (eW ho2 hd2 ?_);have key:∀(xs ys:List af) (ns ms:List Int) (n:Nat),IntsAre xs ns->IntsAre ys ms->∀Q':Option Bool×Unit->aA->Prop,(∀r,(r=some (HT.lexLt ns ms)\/(r=none/\HT.lexLt ns ms=decide (xs.length<ys.length)))->Q' (r,()) s) ->
   wpAny (model prog w) A (forIn ((xs.zip ys).zipIdx n) ((none,()):Option Bool×Unit) λx c=>match x with
      | ((p,q),i)=>do
       let e <- eqBool p q
       if (!e)=true then do
         let r <- oneLt' (b && i == 0) p q
         pure (ForInStep.done (some r,()))
        else pure (ForInStep.yield (none,()))) Q' E s:=by
  intro xs
  induction xs with
  | nil=>
   intro ys ns ms n h1 h2 Q' q
   cases h1
   rw[List.zip_nil_left,List.zipIdx_nil,jl];refine aS (q none (.inr ⟨rfl,?_⟩))
   cases h2 with
   | nil=>rw[HT.nV];rfl
   | cons a t h2=>rw[HT.l5,bq (by simp)]
  | cons v vs ih=>
   intro ys ns ms n h1 h2 Q' q
   cases h1 with
   | cons a t h1=>
    cases h2 with
    | nil=>
     rw[List.zip_nil_right,List.zipIdx_nil,jl];exact aS (q none (.inr ⟨rfl,by rw[HT.nF,bw (by simp)]⟩))
    | cons c u h2=>
     rw[iQ,jc,gw];rw[HT.pM]at q;dsimp only;refine aH (aH (wpAny_eqBool_int ?_));by_cases e:a=c
     ·rw[aM e]at q;subst e;simp only[bK,cP,bu,bW];refine aS (ih _ _ _ _ h1 h2 _ λr hr=>q r ?_)
      rcases hr with hr|⟨hr,hz⟩
      ·exact .inl hr
      ·exact .inr ⟨hr,by rw[hz];simp⟩
     ·rw[aJ e]at q;have e':(a == c)=false:=by simpa using e
      simp only[e',c_,cV];exact aH (HW _ (aS (aS (q _ (.inl rfl)))))
 refine aH (key xs ys ns ms 0 hi hj _ λr hr=>?_)
 rcases hr with rfl|⟨rfl,hz⟩
 ·exact aS h
 ·dsimp only;rw[a_,a_,<- hz];exact aS h
end
theorem yu:∀a:List Int,HT.lexLt a a=false
 | []=>HT.nV
 | x::a=>by rw[HT.pM,aM rfl];exact yu a
theorem CW:∀{a b c:List Int},HT.lexLt a b=true->HT.lexLt b c=true->HT.lexLt a c=true
 | [],[],_,h,_=>by rw[HT.nV]at h;cases h
 | x::a,[],_,h,_=>by rw[HT.nF]at h;cases h
 | _,y::b,[],_,h=>by rw[HT.nF]at h;cases h
 | [],y::b,z::c,_,_=>HT.l5 ..
 | x::a,y::b,z::c,h1,h2=>by
  rw[HT.pM]at h1 h2 ⊢;by_cases e1:x=y
  ·rw[aM e1]at h1;by_cases e2:y=z
   ·rw[aM e2]at h2;rw[aM (e1.trans e2)];exact CW h1 h2
   ·rw[aJ e2]at h2;have:=bN h2;rw[aJ (by lia)];exact bq (by lia)
  ·rw[aJ e1]at h1;have l1:=bN h1;by_cases e2:y=z
   ·rw[aJ (by lia)];exact bq (by lia)
   ·rw[aJ e2]at h2;have:=bN h2;rw[aJ (by lia)];exact bq (by lia)
theorem u0:∀{a b:List Int},HT.lexLt a b=false->HT.lexLt b a=false->a=b
 | [],[],_,_=>rfl
 | [],y::b,h,_=>by rw[HT.l5]at h;cases h
 | x::a,[],_,h=>by rw[HT.l5]at h;cases h
 | x::a,y::b,h1,h2=>by
  rw[HT.pM]at h1 h2;by_cases e:x=y
  ·rw[aM e]at h1;rw[aM e.symm]at h2;rw[e,u0 h1 h2]
  ·rw[aJ e]at h1;rw[aJ (λz=>e z.symm)]at h2;have:=cW h1;have:=cW h2;lia
theorem JF{a c:List Int}(h:HT.lexLt a c=true):HT.lexLt a b=true\/HT.lexLt b c=true:=by
 cases e:HT.lexLt a b with
 | true=>exact .inl rfl
 | false=>
  right
  cases e2:HT.lexLt b a with
  | true=>exact CW e2 h
  | false=>rw[<- u0 e e2];exact h
noncomputable def zX (kss:List (List Int)):Ord where
 lt i j:=HT.lexLt (kss.getD i []) (kss.getD j [])
 K2 i:=yu _
 tr i j k:=CW
 neg i j k:=JF
section
variable {prog:aj}{w:ah}{A:az}{E:af->aA->Prop}{s:aA}
theorem GW{α β:Type}{f:α->Sem β}(r:α->β):∀(l:List α),(∀a∈l,∀Q:β->aA->Prop,Q (r a) s->wpAny M A (f a) Q E s)->∀Q:List β->aA->Prop,Q (l.map r) s->wpAny M A (l.mapM f) Q E s
 | [],_,Q,q=>by rw[List.mapM_nil];exact aS q
 | a::l,h,Q,q=>by
  rw[List.mapM_cons];refine aH (h a (aG ..) _ (aH (GW r l (λb hb=>h b (aI _ hb)) _ (aS q))))
theorem x_{α β:Type}{f:α->Sem β}(r:α->β)(l:List α)(h:∀a∈l,∀Q:β->aA->Prop,Q (r a) s->wpAny M A (f a) Q E s)(Q:Array β->aA->Prop)(q:Q (l.map r).toArray s):wpAny M A (l.toArray.mapM f) Q E s:=by
 rw[List.mapM_toArray,map_eq_pure_bind];exact aH (GW r l h _ (aS q))
theorem EH(u:af):firstOfTuple' u=(do
  if (<- typeOf u) != .type "tuple" then return none
  return (<- Builtin.List.listItems u)[0]?):=rfl
theorem KL{vs:List af}(h0:vs≠[])(ht:∀v∈vs,∃(l:ak) (xs:List af) (n:Int) (t:Tok),v=.ref l/\IsTup s.heap l (.int n t::xs).toArray){Q:SortKind->aA->Prop}(q:Q (tuples' true) s) :
  wpAny (model prog w) A (keyKind' vs.toArray) Q E s:=by
 have ch:∀v,∃x:Int×Tok,v∈vs->∃(l:ak) (xs:List af),v=.ref l/\IsTup s.heap l (.int x.1 x.2::xs).toArray:=λv=>by
  by_cases c:v∈vs
  ·obtain⟨l,xs,n,t,e1,e2⟩:=ht v c;exact⟨(n,t),λ_=>⟨l,xs,e1,e2⟩⟩
  ·exact⟨(0,0),λz=>absurd z c⟩
 obtain⟨F,hF⟩:=Classical.axiomOfChoice ch;rw[keyKind'_eq];refine aH (x_ (λv=>some (Value.int (F v).1 (F v).2)) vs (λv hv Q' q'=>?_) _ ?_)
 ·obtain⟨l,xs,rfl,o,ho,hc,n,hd⟩:=hF v hv;rw[EH];refine aH (gK (T := "tuple") ⟨o,ho,hc⟩ ?_);rw[aJ (by decide)];exact aH (eW ho hd (aS q'))
 ·rw[aM (by simp)];refine aH (eE ?_);have e1:(vs.map λv=>some (Value.int (F v).1 (F v).2)).toArray.filterMap id=(vs.map λv=>Value.int (F v).1 (F v).2).toArray:=by
   rw[List.filterMap_toArray,List.filterMap_map];congr 1;rw[show(id ∘ λv=>some (Value.int (F v).1 (F v).2))=λv=>some (Value.int (F v).1 (F v).2)from rfl];exact congrFun List.filterMap_eq_map' vs
  rw[e1,oneTypeOnly'_eq];refine aH (aH (x_ (λ_=>Value.type "int") _ (λv hv Q' q'=>?_) _ ?_))
  ·obtain⟨u,_,rfl⟩:=bg.mp hv;exact aS q'
  ·rw[bh];obtain⟨v0,vs',rfl⟩:∃v0 vs',vs=v0::vs':=by
    cases vs with
    | nil=>exact absurd rfl h0
    | cons a b=>exact⟨a,b,rfl⟩
   have ha:((List.map ((λ_=>Value.type "int") ∘ λv=>Value.int (F v).1 (F v).2) (v0::vs')).toArray.all λx=>x == Value.type "int")=true:=by
    simp only[List.all_toArray,gJ,d7];intro _ _;rfl
   have hz:(List.map ((λ_=>Value.type "int") ∘ λv=>Value.int (F v).1 (F v).2) (v0::vs')).toArray[0]?=some (Value.type "int"):=by simp
   rw[hz];simp only[ha,cV];exact aS (aS q)
end
end Sx
namespace L2
open PySem PySem.Spec PyProof.Rows
section
variable {X:Cx}
theorem v5:∀{rs:List ak}{its:List af},Vals (rs.map V.ref) its->its=rs.map Value.ref
 | [],_,r=>by cases r;rfl
 | a::rs,_,r=>by
  cases r with
  | cons h t=>
   have e:_=Value.ref a:=h;rw[e,v5 t];rfl
theorem wA:∀(rs:List ak),Vals (rs.map V.ref) (rs.map Value.ref)
 | []=>.nil
 | a::rs=>.cons (show RelV (.ref a) (.ref a)from rfl) (wA rs)
theorem J5{s:aA}{H:Hp}{Q:VK}{h':aq}{tk:Nat}{rs:List ak}{kss:List (List Int)}(I1:Inv X pins σ H { s with heap:=h',toks:=tk })(hlen:rs.length=kss.length)(hz:rs.length<=sizeLine)
  (hT:∀(i:Nat) (r:ak) (ks:List Int),rs[i]?=some r->kss[i]?=some ks->mD X.K H r (ks.map V.int)/\ks≠[])
  (q:∀l g,H l=none->Sx.Cl g 0 kss.length->Sx.So (Sx.zX kss) g 0 kss.length->Q (.ref l) (upd H l (.lst (((List.range kss.length).map λi=>rs.getD (g i) 0).map V.ref)))) :
  wpAny (model X.prog X.w) X.A.in1 (do
   let l <- newList (rs.map Value.ref)
   let _ <- holding [l] (call (Value.builtin "list.sort") [l] [])
   ret l) (λfin s'=>∃v,fin=Fin.done (Flow.ret v)/\EP X pins σ Q v s') X.xe { s with heap:=h',toks:=tk }:=by
 have hN:(rs.map Value.ref).length=kss.length:=by rw[aK,hlen]
 refine aH (ja ?_);have hoL:(h'.push (seqObj "list" (rs.map Value.ref).toArray 0)).get? h'.objs.size=some (seqObj "list" (rs.map Value.ref).toArray 0):=bA _ rfl;show wpAny _ _ _ _ _ { s with toks:=tk,heap:=h'.push (seqObj "list" (rs.map Value.ref).toArray 0)};have tup:∀(i:Nat) (r:ak) (ks:List Int),rs[i]?=some r->kss[i]?=some ks->∃its:List af,IntsAre its ks/\IsTup (Sx.Aa (h'.push (seqObj "list" (rs.map Value.ref).toArray 0)) h'.objs.size (rs.map Value.ref)) r its.toArray:=λi r ks e1 e2=>by
  obtain⟨its,rv,⟨o,ho,hc,n,hd⟩,_⟩:=I1.tuple (hT i r ks e1 e2).1;refine⟨its,intsAre_of rv,o,?_,hc,n,hd⟩;have lt:r<h'.objs.size:=bf ho;rw[Sx.Il (bE lt) (by rw[ef];exact dN lt)];exact aQ _ ho
 refine aH (dB (cO slot_list_sort ⟨_,hoL,rfl⟩ entry_list_sort (Sx.wX (o:=Sx.zX kss) (kd:=tuples' true) hoL (by rw[hN];lia) (λh2 Q' q'=>?_) (λh2 i j hi hj E' Q' q'=>?_) λg hc hs=>⟨_,rfl,?_⟩) (args_list_sort _)))
 ·refine Sx.KL (λz=>by rw[z]at h2;simp at h2) (λv hv=>?_) q';obtain⟨i,hi⟩:=eT hv;rw[aP]at hi;obtain⟨r,hr,rfl⟩:=aY.mp hi;have lt:=(aN.mp hr).1;have e2:kss[i]?=some kss[i]:=aF (by lia);obtain⟨its,h1,h3⟩:=tup i r _ hr e2;have hne:=(hT i r _ hr e2).2;generalize kss[i]=ks at h1 hne
  cases h1 with
  | nil=>exact absurd rfl hne
  | cons a t h1=>exact⟨r,_,a,t,rfl,h3⟩
 ·rw[hN]at hi hj;have e1:rs[i]?=some (rs[i]'(by lia)):=aF _;have e2:rs[j]?=some (rs[j]'(by lia)):=aF _;have k1:kss[i]?=some kss[i]:=aF hi;have k2:kss[j]?=some kss[j]:=aF hj;obtain⟨x1,a1,b1⟩:=tup i _ _ e1 k1;obtain⟨x2,a2,b2⟩:=tup j _ _ e2 k2;have v1:(rs.map Value.ref).getD i .none=.ref (rs[i]'(by lia)):=by rw[aL,aP,e1];rfl
  have v2:(rs.map Value.ref).getD j .none=.ref (rs[j]'(by lia)):=by rw[aL,aP,e2];rfl
  show wpAny _ _ (keyLt' (tuples' true) ((rs.map Value.ref).getD i .none) ((rs.map Value.ref).getD j .none)) Q' E' _;rw[v1,v2];refine Sx.Ff true b1 b2 a1 a2 ?_;have d1:kss.getD i []=kss[i]:=by rw[aL,k1];rfl
  have d2:kss.getD j []=kss[j]:=by rw[aL,k2];rfl
  have:(Sx.zX kss).lt i j=HT.lexLt kss[i] kss[j]:=by show HT.lexLt _ _=_;rw[d1,d2]
  rw[<- this];exact q'
 ·rw[hN]at hc hs ⊢;obtain⟨e,he⟩:=sortedHeap_at (out:=((List.range kss.length).map λi=>(rs.map Value.ref).getD (g i) .none).toArray) hoL;have old:∀b ob,h'.get? b=some ob->(sortedHeap (h'.push (seqObj "list" (rs.map Value.ref).toArray 0)) h'.objs.size (rs.map Value.ref) ((List.range kss.length).map λi=>(rs.map Value.ref).getD (g i) .none).toArray).get? b=some ob:=λb ob eb=>by
   rw[sortedHeap_old (bE (bf eb)) (by rw[ef];exact dN (bf eb))];exact aQ _ eb
  refine aS ⟨_,rfl,.ref h'.objs.size,_,I1.laid (t':=tk) (o:=.lst (((List.range kss.length).map λi=>rs.getD (g i) 0).map V.ref)) old (aO _) ?_,rfl,q _ g (I1.hok.fresh (aO _)) hc hs⟩;refine⟨by rw[aK,aK,b_];lia,((List.range kss.length).map λi=>rs.getD (g i) 0).map Value.ref,e,wA _,?_⟩;rw[he];congr 2;rw[bh];congr 1;refine cE λi hi=>?_;have:=(hc i (bI _) (cI.mp hi)).2;have lt:g i<rs.length:=by lia
  show(rs.map Value.ref).getD (g i) .none=Value.ref (rs.getD (g i) 0);rw[aL,aP,aF lt,aL,aF lt];rfl
end
end L2
namespace Sx
open PySem PyProof.Rows
open PySem.AutoSeq1 (wpAny_loadPart')
open PySem.MeetsSeq PySem.MeetsSeq2 PySem.MeetsSeq3
theorem yc:∀{xs:List af}{ns:List Int}{i:Nat},IntsAre xs ns->i<ns.length->∃t,xs[i]?=some (.int (ns.getD i 0) t)
 | _,_,i,.nil,h=>absurd h (eS _)
 | _,_,0,.cons n t h,_=>⟨t,rfl⟩
 | _,_,i+1,.cons n t h,hi=>by
  obtain⟨t',e⟩:=yc h (i:=i) (by simpa using hi);exact⟨t',by simpa using e⟩
end Sx
namespace Am
open PySem
inductive A where
 | unb|non|bl (b:Bool)|int (i:Int)|str (x:Str)|tup (xs:List A)|frz (xs:List A)|rng (lo hi:Int)|ref (n:Nat)|exn (c:Str)|ty (n:String)|ktu (xs:List A)
inductive O where
 | lst (xs:List A)|dct (kvs:List (List Int×A))|pP (kvs:List (Int×A))|ins (c:Str) (fs:List (Str×A))
noncomputable abbrev jx:=List O
inductive R (α:Type) where
 | ok (a:α) (S:jx)|ex (c:Str) (S:jx)|no
noncomputable def R.bind {α β:Type}(r:R α)(f:α->jx->R β):R β:=match r with
 | .ok a S=>f a S
 | .ex c S=>.ex c S
 | .no=>.no
noncomputable def R.post {α:Type}(r:R α)(P:α->jx->Prop)(E:Str->jx->Prop):Prop:=match r with
 | .ok a S=>P a S
 | .ex c S=>E c S
 | .no=>False
theorem jD{α β:Type}{r:R α}{f:α->jx->R β}{P:β->jx->Prop}{E:Str->jx->Prop}(h:(r.bind f).post P E):r.post (λa S=>(f a S).post P E) E:=by
 cases r<;>exact h
theorem JZ{α:Type}{r:R α}{P P':α->jx->Prop}{E E':Str->jx->Prop}(h:r.post P E)(hp:∀a S,P a S->P' a S)(he:∀c S,E c S->E' c S):r.post P' E':=by
 cases r with
 | ok a S=>exact hp _ _ h
 | ex c S=>exact he _ _ h
 | no=>exact h.elim
noncomputable def gd {α:Type}(c:Prop)[Decidable c](r:R α):R α:=if c then r else .no
noncomputable def opt {α β:Type}(o:Option β)(f:β->R α):R α:=match o with
 | some b=>f b
 | none=>.no
theorem jW{α:Type}{c:Prop}[Decidable c]{r:R α}{P:α->jx->Prop}{E:Str->jx->Prop}(h:(gd c r).post P E):c/\r.post P E:=by
 unfold gd at h;by_cases hc:c
 ·rw[aM hc]at h;exact⟨hc,h⟩
 ·rw[aJ hc]at h;exact h.elim
theorem jE{α β:Type}{o:Option β}{f:β->R α}{P:α->jx->Prop}{E:Str->jx->Prop}(h:(opt o f).post P E):∃b,o=some b/\(f b).post P E:=by
 cases o with
 | none=>exact h.elim
 | some b=>exact⟨b,rfl,h⟩
noncomputable def jw (S:jx)(n:Nat):Option (List A):=match S[n]? with
 | some (.lst xs)=>some xs
 | _=>none
theorem jL{n:Nat}(h:jw S n=some xs):S[n]?=some (.lst xs):=by
 unfold jw at h;split at h
 ·rename_i e;cases h;exact e
 ·cases h
theorem vm{S:jx}{n:Nat}(h:S[n]?=some (.lst xs)):jw S n=some xs:=by
 unfold jw;rw[h]
inductive RS where
 | nx (τ:List A) (S:jx)|rt (a:A) (S:jx)|bk (τ:List A) (S:jx)|ct (τ:List A) (S:jx)|ex (c:Str) (S:jx)|no
noncomputable abbrev Ex:=List A->jx->R A
noncomputable abbrev qo:=List A->jx->R (List A)
noncomputable abbrev Te:=List A->jx->R Bool
noncomputable abbrev Sm:=List A->jx->RS
noncomputable abbrev Tg:=A->List A->jx->R (List A)
end Am
namespace Am
open PySem L2
section
variable (K:au) (ρ:List ak) (H:Hp)
noncomputable def Z9 (K:au)(c:Str)(C:ak):Prop:=PySem.W.nsIn K mainGlobals c=some (some (.ref C))
noncomputable def Fz (K:au)(H:Hp)(a:ak)(vs:List V):Prop:=
 (∃o,H a=some (.frz o (.lst vs)))\/∃(o:Obj) (its:Array af) (n:Nat),K.lookup a=some o/\o.cls=.type "list" /\ o.dict=none/\o.data=.seq its n/\its.size<=sizeLine/\Vals vs its.toList
noncomputable def KTp (K:au)(a:ak)(vs:List V):Prop:=∃(o:Obj) (its:Array af) (n:Nat),K.lookup a=some o/\o.cls=.type "tuple" /\ o.dict=none/\o.data=.seq its n/\its.size<=sizeLine/\Vals vs its.toList
mutual
inductive AV:A->V->Prop
 | non:AV .non .non
 | bl (b:Bool):AV (.bl b) (.bl b)
 | int (i:Int):AV (.int i) (.int i)
 | str (x:Str):AV (.str x) (.str x)
 | ty (n:String):AV (.ty n) (.ty n)
 | tup {a:ak} {xs:List A} {vs:List V} (h:H a=some (.tup vs)) (r:AVs xs vs):AV (.tup xs) (.ref a)
 | frz {a:ak} {xs:List A} {vs:List V} (h:Fz K H a vs) (r:AVs xs vs):AV (.frz xs) (.ref a)
 | rng {a:ak} {lo hi:Int} (h:H a=some (.rng lo hi)):AV (.rng lo hi) (.ref a)
 | ref {a:ak} {n:Nat} (h:ρ[n]?=some a):AV (.ref n) (.ref a)
 | exn {a C:ak} {c:Str} {oe:Obj} (n:Z9 K c C) (h:H a=some (.frz oe xu)) (x:XO C oe):AV (.exn c) (.ref a)
 | ktu {a:ak} {xs:List A} {vs:List V} (h:KTp K a vs) (r:AVs xs vs):AV (.ktu xs) (.ref a)
inductive AVs:List A->List V->Prop
 | nil:AVs [] []
 | cons {x:A} {v:V} {xs:List A} {vs:List V} (h:AV x v) (t:AVs xs vs):AVs (x::xs) (v::vs)
end
noncomputable def DV:List (List Int×A)->List (List Key×V)->Prop
 | [],[]=>True
 | p::r,q::r'=>(q.1=p.1.map Sum.inl/\AV K ρ H p.2 q.2)/\DV r r'
 | _,_=>False
noncomputable def DI:List (Int×A)->List (Key×V)->Prop
 | [],[]=>True
 | p::r,q::r'=>(q.1=Sum.inl p.1/\AV K ρ H p.2 q.2)/\DI r r'
 | _,_=>False
noncomputable def OR (a:ak):O->Prop
 | .lst xs=>∃vs,H a=some (.lst vs)/\AVs K ρ H xs vs
 | .dct kvs=>∃ks,H a=some (.dT ks)/\DV K ρ H kvs ks
 | .pP kvs=>∃ks,H a=some (.dK ks)/\DI K ρ H kvs ks
 | .ins _ _=>∃o u,H a=some (.frz o u)
structure Rel (S:jx):Prop where
 len:ρ.length=S.length
 nd:ρ.Nodup
 «at»:∀(n:Nat) (a:ak) (o:O),ρ[n]?=some a->S[n]?=some o->OR K ρ H a o
end
noncomputable def Imm:HO->Prop
 | .tup _=>True
 | .rng _ _=>True
 | .frz _ _=>True
 | _=>False
structure Ext0 (ρ ρ':List ak)(H H':Hp):Prop where
 pre:ρ <+: ρ'
 im:∀a u,Imm u->H a=some u->H' a=some u
structure Ext (ρ ρ':List ak)(H H':Hp):Prop extends Ext0 ρ ρ' H H' where
 fr:∀a u,H a=some u->a∉ρ->H' a=some u
 nw:∀a,a∈ρ'->a∈ρ\/H a=none
theorem Ext.refl{H:Hp}:Ext ρ ρ H H:=⟨⟨fH _,λ_ _ _ h=>h⟩,λ_ _ h _=>h,λ_ h=>.inl h⟩
theorem Ext.trans{H H1 H2:Hp}(a:Ext ρ ρ1 H H1)(b:Ext ρ1 ρ2 H1 H2):Ext ρ ρ2 H H2:=⟨⟨a.pre.trans b.pre,λx u i h=>b.im x u i (a.im x u i h)⟩,λx u h n=>b.fr x u (a.fr x u h n) λz=>(a.nw x z).elim n λz=>by(rw[z]at h;cases h),λx h=>by
 by_cases hx:x∈ρ
 ·exact .inl hx
 ·right
  cases q:H x with
  | none=>rfl
  | some u=>
   rcases b.nw x h with z|z
   ·exact((a.nw x z).elim hx λz=>by(rw[z]at q;cases q)).elim
   ·rw[a.fr x u q hx]at z;cases z⟩
theorem Ext0.get{H H':Hp}(e:Ext0 ρ ρ' H H'){n:Nat}{a:ak}(h:ρ[n]?=some a):ρ'[n]?=some a:=by
 obtain⟨t,rfl⟩:=e.pre;rw[bG (aN.mp h).1];exact h
section
variable {K:au}{ρ ρ':List ak}{H H':Hp}
theorem Ext0.Y4(e:Ext0 ρ ρ' H H'){a:ak}(h:mD K H a vs):mD K H' a vs:=by
 rcases h with(h|⟨o,h⟩)|h
 ·exact .inl (.inl (e.im _ _ trivial h))
 ·exact .inl (.inr ⟨o,e.im _ _ trivial h⟩)
 ·exact .inr h
theorem Ext0.fz(e:Ext0 ρ ρ' H H'){a:ak}(h:Fz K H a vs):Fz K H' a vs:=by
 rcases h with⟨o,h⟩|h
 ·exact .inl ⟨o,e.im _ _ trivial h⟩
 ·exact .inr h
theorem Fz.Q5{a:ak}(h:Fz K H a vs):oX K H a vs:=by
 rcases h with⟨o,h⟩|h
 ·exact .inl (.inr ⟨o,h⟩)
 ·exact .inr h
mutual
theorem AV.nA(e:Ext0 ρ ρ' H H'):∀{x:A}{v:V},AV K ρ H x v->AV K ρ' H' x v
 | _,_,.non=>.non
 | _,_,.bl b=>.bl b
 | _,_,.int i=>.int i
 | _,_,.str x=>.str x
 | _,_,.ty x=>.ty x
 | _,_,.tup h r=>.tup (e.im _ _ trivial h) (AVs.nA e r)
 | _,_,.frz h r=>.frz (e.fz h) (AVs.nA e r)
 | _,_,.rng h=>.rng (e.im _ _ trivial h)
 | _,_,.ref h=>.ref (e.get h)
 | _,_,.exn n h x=>.exn n (e.im _ _ trivial h) x
 | _,_,.ktu h r=>.ktu h (AVs.nA e r)
theorem AVs.nA(e:Ext0 ρ ρ' H H'):∀{xs:List A}{vs:List V},AVs K ρ H xs vs->AVs K ρ' H' xs vs
 | _,_,.nil=>.nil
 | _,_,.cons h t=>.cons (AV.nA e h) (AVs.nA e t)
end
theorem DV.nA(e:Ext0 ρ ρ' H H'):∀{xs:List (List Int×A)}{vs:List (List Key×V)},DV K ρ H xs vs->DV K ρ' H' xs vs
 | [],[],_=>trivial
 | _::_,_::_,⟨⟨a,b⟩,r⟩=>⟨⟨a,AV.nA e b⟩,DV.nA e r⟩
theorem DV.ext{x:List (List Int×A)}{v:List (List Key×V)}(h:DV K ρ H x v)(e:Ext ρ ρ' H H'):DV K ρ' H' x v:=DV.nA e.toExt0 h
theorem DI.nA(e:Ext0 ρ ρ' H H'):∀{xs:List (Int×A)}{vs:List (Key×V)},DI K ρ H xs vs->DI K ρ' H' xs vs
 | [],[],_=>trivial
 | _::_,_::_,⟨⟨a,b⟩,r⟩=>⟨⟨a,AV.nA e b⟩,DI.nA e r⟩
theorem DI.ext{x:List (Int×A)}{v:List (Key×V)}(h:DI K ρ H x v)(e:Ext ρ ρ' H H'):DI K ρ' H' x v:=DI.nA e.toExt0 h
theorem AV.ext{x:A}{v:V}(h:AV K ρ H x v)(e:Ext ρ ρ' H H'):AV K ρ' H' x v:=AV.nA e.toExt0 h
theorem AVs.ext{x:List A}{v:List V}(h:AVs K ρ H x v)(e:Ext ρ ρ' H H'):AVs K ρ' H' x v:=AVs.nA e.toExt0 h
theorem AVs.length:∀{xs:List A}{vs:List V},AVs K ρ H xs vs->xs.length=vs.length
 | _,_,.nil=>rfl
 | _,_,.cons _ t=>dg (·+1) (AVs.length t)
theorem AVs.append:∀{xs ys:List A}{vs ws:List V},AVs K ρ H xs vs->AVs K ρ H ys ws->AVs K ρ H (xs++ys) (vs++ws)
 | _,_,_,_,.nil,s=>s
 | _,_,_,_,.cons h t,s=>.cons h (AVs.append t s)
theorem AVs.get:∀{xs:List A}{vs:List V}{i:Nat}{x:A},AVs K ρ H xs vs->xs[i]?=some x->∃v,vs[i]?=some v/\AV K ρ H x v
 | _,_,_,_,.nil,e=>by simp at e
 | _,_,0,_,.cons h _,e=>by simp at e;subst e;exact⟨_,rfl,h⟩
 | _,_,i+1,x,.cons _ t,e=>by
  obtain⟨u,h1,h2⟩:=AVs.get (i:=i) (x:=x) t (by simpa using e);exact⟨u,by simpa using h1,h2⟩
theorem AVs.set{x:A}{v:V}(h:AV K ρ H x v):∀{xs:List A}{vs:List V}(i:Nat),AVs K ρ H xs vs->AVs K ρ H (xs.set i x) (vs.set i v)
 | _,_,_,.nil=>.nil
 | _,_,0,.cons _ t=>.cons h t
 | _,_,i+1,.cons q t=>.cons q (AVs.set h i t)
theorem AVs.one{x:A}{v:V}(h:AV K ρ H x v):AVs K ρ H [x] [v]:=.cons h .nil
theorem AVs.eraseIdx:∀{xs:List A}{vs:List V}(i:Nat),AVs K ρ H xs vs->AVs K ρ H (xs.eraseIdx i) (vs.eraseIdx i)
 | _,_,_,.nil=>.nil
 | _,_,0,.cons _ t=>t
 | _,_,i+1,.cons q t=>.cons q (AVs.eraseIdx i t)
theorem qF:∀(ns:List Int),AVs K ρ H (ns.map .int) (ns.map .int)
 | []=>.nil
 | n::ns=>.cons (.int n) (qF ns)
theorem Rel.lay{S:jx}{p:ak}(R:Rel K ρ H S)(hp:H p=none)(r:AVs K ρ H xs vs):Ext ρ (ρ++[p]) H (upd H p (.lst vs))/\Rel K (ρ++[p]) (upd H p (.lst vs)) (S++[.lst xs])/\(ρ++[p])[S.length]?=some p:=by
 have ex:Ext ρ (ρ++[p]) H (upd H p (.lst vs)):=⟨⟨fL _ _,λa u _ h=>by rw[jG (jN h hp)];exact h⟩,λa u h _=>by rw[jG (jN h hp)];exact h,λa h=>by
  rcases bD.mp h with z|z
  ·exact .inl z
  ·have e:a=p:=by simpa using z
   rw[e];exact .inr hp⟩
 have np:∀(n:Nat) (a:ak),ρ[n]?=some a->a≠p:=by
  intro n a e z;subst z;have hn:n<S.length:=by rw[<- R.len];exact(aN.mp e).1
  have:=R.at n a S[n] e (aF hn)
  cases ho:S[n]with
  | lst xs=>rw[ho]at this;obtain⟨vs,h,_⟩:=this;rw[hp]at h;cases h
  | dct _|pP _=>rw[ho]at this;obtain⟨vs,h,_⟩:=this;rw[hp]at h;cases h
  | ins _ _=>rw[ho]at this;obtain⟨_,_,h⟩:=this;rw[hp]at h;cases h
 have last:(ρ++[p])[S.length]?=some p:=by rw[<- R.len];simp
 refine⟨ex,⟨by simp[R.len],?_,?_⟩,last⟩
 ·rw[dO];refine⟨R.nd,by simp,λa ha b hb e=>?_⟩;have:b=p:=by simpa using hb
  obtain⟨n,hn,e'⟩:=List.mem_iff_getElem.mp ha;exact np n a (by rw[aF hn,e']) (e.trans this)
 ·intro n a o h1 h2;by_cases hn:n<S.length
  ·rw[bG (by rw[R.len];exact hn)]at h1;rw[bG hn]at h2;have:=R.at n a o h1 h2
   cases o with
   | lst ys=>obtain⟨ws,e,q⟩:=this;exact⟨ws,by rw[jG (np n a h1)];exact e,q.ext ex⟩
   | dct _|pP _=>obtain⟨ws,e,q⟩:=this;exact⟨ws,by rw[jG (np n a h1)];exact e,q.ext ex⟩
   | ins _ _=>obtain⟨oo,uu,e⟩:=this;exact⟨oo,uu,by rw[jG (np n a h1)];exact e⟩
  ·have e:n=S.length:=by
    have:=(aN.mp h2).1;simp at this;lia
   subst e;rw[last]at h1
   cases h1
   simp at h2;subst h2;exact⟨vs,kJ,r.ext ex⟩
theorem Rel.im{p:ak}(R:Rel K ρ H S)(hp:H p=none):Ext ρ ρ H (upd H p u)/\Rel K ρ (upd H p u) S:=by
 have ex:Ext ρ ρ H (upd H p u):=⟨⟨fH _,λa u _ h=>by rw[jG (jN h hp)];exact h⟩,λa u h _=>by rw[jG (jN h hp)];exact h,λ_ h=>.inl h⟩;refine⟨ex,R.len,R.nd,λn a o h1 h2=>?_⟩;have:=R.at n a o h1 h2
 cases o with
 | lst ys=>obtain⟨ws,e,q⟩:=this;exact⟨ws,by rw[jG (jN e hp)];exact e,q.ext ex⟩
 | dct _|pP _=>obtain⟨ws,e,q⟩:=this;exact⟨ws,by rw[jG (jN e hp)];exact e,q.ext ex⟩
 | ins _ _=>obtain⟨oo,uu,e⟩:=this;exact⟨oo,uu,by rw[jG (jN e hp)];exact e⟩
theorem Rel.put{S:jx}{n:Nat}{a:ak}(R:Rel K ρ H S)(ha:ρ[n]?=some a)(hS:S[n]?=some (.lst xs))(r:AVs K ρ H ys ws):Ext ρ ρ H (upd H a (.lst ws))/\Rel K ρ (upd H a (.lst ws)) (S.set n (.lst ys)):=by
 obtain⟨vs,e,_⟩:=R.at n a _ ha hS;have ex:Ext ρ ρ H (upd H a (.lst ws)):=⟨⟨fH _,λb u i h=>by
  have:b≠a:=by
   intro z;subst z;rw[e]at h;cases h;exact i
  rw[jG this];exact h⟩,λb u h n=>by
  rw[jG (λz=>n (by rw[z];exact aX ha))];exact h,λ_ h=>.inl h⟩
 refine⟨ex,by rw[bY];exact R.len,R.nd,λm b o h1 h2=>?_⟩;by_cases hm:m=n
 ·subst hm;rw[ha]at h1;cases h1;rw[bV (aN.mp hS).1]at h2
  cases h2
  exact⟨ws,kJ,r.ext ex⟩
 ·rw[cu (c6 hm)]at h2;have nb:b≠a:=λz=>by
   subst z;obtain⟨l1,e1⟩:=aN.mp ha;obtain⟨l2,e2⟩:=aN.mp h1;exact hm ((dc R.nd).mp (e2.trans e1.symm))
  have:=R.at m b o h1 h2
  cases o with
  | lst ys=>obtain⟨ws',e',q⟩:=this;exact⟨ws',by rw[jG nb];exact e',q.ext ex⟩
  | dct _|pP _=>obtain⟨ws',e',q⟩:=this;exact⟨ws',by rw[jG nb];exact e',q.ext ex⟩
  | ins _ _=>obtain⟨oo,uu,e'⟩:=this;exact⟨oo,uu,by rw[jG nb];exact e'⟩
theorem Rel.lst{n:Nat}{a:ak}(R:Rel K ρ H S)(ha:ρ[n]?=some a)(hS:S[n]?=some (.lst xs)):∃vs,H a=some (.lst vs)/\AVs K ρ H xs vs:=R.at n a _ ha hS
structure SR (K:au)(ρ:List ak)(H:Hp)(τ:List A)(σ:St):Prop where
 len:τ.length=σ.length
 «at»:∀(i:Nat) (a:A),τ[i]?=some a->a=.unb\/∃v,σ[i]?=some (some v)/\AV K ρ H a v
theorem SR.nA(s:SR K ρ H τ σ)(e:Ext0 ρ ρ' H H'):SR K ρ' H' τ σ:=⟨s.len,λi a h=>by
 rcases s.at i a h with z|⟨v,h1,h2⟩
 ·exact .inl z
 ·exact .inr ⟨v,h1,AV.nA e h2⟩⟩
theorem SR.ext(s:SR K ρ H τ σ)(e:Ext ρ ρ' H H'):SR K ρ' H' τ σ:=s.nA e.toExt0
theorem Rel.out{D:ak}(R:Rel K ρ H S)(hD:H D=some (.lst vs))(hn:D∉ρ):Ext0 ρ ρ H (upd H D (.lst ws))/\Rel K ρ (upd H D (.lst ws)) S:=by
 have ex:Ext0 ρ ρ H (upd H D (.lst ws)):=⟨fH _,λb u i h=>by
  have:b≠D:=by
   intro z;subst z;rw[hD]at h;cases h;exact i
  rw[jG this];exact h⟩
 refine⟨ex,R.len,R.nd,λn a o h1 h2=>?_⟩;have na:a≠D:=λz=>hn (by rw[<- z];exact aX h1);have:=R.at n a o h1 h2
 cases o with
 | lst ys=>obtain⟨ws',e,q⟩:=this;exact⟨ws',by rw[jG na];exact e,AVs.nA ex q⟩
 | dct _|pP _=>obtain⟨ws',e,q⟩:=this;exact⟨ws',by rw[jG na];exact e,q.nA ex⟩
 | ins _ _=>obtain⟨oo,uu,e⟩:=this;exact⟨oo,uu,by rw[jG na];exact e⟩
theorem Rel.take{S:jx}{D:ak}(R:Rel K ρ H S)(hD:H D=some (.lst vs))(hn:D∉ρ)(r:AVs K ρ H xs vs):Rel K (ρ++[D]) H (S++[.lst xs])/\(ρ++[D])[S.length]?=some D:=by
 have ex:Ext0 ρ (ρ++[D]) H H:=⟨fL _ _,λ_ _ _ h=>h⟩;have last:(ρ++[D])[S.length]?=some D:=by rw[<- R.len];simp
 refine⟨⟨by simp[R.len],?_,λn a o h1 h2=>?_⟩,last⟩
 ·rw[dO];refine⟨R.nd,by simp,λa ha b hb e=>?_⟩;have:b=D:=by simpa using hb
  exact hn (by rw[<- this,<- e];exact ha)
 ·by_cases hs:n<S.length
  ·rw[bG (by rw[R.len];exact hs)]at h1;rw[bG hs]at h2;have:=R.at n a o h1 h2
   cases o with
   | lst ys=>obtain⟨ws,e,q⟩:=this;exact⟨ws,e,AVs.nA ex q⟩
   | dct _|pP _=>obtain⟨ws,e,q⟩:=this;exact⟨ws,e,q.nA ex⟩
   | ins _ _=>obtain⟨oo,uu,e⟩:=this;exact⟨oo,uu,e⟩
  ·have e:n=S.length:=by
    have:=(aN.mp h2).1;simp at this;lia
   subst e;rw[last]at h1
   cases h1
   simp at h2;subst h2;exact⟨vs,hD,AVs.nA ex r⟩
theorem SR.set{τ:List A}{σ:St}{a:A}{v:V}(s:SR K ρ H τ σ)(h:AV K ρ H a v):SR K ρ H (τ.set i a) (σ.set i (some v)):=by
 refine⟨by simp[s.len],λj b e=>?_⟩;by_cases hj:j=i
 ·subst hj;have hl:j<τ.length:=by
   have:=(aN.mp e).1;simpa using this
  rw[bV hl]at e
  cases e
  exact .inr ⟨v,bV (by rw[<- s.len];exact hl),h⟩
 ·rw[cu (c6 hj)]at e;rw[cu (c6 hj)];exact s.at j b e
end
end Am
namespace Am
open PySem PySem.Spec PyProof.Rows L2
noncomputable def XE (X:Cx)(ρ:List ak)(H:Hp):Str->jx->Prop:=λc S'=>∀(C:ak) (ρ':List ak) (H':Hp),Z9 X.K c C->Ext ρ ρ' H H'->Rel X.K ρ' H' S'->EX X (.ref C) none H'
theorem XE.ext{X:Cx}{H H':Hp}{c:Str}(h:XE X ρ H c S)(e:Ext ρ ρ' H H'):XE X ρ' H' c S:=λC ρ2 H2 n e2=>h C ρ2 H2 n (e.trans e2)
noncomputable def B8 (X:Cx)(ρ:List ak)(H:Hp)(Q:VK):A->jx->Prop:=λa S'=>∀ρ' H' v,Ext ρ ρ' H H'->Rel X.K ρ' H' S'->AV X.K ρ' H' a v->Q v H'
noncomputable def Y3 (X:Cx)(ρ:List ak)(H:Hp)(Q:Bool->Hp->Prop):Bool->jx->Prop:=λb S'=>∀ρ' H',Ext ρ ρ' H H'->Rel X.K ρ' H' S'->Q b H'
noncomputable def okL (X:Cx)(ρ:List ak)(H:Hp)(Q:List V->Hp->Prop):List A->jx->Prop:=λas S'=>∀ρ' H' vs,Ext ρ ρ' H H'->Rel X.K ρ' H' S'->AVs X.K ρ' H' as vs->Q vs H'
theorem B8.ext{X:Cx}{H H':Hp}{Q:VK}{a:A}(h:B8 X ρ H Q a S)(e:Ext ρ ρ' H H'):B8 X ρ' H' Q a S:=λρ2 H2 v e2=>h ρ2 H2 v (e.trans e2)
theorem Y3.ext{X:Cx}{H H':Hp}{Q:Bool->Hp->Prop}{a:Bool}(h:Y3 X ρ H Q a S)(e:Ext ρ ρ' H H'):Y3 X ρ' H' Q a S:=λρ2 H2 e2=>h ρ2 H2 (e.trans e2)
theorem jz{α:Type}{X:Cx}{H H':Hp}{r:R α}{P P':α->jx->Prop}(h:r.post P (XE X ρ H))(e:Ext ρ ρ' H H')(hp:∀a S,P a S->P' a S):r.post P' (XE X ρ' H'):=JZ h hp λ_ _ z=>z.ext e
noncomputable def tE (X:Cx)(c:Ex):TE:=λσ H Q=>∃ρ S τ,Rel X.K ρ H S/\SR X.K ρ H τ σ/\(c τ S).post (B8 X ρ H Q) (XE X ρ H)
noncomputable def tT (X:Cx)(c:Te):TT:=λσ H Q=>∃ρ S τ,Rel X.K ρ H S/\SR X.K ρ H τ σ/\(c τ S).post (Y3 X ρ H Q) (XE X ρ H)
noncomputable def tL (X:Cx)(c:qo):TA:=λσ H Q=>∃ρ S τ,Rel X.K ρ H S/\SR X.K ρ H τ σ/\(c τ S).post (okL X ρ H Q) (XE X ρ H)
noncomputable def AE (X:Cx)(e:aC)(c:Ex):Prop:=PE X e (tE X c)
noncomputable def AT (X:Cx)(e:aC)(c:Te):Prop:=PT X e (tT X c)
noncomputable def AW (X:Cx)(e:aC)(c:Te):Prop:=PW X e (tT X c)
noncomputable def AL (X:Cx)(es:List aC)(c:qo):Prop:=PA X es (tL X c)
theorem PE.imp{X:Cx}{e:aC}{t t':TE}(h:PE X e t)(i:∀σ H Q,t' σ H Q->t σ H Q):PE X e t':=λpins s σ H Q I q=>h pins s σ H Q I (i σ H Q q)
theorem PT.imp{X:Cx}{e:aC}{t t':TT}(h:PT X e t)(i:∀σ H Q,t' σ H Q->t σ H Q):PT X e t':=λpins s σ H Q I q=>h pins s σ H Q I (i σ H Q q)
theorem PW.imp{X:Cx}{e:aC}{t t':TT}(h:PW X e t)(i:∀σ H Q,t' σ H Q->t σ H Q):PW X e t':=λw pins s σ H Q I q=>h w pins s σ H Q I (i σ H Q q)
theorem PA.imp{X:Cx}{e:List aC}{t t':TA}(h:PA X e t)(i:∀σ H Q,t' σ H Q->t σ H Q):PA X e t':=λp pins s σ H Q I q=>h p pins s σ H Q I (i σ H Q q)
theorem AW.at{X:Cx}{e:aC}{c:Te}(h:AW X e c):AT X e c:=h _
noncomputable def A.pH:A->Bool
 | .unb=>true
 | _=>false
noncomputable def ju (i:Nat):Ex:=λτ S=>if (τ.getD i .unb).pH then .no else .ok (τ.getD i .unb) S
noncomputable def eC (a:A):Ex:=λ_ S=>.ok a S
section
variable {X:Cx}{pos:Pos}{a b:aC}
theorem jq(i:Nat){x:Str}(hN:X.N[i]?=some x:=by rfl)(hv:YJ X.env.scope x:=by first|exact Or.inl rfl|exact Or.inr (Or.inl rfl)|exact Or.inr (Or.inr rfl))(hd:(x == ("__debug__" : Str))=false:=by decide)
  (hcd:(x == ("__classdict__" : Str))=false:=by decide):AE X (.Name x pos) (ju i):=PE.imp (N4 hN hv hd hcd) λσ H Q h9=>by
 obtain⟨ρ,S,τ,R,r,h⟩:=h9;unfold ju at h
 cases hi:τ[i]? with
 | none=>
  rw[aL,hi]at h;exact h.elim
 | some x=>
  rw[aL,hi]at h
  rcases r.at i x hi with z|⟨v,e,q⟩
  ·subst z;exact h.elim
  ·refine⟨v,e,?_⟩
   cases x<;>first|(exact h ρ H v .refl R q)|exact h.elim
theorem jA{i:Int}{j pos}:AE X (.Constant (.int i) j pos) (eC (.int i)):=PE.imp Wn λσ H Q ⟨ρ,S,τ,R,r,h⟩=>h ρ H _ .refl R (.int i)
theorem K8{j pos}:AE X (.Constant (.bool i) j pos) (eC (.bl i)):=PE.imp WT λσ H Q ⟨ρ,S,τ,R,r,h⟩=>h ρ H _ .refl R (.bl i)
noncomputable def jJ (f:A->A->jx->R A)(ca cb:Ex):Ex:=λτ S=>(ca τ S).bind λa S1=>(cb τ S1).bind λb S2=>f a b S2
noncomputable def r2 (X:Cx)(f:A->A->jx->R A):R2:=λx y H Q=>∃ρ S a b,Rel X.K ρ H S/\AV X.K ρ H a x/\AV X.K ρ H b y/\(f a b S).post (B8 X ρ H Q) (XE X ρ H)
noncomputable def r1 (X:Cx)(f:A->jx->R A):V->Hp->VK->Prop:=λx H Q=>∃ρ S a,Rel X.K ρ H S/\AV X.K ρ H a x/\(f a S).post (B8 X ρ H Q) (XE X ρ H)
noncomputable def rN (X:Cx)(f:List A->jx->R A):List V->Hp->VK->Prop:=λxs H Q=>∃ρ S as,Rel X.K ρ H S/\AVs X.K ρ H as xs/\(f as S).post (B8 X ρ H Q) (XE X ρ H)
theorem n5.imp{f:af->af->Sem af}{r r':R2}(h:n5 X f r)(i:∀x y H Q,r' x y H Q->r x y H Q):n5 X f r':=λpins s σ H x y v u Q I rx ry q=>h pins s σ H x y v u Q I rx ry (i _ _ _ _ q)
theorem kh.imp{f:af}{r r':List V->Hp->VK->Prop}(h:kh X f r)(i:∀x H Q,r' x H Q->r x H Q):kh X f r':=λpins s σ H x v Q I rx q=>h pins s σ H x v Q I rx (i _ _ _ q)
theorem t6{f:A->A->jx->R A}{ca cb:Ex}{H:Hp}{Q:VK}(h:tE X (jJ f ca cb) σ H Q):Yb (r2 X f) (tE X ca) (tE X cb) σ H Q:=by
 obtain⟨ρ,S,τ,R,r,h⟩:=h;refine⟨ρ,S,τ,R,r,jz (jD h) .refl λa S1 h1 ρ1 H1 x e1 R1 v1=>⟨ρ1,S1,τ,R1,r.ext e1,jz (jD h1) e1 λb S2 h2 ρ2 H2 y e2 R2 v2=>?_⟩⟩;exact⟨ρ2,S2,a,b,R2,v1.ext e2,v2,jz h2 (e1.trans e2) λc S3 h3=>h3.ext (e1.trans e2)⟩
theorem jV{f:A->A->jx->R A}{ca cb:Ex}(ho:n5 X (binaryOp op) (r2 X f))(ha:AE X a ca)(hb:AE X b cb):AE X (.BinOp a op b pos) (jJ f ca cb):=
 PE.imp (Yj ho ha hb) λσ H Q h=>t6 h
theorem FA{op:CmpOp}{f:A->A->jx->R A}{ca cb:Ex}(ho:n5 X (compareOp op) (r2 X f))(ha:AE X a ca)(hb:AE X b cb)(hm:behindInMarks op b=false:=by first|exact M4 _|with_unfolding_all rfl):AE X (.Compare a [op] [b] pos) (jJ f ca cb):=
 PE.imp (Qc ho ha hb hm) λσ H Q h=>t6 h
noncomputable def A.Sj:A->jx->Option Bool
 | .non,_=>some false
 | .bl b,_=>some b
 | .int i,_=>some (i != 0)
 | .str x,_=>if x.length<=sizeLine then some ((x.length:Int) != 0)else none
 | .tup xs,_=>some (!xs.isEmpty)
 | .frz xs,_=>some (!xs.isEmpty)
 | .ref n,S=>(jw S n).map λxs=>!xs.isEmpty
 | _,_=>none
noncomputable def Ac (c:Ex):Te:=λτ S=>(c τ S).bind λa S1=>opt (a.Sj S1) λb=>.ok b S1
noncomputable def A8 (c:Ex):Te:=λτ S=>(c τ S).bind λa S1=>match a with
 | .bl b=>.ok b S1
 | _=>.no
theorem EY{K:au}{H:Hp}{b:Bool}{v:V}(h:AV K ρ H (.bl b) v):v=.bl b:=by cases h;rfl
theorem mO{op:CmpOp}{f:A->A->jx->R A}{ca cb:Ex}(ho:n5 X (compareOp op) (r2 X f))(ha:AE X a ca)(hb:AE X b cb)(hm:behindInMarks op b=false:=by first|exact M4 _|with_unfolding_all rfl):AT X (.Compare a [op] [b] pos) (A8 (jJ f ca cb)):=
 PT.imp (Qo ho ha hb hm) λσ H Q h9=>by
  obtain⟨ρ,S,τ,R,r,h⟩:=h9;refine t6 ⟨ρ,S,τ,R,r,jz (jD h) .refl λc S1 h1 ρ1 H1 x e1 R1 v1=>?_⟩
  cases c with
  | bl k=>cases EY v1;exact⟨k,rfl,h1 ρ1 H1 e1 R1⟩
  | _=>exact h1.elim
theorem Vq{K:au}{H:Hp}{x:A}{v:V}{b:Bool}(R:Rel K ρ H S)(h:AV K ρ H x v)(e:x.Sj S=some b):Ut K v H b:=by
 have emp:∀{xs:List A} {vs:List V},AVs K ρ H xs vs->(!xs.isEmpty)=!vs.isEmpty:=λr=>by cases r<;>rfl
 cases h with
 | non=>exact(aZ e).symm
 | bl b=>exact(aZ e).symm
 | int i=>exact(aZ e).symm
 | str x=>
  by_cases hx:x.length<=sizeLine
  ·exact⟨hx,by have:=(aM hx).symm.trans e;exact(aZ this).symm⟩
  ·have:=(aJ hx).symm.trans e;cases this
 | tup h r=>exact .inr (.inl ⟨_,mD.of h,by rw[<- emp r];exact(aZ e).symm⟩)
 | frz h r=>exact .inl ⟨_,h.Q5,by rw[<- emp r];exact(aZ e).symm⟩
 | rng h=>cases e
 | ty n=>cases e
 | exn n h x=>cases e
 | ktu h r=>cases e
 | @ref a n h=>
  have e:(jw S n).map (λxs=>!xs.isEmpty)=some b:=e;obtain⟨xs,hn,e⟩:=aY.mp e;obtain⟨vs,h1,h2⟩:=R.lst h (jL hn);exact .inl ⟨vs,oX.of h1,by rw[<- emp h2];exact e.symm⟩
theorem uG{ca:Ex}(ha:AE X a ca)(he:∀whole,isTrue a X.env whole=(do let v <- whole;standAt a.pos;holding [v] (truthy v)):=by intro _;rfl):AT X a (Ac ca):=
 PT.imp (M5 ha he) λσ H Q ⟨ρ,S,τ,R,r,h⟩=>⟨ρ,S,τ,R,r,jz (jD h) .refl λc S1 h1 ρ1 H1 x e1 R1 v1=>by
  obtain⟨b,hb,h1⟩:=jE h1;exact⟨b,Vq R1 v1 hb,h1 ρ1 H1 e1 R1⟩⟩
noncomputable def U0 (c:Te):Te:=λτ S=>(c τ S).bind λb S1=>.ok (!b) S1
noncomputable def Qs (c d:Te):Te:=λτ S=>(c τ S).bind λb S1=>match b with|true=>d τ S1|false=>.ok false S1
noncomputable def Y9 (c d:Te):Te:=λτ S=>(c τ S).bind λb S1=>match b with|true=>.ok true S1|false=>d τ S1
theorem Ud{c:Te}(h:AT X a c):AT X (.UnaryOp .Not a pos) (U0 c):=PT.imp (VL h) λσ H Q ⟨ρ,S,τ,R,r,h⟩=>⟨ρ,S,τ,R,r,jz (jD h) .refl λb S1 h1=>h1⟩
theorem and_imp{c d:Te}{H:Hp}{Q:Bool->Hp->Prop}(h:tT X (Qs c d) σ H Q):XD (tT X c) (tT X d) σ H Q:=by
 obtain⟨ρ,S,τ,R,r,h⟩:=h;refine⟨ρ,S,τ,R,r,jz (jD h) .refl λb S1 h1 ρ1 H1 e1 R1=>?_⟩
 cases b with
 | true=>
  rw[aM rfl];exact⟨ρ1,S1,τ,R1,r.ext e1,jz h1 e1 λ_ _ z=>z.ext e1⟩
 | false=>
  rw[aJ bF];exact h1 ρ1 H1 e1 R1
theorem or_imp{c d:Te}{H:Hp}{Q:Bool->Hp->Prop}(h:tT X (Y9 c d) σ H Q):tOr (tT X c) (tT X d) σ H Q:=by
 obtain⟨ρ,S,τ,R,r,h⟩:=h;refine⟨ρ,S,τ,R,r,jz (jD h) .refl λb S1 h1 ρ1 H1 e1 R1=>?_⟩
 cases b with
 | false=>
  rw[aJ bF];exact⟨ρ1,S1,τ,R1,r.ext e1,jz h1 e1 λ_ _ z=>z.ext e1⟩
 | true=>
  rw[aM rfl];exact h1 ρ1 H1 e1 R1
variable {rest:List aC}
theorem P_{c:Te}(h:AT X a c):AW X (.BoolOp .And [a] pos) c:=Qf h
theorem Wc{c:Te}(h:AT X a c):AW X (.BoolOp .Or [a] pos) c:=UA h
theorem Vj{c d:Te}(h:AT X a c)(h2:AW X (.BoolOp .And (b::rest) pos) d):AW X (.BoolOp .And (a::b::rest) pos) (Qs c d):=PW.imp (UK h h2) λ_ _ _ q=>and_imp q
theorem X5{c d:Te}(h:AT X a c)(h2:AW X (.BoolOp .Or (b::rest) pos) d):AW X (.BoolOp .Or (a::b::rest) pos) (Y9 c d):=PW.imp (Xv h h2) λ_ _ _ q=>or_imp q
noncomputable def Fo (c d:Ex):Ex:=λτ S=>(c τ S).bind λa S1=>match a with | .bl true=>d τ S1 | .bl false=>.ok (.bl false) S1|_=>.no
noncomputable def eOr (c d:Ex):Ex:=λτ S=>(c τ S).bind λa S1=>match a with | .bl true=>.ok (.bl true) S1 | .bl false=>d τ S1|_=>.no
noncomputable def UI (c:Ex):Ex:=λτ S=>(c τ S).bind λa S1=>match a with | .bl b=>.ok (.bl !b) S1|_=>.no
theorem FT{op}{c:Ex}(h:AE X a c):AE X (.BoolOp op [a] pos) c:=UU h
theorem C_{c d:Ex}(h:AE X a c)(h2:AE X (.BoolOp .And (b::rest) pos) d):AE X (.BoolOp .And (a::b::rest) pos) (Fo c d):=PE.imp (UM h h2) λσ H Q h9=>by
 obtain⟨ρ,S,τ,R,r,h⟩:=h9;refine⟨ρ,S,τ,R,r,jz (jD h) .refl λb S1 h1 ρ1 H1 x e1 R1 v1=>?_⟩
 cases b with
 | bl k=>
  cases EY v1
  refine⟨k,rfl,?_⟩
  cases k with
  | true=>
   rw[aM rfl];exact⟨ρ1,S1,τ,R1,r.ext e1,jz h1 e1 λ_ _ z=>z.ext e1⟩
  | false=>
   rw[aJ bF];exact h1 ρ1 H1 _ e1 R1 (.bl false)
 | _=>exact h1.elim
theorem VT{c:Ex}(h:AE X a c):AE X (.UnaryOp .Not a pos) (UI c):=PE.imp (Uc h) λσ H Q h9=>by
 obtain⟨ρ,S,τ,R,r,h⟩:=h9;refine⟨ρ,S,τ,R,r,jz (jD h) .refl λb S1 h1 ρ1 H1 x e1 R1 v1=>?_⟩
 cases b with
 | bl k=>
  cases EY v1
  exact⟨k,rfl,h1 ρ1 H1 _ e1 R1 (.bl _)⟩
 | _=>exact h1.elim
noncomputable def eIf (t:Te)(c d:Ex):Ex:=λτ S=>(t τ S).bind λb S1=>match b with|true=>c τ S1|false=>d τ S1
noncomputable def jB:qo:=λ_ S=>.ok [] S
noncomputable def jt (c:Ex)(d:qo):qo:=λτ S=>(c τ S).bind λa S1=>(d τ S1).bind λas S2=>.ok (a::as) S2
theorem jF:AL X [] jB:=PA.imp zP λσ H Q ⟨ρ,S,τ,R,r,h⟩=>h ρ H _ .refl R .nil
theorem jv{e:aC}{c:Ex}{d:qo}(ha:AE X e c)(hr:AL X es d)(hs:starEach (e::es) X.env=(false,eval e X.env)::starEach es X.env:=by rfl):AL X (e::es) (jt c d):=
 PA.imp (ue ha hr hs) λσ H Q h9=>by
  obtain⟨ρ,S,τ,R,r,h⟩:=h9;refine⟨ρ,S,τ,R,r,jz (jD h) .refl λa S1 h1 ρ1 H1 x e1 R1 v1=>⟨ρ1,S1,τ,R1,r.ext e1,jz (jD h1) e1 λas S2 h2 ρ2 H2 xs e2 R2 v2=>?_⟩⟩;exact h2 ρ2 H2 _ (e1.trans e2) R2 (.cons (v1.ext e2) v2)
noncomputable def qM (d:qo):Ex:=λτ S=>(d τ S).bind λas S1=>gd (as.length<=sizeLine) (.ok (.tup as) S1)
noncomputable def newL (as:List A)(S:jx):R A:=gd (as.length<=sizeLine) (.ok (.ref S.length) (S++[.lst as]))
noncomputable def vd (d:qo):Ex:=λτ S=>(d τ S).bind λas S1=>newL as S1
theorem vH{H H0:Hp}{Q:VK}(R:Rel X.K ρ H S)(r:AVs X.K ρ H as vs)(e:Ext ρ0 ρ H0 H)(h:B8 X ρ0 H0 Q (.tup as) S):∀p,H p=none->Q (.ref p) (upd H p (.tup vs)):=λp hp=>by
 obtain⟨ex,R'⟩:=R.im (u:=.tup vs) hp;exact h ρ _ _ (e.trans ex) R' (.tup kJ (r.ext ex))
theorem nS{H H0:Hp}{S:jx}{Q:VK}(R:Rel X.K ρ H S)(r:AVs X.K ρ H as vs)(e:Ext ρ0 ρ H0 H)(h:B8 X ρ0 H0 Q (.ref S.length) (S++[.lst as])):∀p,H p=none->Q (.ref p) (upd H p (.lst vs)):=λp hp=>by
 obtain⟨ex,R',g⟩:=R.lay hp r;exact h _ _ _ (e.trans ex) R' (.ref g)
theorem P7{H H0:Hp}{vs:List V}{Q:VK}(R:Rel X.K ρ H S)(r:AVs X.K ρ H as vs)(e:Ext ρ0 ρ H0 H)(h:(newL as S).post (B8 X ρ0 H0 Q) (XE X ρ0 H0)):vs.length<=sizeLine/\∀p,H p=none->Q (.ref p) (upd H p (.lst vs)):=by
 obtain⟨hl,h⟩:=jW h;exact⟨by rw[<- r.length];exact hl,nS R r e h⟩
theorem pF{d:qo}{x1}(h:AL X es d):AE X (.Tuple es x1 pos) (qM d):=PE.imp (WA h) λσ H Q h9=>by
 obtain⟨ρ,S,τ,R,r,h⟩:=h9;refine⟨ρ,S,τ,R,r,jz (jD h) .refl λas S1 h1 ρ1 H1 xs e1 R1 v1=>?_⟩;obtain⟨hl,h1⟩:=jW h1;exact⟨by rw[<- v1.length];exact hl,vH R1 v1 e1 h1⟩
theorem oE{d:qo}(h:AL X es d):AE X (.List es pos) (vd d):=PE.imp (U9 h) λσ H Q ⟨ρ,S,τ,R,r,h⟩=>
 ⟨ρ,S,τ,R,r,jz (jD h) .refl λas S1 h1 ρ1 H1 xs e1 R1 v1=>P7 R1 v1 e1 h1⟩
end
section
variable {X:Cx}{pos:Pos}{a b:aC}
noncomputable def aSub (a b:A)(S:jx):R A:=match a,b with
 | .int i,.int j=>.ok (.int (i-j)) S
 | _,_=>.no
theorem zJ:n5 X (binaryOp .Sub) (r2 X aSub):=n5.imp VY λx y H Q h9=>by
 obtain⟨ρ,S,a,b,R,va,vb,h⟩:=h9
 cases va<;>first|exact h.elim|(cases vb<;>first|exact h.elim|exact⟨_,_,rfl,rfl,h _ _ _ .refl R (.int _)⟩)
noncomputable def ED (i j:Int):Bool:=(decide (-(2 ^ 64)<i) && decide (i<2 ^ 64)) || (decide (-(2 ^ 64)<j) && decide (j<2 ^ 64))
theorem mulOk_of{i j:Int}(h:ED i j=true):Rx i j:=by
 unfold ED at h;simp only[Bool.or_eq_true,Bool.and_eq_true,iZ]at h;exact h
noncomputable def xF (a b:A)(S:jx):R A:=match a,b with
 | .int i,.int j=>gd (ED i j) (.ok (.int (i * j)) S)
 | .ref n,.int k=>opt (jw S n) λxs=>gd (-(2 ^ 63)<=k/\k<2 ^ 63/\xs.length * k.toNat<=sizeLine) (.ok (.ref S.length) (S++[.lst (List.replicate k.toNat xs).flatten]))
 | _,_=>.no
theorem AVs.rep{K:au}{H:Hp}(r:AVs K ρ H xs vs):∀k:Nat,AVs K ρ H (List.replicate k xs).flatten (List.replicate k vs).flatten
 | 0=>.nil
 | k+1=>by rw[c5,c5,dJ,dJ];exact r.append (AVs.rep r k)
theorem Bj:n5 X (binaryOp .Mult) (r2 X xF):=λpins s σ H x y v u Q I rx ry h9=>by
 obtain⟨ρ,S,a,b,R,va,vb,h⟩:=h9
 cases va with
 | int i=>
  cases vb with
  | int j=>
   obtain⟨hm,h⟩:=jW h;exact Uk pins s σ H _ _ v u Q I rx ry ⟨i,j,rfl,rfl,mulOk_of hm,h _ _ _ .refl R (.int _)⟩
  | _=>exact h.elim
 | @ref p n hp=>
  cases vb with
  | int k=>
   obtain⟨xs,hn,h⟩:=jE h;obtain⟨hc,h⟩:=jW h;obtain⟨vs,h1,h2⟩:=R.lst hp (jL hn);exact Wv pins s σ H _ _ v u Q I rx ry ⟨p,k,vs,rfl,rfl,h1,hc.1,hc.2.1,by rw[<- h2.length];exact hc.2.2,nS R (h2.rep _) .refl h⟩
  | _=>exact h.elim
 | _=>exact h.elim
noncomputable def HG (a b:A)(S:jx):R A:=match a,b with
 | .int i,.int j=>gd (0<j/\j<18446744073709551616) (.ok (.int (i / j)) S)
 | _,_=>.no
theorem Le:n5 X (binaryOp .FloorDiv) (r2 X HG):=n5.imp O9 λx y H Q h9=>by
 obtain⟨ρ,S,a,b,R,va,vb,h⟩:=h9
 cases va<;>first|exact h.elim|(cases vb<;>first|exact h.elim|exact⟨_,_,rfl,rfl,(jW h).1,(jW h).2 _ _ _ .refl R (.int _)⟩)
noncomputable def CD (a b:A)(S:jx):R A:=match a,b with
 | .int i,.int j=>gd (0<j) (.ok (.int (i % j)) S)
 | _,_=>.no
theorem A4:n5 X (binaryOp .Mod) (r2 X CD):=n5.imp VA λx y H Q h9=>by
 obtain⟨ρ,S,a,b,R,va,vb,h⟩:=h9
 cases va<;>first|exact h.elim|(cases vb<;>first|exact h.elim|exact⟨_,_,rfl,rfl,(jW h).1,(jW h).2 _ _ _ .refl R (.int _)⟩)
noncomputable def Vn (a b:A)(S:jx):R A:=match a,b with
 | .int i,.int j=>gd (0<=j/\j<=1000000/\i.natAbs<2 ^ 64) (.ok (.int (i ^ j.toNat)) S)
 | _,_=>.no
theorem Xx:n5 X (binaryOp .Pow) (r2 X Vn):=n5.imp Uv λx y H Q h9=>by
 obtain⟨ρ,S,a,b,R,va,vb,h⟩:=h9
 cases va<;>first|exact h.elim|(cases vb<;>first|exact h.elim|exact⟨_,_,rfl,rfl,(jW h).1,(jW h).2 _ _ _ .refl R (.int _)⟩)
noncomputable def qp (a b:A)(S:jx):R A:=match a,b with
 | .int i,.int j=>.ok (.int (i+j)) S
 | .tup xs,.tup ys=>gd (xs.length+ys.length<=sizeLine) (.ok (.tup (xs++ys)) S)
 | .str x,.str y=>gd (x.length+y.length<=sizeLine) (.ok (.str (x++y)) S)
 | .ref n,.ref m=>opt (jw S n) λxs=>opt (jw S m) λys=>gd (xs.length+ys.length<=sizeLine) (.ok (.ref S.length) (S++[.lst (xs++ys)]))
 | _,_=>.no
theorem AVs.nil_inv{K:au}{H:Hp}(r:AVs K ρ H xs vs):xs=[] ↔ vs=[]:=by cases r<;>simp
theorem p5:n5 X (binaryOp .Add) (r2 X qp):=λpins s σ H x y v u Q I rx ry h9=>by
 obtain⟨ρ,S,a,b,R,va,vb,h⟩:=h9
 cases va with
 | int i=>
  cases vb with
  | int j=>exact VO pins s σ H _ _ v u Q I rx ry ⟨i,j,rfl,rfl,h _ _ _ .refl R (.int _)⟩
  | _=>exact h.elim
 | str x=>
  cases vb with
  | str y=>
   obtain⟨hc,h⟩:=jW h;exact Fv pins s σ H _ _ v u Q I rx ry ⟨x,y,rfl,rfl,hc,h _ _ _ .refl R (.str _)⟩
  | _=>exact h.elim
 | @tup p xs vs h1 r1=>
  cases vb with
  | @tup q ys ws h2 r2=>
   obtain⟨hc,h⟩:=jW h;by_cases hv:vs=[]
   ·have hx:=r1.nil_inv.mpr hv;subst hv hx;exact OI pins s σ H _ _ v u Q I rx ry ⟨p,q,ws,rfl,rfl,mD.of h1,mD.of h2,h _ _ _ .refl R (.tup h2 r2)⟩
   ·refine Qe pins s σ H _ _ v u Q I rx ry ⟨p,q,vs,ws,rfl,rfl,mD.of h1,mD.of h2,hv,by rw[<- r1.length,<- r2.length];exact hc,λe=>?_,λ_=>vH R (r1.append r2) .refl h⟩;have hy:=r2.nil_inv.mpr e;subst hy;rw[ck]at h;exact h _ _ _ .refl R (.tup h1 r1)
  | _=>exact h.elim
 | @ref p n hp=>
  cases vb with
  | @ref q m hq=>
   obtain⟨xs,hn,h⟩:=jE h;obtain⟨ys,hm,h⟩:=jE h;obtain⟨hc,h⟩:=jW h;obtain⟨vs,h1,h2⟩:=R.lst hp (jL hn);obtain⟨ws,h3,h4⟩:=R.lst hq (jL hm);exact Uw pins s σ H _ _ v u Q I rx ry ⟨p,q,vs,ws,rfl,rfl,h1,h3,by rw[<- h2.length,<- h4.length];exact hc,nS R (h2.append h4) .refl h⟩
  | _=>exact h.elim
 | _=>exact h.elim
noncomputable def A.ints:List A->Option (List Int)
 | []=>some []
 | .int i::xs=>(A.ints xs).map (i::·)
 | _=>none
theorem yr{K:au}{H:Hp}:∀{xs:List A}{vs:List V}{bs:List Int},AVs K ρ H xs vs->A.ints xs=some bs->vs=bs.map V.int
 | _,_,_,.nil,e=>by cases e;rfl
 | _,_,_,.cons (x:=.int b) h t,e=>by
  obtain⟨cs,e1,rfl⟩:=aY.mp e
  cases h
  rw[yr t e1];rfl
 | _,_,_,.cons (x:=.unb) h t,e=>nomatch e
 | _,_,_,.cons (x:=.non) h t,e=>nomatch e
 | _,_,_,.cons (x:=.bl _) h t,e=>nomatch e
 | _,_,_,.cons (x:=.str _) h t,e=>nomatch e
 | _,_,_,.cons (x:=.tup _) h t,e=>nomatch e
 | _,_,_,.cons (x:=.frz _) h t,e=>nomatch e
 | _,_,_,.cons (x:=.rng _ _) h t,e=>nomatch e
 | _,_,_,.cons (x:=.ref _) h t,e=>nomatch e
 | _,_,_,.cons (x:=.exn _) h t,e=>nomatch e
 | _,_,_,.cons (x:=.ty _) h t,e=>nomatch e
noncomputable def WJ (a b:A)(S:jx):R A:=match a,b with
 | .int i,.int j=>.ok (.bl (decide (i<j))) S
 | _,_=>.no
theorem Wi(hu:X.A.units+64<cLine):n5 X (compareOp .Lt) (r2 X WJ):=λpins s σ H x y v u Q I rx ry h9=>by
 obtain⟨ρ,S,a,b,R,va,vb,h⟩:=h9
 cases va with
 | int i=>
  cases vb with
  | int j=>exact YI pins s σ H _ _ v u Q I rx ry ⟨i,j,rfl,rfl,h _ _ _ .refl R (.bl _)⟩
  | _=>exact h.elim
 | _=>exact h.elim
noncomputable def Y7 (a b:A)(S:jx):R A:=match a,b with
 | .int i,.int j=>.ok (.bl (decide (i<=j))) S
 | _,_=>.no
theorem Z0:n5 X (compareOp .LtE) (r2 X Y7):=n5.imp XG λx y H Q h9=>by
 obtain⟨ρ,S,a,b,R,va,vb,h⟩:=h9
 cases va<;>first|exact h.elim|(cases vb<;>first|exact h.elim|exact⟨_,_,rfl,rfl,h _ _ _ .refl R (.bl _)⟩)
noncomputable def WD (a b:A)(S:jx):R A:=match a,b with
 | .int i,.int j=>.ok (.bl (decide (j<i))) S
 | _,_=>.no
theorem VV(hu:X.A.units+64<cLine):n5 X (compareOp .Gt) (r2 X WD):=λpins s σ H x y v u Q I rx ry h9=>by
 obtain⟨ρ,S,a,b,R,va,vb,h⟩:=h9
 cases va with
 | int i=>
  cases vb with
  | int j=>exact X9 pins s σ H _ _ v u Q I rx ry ⟨i,j,rfl,rfl,h _ _ _ .refl R (.bl _)⟩
  | _=>exact h.elim
 | _=>exact h.elim
noncomputable def ZH (a b:A)(S:jx):R A:=match a,b with
 | .int i,.int j=>.ok (.bl (decide (j<=i))) S
 | _,_=>.no
theorem aag:n5 X (compareOp .GtE) (r2 X ZH):=n5.imp WZ λx y H Q h9=>by
 obtain⟨ρ,S,a,b,R,va,vb,h⟩:=h9
 cases va<;>first|exact h.elim|(cases vb<;>first|exact h.elim|exact⟨_,_,rfl,rfl,h _ _ _ .refl R (.bl _)⟩)
noncomputable def TY (neg:Bool)(a b:A)(S:jx):R A:=match a,b with
 | .bl i,.bl j=>.ok (.bl (if neg then i != j else i == j)) S
 | .non,.non=>.ok (.bl (!neg)) S
 | .unb,.non=>.no
 | .exn _,.non=>.no
 | _,.non=>.ok (.bl neg) S
 | _,_=>.no
noncomputable def QC (f:A->jx->R A)(c:Ex):Ex:=λτ S=>(c τ S).bind λa S1=>f a S1
noncomputable def BJ (a:A)(S:jx):R A:=match a with
 | .int i=>.ok (.int (-i)) S
 | _=>.no
theorem Yn:Y6 X (unaryOp .USub) (r1 X BJ):=λpins s σ H x v Q I rx h9=>by
 obtain⟨ρ,S,a,R,va,h⟩:=h9
 cases va with
 | int i=>exact V3 pins s σ H _ v Q I rx ⟨i,rfl,h _ _ _ .refl R (.int _)⟩
 | _=>exact h.elim
theorem Vr{f:A->jx->R A}{c:Ex}{H:Hp}{Q:VK}(h:tE X (QC f c) σ H Q):tUn (r1 X f) (tE X c) σ H Q:=by
 obtain⟨ρ,S,τ,R,r,h⟩:=h;exact⟨ρ,S,τ,R,r,jz (jD h) .refl λa S1 h1 ρ1 H1 x e1 R1 v1=>⟨ρ1,S1,a,R1,v1,jz h1 e1 λc S3 h3=>h3.ext e1⟩⟩
theorem zl{c:Ex}(h:AE X a c):AE X (.UnaryOp .USub a pos) (QC BJ c):=PE.imp (YM Yn h) λ_ _ _ q=>Vr q
noncomputable def uX (a b:A)(S:jx):R A:=match a,b with
 | .tup xs,.int i=>opt (rP xs i) λx=>.ok x S
 | .frz xs,.int i=>opt (rP xs i) λx=>.ok x S
 | .ref n,.int i=>opt (jw S n) λxs=>opt (rP xs i) λx=>.ok x S
 | .str z,.int i=>gd (z.length<=sizeLine) (opt (rP z.cps.toList i) λc=>.ok (.str ⟨#[c]⟩) S)
 | _,_=>.no
theorem AVs.rP{K:au}{H:Hp}{i:Int}{x:A}(r:AVs K ρ H xs vs)(h:L2.rP xs i=some x):∃v,L2.rP vs i=some v/\AV K ρ H x v:=by
 unfold L2.rP at h ⊢;rw[<- r.length]
 cases hj:A7 xs.length i with
 | none=>rw[hj]at h;cases h
 | some j=>
  rw[hj]at h;exact r.get h
theorem Yo:Tz X (r2 X uX):=λvalue slice pins s σ H x y v u Q I rx ry ⟨ρ,S,a,b,R,va,vb,h⟩ hs=>by
 cases va with
 | @tup p xs vs h1 r1=>
  cases vb with
  | int i=>
   obtain⟨x,hx,h⟩:=jE h;obtain⟨z,e,q⟩:=r1.rP hx;exact Vc value slice pins s σ H _ _ v u Q I rx ry ⟨p,vs,i,z,rfl,rfl,mD.of h1,e,h _ _ _ .refl R q⟩ hs
  | _=>exact h.elim
 | @frz p xs vs h1 r1=>
  cases vb with
  | int i=>
   obtain⟨x,hx,h⟩:=jE h;obtain⟨z,e,q⟩:=r1.rP hx;exact G0 value slice pins s σ H _ _ v u Q I rx ry ⟨p,vs,i,z,rfl,rfl,h1.Q5,e,h _ _ _ .refl R q⟩ hs
  | _=>exact h.elim
 | @ref p n hp=>
  cases vb with
  | int i=>
   obtain⟨xs,hn,h⟩:=jE h;obtain⟨x,hx,h⟩:=jE h;obtain⟨vs,h1,r1⟩:=R.lst hp (jL hn);obtain⟨z,e,q⟩:=r1.rP hx;exact G0 value slice pins s σ H _ _ v u Q I rx ry ⟨p,vs,i,z,rfl,rfl,oX.of h1,e,h _ _ _ .refl R q⟩ hs
  | _=>exact h.elim
 | str z=>
  cases vb with
  | int i=>
   obtain⟨hz,h⟩:=jW h;obtain⟨c,hc,h⟩:=jE h;exact Vx value slice pins s σ H _ _ v u Q I rx ry ⟨z,i,c,rfl,rfl,hz,hc,h _ _ _ .refl R (.str _)⟩ hs
  | _=>exact h.elim
 | _=>exact h.elim
theorem lR{ca cb:Ex}(ha:AE X a ca)(hb:AE X b cb)(hs:yg b:=by exact λ_ _=>rfl):AE X (.Subscript a b pos) (jJ uX ca cb):=PE.imp (NR Yo ha hb hs) λσ H Q h=>t6 h
end
noncomputable def qf (f:A->A->Option Bool):List A->List A->Option Bool
 | [],[]=>some true
 | x::xs,y::ys=>(f x y).bind λp=>(qf f xs ys).map λq=>p && q
 | _,_=>some false
inductive Sh
 | non
 | bl (b:Bool)
 | int (i:Int)
 | str (x:Str)
 | tup (xs:List A)
 | lst
noncomputable def VR (S:jx):A->Option Sh
 | .non=>some .non
 | .bl b=>some (.bl b)
 | .int i=>some (.int i)
 | .str x=>some (.str x)
 | .tup xs=>some (.tup xs)
 | .ref i=>(jw S i).map λ_=>.lst
 | _=>none
noncomputable def Qk (f:A->A->Option Bool):Sh->Sh->Option Bool
 | .non,.non=>some true
 | .bl x,.bl y=>some (x == y)
 | .bl x,.int y=>some ((if x then 1 else 0) == y)
 | .int x,.bl y=>some (x == (if y then 1 else 0))
 | .int x,.int y=>some (x == y)
 | .str x,.str y=>some (x == y)
 | .tup xs,.tup ys=>qf f xs ys
 | .lst,.lst=>none
 | _,_=>some false
noncomputable def qU (S:jx):Nat->A->A->Option Bool
 | 0,_,_=>none
 | n+1,a,b=>match a,b with
  | .ref i,.ref j=>(jw S i).bind λxs=>(jw S j).bind λys=>qf (qU S n) xs ys
  | _,_=>(VR S a).bind λx=>(VR S b).bind λy=>Qk (qU S n) x y
section
variable {X:Cx}{pins:List (ak×Obj)}{σ:L2.St}{H:Hp}{s:aA}{ρ:List ak}{S:jx}
inductive KdV (s:aA):Sh->af->Prop
 | non:KdV s .non .none
 | bl (b:Bool):KdV s (.bl b) (.bool b)
 | int (i:Int) (t:Tok):KdV s (.int i) (.int i t)
 | str (x:Str) (t:Tok):KdV s (.str x) (.str x t)
 | tup {p:ak} {us:List af} (xs:List A) (h:s.heap.IsTuple p us.toArray):KdV s (.tup xs) (.ref p)
 | lst {p:ak} {us:List af} (h:s.heap.IsList p us.toArray):KdV s .lst (.ref p)
theorem Jt{p:ak}(h:s.heap.IsTuple p us)(h':s.heap.IsList p ws):False:=by
 obtain⟨o,e,c,_⟩:=h;obtain⟨o',e',c',_⟩:=h';rw[e]at e'
 cases e'
 exact absurd (c.symm.trans c') (by decide)
theorem Iw(I:Inv X pins σ H s)(R:Rel X.K ρ H S){a:A}{x:V}(ha:AV X.K ρ H a x)(r:RelV x u)(e:VR S a=some h):KdV s h u:=by
 cases ha with
 | non=>cases e;cases(show u=Value.none from r);exact .non
 | bl b=>cases e;cases(show u=Value.bool b from r);exact .bl b
 | int i=>cases e;obtain⟨t,rfl⟩:∃t,u=Value.int i t:=r;exact .int i t
 | str i=>cases e;obtain⟨t,rfl⟩:∃t,u=Value.str i t:=r;exact .str i t
 | tup h1 r1=>cases e;cases(show u=Value.ref _ from r);obtain⟨us,_,p,_⟩:=I.tuple (mD.of h1);exact .tup _ p
 | ref h1=>
  obtain⟨xs,e1,rfl⟩:=aY.mp e
  cases(show u=Value.ref _ from r)
  obtain⟨vs,h3,r1⟩:=R.lst h1 (jL e1);obtain⟨us,_,p,_⟩:=I.list (oX.of h3);exact .lst p.isList
 | _=>cases e
noncomputable def Al (B:az)(s:aA)(u v:af)(k:Bool):Prop:=SeqAt.RcAt B s u v k/\SeqAt.EqAt B s u v k/\SeqAt.RcNeAt B s u v (!k)
theorem Xi{B:az}(hu:B.units<cLine){f:A->A->Option Bool}{v:af}{k:Bool}(d:KdV s h u)(d':KdV s h' v)(nt:∀xs ys,h=.tup xs->h'≠.tup ys)(e:Qk f h h'=some k):Al B s u v k:=by
 cases d with
 | non=>cases d' with
  | non=>cases e;exact⟨.none_none,.same _,.none_none⟩
  | bl b=>cases e;exact⟨.none_bool _,.none_bool _,.none_bool _⟩
  | int i t=>cases e;exact⟨.none_int _ _,.none_int _ _,.none_int _ _⟩
  | str x t=>cases e;exact⟨.none_str _ _,.none_str _ _,.none_str _ _⟩
  | tup xs p=>cases e;exact⟨.none_tuple p hu,.none_tuple p hu,.none_tuple p hu⟩
  | lst p=>cases e;exact⟨.none_list p hu,.none_list p hu,.none_list p hu⟩
 | bl c=>cases d' with
  | non=>cases e;exact⟨.bool_none _,.bool_none _,.bool_none _⟩
  | bl b=>cases e;exact⟨.bool_bool _ _,.bool_bool _ _,.bool_bool _ _⟩
  | int i t=>cases e;exact⟨.bool_int _ _ _,.bool_int _ _ _,.bool_int _ _ _⟩
  | str x t=>cases e;exact⟨.bool_str _ _ _,.bool_str _ _ _,.bool_str _ _ _⟩
  | tup xs p=>cases e;exact⟨.bool_tuple _ p hu,.bool_tuple _ p hu,.bool_tuple _ p hu⟩
  | lst p=>cases e;exact⟨.bool_list _ p hu,.bool_list _ p hu,.bool_list _ p hu⟩
 | int c t'=>cases d' with
  | non=>cases e;exact⟨.int_none _ _,.int_none _ _,.int_none _ _⟩
  | bl b=>cases e;exact⟨.int_bool _ _ _,.int_bool _ _ _,.int_bool _ _ _⟩
  | int i t=>cases e;exact⟨.int_int _ _ _ _,.int_int _ _ _ _,.int_int _ _ _ _⟩
  | str x t=>cases e;exact⟨.int_str _ _ _ _,.int_str _ _ _ _,.int_str _ _ _ _⟩
  | tup xs p=>cases e;exact⟨.int_tuple _ _ p hu,.int_tuple _ _ p hu,.int_tuple _ _ p hu⟩
  | lst p=>cases e;exact⟨.int_list _ _ p hu,.int_list _ _ p hu,.int_list _ _ p hu⟩
 | str c t'=>cases d' with
  | non=>cases e;exact⟨.str_none _ _,.str_none _ _,.str_none _ _⟩
  | bl b=>cases e;exact⟨.str_bool _ _ _,.str_bool _ _ _,.str_bool _ _ _⟩
  | int i t=>cases e;exact⟨.str_int _ _ _ _,.str_int _ _ _ _,.str_int _ _ _ _⟩
  | str x t=>cases e;exact⟨.str_str _ _ _ _,.str_str _ _ _ _,.str_str _ _ _ _⟩
  | tup xs p=>cases e;exact⟨.str_tuple _ _ p hu,.str_tuple _ _ p hu,.str_tuple _ _ p hu⟩
  | lst p=>cases e;exact⟨.str_list _ _ p hu,.str_list _ _ p hu,.str_list _ _ p hu⟩
 | tup zs p'=>cases d' with
  | non=>cases e;exact⟨.tuple_none p' hu,.tuple_none p' hu,.tuple_none p' hu⟩
  | bl b=>cases e;exact⟨.tuple_bool _ p' hu,.tuple_bool _ p' hu,.tuple_bool _ p' hu⟩
  | int i t=>cases e;exact⟨.tuple_int _ _ p' hu,.tuple_int _ _ p' hu,.tuple_int _ _ p' hu⟩
  | str x t=>cases e;exact⟨.tuple_str _ _ p' hu,.tuple_str _ _ p' hu,.tuple_str _ _ p' hu⟩
  | tup xs p=>exact absurd rfl (nt _ _ rfl)
  | lst p=>cases e;exact⟨.tuple_list p' p hu,.of_refs (λz=>by subst z;exact Jt p' p) (.tuple_list p' p hu),.tuple_list p' p hu⟩
 | lst p'=>cases d' with
  | non=>cases e;exact⟨.list_none p' hu,.list_none p' hu,.list_none p' hu⟩
  | bl b=>cases e;exact⟨.list_bool _ p' hu,.list_bool _ p' hu,.list_bool _ p' hu⟩
  | int i t=>cases e;exact⟨.list_int _ _ p' hu,.list_int _ _ p' hu,.list_int _ _ p' hu⟩
  | str x t=>cases e;exact⟨.list_str _ _ p' hu,.list_str _ _ p' hu,.list_str _ _ p' hu⟩
  | tup xs p=>cases e;exact⟨.list_tuple p' p hu,.of_refs (λz=>by subst z;exact Jt p p') (.list_tuple p' p hu),.list_tuple p' p hu⟩
  | lst p=>cases e
theorem CV{a:A}{x:V}(h:AV X.K ρ H a x)(e:VR S a=some (.tup xs)):a=.tup xs/\∃p vs,x=.ref p/\H p=some (.tup vs)/\AVs X.K ρ H xs vs:=by
 cases h with
 | tup h r=>cases e;exact⟨rfl,_,_,rfl,h,r⟩
 | ref h=>obtain⟨_,_,z⟩:=aY.mp e;cases z
 | _=>cases e
theorem CY{i:Nat}{x:V}(h:AV X.K ρ H (.ref i) x):∃p,x=.ref p/\ρ[i]?=some p:=by
 cases h with
 | ref h=>exact⟨_,rfl,h⟩
theorem Mc{a:A}(e:VR S a=some .lst):∃i,a=.ref i:=by
 cases a with
 | ref i=>exact⟨i,rfl⟩
 | _=>cases e
theorem MK{n:Nat}{a:A}{k:Bool}(e:qU S (n+1) a b=some k):(∃i j xs ys,a=.ref i/\b=.ref j/\jw S i=some xs/\jw S j=some ys/\qf (qU S n) xs ys=some k)\/(∃h h',VR S a=some h/\VR S b=some h'/\Qk (qU S n) h h'=some k/\(h=.lst->h'≠.lst)):=by
 unfold qU at e;split at e
 ·obtain⟨xs,e1,e⟩:=cj.mp e;obtain⟨ys,e2,e⟩:=cj.mp e;exact .inl ⟨_,_,xs,ys,rfl,rfl,e1,e2,e⟩
 ·rename_i nr;obtain⟨h,e1,e⟩:=cj.mp e;obtain⟨h',e2,e⟩:=cj.mp e;refine .inr ⟨h,h',e1,e2,e,λz1 z2=>?_⟩;subst z1 z2;obtain⟨i,rfl⟩:=Mc e1;obtain⟨j,rfl⟩:=Mc e2;exact nr i j rfl rfl
theorem QT{f:A->A->Option Bool}{k:Bool}(d:KdV s h u)(d':KdV s h' u)(nt:∀xs ys,h=.tup xs->h'≠.tup ys)(e:Qk f h h'=some k):k=true:=by
 cases d with
 | non=>cases d';exact(aZ e).symm
 | bl b=>cases d';exact(aZ e).symm.trans (bK b)
 | int b=>cases d';exact(aZ e).symm.trans (bK b)
 | str b=>cases d';exact(aZ e).symm.trans (bK b)
 | tup xs p=>cases d' with
  | tup=>exact absurd rfl (nt _ _ rfl)
  | lst q=>exact(Jt p q).elim
 | lst p=>cases d' with
  | tup _ q=>exact(Jt q p).elim
  | lst q=>cases e
theorem Dl{f:A->A->Option Bool}(hf:∀a b x u k,AV X.K ρ H a x->AV X.K ρ H b x->RelV x u->f a b=some k->k=true):∀{xs ys:List A}{vs:List V}{us:List af}{k:Bool},AVs X.K ρ H xs vs->AVs X.K ρ H ys vs->Vals vs us->qf f xs ys=some k->k=true:=by
 intro xs ys vs us k h1 h2 q e
 induction q generalizing xs ys k with
 | nil=>cases h1;cases h2;exact(aZ e).symm
 | cons rv _ ih=>
  cases h1 with
  | cons h t=>cases h2 with
   | cons h' t'=>
    obtain⟨p,e1,e⟩:=cj.mp e;obtain⟨q,e2,e3⟩:=aY.mp e;rw[<- e3,hf _ _ _ _ p h h' rv e1,ih t t' e2];rfl
theorem GY(h h':Sh):(∃xs ys,h=.tup xs/\h'=.tup ys)\/(∀xs ys,h=.tup xs->h'≠.tup ys):=by
 cases h with
 | tup xs=>cases h' with
  | tup ys=>exact .inl ⟨xs,ys,rfl,rfl⟩
  | _=>exact .inr λ_ _ _ z=>nomatch z
 | _=>exact .inr λ_ _ z=>nomatch z
theorem Cm(I:Inv X pins σ H s)(R:Rel X.K ρ H S):∀(n:Nat) (a b:A) (x:V) (u:af) (k:Bool),AV X.K ρ H a x->AV X.K ρ H b x->RelV x u->qU S n a b=some k->k=true
 | 0,_,_,_,_,_,_,_,_,e=>nomatch e
 | n+1,a,b,x,u,k,ha,hb,ru,e=>by
  rcases MK e with⟨i,j,xs,ys,rfl,rfl,e1,e2,e⟩|⟨h,h',e1,e2,e,_⟩
  ·obtain⟨p,rfl,h1⟩:=CY ha;obtain⟨q,z,h2⟩:=CY hb
   cases z
   obtain⟨vs,h3,r1⟩:=R.lst h1 (jL e1);obtain⟨ws,h4,r2⟩:=R.lst h2 (jL e2);rw[h3]at h4
   cases h4
   obtain⟨us,q,_⟩:=I.list (oX.of h3);exact Dl (λa b x u k=>Cm I R n a b x u k) r1 r2 q e
  ·rcases GY h h' with⟨xs,ys,rfl,rfl⟩|nt
   ·obtain⟨rfl,p,vs,rfl,h3,r1⟩:=CV ha e1;obtain⟨rfl,q,ws,z,h4,r2⟩:=CV hb e2
    cases z
    have:=I.xg (mD.of h3) (mD.of h4);subst this;obtain⟨us,q,_⟩:=I.tuple (mD.of h3);exact Dl (λa b x u k=>Cm I R n a b x u k) r1 r2 q e
   ·exact QT (Iw I R ha ru e1) (Iw I R hb ru e2) nt e
noncomputable def Af (f:A->A->Option Bool)(xs ys:List A)(j:Nat):Bool:=match xs[j]?,ys[j]? with
 | some x,some y=>(f x y).getD true
 | _,_=>true
theorem ye{f:A->A->Option Bool}:∀{xs ys:List A}{k:Bool},qf f xs ys=some k->k=((List.range (min xs.length ys.length)).all (Af f xs ys) && xs.length == ys.length)/\∀j x y,xs[j]?=some x->ys[j]?=some y->f x y=some (Af f xs ys j)
 | [],[],k,e=>⟨(aZ e).symm,λj x y h=>by simp at h⟩
 | [],_::_,k,e=>⟨(aZ e).symm,λj x y h=>by simp at h⟩
 | _::_,[],k,e=>⟨(aZ e).symm,λj x y _ h=>by simp at h⟩
 | x::xs,y::ys,k,e=>by
  unfold qf at e
  cases e1:f x y with
  | none=>rw[e1]at e;cases e
  | some p=>
   rw[e1]at e;obtain⟨q,e2,e3⟩:=aY.mp e;obtain⟨h1,h2⟩:=ye e2;have p0:Af f (x::xs) (y::ys) 0=p:=by simp[Af,e1]
   have ps:∀j,Af f (x::xs) (y::ys) (j+1)=Af f xs ys j:=λj=>by simp[Af]
   refine⟨?_,λj a b ha hb=>?_⟩
   ·rw[<- e3,h1,bz,bz,Nat.succ_min_succ,gI,all_cons,gJ,p0];have:(Af f (x::xs) (y::ys) ∘ Nat.succ)=Af f xs ys:=funext ps;rw[this,Bool.and_assoc];simp
   ·cases j with
    | zero=>
     simp at ha hb;subst ha hb;rw[p0];exact e1
    | succ j=>rw[ps];exact h2 j a b (by simpa using ha) (by simpa using hb)
theorem yl{f:A->A->Option Bool}{B:az}(hf:∀a b x y u v k,AV X.K ρ H a x->AV X.K ρ H b y->RelV x u->RelV y v->f a b=some k->SeqAt.EqAt B s u v k){us ts:List af}{k:Bool}
  (r1:AVs X.K ρ H xs vs) (r2:AVs X.K ρ H ys ws) (q1:Vals vs us) (q2:Vals ws ts) (e:qf f xs ys=some k):∀j (h1:j<us.toArray.size) (h2:j<ts.toArray.size),SeqAt.EqAt B s us.toArray[j] ts.toArray[j] (Af f xs ys j):=by
 intro j h1 h2;have l1:=r1.length;have l2:=r2.length;have l3:=q1.length;have l4:=q2.length;have hx:j<xs.length:=by simp at h1;lia
 have hy:j<ys.length:=by simp at h2;lia
 have e1:xs[j]?=some xs[j]:=aF hx;have e2:ys[j]?=some ys[j]:=aF hy;obtain⟨x,ex,ax⟩:=r1.get e1;obtain⟨y,ey,ay⟩:=r2.get e2;obtain⟨u,eu,ru⟩:=q1.get ex;obtain⟨t,et,rt⟩:=q2.get ey;have a1:us.toArray[j]=u:=by
  have:us[j]?=some us.toArray[j]:=by simp at h1;simp[h1]
  rw[eu]at this;exact(aZ this).symm
 have a2:ts.toArray[j]=t:=by
  have:ts[j]?=some ts.toArray[j]:=by simp at h2;simp[h2]
  rw[et]at this;exact(aZ this).symm
 rw[a1,a2];exact hf _ _ x y u t _ ax ay ru rt ((ye e).2 j _ _ e1 e2)
theorem in1_units(B:az):B.in1.units=B.units+1:=rfl
theorem Hq(I:Inv X pins σ H s)(R:Rel X.K ρ H S):∀(n:Nat) (B:az) (a b:A) (x y:V) (u v:af) (k:Bool),B.units+n<cLine->AV X.K ρ H a x->AV X.K ρ H b y->RelV x u->RelV y v->qU S n a b=some k->Al B s u v k
 | 0,_,_,_,_,_,_,_,_,_,_,_,_,_,e=>nomatch e
 | n+1,B,a,b,x,y,u,v,k,hu,ha,hb,rx,ry,e=>by
  have hu0:B.units<cLine:=by lia
  have items:∀a b x y u v k,AV X.K ρ H a x->AV X.K ρ H b y->RelV x u->RelV y v->qU S n a b=some k->SeqAt.EqAt B.in1 s u v k:=λa b x y u v k h1 h2 h3 h4 h5=>(Hq I R n B.in1 a b x y u v k (by rw[in1_units];lia) h1 h2 h3 h4 h5).2.1;have same:=λ(z:y=x)=>Cm I R (n+1) a b x u k ha (z ▸ hb) rx e;have refs:∀{p q:ak},x=.ref p->y=.ref q->u=.ref p->v=.ref q->SeqAt.RcAt B s u v k->SeqAt.EqAt B s u v k:=λ{p q} z1 z2 z3 z4 h=>by
   subst z3 z4;by_cases hp:p=q
   ·subst hp;rw[same (z2.trans z1.symm)];exact .same _
   ·exact .of_refs hp h
  rcases MK e with⟨i,j,xs,ys,rfl,rfl,e1,e2,e⟩|⟨h,h',e1,e2,e,_⟩
  ·obtain⟨p,rfl,h1⟩:=CY ha;obtain⟨q,rfl,h2⟩:=CY hb;obtain⟨vs,h3,r1⟩:=R.lst h1 (jL e1);obtain⟨ws,h4,r2⟩:=R.lst h2 (jL e2);obtain⟨us,q1,p1,_⟩:=I.list (oX.of h3);obtain⟨ts,q2,p2,_⟩:=I.list (oX.of h4);have ru:=refs rfl rfl rx ry
   cases(show u=Value.ref p from rx)
   cases(show v=Value.ref q from ry)
   have l1:=r1.length;have l2:=r2.length;have l3:=q1.length;have l4:=q2.length;have ek:=(ye e).1;by_cases hl:xs.length=ys.length
   ·rw[<- hl,Nat.min_self,bK,Bool.and_true]at ek;have eh:us.toArray.size=ts.toArray.size:=by simp;lia
    have z1:=SeqAt.RcAt.lists p1.isList p2.isList eh hu0 (yl items r1 r2 q1 q2 e);have z2:=SeqAt.RcNeAt.lists p1.isList p2.isList eh hu0 (yl items r1 r2 q1 q2 e);rw[a_,<- l3,<- l1,<- ek]at z1 z2;exact⟨z1,ru z1,z2⟩
   ·have:(xs.length == ys.length)=false:=by simpa using hl
    rw[this,jj]at ek;subst ek;have eh:(us.toArray.size != ts.toArray.size)=true:=by simp;lia
    have z1:=SeqAt.RcAt.lists_lengths p1.isList p2.isList eh hu0;exact⟨z1,ru z1,SeqAt.RcNeAt.lists_lengths p1.isList p2.isList eh hu0⟩
  ·rcases GY h h' with⟨xs,ys,rfl,rfl⟩|nt
   ·obtain⟨rfl,p,vs,rfl,h3,r1⟩:=CV ha e1;obtain⟨rfl,q,ws,rfl,h4,r2⟩:=CV hb e2;have ru:=refs rfl rfl rx ry
    cases(show u=Value.ref p from rx)
    cases(show v=Value.ref q from ry)
    obtain⟨us,q1,p1,_⟩:=I.tuple (mD.of h3);obtain⟨ts,q2,p2,_⟩:=I.tuple (mD.of h4);have ek:=(ye e).1;have z1:=SeqAt.RcAt.tuples p1 p2 hu0 (yl items r1 r2 q1 q2 e);have z2:=SeqAt.RcNeAt.tuples p1 p2 hu0 (yl items r1 r2 q1 q2 e);rw[a_,a_,<- q1.length,<- q2.length,<- r1.length,<- r2.length,<- ek]at z1 z2;exact⟨z1,ru z1,z2⟩
   ·exact Xi hu0 (Iw I R ha rx e1) (Iw I R hb ry e2) nt e
end
section
variable {X:Cx}
noncomputable def vR (neg:Bool)(a b:A)(S:jx):R A:=opt (qU S 12 a b) λk=>.ok (.bl (if neg then !k else k)) S
theorem Vs(hu:X.A.units+64<cLine):n5 X (compareOp .Eq) (r2 X (vR false)):=λpins s σ H x y v u Q I rx ry h9=>by
 obtain⟨ρ,S,a,b,R,va,vb,h⟩:=h9;obtain⟨k,e,h⟩:=jE h;exact(Hq I R 12 X.A a b x y v u k (by lia) va vb rx ry e).1 _ _ _ _ ⟨.bl _,H,I,rfl,h _ _ _ .refl R (.bl _)⟩
theorem KQ(hu:X.A.units+64<cLine):n5 X (compareOp .NotEq) (r2 X (vR true)):=λpins s σ H x y v u Q I rx ry h9=>by
 obtain⟨ρ,S,a,b,R,va,vb,h⟩:=h9;obtain⟨k,e,h⟩:=jE h;exact(Hq I R 12 X.A a b x y v u k (by lia) va vb rx ry e).2.2 _ _ _ _ ⟨.bl _,H,I,rfl,h _ _ _ .refl R (.bl _)⟩
end
section
variable {X:Cx}{pos:Pos}{a b:aC}
noncomputable abbrev Pt:=List A->jx->R (Option Int)
noncomputable def Xu:Pt:=λ_ S=>.ok none S
noncomputable def XS (c:Ex):Pt:=λτ S=>(c τ S).bind λa S1=>match a with
 | .int i=>.ok (some i) S1
 | _=>.no
noncomputable def tO (X:Cx)(c:Pt):TO:=λσ H Q=>∃ρ S τ,Rel X.K ρ H S/\SR X.K ρ H τ σ/\(c τ S).post (λo S'=>∀ρ' H',Ext ρ ρ' H H'->Rel X.K ρ' H' S'->Q o H') (XE X ρ H)
noncomputable def PV (xs:List A)(lo hi:Option Int):List A:=(xs.drop (HT.Xz xs.length 0 lo)).take (HT.Xz xs.length xs.length hi-HT.Xz xs.length 0 lo)
noncomputable def YW (a:A)(lo hi:Option Int)(S:jx):R A:=match a with
 | .ref n=>opt (jw S n) λxs=>.ok (.ref S.length) (S++[.lst (PV xs lo hi)])
 | .frz xs=>.ok (.ref S.length) (S++[.lst (PV xs lo hi)])
 | .tup xs=>gd (¬(HT.Xz xs.length 0 lo=0/\HT.Xz xs.length xs.length hi=xs.length)) (.ok (.tup (PV xs lo hi)) S)
 | _=>.no
noncomputable def eSl (c:Ex)(lo hi:Pt):Ex:=λτ S=>(c τ S).bind λa S1=>(lo τ S1).bind λl S2=>(hi τ S2).bind λu S3=>YW a l u S3
noncomputable def Xs (a:A)(S:jx):R A:=match a with
 | .ref n=>opt (jw S n) λxs=>.ok (.ref S.length) (S++[.lst xs.reverse])
 | .tup xs=>.ok (.tup xs.reverse) S
 | _=>.no
noncomputable def j6 (f:List A->jx->R A)(d:qo):Ex:=λτ S=>(d τ S).bind λas S1=>f as S1
theorem D_{f:List A->jx->R A}{d:qo}{H:Hp}{Q:VK}(h:tE X (j6 f d) σ H Q):Zg (rN X f) (tL X d) σ H Q:=by
 obtain⟨ρ,S,τ,R,r,h⟩:=h;exact⟨ρ,S,τ,R,r,jz (jD h) .refl λas S1 h1 ρ1 H1 vs e1 R1 v1=>⟨ρ1,S1,as,R1,v1,jz h1 e1 λ_ _ z=>z.ext e1⟩⟩
variable {x:Str}{p:Pos}{e:aC}{es:List aC}{id T:String}{f:List A->jx->R A}{d:qo}
theorem kj(hc:kh X (.builtin id) (rN X f))(hm:X.mg x=none)(hv:bootBuiltins x=some (.builtin id))(ha:AL X (e::es) d)(hg:Gl X x:=by rfl)(hn:x ≠ "__name__" := by decide)(hdb:(x == ("__debug__" : Str))=false:=by decide)
  (he:starEach (e::es) X.env=(false,eval e X.env)::starEach es X.env:=by rfl) (hpl:(backTo pos (starEach es X.env)).any (·.1)=false:=by rfl):AE X (.Call (.Name x p) (e::es) [] pos) (j6 f d):=
 PE.imp (Lm hc hg hm hv ha hn hdb he hpl) λ_ _ _ h=>D_ h
theorem lY(hc:kh X (.type T) (rN X f))(hm:X.mg x=none)(hv:bootBuiltins x=some (.type T))(ha:AL X (e::es) d)(hg:Gl X x:=by rfl)(hn:x ≠ "__name__" := by decide)(hdb:(x == ("__debug__" : Str))=false:=by decide)
  (he:starEach (e::es) X.env=(false,eval e X.env)::starEach es X.env:=by rfl) (hpl:(backTo pos (starEach es X.env)).any (·.1)=false:=by rfl):AE X (.Call (.Name x p) (e::es) [] pos) (j6 f d):=
 PE.imp (JN hc hg hm hv ha hn hdb he hpl) λ_ _ _ h=>D_ h
theorem TN(hm:X.mg x=none)(hv:bootBuiltins x=some (.type T))(hg:Gl X x:=by rfl)(hn:x ≠ "__name__" := by decide)(hdb:(x == ("__debug__" : Str))=false:=by decide):AE X (.Name x pos) (eC (.ty T)):=
 PE.imp (PM (v:=.ty T) hg hm hv rfl hn hdb) λσ H Q ⟨ρ,S,τ,R,r,h⟩=>h ρ H _ .refl R (.ty T)
noncomputable def A.seq (S:jx):A->Option (List A)
 | .tup xs=>some xs
 | .frz xs=>some xs
 | .ref n=>jw S n
 | _=>none
theorem Ve{K:au}{H:Hp}{x:A}{v:V}(R:Rel K ρ H S)(h:AV K ρ H x v)(e:x.seq S=some xs):∃p vs,v=.ref p/\(oX K H p vs\/mD K H p vs)/\AVs K ρ H xs vs:=by
 cases h with
 | tup h r=>cases aZ e;exact⟨_,_,rfl,.inr (mD.of h),r⟩
 | frz h r=>cases aZ e;exact⟨_,_,rfl,.inl h.Q5,r⟩
 | ref h=>
  obtain⟨vs,h1,r1⟩:=R.lst h (jL e);exact⟨_,vs,rfl,.inl (oX.of h1),r1⟩
 | _=>cases e
theorem Rh{K:au}{H:Hp}{x:A}(h:AVs K ρ H [x] vs):∃v,vs=[v]/\AV K ρ H x v:=by
 cases h with
 | cons h t=>cases t;exact⟨_,rfl,h⟩
theorem UL{K:au}{H:Hp}{x:A}(h:AVs K ρ H [x,y] vs):∃v w,vs=[v,w]/\AV K ρ H x v/\AV K ρ H y w:=by
 cases h with
 | cons h t=>obtain⟨w,rfl,h'⟩:=Rh t;exact⟨_,_,rfl,h,h'⟩
noncomputable def f1 (g:A->jx->R A):List A->jx->R A:=λas S=>match as with
 | [x]=>g x S
 | _=>.no
noncomputable def f2 (g:A->A->jx->R A):List A->jx->R A:=λas S=>match as with
 | [x,y]=>g x y S
 | _=>.no
theorem RU{g:A->jx->R A}{P:A->jx->Prop}{E:Str->jx->Prop}(h:(f1 g as S).post P E):∃x,as=[x]/\(g x S).post P E:=by
 match as,h with
 | [],h=>exact h.elim
 | [x],h=>exact⟨x,rfl,h⟩
 | _::_::_,h=>exact h.elim
theorem QE{g:A->A->jx->R A}{P:A->jx->Prop}{E:Str->jx->Prop}(h:(f2 g as S).post P E):∃x y,as=[x,y]/\(g x y S).post P E:=by
 match as,h with
 | [],h=>exact h.elim
 | [_],h=>exact h.elim
 | [x,y],h=>exact⟨x,y,rfl,h⟩
 | _::_::_::_,h=>exact h.elim
theorem SV{g:A->jx->R A}{H:Hp}{Q:VK}(h:rN X (f1 g) vs H Q):∃v,vs=[v]/\∃ρ S x,Rel X.K ρ H S/\AV X.K ρ H x v/\(g x S).post (B8 X ρ H Q) (XE X ρ H):=by
 obtain⟨ρ,S,as,R,v,h⟩:=h;obtain⟨x,rfl,h⟩:=RU h;obtain⟨w,rfl,hv⟩:=Rh v;exact⟨w,rfl,ρ,S,x,R,hv,h⟩
theorem rn2{g:A->A->jx->R A}{H:Hp}{Q:VK}(h:rN X (f2 g) vs H Q):∃v w,vs=[v,w]/\∃ρ S x y,Rel X.K ρ H S/\AV X.K ρ H x v/\AV X.K ρ H y w/\(g x y S).post (B8 X ρ H Q) (XE X ρ H):=by
 obtain⟨ρ,S,as,R,v,h⟩:=h;obtain⟨x,y,rfl,h⟩:=QE h;obtain⟨w,w',rfl,hv,hv'⟩:=UL v;exact⟨w,w',rfl,ρ,S,x,y,R,hv,hv',h⟩
noncomputable def vI (x:A)(S:jx):R A:=match x with
 | .str x=>gd (x.length<=sizeLine) (.ok (.int x.length) S)
 | .tup xs=>.ok (.int xs.length) S
 | .frz xs=>.ok (.int xs.length) S
 | .ref n=>opt (jw S n) λxs=>.ok (.int xs.length) S
 | _=>.no
theorem vM:kh X (.builtin "len") (rN X (f1 vI)):=kh.imp LN λvs H Q h0=>by
 obtain⟨w,rfl,ρ,S,x,R,hv,h⟩:=SV h0;clear h0
 cases hv with
 | str z=>
  obtain⟨hz,h⟩:=jW h;exact⟨_,_,rfl,⟨hz,rfl⟩,h _ _ _ .refl R (.int _)⟩
 | @tup p xs us h1 r=>exact⟨_,us.length,rfl,.inr ⟨us,(mD.of h1),rfl⟩,by rw[<- r.length];exact h _ _ _ .refl R (.int _)⟩
 | @frz p xs us h1 r=>exact⟨_,us.length,rfl,.inl ⟨us,h1.Q5,rfl⟩,by rw[<- r.length];exact h _ _ _ .refl R (.int _)⟩
 | ref hp=>
  obtain⟨xs,hn,h⟩:=jE h;obtain⟨us,h1,r⟩:=R.lst hp (jL hn);exact⟨_,us.length,rfl,.inl ⟨us,oX.of h1,rfl⟩,by rw[<- r.length];exact h _ _ _ .refl R (.int _)⟩
 | _=>exact h.elim
noncomputable def UG (x:A)(S:jx):R A:=match x with
 | .int i=>.ok (.int (if i<0 then -i else i)) S
 | _=>.no
theorem Xe:kh X (.builtin "abs") (rN X (f1 UG)):=kh.imp Lc λvs H Q h0=>by
 obtain⟨w,rfl,ρ,S,x,R,hv,h⟩:=SV h0;clear h0
 cases hv<;>first|exact h.elim|exact⟨_,rfl,h _ _ _ .refl R (.int _)⟩
noncomputable def Xf (x y:A)(S:jx):R A:=match x,y with
 | .int i,.int j=>.ok (.int (if j>i then j else i)) S
 | _,_=>.no
noncomputable def W6 (x y:A)(S:jx):R A:=match x,y with
 | .int i,.int j=>.ok (.int (if j<i then j else i)) S
 | _,_=>.no
noncomputable def SG (x:A)(S:jx):R A:=match x with
 | .int i=>.ok (.int i) S
 | .bl k=>.ok (.int (if k then 1 else 0)) S
 | .str y=>opt (PySem.intText? y) λn=>gd (y.length<=640) (.ok (.int n) S)
 | _=>.no
noncomputable def xX (x y:A)(S:jx):R A:=match x,y with
 | .int i,.int j=>.ok (.rng i j) S
 | _,_=>.no
theorem DU:kh X (.type "range") (rN X (f2 xX)):=kh.imp BQ λvs H Q h0=>by
 obtain⟨w,w',rfl,ρ,S,x,y,R,hv,hv',h⟩:=rn2 h0;clear h0
 cases hv with
 | int i=>
  cases hv' with
  | int j=>
   refine⟨i,j,rfl,λp hp=>?_⟩;obtain⟨ex,R'⟩:=R.im (u:=.rng i j) hp;exact h ρ _ _ ex R' (.rng kJ)
  | _=>exact h.elim
 | _=>exact h.elim
noncomputable def zq (i j:Int):Prop:=(-(2 ^ 62)<=i/\i<2 ^ 62/\-(2 ^ 62)<=j/\j<2 ^ 62)/\(j-i).toNat<=1000
instance (i j:Int):Decidable (zq i j):=by unfold zq;infer_instance
noncomputable def vn (x:A)(S:jx):R A:=match x with
 | .rng i j=>gd (zq i j) (.ok (.ref S.length) (S++[.lst ((kc i j).map .int)]))
 | .tup xs=>.ok (.ref S.length) (S++[.lst xs])
 | .frz xs=>.ok (.ref S.length) (S++[.lst xs])
 | .ref n=>opt (jw S n) λxs=>.ok (.ref S.length) (S++[.lst xs])
 | _=>.no
theorem CG(hc:X.calm=true):kh X (.type "list") (rN X (f1 vn)):=λpins s σ H vs us Q I rx h0=>by
 obtain⟨w,rfl,ρ,S,x,R,hv,h⟩:=SV h0;clear h0
 cases hv with
 | @rng p i j hp=>
  obtain⟨hc',h⟩:=jW h;exact Ai hc pins s σ H _ us Q I rx ⟨p,i,j,rfl,hp,hc'.1,hc'.2,nS R (qF _) .refl h⟩
 | @tup p xs vs h1 r=>exact qS pins s σ H _ us Q I rx ⟨p,vs,rfl,.inr (mD.of h1),nS R r .refl h⟩
 | @frz p xs vs h1 r=>exact qS pins s σ H _ us Q I rx ⟨p,vs,rfl,.inl h1.Q5,nS R r .refl h⟩
 | @ref p n hp=>
  obtain⟨xs,hn,h⟩:=jE h;obtain⟨vs,h1,r⟩:=R.lst hp (jL hn);exact qS pins s σ H _ us Q I rx ⟨p,vs,rfl,.inl (oX.of h1),nS R r .refl h⟩
 | _=>exact h.elim
noncomputable def rF (x:A)(S:jx):R A:=match x with
 | .rng i j=>gd (zq i j) (.ok (.tup ((kc i j).map .int)) S)
 | .tup xs=>.ok (.tup xs) S
 | .frz xs=>.ok (.tup xs) S
 | .ref n=>opt (jw S n) λxs=>.ok (.tup xs) S
 | _=>.no
theorem xR(hc:X.calm=true):kh X (.type "tuple") (rN X (f1 rF)):=λpins s σ H vs us Q I rx h0=>by
 obtain⟨w,rfl,ρ,S,x,R,hv,h⟩:=SV h0;clear h0
 cases hv with
 | @rng p i j hp=>
  obtain⟨hc',h⟩:=jW h;exact zw hc pins s σ H _ us Q I rx ⟨p,i,j,rfl,hp,hc'.1,hc'.2,vH R (qF _) .refl h⟩
 | @tup p xs vs h1 r=>exact qm pins s σ H _ us Q I rx ⟨p,vs,rfl,.inr ⟨(mD.of h1),h _ _ _ .refl R (.tup h1 r)⟩⟩
 | @frz p xs vs h1 r=>exact qm pins s σ H _ us Q I rx ⟨p,vs,rfl,.inl ⟨h1.Q5,vH R r .refl h⟩⟩
 | @ref p n hp=>
  obtain⟨xs,hn,h⟩:=jE h;obtain⟨vs,h1,r⟩:=R.lst hp (jL hn);exact qm pins s σ H _ us Q I rx ⟨p,vs,rfl,.inl ⟨oX.of h1,vH R r .refl h⟩⟩
 | _=>exact h.elim
noncomputable def A.YS:List A->Option (List Bool)
 | []=>some []
 | .bl b::xs=>(A.YS xs).map (b::·)
 | _=>none
noncomputable def insI (x:Int):List Int->List Int
 | []=>[x]
 | y::ys=>if x<=y then x::y::ys else y::insI x ys
noncomputable def sortI:List Int->List Int
 | []=>[]
 | x::xs=>insI x (sortI xs)
theorem insI_perm(x:Int):∀ys:List Int,(insI x ys).Perm (x::ys)
 | []=>eF _
 | y::ys=>by
  unfold insI;by_cases h:x<=y
  ·rw[aM h]
  ·rw[aJ h];exact((insI_perm x ys).cons y).trans (List.Perm.swap x y ys)
theorem sortI_perm:∀xs:List Int,(sortI xs).Perm xs
 | []=>eF _
 | x::xs=>(insI_perm x (sortI xs)).trans ((sortI_perm xs).cons x)
theorem Hx(x:Int):∀ys:List Int,ys.Pairwise (·<=·)->(insI x ys).Pairwise (·<=·)
 | [],_=>cJ _ _
 | y::ys,h=>by
  unfold insI;obtain⟨h1,h2⟩:=bM.mp h;by_cases hx:x<=y
  ·rw[aM hx];exact bM.mpr ⟨λz hz=>(bB.mp hz).elim (λe=>e ▸ hx) λhz=>Int.le_trans hx (h1 z hz),h⟩
  ·rw[aJ hx];refine bM.mpr ⟨λz hz=>?_,Hx x ys h2⟩
   rcases bB.mp ((insI_perm x ys).mem_iff.mp hz)with e|hz
   ·subst e;lia
   ·exact h1 z hz
theorem zI:∀xs:List Int,(sortI xs).Pairwise (·<=·)
 | []=>List.Pairwise.nil
 | x::xs=>Hx x _ (zI xs)
noncomputable def A.kd:A->jx->Option Kd
 | .non,_=>some .non
 | .bl _,_=>some .bl
 | .int _,_=>some .int
 | .str _,_=>some .str
 | .tup _,_=>some .tup
 | .ref n,S=>(jw S n).map λ_=>.lst
 | _,_=>none
theorem PY{K:au}(k:Kd):PySem.W.kitOne K k.ty (.type "str")=some (decide (k=.str)):=by cases k<;>rfl
noncomputable def KD (k:Kd)(c:String):Option Bool:=if c = "int" then some (decide (k=.int\/k=.bl))else if c = "bool" then some (decide (k=.bl))else if c = "tuple" then some (decide (k=.tup))else if c = "list" then some (decide (k=.lst))else if c = "str" then some (decide (k=.str))else none
theorem IM{K:au}{k:Kd}{c:String}{b:Bool}(h:KD k c=some b):PySem.W.kitOne K k.ty (.type c)=some b:=by
 unfold KD at h;split at h
 ·rename_i e;subst e;rw[<- h];exact QN k
 ·split at h
  ·rename_i e;subst e;rw[<- h];exact Ll k
  ·split at h
   ·rename_i e;subst e;rw[<- h];exact kit_tuple k
   ·split at h
    ·rename_i e;subst e;rw[<- h];exact Lj k
    ·split at h
     ·rename_i e;subst e;rw[<- h];exact PY k
     ·cases h
noncomputable def Q7 (x y:A)(S:jx):R A:=match y with
 | .ty c=>opt (x.kd S) λk=>opt (KD k c) λb=>.ok (.bl b) S
 | _=>.no
theorem YA{K:au}{H:Hp}{x:A}{v:V}{k:Kd}(R:Rel K ρ H S)(h:AV K ρ H x v)(e:x.kd S=some k):(∃p vs,v=.ref p/\mD K H p vs/\k=.tup)\/V1 H v k:=by
 cases h with
 | non=>cases e;exact .inr rfl
 | bl b=>cases e;exact .inr ⟨b,rfl⟩
 | int i=>cases e;exact .inr ⟨i,rfl⟩
 | str i=>cases e;exact .inr ⟨i,rfl⟩
 | tup h r=>cases e;exact .inl ⟨_,_,rfl,(mD.of h),rfl⟩
 | ref h=>
  obtain⟨xs,e1,e2⟩:=aY.mp e;obtain⟨vs,h1,_⟩:=R.lst h (jL e1)
  cases e2
  exact .inr ⟨_,vs,rfl,h1⟩
 | _=>cases e
theorem SQ:kh X (.builtin "isinstance") (rN X (f2 Q7)):=λpins s σ H vs us Q I rx h0=>by
 obtain⟨w,w',rfl,ρ,S,x,y,R,hv,hv',h⟩:=rn2 h0;clear h0
 cases hv' with
 | ty c=>
  obtain⟨k,hk,h⟩:=jE h;obtain⟨b,hb,hq⟩:=jE h;have hq:B8 X ρ H Q (.bl b) S:=hq;clear h
  rcases YA R hv hk with⟨p,vs,rfl,ht,rfl⟩|hd
  ·obtain⟨u1,u2,rfl,r1,r2⟩:=vals2 rx;obtain⟨its,q,⟨o,h1,h2,_⟩,_⟩:=I.tuple ht
   cases(show _=Value.ref p from r1)
   cases(show _=Value.type c from r2)
   exact cM PySem.W.kitx_tuple I.Dd ⟨o,h1,h2⟩ (IM hb) (λz=>nomatch z) λtk=>⟨.bl b,H,I.tok _,rfl,hq _ _ _ .refl R (.bl _)⟩
  ·exact E8 (c:=c) pins s σ H _ us Q I rx ⟨w,_,b,rfl,hd.ZT,IM hb,hq _ _ _ .refl R (.bl _)⟩
 | _=>exact h.elim
end
noncomputable def CO (x:List Int):List (List Int)->List (List Int)
 | []=>[x]
 | y::ys=>if HT.lexLt y x=true then y::CO x ys else x::y::ys
noncomputable def lH:List (List Int)->List (List Int)
 | []=>[]
 | x::xs=>CO x (lH xs)
noncomputable def BS (a b:List Int):Prop:=HT.lexLt b a=false
theorem BS.trans{a c:List Int}(h1:BS a b)(h2:BS b c):BS a c:=by
 unfold BS at *
 cases e:HT.lexLt c a with
 | false=>rfl
 | true=>
  rcases Sx.JF (b:=b) e with z|z
  ·rw[h2]at z;cases z
  ·rw[h1]at z;cases z
theorem w6(x:List Int):∀ys:List (List Int),(CO x ys).Perm (x::ys)
 | []=>eF _
 | y::ys=>by
  unfold CO;by_cases h:HT.lexLt y x=true
  ·rw[aM h];exact((w6 x ys).cons y).trans (List.Perm.swap x y ys)
  ·rw[aJ h]
theorem jU:∀xs:List (List Int),(lH xs).Perm xs
 | []=>eF _
 | x::xs=>(w6 x (lH xs)).trans ((jU xs).cons x)
theorem G_(x:List Int):∀ys:List (List Int),ys.Pairwise BS->(CO x ys).Pairwise BS
 | [],_=>cJ _ _
 | y::ys,h=>by
  unfold CO;obtain⟨h1,h2⟩:=bM.mp h;by_cases hx:HT.lexLt y x=true
  ·rw[aM hx];refine bM.mpr ⟨λz hz=>?_,G_ x ys h2⟩
   rcases bB.mp ((w6 x ys).mem_iff.mp hz)with e|hz
   ·subst e;unfold BS
    cases e:HT.lexLt z y with
    | false=>rfl
    | true=>have:=Sx.CW hx e;rw[Sx.yu]at this;cases this
   ·exact h1 z hz
  ·rw[aJ hx];have hx':BS x y:=by unfold BS;simpa using hx
   exact bM.mpr ⟨λz hz=>(bB.mp hz).elim (λe=>e ▸ hx') λhz=>hx'.trans (h1 z hz),h⟩
theorem qK:∀xs:List (List Int),(lH xs).Pairwise BS
 | []=>List.Pairwise.nil
 | x::xs=>G_ x _ (qK xs)
theorem FW{xs:List (List Int)}(p:xs.Perm ys)(h:xs.Pairwise BS):xs=lH ys:=
 dD (λa b _ _ h1 h2=>(Sx.u0 h1 h2).symm) h (qK ys) (p.trans (jU ys).symm)
theorem ZQ:∀(N:Nat) (l:List Nat),l.Nodup->(∀x∈l,x<N)->l.length<=N
 | 0,l,_,h=>by
  cases l with
  | nil=>exact aO _
  | cons a l=>exact absurd (h a (aG ..)) (eS _)
 | N+1,l,nd,h=>by
  have h1:=ZQ N (l.erase N) (nd.erase N) λx hx=>by
   have:=h x (List.mem_of_mem_erase hx);have:x≠N:=λz=>by
    subst z;exact(List.Nodup.not_mem_erase nd) hx
   lia
  have:=List.le_length_erase (l:=l) (a:=N);lia
theorem qX{N:Nat}{g:Nat->Nat}(h:∀i,i<N->g i<N)(inj:∀i j,i<j->j<N->g i≠g j):((List.range N).map g).Perm (List.range N):=by
 have nd:((List.range N).map g).Nodup:=by
  unfold List.Nodup;rw[cY];intro i j hi hj hij;rw[aK,b_]at hi hj;rw[cX,cX,eG,eG];exact inj i j hij hj
 have lt:∀x∈(List.range N).map g,x<N:=λx hx=>by
  obtain⟨i,hi,rfl⟩:=bg.mp hx;exact h i (cI.mp hi)
 refine(iV nd List.nodup_range).mpr λa=>⟨λha=>cI.mpr (lt a ha),λha=>?_⟩;refine Classical.byContradiction λhn=>?_;have:=ZQ N (a::(List.range N).map g) (cG.mpr ⟨hn,nd⟩) λx hx=>by
  rcases bB.mp hx with rfl|hx
  ·exact cI.mp ha
  ·exact lt x hx
 rw[bz,aK,b_]at this;lia
theorem range_getD{α:Type}(l:List α)(d:α):(List.range l.length).map (λi=>l.getD i d)=l:=by
 apply cT;intro i;rw[aP];by_cases c:i<l.length
 ·rw[dS c];show some (l.getD i d)=_;rw[aL,aF c];rfl
 ·rw[bS (by rw[b_];lia),bS (by lia)];rfl
theorem Om{kss:List (List Int)}{g:Nat->Nat}(c:Sx.Cl g 0 kss.length)(so:Sx.So (Sx.zX kss) g 0 kss.length):(List.range kss.length).map (λi=>kss.getD (g i) [])=lH kss:=by
 refine FW ?_ ?_
 ·have p:=qX (N:=kss.length) (g:=g) (λi hi=>(c i (bI _) hi).2) λi j hij hj z=>by
   have:=so i j (bI _) hij hj;rw[z]at this;exact this.K2
  have:=p.map λi=>kss.getD i [];rw[bh,range_getD]at this;exact this
 ·rw[cY];intro i j hi hj hij;rw[aK,b_]at hi hj;rw[cX,cX,eG,eG];exact(so i j (bI _) hij hj).ge
theorem Cr{K:au}{H:Hp}{α:Type}{f:α->A}{h:α->V}:∀{l:List α},(∀a∈l,AV K ρ H (f a) (h a))->AVs K ρ H (l.map f) (l.map h)
 | [],_=>.nil
 | a::l,e=>.cons (e a (aG ..)) (Cr λb hb=>e b (aI _ hb))
noncomputable def RS.post (r:RS)(N:List A->jx->Prop)(T:A->jx->Prop)(B C:List A->jx->Prop)(E:Str->jx->Prop):Prop:=match r with
 | .nx τ S=>N τ S
 | .rt a S=>T a S
 | .bk τ S=>B τ S
 | .ct τ S=>C τ S
 | .ex c S=>E c S
 | .no=>False
noncomputable def RS.of {α:Type}(r:R α)(f:α->jx->RS):RS:=match r with
 | .ok a S=>f a S
 | .ex c S=>.ex c S
 | .no=>.no
theorem of_post{α:Type}{r:R α}{f:α->jx->RS}{N B C:List A->jx->Prop}{T:A->jx->Prop}{E:Str->jx->Prop}(h:(RS.of r f).post N T B C E):r.post (λa S=>(f a S).post N T B C E) E:=by
 cases r<;>exact h
theorem RS.mono{r:RS}{N B C N' B' C':List A->jx->Prop}{T T':A->jx->Prop}{E E':Str->jx->Prop}(h:r.post N T B C E)(hn:∀τ S,N τ S->N' τ S)(ht:∀a S,T a S->T' a S)(hb:∀τ S,B τ S->B' τ S)(hc:∀τ S,C τ S->C' τ S)(he:∀c S,E c S->E' c S):r.post N' T' B' C' E':=by
 cases r with
 | nx τ S=>exact hn _ _ h
 | rt a S=>exact ht _ _ h
 | bk τ S=>exact hb _ _ h
 | ct τ S=>exact hc _ _ h
 | ex c S=>exact he _ _ h
 | no=>exact h.elim
noncomputable def NY (X:Cx)(ρ:List ak)(H:Hp)(N:L2.St->Hp->Prop):List A->jx->Prop:=λτ' S'=>∀ρ' H' σ',Ext ρ ρ' H H'->Rel X.K ρ' H' S'->SR X.K ρ' H' τ' σ'->N σ' H'
theorem NY.ext{X:Cx}{H H':Hp}{N:L2.St->Hp->Prop}(h:NY X ρ H N τ S)(e:Ext ρ ρ' H H'):NY X ρ' H' N τ S:=λρ2 H2 σ2 e2=>h ρ2 H2 σ2 (e.trans e2)
noncomputable def Ci (X:Cx)(ρ:List ak)(H:Hp)(D:Ends)(r:RS):Prop:=r.post (NY X ρ H D.nx) (B8 X ρ H D.rt) (NY X ρ H D.bk) (NY X ρ H D.ct) (XE X ρ H)
theorem Ci.ext{X:Cx}{H H':Hp}{D:Ends}{r:RS}(h:Ci X ρ H D r)(e:Ext ρ ρ' H H'):Ci X ρ' H' D r:=RS.mono h (λ_ _ z=>z.ext e) (λ_ _ z=>z.ext e) (λ_ _ z=>z.ext e) (λ_ _ z=>z.ext e) λ_ _ z=>z.ext e
noncomputable def tS (X:Cx)(c:Sm):TS:=λD σ H=>∃ρ S τ,Rel X.K ρ H S/\SR X.K ρ H τ σ/\Ci X ρ H D (c τ S)
noncomputable def AS (X:Cx)(st:aE)(c:Sm):Prop:=PS X st (tS X c)
noncomputable def Rj (X:Cx)(sts:List aE)(c:Sm):Prop:=C8 X sts (tS X c)
noncomputable def tG (X:Cx)(g:Tg):TG:=λv σ H Q=>∃ρ S τ a,Rel X.K ρ H S/\SR X.K ρ H τ σ/\AV X.K ρ H a v/\(g a τ S).post (NY X ρ H Q) (XE X ρ H)
noncomputable def AG (X:Cx)(e:aC)(g:Tg):Prop:=PG X e (tG X g)
noncomputable abbrev Py:=List A->List A->jx->R (List A)
noncomputable def tGs (X:Cx)(g:Py):TL:=λvs σ H Q=>∃ρ S τ as,Rel X.K ρ H S/\SR X.K ρ H τ σ/\AVs X.K ρ H as vs/\(g as τ S).post (NY X ρ H Q) (XE X ρ H)
noncomputable def YU (X:Cx)(es:List aC)(g:Py):Prop:=W2 X es (tGs X g)
section
variable {X:Cx}{pos:Pos}{a b e:aC}{st:aE}{rest:List aE}{c d:Sm}
theorem PS.imp{t t':TS}(h:PS X st t)(i:∀D σ H,t' D σ H->t D σ H):PS X st t':=λpins s σ H D I q=>h pins s σ H D I (i D σ H q)
theorem C8.imp{t t':TS}(h:C8 X rest t)(i:∀D σ H,t' D σ H->t D σ H):C8 X rest t':=λpins s σ H D I q=>h pins s σ H D I (i D σ H q)
theorem PG.imp{t t':TG}(h:PG X e t)(i:∀v σ H Q,t' v σ H Q->t v σ H Q):PG X e t':=λpins s σ H v u Q I r q=>h pins s σ H v u Q I r (i _ _ _ _ q)
noncomputable def ku (i:Nat):Tg:=λa τ S=>.ok (τ.set i a) S
theorem jO{i:Nat}{x:Str}(hN:X.N.Nodup)(hi:X.N[i]?=some x:=by rfl)(hx:Loc X.env.scope x:=by first|exact Or.inl rfl|exact Or.inr rfl)(hf:X.fn x=true\/X.env.scope.names.lookup x=some .local:=by first|exact .inl rfl|exact .inr rfl|assumption):AG X (.Name x pos) (ku i):=
 PG.imp (PK hN hi hx hf) λv σ H Q ⟨ρ,S,τ,a,R,r,va,h⟩=>h ρ H _ .refl R (r.set va)
noncomputable def xO:Py:=λas τ S=>match as with
 | []=>.ok τ S
 | _=>.no
noncomputable def oW (g:Tg)(gs:Py):Py:=λas τ S=>match as with
 | a::as=>(g a τ S).bind λτ1 S1=>gs as τ1 S1
 | []=>.no
theorem lO:YU X [] xO:=λpins s σ H vs us Q I r ⟨ρ,S,τ,as,R,sr,va,h⟩=>P6 pins s σ H vs us Q I r (by
 cases va with
 | nil=>exact⟨rfl,h ρ H σ .refl R sr⟩
 | cons _ _=>exact h.elim)
theorem jP{g:Tg}{gs:Py}(h1:AG X e g)(h2:YU X es gs)(hs:(assignEach (e::es) X.env).map (·.2)=assign e X.env::(assignEach es X.env).map (·.2):=by rfl):YU X (e::es) (oW g gs):=
 λpins s σ H vs us Q I r ⟨ρ,S,τ,as,R,sr,va,h⟩=>OU h1 h2 hs pins s σ H vs us Q I r (by
  cases va with
  | nil=>exact h.elim
  | cons ha hr=>exact⟨_,_,rfl,ρ,S,τ,_,R,sr,ha,jz (jD h) .refl λτ1 S1 h1 ρ1 H1 σ1 e1 R1 sr1=>⟨ρ1,S1,τ1,_,R1,sr1,hr.ext e1,jz h1 e1 λ_ _ z=>z.ext e1⟩⟩)
noncomputable def xG (n:Nat)(gs:Py):Tg:=λa τ S=>match a with
 | .tup xs | .ktu xs=>gd (xs.length=n) (gs xs τ S)
 | _=>.no
theorem nB{k n:Nat}{gs:Py}(hc:X.calm=true)(h:YU X es gs)(hn:(assignEach es X.env).length=n:=by rfl)(hst:(assignEach es X.env).findIdx? (·.1)=none:=by rfl):AG X (.Tuple es k pos) (xG n gs):=
 PG.imp (VJ hc h hn hst) λv σ H Q h9=>by
  obtain⟨ρ,S,τ,a,R,r,va,h⟩:=h9
  cases va with
  | tup h1 r1=>
   obtain⟨hl,h⟩:=jW h;exact⟨_,_,rfl,mD.of h1,by rw[<- r1.length];exact hl,ρ,S,τ,_,R,r,r1,h⟩
  | ktu h1 r1=>
   obtain⟨hl,h⟩:=jW h;exact⟨_,_,rfl,.inr h1,by rw[<- r1.length];exact hl,ρ,S,τ,_,R,r,r1,h⟩
  | _=>exact h.elim
noncomputable def E6 (o i v:A)(S:jx):R Unit:=match o,i with
 | .ref n,.int k=>opt (jw S n) λxs=>opt (A7 xs.length k) λj=>.ok () (S.set n (.lst (xs.set j v)))
 | _,_=>.no
noncomputable def rSt (X:Cx):JI:=λo i v H Q=>∃ρ S ao ai av,Rel X.K ρ H S/\AV X.K ρ H ao o/\AV X.K ρ H ai i/\AV X.K ρ H av v/\(E6 ao ai av S).post (λ_ S'=>∀ρ' H',Ext ρ ρ' H H'->Rel X.K ρ' H' S'->Q H') (XE X ρ H)
theorem QK:J7 X (rSt X):=λpins s σ H o i v ov iv u Q I ro ri rv h9=>by
 obtain⟨ρ,S,ao,ai,av,R,h1,h2,h3,h⟩:=h9
 cases h1 with
 | @ref p n hp=>
  cases h2 with
  | int k=>
   obtain⟨xs,hn,h⟩:=jE h;obtain⟨j,hj,h⟩:=jE h;obtain⟨vs,e,r⟩:=R.lst hp (jL hn);obtain⟨ex,R'⟩:=R.put hp (jL hn) (r.set h3 j);exact set_list pins s σ H _ _ v ov iv u Q I ro ri rv ⟨p,vs,k,j,rfl,rfl,e,by rw[<- r.length];exact hj,h _ _ ex R'⟩
  | _=>exact h.elim
 | _=>exact h.elim
noncomputable def Ws (co ci:Ex):Tg:=λa τ S=>(co τ S).bind λo S1=>(ci τ S1).bind λi S2=>(E6 o i a S2).bind λ_ S3=>.ok τ S3
theorem yP{co ci:Ex}(ho:AE X o co)(hi:AE X i ci)
  (ha:∀v,assign (.Subscript o i pos) X.env v=(do
   let ov <- holding [v] (eval o X.env)
   let iv <- holding [v,ov] (eval i X.env)
   standAt pos
   holding [v,ov,iv] (setItem ov iv v)
   release [v,ov,iv] []):=by intro _;rfl):AG X (.Subscript o i pos) (Ws co ci):=PG.imp (Gq ho hi QK ha) λv σ H Q h9=>by
 obtain⟨ρ,S,τ,a,R,r,va,h⟩:=h9;refine⟨ρ,S,τ,R,r,jz (jD h) .refl λo S1 h1 ρ1 H1 x e1 R1 v1=>⟨ρ1,S1,τ,R1,r.ext e1,jz (jD h1) e1 λi S2 h2 ρ2 H2 y e2 R2 v2=>?_⟩⟩;refine⟨ρ2,S2,o,i,a,R2,v1.ext e2,v2,va.ext (e1.trans e2),jz (jD h2) (e1.trans e2) λ_ S3 h3 ρ3 H3 e3 R3=>?_⟩;exact h3 ρ3 H3 σ ((e1.trans e2).trans e3) R3 (r.ext ((e1.trans e2).trans e3))
noncomputable def ur:Sm:=λτ S=>.nx τ S
noncomputable def j0 (c d:Sm):Sm:=λτ S=>match c τ S with
 | .nx τ' S'=>d τ' S'
 | r=>r
theorem lN:Rj X [] ur:=C8.imp Rk λD σ H ⟨ρ,S,τ,R,r,h⟩=>h ρ H σ .refl R r
theorem RM{D:Ends}{H:Hp}(h:tS X (j0 c d) D σ H):WY (tS X c) (tS X d) D σ H:=by
 obtain⟨ρ,S,τ,R,r,h⟩:=h;refine⟨ρ,S,τ,R,r,?_⟩;unfold j0 at h
 cases hc:c τ S with
 | nx τ1 S1=>
  rw[hc]at h;exact λρ1 H1 σ1 e1 R1 r1=>⟨ρ1,S1,τ1,R1,r1,Ci.ext h e1⟩
 | rt a S1=>rw[hc]at h;exact h
 | bk τ1 S1=>rw[hc]at h;exact h
 | ct τ1 S1=>rw[hc]at h;exact h
 | ex x S1=>rw[hc]at h;exact h
 | no=>rw[hc]at h;exact h
theorem jy(h1:AS X st c)(h2:Rj X rest d):Rj X (st::rest) (j0 c d):=C8.imp (Nv h1 h2) λD σ H h=>RM h
theorem jC(h1:AS X st c):Rj X [st] c:=RE h1
noncomputable def Vb:Sm:=λτ S=>.bk τ S
noncomputable def XA:Sm:=λτ S=>.ct τ S
noncomputable def o5 (e:Ex):Sm:=λτ S=>.of (e τ S) λ_ S1=>.nx τ S1
theorem nk{f:Ex}(he:AE X e f)(hs:swapsWith e none pos.line X.env=pure false:=by rfl):AS X (.Expr e pos) (o5 f):=PS.imp (Q6 he hs) λD σ H ⟨ρ,S,τ,R,r,h⟩=>
 ⟨ρ,S,τ,R,r,jz (of_post h) .refl λa S1 h1 ρ1 H1 x e1 R1 v1=>h1 ρ1 H1 σ e1 R1 (r.ext e1)⟩
noncomputable def lK (e:Ex):Sm:=λτ S=>.of (e τ S) λa S1=>.rt a S1
theorem jZ{f:Ex}(he:AE X e f):AS X (.Return (some e) pos) (lK f):=PS.imp (Wf he) λD σ H ⟨ρ,S,τ,R,r,h⟩=>⟨ρ,S,τ,R,r,jz (of_post h) .refl λa S1 h1=>h1⟩
noncomputable def WN:Sm:=λτ S=>.rt .non S
noncomputable def Dh (t:Te)(c d:Sm):Sm:=λτ S=>.of (t τ S) λb S1=>match b with|true=>c τ S1|false=>d τ S1
theorem oO{t:Te}(ht:AT X e t)(ha:Rj X ca c)(hb:Rj X cb d):AS X (.If e ca cb pos) (Dh t c d):=PS.imp (XY ht ha hb) λD σ H h9=>by
 obtain⟨ρ,S,τ,R,r,h⟩:=h9;refine⟨ρ,S,τ,R,r,jz (of_post h) .refl λb S1 h1 ρ1 H1 e1 R1=>?_⟩
 cases b with
 | true=>rw[aM rfl];exact⟨ρ1,S1,τ,R1,r.ext e1,Ci.ext h1 e1⟩
 | false=>rw[aJ bF];exact⟨ρ1,S1,τ,R1,r.ext e1,Ci.ext h1 e1⟩
noncomputable def kg (e:Ex)(g:Tg):Sm:=λτ S=>.of (e τ S) λa S1=>.of (g a τ S1) λτ' S2=>.nx τ' S2
theorem Q0{f:Ex}{g:Tg}{D:Ends}{H:Hp}(h:tS X (kg f g) D σ H):Ua (tE X f) (tG X g) D σ H:=by
 obtain⟨ρ,S,τ,R,r,h⟩:=h;exact⟨ρ,S,τ,R,r,jz (of_post h) .refl λa S1 h1 ρ1 H1 x e1 R1 v1=>⟨ρ1,S1,τ,a,R1,r.ext e1,v1,jz (of_post h1) e1 λτ2 S2 h2=>NY.ext h2 e1⟩⟩
theorem nM{tg:aC}{f:Ex}{g:Tg}(he:AE X e f)(hg:AG X tg g)(hs:swapsWithSole [tg] e pos.line X.env=pure false:=by rfl)(hw:swappedStores [tg] e X.env=pure none:=by rfl)
  (h1:(assignEach [tg] X.env).map (·.2)=[assign tg X.env]:=by rfl):AS X (.Assign [tg] e pos) (kg f g):=PS.imp (Uh he hg hs hw h1) λD σ H h=>Q0 h
theorem jY{i:Nat}{x:Str}{f:Ex}(hN:X.N.Nodup)(he:AE X e f)(hi:X.N[i]?=some x:=by rfl)(hx:Loc X.env.scope x:=by first|exact Or.inl rfl|exact Or.inr rfl)(hs:swapsWith e (some (.Name x pos')) pos.line X.env=pure false:=by rfl)(hf:X.fn x=true\/X.env.scope.names.lookup x=some .local:=by first|exact .inl rfl|exact .inr rfl|assumption) :
  AS X (.Assign [.Name x pos'] e pos) (kg f (ku i)):=PS.imp (U6 hN hi hx he hs hf) λD σ H ⟨ρ,S,τ,R,r,h⟩=>
 ⟨ρ,S,τ,R,r,jz (of_post h) .refl λa S1 h1 ρ1 H1 x e1 R1 v1=>h1 ρ1 H1 _ e1 R1 ((r.ext e1).set v1)⟩
noncomputable def aai (i j:Nat)(c:qo):Sm:=λτ S=>.of (c τ S) λas S1=>match as with
 | [a,b]=>.nx ((τ.set i a).set j b) S1
 | _=>.no
noncomputable def ZU (a b:A)(S:jx):R A:=match a,b with
 | .int i,.int j=>.ok (.int (i+j)) S
 | _,_=>.no
noncomputable def YE (i:Nat)(f:A->A->jx->R A)(e:Ex):Sm:=λτ S=>if (τ.getD i .unb).pH then .no else .of (e τ S) λb S1=>.of (f (τ.getD i .unb) b S1) λc S2=>.nx (τ.set i c) S2
noncomputable def QH (a b:A)(S:jx):R A:=match a,b with
 | .ref n,.int i=>opt (jw S n) λxs=>gd (0<=i) (opt (xs[i.toNat]?) λx=>.ok x S)
 | _,_=>.no
noncomputable def Yr (co ci ce:Ex)(f:A->A->jx->R A):Sm:=λτ S=>.of (co τ S) λo S1=>.of (ci τ S1) λi S2=>.of (QH o i S2) λx S3=>.of (ce τ S3) λy S4=>.of (f x y S4) λz S5=>.of (E6 o i z S5) λ_ S6=>.nx τ S6
noncomputable def nv (t:Te)(c:Sm):Nat->Sm
 | 0=>λ_ _=>.no
 | n+1=>λτ S=>.of (t τ S) λb S1=>match b with
  | false=>.nx τ S1
  | true=>match c τ S1 with
   | .nx τ' S'=>nv t c n τ' S'
   | .ct τ' S'=>nv t c n τ' S'
   | .bk τ' S'=>.nx τ' S'
   | r=>r
theorem MN(n:Nat){t:Te}(hp:PassesOwn (model X.prog X.w) X.A X.env X.xe)(ht:AT X e t)(hb:Rj X body c):AS X (.While e body [] pos) (nv t c n):=PS.imp (Lg hp ht hb) λD σ H h9=>by
 obtain⟨ρ,S,τ,R,r,h⟩:=h9;refine⟨λm σ' H'=>∃ρ' S' τ',Ext ρ ρ' H H'/\Rel X.K ρ' H' S'/\SR X.K ρ' H' τ' σ'/\Ci X ρ' H' D (nv t c m τ' S'),⟨n,ρ,S,τ,.refl,R,r,h⟩,?_⟩;rintro m σ1 H1 ⟨ρ1,S1,τ1,e1,R1,r1,h1⟩
 cases m with
 | zero=>exact h1.elim
 | succ m=>
  refine⟨ρ1,S1,τ1,R1,r1,jz (of_post h1) .refl λb S2 h2 ρ2 H2 e2 R2=>?_⟩
  cases b with
  | false=>rw[aJ bF];exact h2 ρ2 H2 σ1 e2 R2 (r1.ext e2)
  | true=>
   rw[aM rfl];refine⟨λσ' H'=>∃ρ' S' τ',Ext ρ ρ' H H'/\Rel X.K ρ' H' S'/\SR X.K ρ' H' τ' σ'/\Ci X ρ' H' D (nv t c m τ' S'),λσ' H' z=>⟨m,fC _,z⟩,ρ2,S2,τ1,R2,r1.ext e2,?_⟩;have h2:Ci X ρ1 H1 D (match c τ1 S2 with
    | .nx τ' S'=>nv t c m τ' S'
    | .ct τ' S'=>nv t c m τ' S'
    | .bk τ' S'=>.nx τ' S'
    | r=>r):=h2
   cases hc:c τ1 S2 with
   | nx τ3 S3=>rw[hc]at h2;exact λρ3 H3 σ3 e3 R3 r3=>⟨ρ3,S3,τ3,(e1.trans e2).trans e3,R3,r3,Ci.ext h2 (e2.trans e3)⟩
   | ct τ3 S3=>rw[hc]at h2;exact λρ3 H3 σ3 e3 R3 r3=>⟨ρ3,S3,τ3,(e1.trans e2).trans e3,R3,r3,Ci.ext h2 (e2.trans e3)⟩
   | bk τ3 S3=>rw[hc]at h2;exact NY.ext h2 e2
   | rt a S3=>rw[hc]at h2;exact B8.ext h2 e2
   | ex x S3=>rw[hc]at h2;exact XE.ext h2 e2
   | no=>rw[hc]at h2;exact h2
end
structure Src where
 k:Nat
 get:Nat->jx->Option A
 fin:jx->Bool
structure JR (K:au)(s:Src)(J:It)(ρ0:List ak)(H0:Hp):Prop where
 go:∀(i:Nat) (S:jx) (H:Hp) (ρ:List ak) (x:A),Ext0 ρ0 ρ H0 H->Rel K ρ H S->s.get i S=some x->J.go i H/\∀v H',J.yld i H v H'->Ext ρ ρ H H'/\Rel K ρ H' S/\AV K ρ H' x v
 stop:∀(S:jx) (H:Hp) (ρ:List ak),Ext0 ρ0 ρ H0 H->Rel K ρ H S->s.fin S=true->J.stop s.k H
noncomputable abbrev Ic:=List A->jx->R Src
noncomputable def tI (X:Cx)(c:Ic):TI:=λσ H Q=>∃ρ S τ,Rel X.K ρ H S/\SR X.K ρ H τ σ/\(c τ S).post (λs S'=>∀ρ' H' J,Ext ρ ρ' H H'->Rel X.K ρ' H' S'->JR X.K s J ρ' H'->Q J H') (XE X ρ H)
noncomputable def AI (X:Cx)(tg iter:aC)(c:Ic):Prop:=PI X tg iter (tI X c)
noncomputable def wc (xs:List A):Src:=⟨xs.length,λi _=>xs[i]?,λ_=>true⟩
noncomputable def kN (n k:Nat):Src:=⟨k,λi S=>(jw S n).bind (·[i]?),λS=>match jw S n with
 | some ys=>decide (ys.length<=k)
 | none=>false⟩
noncomputable def sP (lo hi:Int):Src:=⟨(hi-lo).toNat,λi _=>if i<(hi-lo).toNat then some (.int (lo+i))else none,λ_=>true⟩
noncomputable def nO (c:Ex):Ic:=λτ S=>(c τ S).bind λa S1=>match a with
 | .tup xs=>.ok (wc xs) S1
 | .frz xs=>.ok (wc xs) S1
 | .ref n=>opt (jw S1 n) λxs=>.ok (kN n xs.length) S1
 | .str x=>gd (x.cps.all (· < 128)=true) (.ok (wc (x.cps.toList.map λc=>.str ⟨#[c]⟩)) S1)
 | _=>.no
section
variable {X:Cx}{pos:Pos}{tg e a b:aC}
theorem Ur{K:au}{H0:Hp}{p:ak}(h:mD K H0 p vs)(r:AVs K ρ0 H0 xs vs):JR K (wc xs) (ZV K p) ρ0 H0 where
 go:=λi S H ρ x e R g=>by
  obtain⟨v,ev,av⟩:=(AVs.nA e r).get g;have hs:=e.Y4 h;refine⟨⟨vs,v,hs,ev⟩,λw H' ⟨e1,y⟩=>?_⟩;subst e1;have:=y vs hs;rw[ev]at this
  cases this
  exact⟨.refl,R,av⟩
 stop:=λS H ρ e R _=>⟨vs,e.Y4 h,by rw[<- r.length];exact aO _⟩
theorem Vm{K:au}{H0:Hp}{p:ak}(h:Fz K H0 p vs)(r:AVs K ρ0 H0 xs vs):JR K (wc xs) (YZ K p) ρ0 H0 where
 go:=λi S H ρ x e R g=>by
  obtain⟨v,ev,av⟩:=(AVs.nA e r).get g;have hs:=(e.fz h).Q5;refine⟨⟨vs,v,hs,ev⟩,λw H' ⟨e1,y⟩=>?_⟩;subst e1;have:=y vs hs;rw[ev]at this
  cases this
  exact⟨.refl,R,av⟩
 stop:=λS H ρ e R _=>⟨vs,(e.fz h).Q5,by rw[<- r.length];exact aO _⟩
theorem UO{K:au}{ρ0:List ak}{H0:Hp}{p:ak}{n k:Nat}(h:ρ0[n]?=some p):JR K (kN n k) (YZ K p) ρ0 H0 where
 go:=λi S H ρ x e R g=>by
  obtain⟨ys,hn,hx⟩:=cj.mp (show(jw S n).bind (·[i]?)=some x from g);obtain⟨vs,h1,r⟩:=R.lst (e.get h) (jL hn);obtain⟨v,ev,av⟩:=r.get hx;refine⟨⟨vs,v,oX.of h1,ev⟩,λw H' ⟨e1,y⟩=>?_⟩;subst e1;have:=y vs (oX.of h1);rw[ev]at this
  cases this
  exact⟨.refl,R,av⟩
 stop:=λS H ρ e R g=>by
  have g:(match jw S n with
   | some ys=>decide (ys.length<=k)
   | none=>false)=true:=g
  cases hn:jw S n with
  | none=>rw[hn]at g;cases g
  | some ys=>
   rw[hn]at g;obtain⟨vs,h1,r⟩:=R.lst (e.get h) (jL hn);exact⟨vs,oX.of h1,by rw[<- r.length];exact bN g⟩
theorem LU{K:au}{H0:Hp}{lo hi:Int}:JR K (sP lo hi) (W9 lo (hi-lo).toNat) ρ0 H0 where
 go:=λi S H ρ x e R g=>by
  have g:(if i<(hi-lo).toNat then some (A.int (lo+i))else none)=some x:=g;by_cases hi':i<(hi-lo).toNat
  ·rw[aM hi']at g
   cases g
   refine⟨hi',λw H' ⟨e1,y⟩=>?_⟩;subst e1 y;exact⟨.refl,R,.int _⟩
  ·rw[aJ hi']at g;cases g
 stop:=λS H ρ e R _=>aO _
theorem Wo{K:au}{H0:Hp}{x:Str}:JR K (wc (x.cps.toList.map λc=>A.str ⟨#[c]⟩)) (Zb x) ρ0 H0 where
 go:=λi S H ρ y e R g=>by
  have g:(x.cps.toList.map λc=>A.str ⟨#[c]⟩)[i]?=some y:=g;rw[aP]at g;obtain⟨c,hc,rfl⟩:=aY.mp g;rw[eK]at hc;refine⟨(Array.getElem?_eq_some_iff.mp hc).1,λw H' ⟨e1,c',hc',y'⟩=>?_⟩;rw[hc]at hc'
  cases hc'
  subst e1 y';exact⟨.refl,R,.str _⟩
 stop:=λS H ρ e R _=>by
  show(x.cps.toList.map λc=>A.str ⟨#[c]⟩).length=x.cps.size;rw[aK,dQ]
theorem mW{c:Ex}(he:AE X e c):AI X tg e (nO c):=λpins s σ H Q I h9=>by
 obtain⟨ρ,S,τ,R,r,h⟩:=h9;have hb:=jD h
 cases hc:c τ S with
 | no=>rw[hc]at hb;exact hb.elim
 | ex x S1=>
  rw[hc]at hb;exact Li he pins s σ H Q I ⟨ρ,S,τ,R,r,by rw[hc];exact hb⟩
 | ok a S1=>
  rw[hc]at hb
  cases a with
  | tup xs=>
   refine Li he pins s σ H Q I ⟨ρ,S,τ,R,r,?_⟩;rw[hc];intro ρ1 H1 x e1 R1 v1
   cases v1 with
   | tup h1 r1=>exact⟨_,rfl,⟨_,(mD.of h1)⟩,hb ρ1 H1 _ e1 R1 (Ur (mD.of h1) r1)⟩
  | frz xs=>
   refine Ih he pins s σ H Q I ⟨ρ,S,τ,R,r,?_⟩;rw[hc];intro ρ1 H1 x e1 R1 v1
   cases v1 with
   | frz h1 r1=>exact⟨_,rfl,⟨_,h1.Q5⟩,hb ρ1 H1 _ e1 R1 (Vm h1 r1)⟩
  | ref n=>
   obtain⟨xs,hn,hb⟩:=jE hb;refine Ih he pins s σ H Q I ⟨ρ,S,τ,R,r,?_⟩;rw[hc];intro ρ1 H1 x e1 R1 v1
   cases v1 with
   | ref hp=>
    obtain⟨vs,h1,r1⟩:=R1.lst hp (jL hn);exact⟨_,rfl,⟨_,oX.of h1⟩,hb ρ1 H1 _ e1 R1 (UO hp)⟩
  | str x=>
   obtain⟨ha,hb⟩:=jW hb;refine VN he pins s σ H Q I ⟨ρ,S,τ,R,r,?_⟩;rw[hc];intro ρ1 H1 v e1 R1 v1
   cases v1 with
   | str=>exact⟨x,rfl,ha,hb ρ1 H1 _ e1 R1 Wo⟩
  | _=>exact hb.elim
noncomputable def bnd (i:Int):Prop:=-(2 ^ 62)<=i/\i<2 ^ 62
instance (i:Int):Decidable (bnd i):=by unfold bnd;infer_instance
noncomputable def vQ (c:Ex):Ic:=λτ S=>(c τ S).bind λa S1=>match a with
 | .int j=>gd (bnd j) (.ok (sP 0 j) S1)
 | _=>.no
noncomputable def zz (c d:Ex):Ic:=λτ S=>(c τ S).bind λa S1=>(d τ S1).bind λb S2=>match a,b with
 | .int i,.int j=>gd (bnd i/\bnd j) (.ok (sP i j) S2)
 | _,_=>.no
theorem tK{p:Pos}{c:Ex}(hm:X.mg "range" = none)(ha:AE X a c)(hg:Gl X "range" := by rfl)(hs:starEach [a] X.env=[(false,eval a X.env)]:=by rfl):AI X tg (.Call (.Name "range" p) [a] [] pos) (vQ c):=λpins s σ H Q I h9=>by
 obtain⟨ρ,S,τ,R,r,h⟩:=h9;refine J8 hg hm (ue ha zP hs) hs pins s σ H Q I ⟨ρ,S,τ,R,r,jz (jD h) .refl λx S1 h1 ρ1 H1 v e1 R1 v1=>?_⟩
 cases v1 with
 | int j=>
  obtain⟨hb,h1⟩:=jW h1;exact⟨_,rfl,hb.1,hb.2,by have:=h1 ρ1 H1 _ e1 R1 LU;rwa [Int.sub_zero]at this⟩
 | _=>exact h1.elim
theorem Kz{p:Pos}{c d:Ex}(hm:X.mg "range" = none)(ha:AE X a c)(hb:AE X b d)(hg:Gl X "range" := by rfl)(hs:starEach [a,b] X.env=[(false,eval a X.env),(false,eval b X.env)]:=by rfl)(hs2:starEach [b] X.env=[(false,eval b X.env)]:=by rfl):AI X tg (.Call (.Name "range" p) [a,b] [] pos) (zz c d):=λpins s σ H Q I h9=>by
 obtain⟨ρ,S,τ,R,r,h⟩:=h9;refine KC hg hm (ue ha (ue hb zP hs2) (by rw[hs,hs2])) hs hs2 pins s σ H Q I ⟨ρ,S,τ,R,r,jz (jD h) .refl λx S1 h1 ρ1 H1 v e1 R1 v1=>⟨ρ1,S1,τ,R1,r.ext e1,jz (jD h1) e1 λy S2 h2 ρ2 H2 w e2 R2 v2=>?_⟩⟩
 cases v1 with
 | int i=>
  cases v2 with
  | int j=>
   obtain⟨hb,h2⟩:=jW h2;exact⟨_,_,rfl,⟨hb.1.1,hb.1.2,hb.2.1,hb.2.2⟩,h2 ρ2 H2 _ (e1.trans e2) R2 LU⟩
  | _=>exact h2.elim
 | _=>exact h2.elim
noncomputable def EA (xs:List A):Src:=⟨xs.length,λi _=>(xs[i]?).map λx=>.tup [.int i,x],λ_=>true⟩
noncomputable def QD (c:Ex):Ic:=λτ S=>(c τ S).bind λa S1=>match a with
 | .tup xs=>.ok (EA xs) S1
 | _=>.no
theorem U4{K:au}{H0:Hp}{p:ak}(h:mD K H0 p vs)(r:AVs K ρ0 H0 xs vs):JR K (EA xs) (Ite K p) ρ0 H0 where
 go:=λi S H ρ x e R g=>by
  obtain⟨y,hy,rfl⟩:=aY.mp (show(xs[i]?).map (λx=>A.tup [.int i,x])=some x from g);obtain⟨v,ev,av⟩:=(AVs.nA e r).get hy;have hs:=e.Y4 h;refine⟨⟨vs,v,hs,ev⟩,λw H' q=>?_⟩;obtain⟨pp,hp,rfl,hz⟩:=q;have hz':=hz vs v hs ev;subst hz';obtain⟨ex,R'⟩:=R.im (u:=.tup [.int i,v]) hp;exact⟨ex,R',.tup kJ (.cons (.int _) (.cons (av.ext ex) .nil))⟩
 stop:=λS H ρ e R _=>⟨vs,e.Y4 h,by rw[<- r.length];rfl⟩
theorem Vp{p:Pos}{c:Ex}(hm:X.mg "enumerate" = none)(ha:AE X a c)(hg:Gl X "enumerate" := by rfl)(hs:starEach [a] X.env=[(false,eval a X.env)]:=by rfl):AI X (.Tuple elts x1 tpos) (.Call (.Name "enumerate" p) [a] [] pos) (QD c):=λpins s σ H Q I h9=>by
 obtain⟨ρ,S,τ,R,r,h⟩:=h9;refine LF hg hm (ue ha zP hs) hs pins s σ H Q I ⟨ρ,S,τ,R,r,jz (jD h) .refl λx S1 h1 ρ1 H1 v e1 R1 v1=>?_⟩
 cases v1 with
 | tup h2 r2=>exact⟨_,_,rfl,(mD.of h2),h1 ρ1 H1 _ e1 R1 (U4 (mD.of h2) r2)⟩
 | _=>exact h1.elim
noncomputable def qb (s:Src)(g:Tg)(c:Sm):Nat->Nat->Sm
 | 0,_=>λτ S=>if s.fin S then .nx τ S else .no
 | k+1,i=>λτ S=>match s.get i S with
  | none=>.no
  | some x=>.of (g x τ S) λτ1 S1=>match c τ1 S1 with
   | .nx τ' S'=>qb s g c k (i+1) τ' S'
   | .ct τ' S'=>qb s g c k (i+1) τ' S'
   | .bk τ' S'=>.nx τ' S'
   | r=>r
noncomputable def ly (src:Ic)(g:Tg)(c:Sm):Sm:=λτ S=>.of (src τ S) λs S1=>qb s g c s.k 0 τ S1
theorem mQ{iter:aC}{src:Ic}{g:Tg}{c:Sm}(hp:PassesOwn (model X.prog X.w) X.A X.env X.xe)(hc:X.calm=true)(hi:AI X tg iter src)(hg:AG X tg g)(hb:Rj X body c)
  (hs:∀x,foldedSetIterable iter X.env x=pure x:=by intro _;rfl):AS X (.For tg iter body [] pos) (ly src g c):=PS.imp (Uq hp hc hi hg hb hs) λD σ H h9=>by
 obtain⟨ρ,S,τ,R,r,h⟩:=h9;refine⟨ρ,S,τ,R,r,jz (of_post h) .refl λs S1 h1 ρ1 H1 J e1 R1 jr=>?_⟩;refine⟨λi m σ' H'=>m+i=s.k/\∃ρ' S' τ',Ext ρ1 ρ' H1 H'/\Rel X.K ρ' H' S'/\SR X.K ρ' H' τ' σ'/\Ci X ρ' H' D (qb s g c m i τ' S'),⟨s.k,rfl,ρ1,S1,τ,.refl,R1,r.ext e1,Ci.ext h1 e1⟩,?_⟩;rintro i m σ2 H2 ⟨hm,ρ2,S2,τ2,e2,R2,r2,h2⟩
 cases m with
 | zero=>
  left;have h2:Ci X ρ2 H2 D (if s.fin S2 then .nx τ2 S2 else .no):=h2
  cases hf:s.fin S2 with
  | false=>rw[hf]at h2;exact h2.elim
  | true=>
   rw[hf]at h2;refine⟨by rw[show i=s.k by lia];exact jr.stop S2 H2 ρ2 e2.toExt0 R2 hf,h2 ρ2 H2 σ2 .refl R2 r2⟩
 | succ m=>
  right;have h2:Ci X ρ2 H2 D (match s.get i S2 with
   | none=>.no
   | some x=>.of (g x τ2 S2) λτ1 S1=>match c τ1 S1 with
    | .nx τ' S'=>qb s g c m (i+1) τ' S'
    | .ct τ' S'=>qb s g c m (i+1) τ' S'
    | .bk τ' S'=>.nx τ' S'
    | r=>r):=h2
  cases hx:s.get i S2 with
  | none=>rw[hx]at h2;exact h2.elim
  | some x=>
   rw[hx]at h2;obtain⟨hgo,hy⟩:=jr.go i S2 H2 ρ2 x e2.toExt0 R2 hx;refine⟨hgo,λσ' H'=>m+(i+1)=s.k/\∃ρ' S' τ',Ext ρ1 ρ' H1 H'/\Rel X.K ρ' H' S'/\SR X.K ρ' H' τ' σ'/\Ci X ρ' H' D (qb s g c m (i+1) τ' S'),λσ' H' z=>⟨m,fC _,z⟩,λv H3 y=>?_⟩;obtain⟨e3,R3,v3⟩:=hy v H3 y;refine⟨ρ2,S2,τ2,x,R3,r2.ext e3,v3,jz (of_post h2) e3 λτ4 S4 h4 ρ4 H4 σ4 e4 R4 r4=>⟨ρ4,S4,τ4,R4,r4,?_⟩⟩;have e24:=e3.trans e4
   cases hcc:c τ4 S4 with
   | nx τ5 S5=>rw[hcc]at h4;exact λρ5 H5 σ5 e5 R5 r5=>⟨by lia,ρ5,S5,τ5,(e2.trans e24).trans e5,R5,r5,Ci.ext h4 (e24.trans e5)⟩
   | ct τ5 S5=>rw[hcc]at h4;exact λρ5 H5 σ5 e5 R5 r5=>⟨by lia,ρ5,S5,τ5,(e2.trans e24).trans e5,R5,r5,Ci.ext h4 (e24.trans e5)⟩
   | bk τ5 S5=>rw[hcc]at h4;exact NY.ext h4 e24
   | rt x5 S5=>rw[hcc]at h4;exact B8.ext h4 e24
   | ex x5 S5=>rw[hcc]at h4;exact XE.ext h4 e24
   | no=>rw[hcc]at h4;exact h4
end
noncomputable def R.rQ {α β:Type}(r:R α)(f:α->jx->R β):R β:=match r with
 | .ok a S=>f a S
 | _=>.no
theorem vF{α β:Type}{r:R α}{f:α->jx->R β}{b:β}(h:r.rQ f=.ok b S2):∃a S,r=.ok a S/\f a S=.ok b S2:=by
 cases r with
 | ok a S=>exact⟨a,S,rfl,h⟩
 | ex _ _=>cases h
 | no=>cases h
theorem GL{α β:Type}{r:R α}{f:α->jx->R β}{P:β->jx->Prop}{E:Str->jx->Prop}(h:(r.rQ f).post P E):∃a S,r=.ok a S/\(f a S).post P E:=by
 cases r with
 | ok a S=>exact⟨a,S,rfl,h⟩
 | ex _ _=>exact h.elim
 | no=>exact h.elim
theorem VS{α β:Type}{o:Option β}{f:β->R α}{a:α}(h:opt o f=.ok a S):∃b,o=some b/\f b=.ok a S:=by
 cases o with
 | none=>cases h
 | some b=>exact⟨b,rfl,h⟩
noncomputable def mU (s:Src)(g:Tg)(t:Te)(e:Ex):Nat->Nat->List A->jx->R (List A)
 | 0,_=>λ_ S=>if s.fin S then .ok [] S else .no
 | k+1,i=>λτ S=>opt (s.get i S) λx=>(g x τ S).rQ λτ1 S1=>(t τ1 S1).rQ λb S2=>match b with
  | true=>(e τ1 S2).rQ λy S3=>(mU s g t e k (i+1) τ1 S3).rQ λys S4=>.ok (y::ys) S4
  | false=>mU s g t e k (i+1) τ1 S2
noncomputable def lB (cap:List (Option Nat))(τ:List A):List A:=cap.map λo=>match o with
 | some j=>τ.getD j .unb
 | none=>.unb
noncomputable def kP (cap:List (Option Nat))(src:Ic)(g:Tg)(t:Te)(e:Ex):Ex:=λτ S=>(src τ S).bind λs S1=>(mU s g t e s.k 0 (lB cap τ) S1).rQ λys S2=>newL ys S2
noncomputable def vK:Te:=λ_ S=>.ok true S
theorem EO{s:Src}{g:Tg}{t:Te}{e:Ex}{k:Nat}(h:mU s g t e (k+1) i τ S=.ok zs S') :
  ∃x τ1 S1 b S2,s.get i S=some x/\g x τ S=.ok τ1 S1/\t τ1 S1=.ok b S2/\(b=true->∃y S3 ws,e τ1 S2=.ok y S3/\mU s g t e k (i+1) τ1 S3=.ok ws S'/\zs=y::ws)/\(b=false->mU s g t e k (i+1) τ1 S2=.ok zs S'):=by
 obtain⟨x,hx,h⟩:=VS h;obtain⟨τ1,S1,h1,h⟩:=vF h;obtain⟨b,S2,h2,h⟩:=vF h;refine⟨x,τ1,S1,b,S2,hx,h1,h2,λhb=>?_,λhb=>?_⟩
 ·subst hb;obtain⟨y,S3,h3,h⟩:=vF h;obtain⟨ws,S4,h4,h⟩:=vF h
  cases h
  exact⟨y,S3,ws,h3,h4,rfl⟩
 ·subst hb;exact h
noncomputable def ZL (K:au)(c:Ex):TE:=λσ H Q=>∃ρ S τ a S',Rel K ρ H S/\SR K ρ H τ σ/\c τ S=.ok a S'/\∀ρ' H' v,Ext ρ ρ' H H'->Rel K ρ' H' S'->AV K ρ' H' a v->Q v H'
noncomputable def YV (K:au)(c:Te):TT:=λσ H Q=>∃ρ S τ a S',Rel K ρ H S/\SR K ρ H τ σ/\c τ S=.ok a S'/\∀ρ' H',Ext ρ ρ' H H'->Rel K ρ' H' S'->Q a H'
noncomputable def tG0 (K:au)(g:Tg):TG:=λv σ H Q=>∃ρ S τ a τ' S',Rel K ρ H S/\SR K ρ H τ σ/\AV K ρ H a v/\g a τ S=.ok τ' S'/\∀ρ' H' σ',Ext ρ ρ' H H'->Rel K ρ' H' S'->SR K ρ' H' τ' σ'->Q σ' H'
section
variable {X:Cx}{pos:Pos}{tg iter elt e:aC}{ifs:List aC}{scope:Scope}{N:List Str}{cap:List (Option Nat)}{src:Ic}{g:Tg}{t:Te}{c:Ex}
theorem AE.e0{K:au}(hK:X.K=K)(h:AE X e c):PE X e (ZL K c):=PE.imp h λσ H Q ⟨ρ,S,τ,a,S',R,r,hc,q⟩=>⟨ρ,S,τ,by rw[hK];exact R,by rw[hK];exact r,by rw[hc];exact λρ' H' v e R' v'=>q ρ' H' v e (by rw[<- hK];exact R') (by rw[<- hK];exact v')⟩
theorem AT.t0{K:au}(hK:X.K=K)(h:AT X e t):PT X e (YV K t):=PT.imp h λσ H Q ⟨ρ,S,τ,a,S',R,r,hc,q⟩=>⟨ρ,S,τ,by rw[hK];exact R,by rw[hK];exact r,by rw[hc];exact λρ' H' e R'=>q ρ' H' e (by rw[<- hK];exact R')⟩
theorem AG.g0{K:au}(hK:X.K=K)(h:AG X e g):PG X e (tG0 K g):=PG.imp h λv σ H Q ⟨ρ,S,τ,a,τ',S',R,r,va,hc,q⟩=>⟨ρ,S,τ,a,by rw[hK];exact R,by rw[hK];exact r,by rw[hK];exact va,by rw[hc];exact λρ' H' v e R' v'=>q ρ' H' v e (by rw[<- hK];exact R') (by rw[<- hK];exact v')⟩
noncomputable def ATs (X:Cx)(ifs:List aC)(t:Te):Prop:=WK X ifs (YV X.K t)
theorem yi:ATs X [] vK:=λpins s σ H Q I ⟨ρ,S,τ,a,S',R,r,hc,q⟩=>P8 pins s σ H Q I (by cases hc;exact q ρ H .refl R)
theorem BY(h:AT X e t):ATs X [e] t:=Ql (h.t0 rfl)
theorem Xr{K:au}{H:Hp}(r:SR K ρ H τ σ)(cap:List (Option Nat)):SR K ρ H (lB cap τ) (cap.map (Wb σ)):=by
 refine⟨by simp[lB],λi a h=>?_⟩;unfold lB at h;rw[aP]at h;obtain⟨o,ho,e⟩:=aY.mp h
 cases o with
 | none=>exact .inl e.symm
 | some j=>
  have e:τ.getD j .unb=a:=e
  cases hj:τ[j]? with
  | none=>rw[aL,hj]at e;exact .inl e.symm
  | some b=>
   rw[aL,hj]at e;have e:b=a:=e;subst e
   rcases r.at j b hj with z|⟨v,h1,h2⟩
   ·exact .inl z
   ·exact .inr ⟨v,by rw[aP,ho];show some ((σ[j]?).getD none)=_;rw[h1];rfl,h2⟩
theorem Rel.Pn{K:au}{H:Hp}{p:ak}(R:Rel K ρ H S)(hp:H p=none):p∉ρ:=λhm=>by
 obtain⟨n,hn,e⟩:=List.mem_iff_getElem.mp hm;have hl:n<S.length:=by rw[<- R.len];exact hn
 have:=R.at n p S[n] (by rw[aF hn,e]) (aF hl)
 cases ho:S[n]with
 | lst xs=>rw[ho]at this;obtain⟨vs,h,_⟩:=this;rw[hp]at h;cases h
 | dct _|pP _=>rw[ho]at this;obtain⟨vs,h,_⟩:=this;rw[hp]at h;cases h
 | ins _ _=>rw[ho]at this;obtain⟨_,_,h⟩:=this;rw[hp]at h;cases h
theorem O3(σ:L2.St)(H:Hp)(Q:VK)(h:tE X (kP cap src g t c) σ H Q):YX cap (tI X src) (tG0 X.K g) (YV X.K t) (ZL X.K c) σ H Q:=by
 obtain⟨ρ,S,τ,R,r,h⟩:=h;refine⟨ρ,S,τ,R,r,jz (jD h) .refl λs S1 h1 ρ1 H1 J e1 R1 jr D hD=>?_⟩;obtain⟨ys,S2,hcg,h1⟩:=GL h1;obtain⟨hlen,h1⟩:=jW h1;have h1:B8 X ρ H Q (.ref S2.length) (S2++[.lst ys]):=h1;obtain⟨eD,RD⟩:=R1.im (u:=.lst []) hD;have nD:=R1.Pn hD;refine⟨λi m σ' H'=>m+i=s.k/\∃ρ' S' τ' acc zs accV,Ext0 ρ1 ρ' H1 H'/\(∀a u,a≠D->H1 a=some u->a∉ρ1->H' a=some u)/\(∀a∈ρ',a∈ρ1\/H1 a=none)/\D∉ρ'/\H' D=some (.lst accV)/\Rel X.K ρ' H' S'/\SR X.K ρ' H' τ' σ'/\AVs X.K ρ' H' acc accV/\mU s g t c m i τ' S'=.ok zs S2/\acc++zs=ys,
  ⟨s.k,rfl,ρ1,S1,lB cap τ,[],ys,[],eD.toExt0,λa u na hu _=>by rw[jG na];exact hu,λa ha=>.inl ha,nD,kJ,RD,(Xr ((r.ext e1).ext eD) cap),.nil,hcg,rfl⟩,?_⟩
 rintro i m σ3 H3 ⟨hm,ρ3,S3,τ3,acc,zs,accV,e3,fr3,nw3,nD3,hD3,R3,r3,ac3,cg3,eys⟩
 cases m with
 | zero=>
  left;have cg3:(if s.fin S3 then Am.R.ok [] S3 else .no)=.ok zs S2:=cg3
  cases hf:s.fin S3 with
  | false=>rw[hf]at cg3;cases cg3
  | true=>
   rw[hf]at cg3
   cases cg3
   rw[ck]at eys;subst eys;refine⟨by rw[show i=s.k by lia];exact jr.stop _ H3 ρ3 e3 R3 hf,?_⟩;obtain⟨RT,gt⟩:=R3.take hD3 nD3 ac3;refine h1 (ρ3++[D]) H3 _ (e1.trans ⟨⟨e3.pre.trans (fL _ _),e3.im⟩,λa u hu na=>fr3 a u (jN hu hD) hu na,λa ha=>?_⟩) RT (.ref gt)
   rcases bD.mp ha with z|z
   ·exact nw3 a z
   ·have:a=D:=by simpa using z
    rw[this];exact .inr hD
 | succ m=>
  right;obtain⟨x,τ4,S4,b,S5,hx,hg4,ht5,hT,hF⟩:=EO cg3;obtain⟨hgo,hy⟩:=jr.go i S3 H3 ρ3 x e3 R3 hx;refine⟨hgo,λv H4 y=>?_⟩;obtain⟨e4,R4,v4⟩:=hy v H4 y;refine⟨ρ3,S3,τ3,x,τ4,S4,R4,r3.ext e4,v4,hg4,λρ5 H5 σ5 e5 R5 r5=>?_⟩;refine⟨ρ5,S4,τ4,b,S5,R5,r5,ht5,λρ6 H6 e6 R6=>?_⟩;have e36:=(e4.trans e5).trans e6;have stay:∀{ρ7:List ak} {H7:Hp},Ext ρ3 ρ7 H3 H7->Ext0 ρ1 ρ7 H1 H7/\(∀a u,a≠D->H1 a=some u->a∉ρ1->H7 a=some u)/\(∀a∈ρ7,a∈ρ1\/H1 a=none)/\D∉ρ7/\H7 D=some (.lst accV):=λ{ρ7 H7} e7=>by
   refine⟨⟨e3.pre.trans e7.pre,λa u i h=>e7.im a u i (e3.im a u i h)⟩,λa u na hu nr=>e7.fr a u (fr3 a u na hu nr) λz=>(nw3 a z).elim nr λz=>by(rw[z]at hu;cases hu),λa ha=>?_,λz=>(e7.nw D z).elim nD3 λz=>by(rw[hD3]at z;cases z),e7.fr D _ hD3 nD3⟩;by_cases hr:a∈ρ1
   ·exact .inl hr
   ·right
    cases q:H1 a with
    | none=>rfl
    | some u=>
     have aD:a≠D:=jN q hD
     rcases e7.nw a ha with z|z
     ·exact((nw3 a z).elim hr λz=>by(rw[z]at q;cases q)).elim
     ·rw[fr3 a u aD q hr]at z;cases z
  cases b with
  | false=>
   dsimp only;rw[aJ bF];obtain⟨g1,g2,g3,g4,g5⟩:=stay e36;exact⟨m,fC _,by lia,ρ6,S5,τ4,acc,zs,accV,g1,g2,g3,g4,g5,R6,r5.ext e6,ac3.ext e36,hF rfl,eys⟩
  | true=>
   dsimp only;rw[aM rfl];obtain⟨y,S6,ws,he6,cg6,ezs⟩:=hT rfl;refine⟨ρ6,S5,τ4,y,S6,R6,r5.ext e6,he6,λρ7 H7 w e7 R7 v7=>?_⟩;obtain⟨g1,g2,g3,g4,g5⟩:=stay (e36.trans e7);obtain⟨ex8,R8⟩:=R7.out (ws:=accV++[w]) g5 g4;have l1:=ac3.length;refine⟨accV,g5,?_,m,fC _,by lia,ρ7,S6,τ4,acc++[y],ws,accV++[w],?_,λa u na hu nr=>by rw[jG na];exact g2 a u na hu nr,g3,g4,kJ,R8,(r5.ext (e6.trans e7)).nA ex8,(AVs.nA ex8 ((ac3.ext (e36.trans e7)).append (.one v7))),cg6,?_⟩
   ·have:(acc++zs).length<=sizeLine:=by rw[eys];exact hlen
    rw[ezs,aR,bz]at this;lia
   ·exact⟨g1.pre,λa u i h=>ex8.im a u i (g1.im a u i h)⟩
   ·rw[b9,<- eys,ezs];rfl
theorem rE(hc:X.calm=true)(Sc:CpScope X scope N cap)(hi:AI X tg iter src)(hg:∀C s₀ H₀ ex,AG (pR X scope N C s₀ H₀ ex) tg g)(ht:∀C s₀ H₀ ex,ATs (pR X scope N C s₀ H₀ ex) ifs t)(he:∀C s₀ H₀ ex,AE (pR X scope N C s₀ H₀ ex) elt c)
  (hs:∀x,foldedSetIterable iter X.env x=pure x:=by intro _;rfl):AE X (.ListComp elt [⟨tg,iter,ifs,0⟩] scope pos) (kP cap src g t c):=
 PE.imp (YH hc Sc hi (g:=tG0 X.K g) (tc:=YV X.K t) (te:=ZL X.K c) (λC s₀ H₀ ex=>(hg C s₀ H₀ ex).g0 rfl) (λC s₀ H₀ ex=>ht C s₀ H₀ ex) (λC s₀ H₀ ex=>(he C s₀ H₀ ex).e0 rfl) hs) O3
end
noncomputable def A.lst? (S:jx):A->Option (List A)
 | .ref n=>jw S n
 | _=>none
noncomputable def YK (f:A->List A->jx->R A)(co:Ex)(d:qo):Ex:=λτ S=>(co τ S).bind λo S1=>opt (o.lst? S1) λ_=>(d τ S1).bind λas S2=>f o as S2
noncomputable def Z6 (f:A->List A->jx->R A)(co:Ex):Ex:=λτ S=>(co τ S).bind λo S1=>opt (o.lst? S1) λ_=>f o [] S1
noncomputable def rM (X:Cx)(f:A->List A->jx->R A):V->List V->Hp->VK->Prop:=λx vs H Q=>∃ρ S o as,Rel X.K ρ H S/\AV X.K ρ H o x/\AVs X.K ρ H as vs/\(f o as S).post (B8 X ρ H Q) (XE X ρ H)
section
variable {X:Cx}{apos cpos:Pos}{o e:aC}{es:List aC}{name:Str}{id:String}{f:A->List A->jx->R A}{co:Ex}{d:qo}
theorem lst?_ty{K:au}{H:Hp}{x:A}{v:V}(R:Rel K ρ H S)(h:AV K ρ H x v)(e:x.lst? S=some xs):W4 K "list" v H:=by
 cases h with
 | ref h=>
  obtain⟨vs,h1,_⟩:=R.lst h (jL e);exact .inl ⟨rfl,vs,oX.of h1⟩
 | _=>cases e
theorem M6(slot:Slot "list" name id)(hty:typeOf (.builtin id)=pure (.type "method_descriptor"))(hm:Sb X id (rM X f))(ho:AE X o co)(ha:AL X (e::es) d)
  (hbase:attributeBase o name X.env (eval o X.env)=eval o X.env:=by rfl)
  (hfew:((backTo cpos (starEach (e::es) X.env)).all (λx=>!x.1) && (backToKw cpos (keywordEach [] X.env)).all (λx=>x.1.isSome)
   && decide ((e::es).length+([]:List Keyword).length+(if ([]:List Keyword).isEmpty then 0 else 1)<30))=true:=by rfl)
  (hline:(apos.endLine == cpos.line)=true:=by rfl) (hs:starEach (e::es) X.env=(false,eval e X.env)::starEach es X.env:=by rfl) (hplain:(backTo cpos (starEach es X.env)).any (·.1)=false:=by rfl) :
  AE X (.Call (.Attribute o name apos) (e::es) [] cpos) (YK f co d):=PE.imp (Lu PySem.F.plainAttrs_list slot hty hm ho ha hbase hfew hline hs hplain) λσ H Q h9=>by
 obtain⟨ρ,S,τ,R,r,h⟩:=h9;refine⟨ρ,S,τ,R,r,jz (jD h) .refl λx S1 h1 ρ1 H1 v e1 R1 v1=>?_⟩;obtain⟨xs,hx,h1⟩:=jE h1;refine⟨lst?_ty R1 v1 hx,ρ1,S1,τ,R1,r.ext e1,jz (jD h1) e1 λas S2 h2 ρ2 H2 vs e2 R2 v2=>?_⟩;exact⟨ρ2,S2,x,as,R2,v1.ext e2,v2,jz h2 (e1.trans e2) λ_ _ z=>z.ext (e1.trans e2)⟩
noncomputable def xQ (o:A)(as:List A)(S:jx):R A:=match o,as with
 | .ref n,[x]=>opt (jw S n) λxs=>gd (xs.length<sizeLine) (.ok .non (S.set n (.lst (xs++[x]))))
 | _,_=>.no
theorem DL:Sb X "list.append" (rM X xQ):=λpins s σ H x vs v us Q I rx rv h9=>by
 obtain⟨ρ,S,o,as,R,vo,va,h⟩:=h9
 cases vo with
 | @ref p n hp=>
  match as,va,h with
  | [],_,h=>exact h.elim
  | _::_::_,_,h=>exact h.elim
  | [y],va,h=>
   obtain⟨w,rfl,hw⟩:=Rh va;obtain⟨xs,hn,h⟩:=jE h;obtain⟨hl,h⟩:=jW h;obtain⟨ws,h1,r⟩:=R.lst hp (jL hn);obtain⟨ex,R'⟩:=R.put hp (jL hn) (r.append (.one hw));exact Bf pins s σ H _ _ v us Q I rx rv ⟨p,ws,w,rfl,rfl,h1,by rw[<- r.length];exact hl,h _ _ _ ex R' .non⟩
 | _=>exact h.elim
noncomputable def FG (o:A)(as:List A)(S:jx):R A:=match o,as with
 | .ref n,[.int i]=>opt (jw S n) λxs=>gd (-(2 ^ 63)<=i/\i<2 ^ 63) (opt (seqIndex? i xs.length) λk=>opt (xs[k]?) λx=>.ok x (S.set n (.lst (xs.eraseIdx k))))
 | _,_=>.no
theorem Rp:Sb X "list.pop" (rM X FG):=λpins s σ H x vs v us Q I rx rv h9=>by
 obtain⟨ρ,S,o,as,R,vo,va,h⟩:=h9
 cases vo with
 | @ref p n hp=>
  match as,va,h with
  | [],_,h=>exact h.elim
  | y::_::_,_,h=>exact(by cases y<;>exact h.elim)
  | [y],va,h=>
   obtain⟨w,rfl,hw⟩:=Rh va
   cases hw with
   | int i=>
    obtain⟨xs,hn,h⟩:=jE h;obtain⟨hi,h⟩:=jW h;obtain⟨k,hk,h⟩:=jE h;obtain⟨y,hy,h⟩:=jE h;obtain⟨ws,h1,r⟩:=R.lst hp (jL hn);obtain⟨w,hw,vw⟩:=r.get hy;obtain⟨ex,R'⟩:=R.put hp (jL hn) (r.eraseIdx k);exact O1 pins s σ H _ _ v us Q I rx rv ⟨p,ws,i,k,w,rfl,rfl,h1,hi.1,hi.2,by rw[<- r.length];exact hk,hw,h _ _ _ ex R' (vw.ext ex)⟩
   | _=>exact h.elim
 | _=>exact h.elim
end
noncomputable def lC (N:List Str)(m:Sm)(as:List A)(S:jx):R A:=match m (as++List.replicate (N.length-as.length) .unb) S with
 | .rt a S'=>.ok a S'
 | .nx _ S'=>.ok .non S'
 | .ex c S'=>.ex c S'
 | _=>.no
noncomputable def qv (K:au)(n:Nat)(F:List A->jx->R A):Sp:=λvs H Q _=>vs.length=n/\∃ρ S as a S',Rel K ρ H S/\AVs K ρ H as vs/\F as S=.ok a S'/\∀ρ' H' v,Ext ρ ρ' H H'->Rel K ρ' H' S'->AV K ρ' H' a v->Q v H'
theorem QB{K:au}{H:Hp}{as:List A}(r:AVs K ρ H as vs)(N:List Str):SR K ρ H (as++List.replicate (N.length-as.length) .unb) (L2.start N vs):=by
 have hl:=r.length;refine⟨by unfold L2.start;simp[hl],λi a h=>?_⟩;by_cases hi:i<as.length
 ·rw[bG hi]at h;obtain⟨v,hv,av⟩:=r.get h;exact .inr ⟨v,by unfold L2.start;rw[bG (by simp;lia),aP,hv];rfl,av⟩
 ·rw[fS (by lia),List.getElem?_replicate]at h;split at h
  ·exact .inl (aZ h).symm
  ·cases h
section
variable {P:aj}{w:ah}{K:au}{mg:Str->Option af}{base:aq}
theorem uI{x:Str}{st:aE}{f:ak}{N ps:List Str}{k:Nat}{m:Sm}(F:Fun K x qual st f fd)(Sc:FnScope N ps (jH st))
  (body:∀(cdv:af) (A:az) (outer:List Env) (s:aA) (H:Hp) (E:XK),Room k (A.deeper (envOfC qual (jH st) s.heap.objs.size f cdv))->Rj (Fe pQ P w K mg base N qual (jH st) f cdv A outer s H E).W5 (pY st) m) :
  FnOk P w K mg base pQ (k+1) f fd ps (qv K ps.length (lC N m)):=by
 refine F.ok Sc (λvs H Q E h=>h.1) λcdv B outer s H vs Q E hr ⟨hl,ρ,S,as,a,S',R,va,hF,q⟩=>⟨_,body cdv B outer s H E hr,ρ,S,_,R,QB va N,?_⟩;unfold lC at hF
 cases hm:m (as++List.replicate (N.length-as.length) .unb) S with
 | rt b S2=>rw[hm]at hF;cases hF;exact q
 | nx τ S2=>rw[hm]at hF;cases hF;exact λρ' H' σ' e R' _=>q ρ' H' _ e R' .non
 | bk τ S2=>rw[hm]at hF;cases hF
 | ct τ S2=>rw[hm]at hF;cases hF
 | ex c S2=>rw[hm]at hF;cases hF
 | no=>rw[hm]at hF;cases hF
end
noncomputable abbrev mq (P:aj)(w:ah)(K:au)(mg:Str->Option af)(base:aq)(k:Nat)(x:Str)(ps:List Str)(F:List A->jx->R A):Prop:=Kn P w K mg base k x ps (qv K ps.length F)
noncomputable def eFn (F:List A->jx->R A)(d:qo):Ex:=λτ S=>(d τ S).bind λas S1=>match F as S1 with
 | .ok a S2=>.ok a S2
 | _=>.no
section
variable {X:Cx}{pos p:Pos}{e:aC}{es:List aC}{x:Str}{ps:List Str}{k:Nat}{F:List A->jx->R A}{d:qo}
theorem qA(G:mq X.prog X.w X.K X.mg X.base k x ps F)(hr:Room k X.A)(ha:AL X (e::es) d)(hl:∀τ S as S',d τ S=.ok as S'->as.length=ps.length)(hg:Gl X x:=by rfl)(hdb:(x == ("__debug__" : Str))=false:=by decide)
  (hs:starEach (e::es) X.env=(false,eval e X.env)::starEach es X.env:=by rfl) (hplain:(backTo pos (starEach es X.env)).any (·.1)=false:=by rfl):AE X (.Call (.Name x p) (e::es) [] pos) (eFn F d):=
 PE.imp (YF G hr ha hg hdb hs hplain) λσ H Q h9=>by
  obtain⟨ρ,S,τ,R,r,h⟩:=h9;refine⟨ρ,S,τ,R,r,?_⟩;have hb:=jD h
  cases hd:d τ S with
  | no=>rw[hd]at hb;exact hb
  | ex c S1=>rw[hd]at hb;exact hb
  | ok as S1=>
   rw[hd]at hb;intro ρ1 H1 vs e1 R1 v1;rw[ck];refine⟨by rw[<- v1.length];exact hl τ S as S1 hd,ρ1,S1,as,?_⟩;have hb:Am.R.post (match F as S1 with
    | .ok a S2=>.ok a S2
    | _=>.no) (B8 X ρ H Q) (XE X ρ H):=hb
   cases hF:F as S1 with
   | ok a S2=>rw[hF]at hb;exact⟨a,S2,R1,v1,rfl,λρ2 H2 v e2=>hb ρ2 H2 v (e1.trans e2)⟩
   | ex c S2=>rw[hF]at hb;exact hb.elim
   | no=>rw[hF]at hb;exact hb.elim
theorem l_:∀τ S as S',jB τ S=.ok as S'->as.length=0:=λτ S as S' h=>by cases h;rfl
theorem jS{c:Ex}{d:qo}{n:Nat}(h:∀τ S as S',d τ S=.ok as S'->as.length=n):∀τ S as S',jt c d τ S=.ok as S'->as.length=n+1:=λτ S as S' e=>by
 unfold jt at e
 cases hc:c τ S with
 | ok a S1=>
  rw[hc]at e
  cases hd:d τ S1 with
  | ok bs S2=>
   have e:R.bind (d τ S1) (λas S2=>.ok (a::as) S2)=.ok as S':=e;rw[hd]at e;cases e;rw[bz,h τ S1 bs _ hd]
  | ex _ _=>
   have e:R.bind (d τ S1) (λas S2=>.ok (a::as) S2)=.ok as S':=e;rw[hd]at e;cases e
  | no=>
   have e:R.bind (d τ S1) (λas S2=>.ok (a::as) S2)=.ok as S':=e;rw[hd]at e;cases e
 | ex _ _=>rw[hc]at e;cases e
 | no=>rw[hc]at e;cases e
end
section
variable {X:Cx}{pos:Pos}{a b c:aC}
noncomputable def kCh (f':A->A->jx->R A)(cc:Ex)(τ:List A)(b k:A)(S:jx):R A:=match k with
 | .bl true=>(cc τ S).bind λc S4=>f' b c S4
 | .bl false=>.ok (.bl false) S
 | _=>.no
noncomputable def WH (f f':A->A->jx->R A)(ca cb cc:Ex):Ex:=λτ S=>(ca τ S).bind λa S1=>(cb τ S1).bind λb S2=>(f a b S2).bind λk S3=>kCh f' cc τ b k S3
theorem Um{f f':A->A->jx->R A}{ca cb cc:Ex}{H:Hp}{Q:VK}(h:tE X (WH f f' ca cb cc) σ H Q):Lz (r2 X f) (r2 X f') (tE X ca) (tE X cb) (tE X cc) σ H Q:=by
 obtain⟨ρ,S,τ,R,r,h⟩:=h;refine⟨ρ,S,τ,R,r,jz (jD h) .refl λa S1 h1 ρ1 H1 x e1 R1 v1=>⟨ρ1,S1,τ,R1,r.ext e1,jz (jD h1) e1 λb S2 h2 ρ2 H2 y e2 R2 v2=>?_⟩⟩;have e12:=e1.trans e2;refine⟨ρ2,S2,a,b,R2,v1.ext e2,v2,jz (jD h2) e12 λk S3 h3 ρ3 H3 z e3 R3 v3=>?_⟩;have e13:=e12.trans e3
 cases k with
 | bl k=>
  cases EY v3
  refine⟨k,rfl,?_⟩
  cases k with
  | true=>
   rw[aM rfl];exact⟨ρ3,S3,τ,R3,r.ext e13,jz (jD h3) e13 λc S4 h4 ρ4 H4 w e4 R4 v4=>⟨ρ4,S4,b,c,R4,v2.ext (e3.trans e4),v4,jz h4 (e13.trans e4) λ_ _ q=>q.ext (e13.trans e4)⟩⟩
  | false=>
   rw[aJ bF];exact h3 ρ3 H3 _ e13 R3 (.bl false)
 | _=>exact h3.elim
theorem YN{f f':A->A->jx->R A}{ca cb cc:Ex}(ho:n5 X (compareOp op) (r2 X f))(ho':n5 X (compareOp op') (r2 X f'))(ha:AE X a ca)(hb:AE X b cb)(hc:AE X c cc)(hm:lastMarks [op,op'] [b,c]=false:=by with_unfolding_all rfl) :
  AE X (.Compare a [op,op'] [b,c] pos) (WH f f' ca cb cc):=PE.imp (Oq ho ho' ha hb hc hm) λ_ _ _ h=>Um h
noncomputable def Xd (S:jx)(x:A):List A->Option Bool
 | []=>some false
 | z::zs=>(qU S 12 z x).bind λp=>(Xd S x zs).map λq=>p || q
noncomputable def Z5 (neg:Bool)(x y:A)(S:jx):R A:=opt (y.seq S) λys=>opt (Xd S x ys) λb=>.ok (.bl (if neg then !b else b)) S
theorem Cv{H:Hp}{x:A}{v:af}(I:Inv X pins σ H s)(R:Rel X.K ρ H S)(hu:X.A.units+64<cLine)(hx:AV X.K ρ H x vx)(rx:RelV vx v) :
  ∀{ys:List A} {us:List V} {its:List af} {b:Bool},AVs X.K ρ H ys us->Vals us its->Xd S x ys=some b->∃e:af->Bool,(∀w∈its,SeqAt.EqAt X.A.in1 s w v (e w))/\its.any e=b
 | _,_,_,b,.nil,.nil,h=>⟨λ_=>false,(λw hw=>by cases hw),aZ h⟩
 | z::zs,u::us,w0::its,b,.cons hz hzs,.cons r rs,h=>by
  classical
  obtain⟨p,hp,h⟩:=cj.mp h;obtain⟨q,hq,h⟩:=aY.mp h;obtain⟨e,he,ha⟩:=Cv I R hu hx rx hzs rs hq;have h0:=(Hq I R 12 X.A.in1 z x u vx w0 v p (by rw[in1_units];lia) hz hx r rx hp).2.1;subst h
  cases p with
  | true=>
   refine⟨λw=>if w=w0 then true else e w,λw hw=>?_,?_⟩
   ·by_cases hww:w=w0
    ·simp only[hww,cV];exact h0
    ·simp only[hww,bW]
     rcases bB.mp hw with z|z
     ·exact absurd z hww
     ·exact he w z
   ·simp
  | false=>
   by_cases hm:w0∈its
   ·refine⟨e,λw hw=>?_,?_⟩
    ·rcases bB.mp hw with z|z
     ·rw[z];exact he w0 hm
     ·exact he w z
    ·rw[fN,ha,gp]
     cases q with
     | true=>simp
     | false=>
      have:=List.any_eq_false.mp ha w0 hm;simpa using this
   ·refine⟨λw=>if w=w0 then false else e w,λw hw=>?_,?_⟩
    ·by_cases hww:w=w0
     ·simp only[hww,cV];exact h0
     ·simp only[hww,bW]
      rcases bB.mp hw with z|z
      ·exact absurd z hww
      ·exact he w z
    ·rw[fN,<- ha];simp only[cV,gp];have:∀l:List af,(∀w∈l,w≠w0)->l.any (λw=>if w=w0 then false else e w)=l.any e:=λl hl=>by
      induction l with
      | nil=>rfl
      | cons c l ih=>rw[fN,fN,ih λw hw=>hl w (aI _ hw),aJ (hl c (aG ..))]
     exact this its λw hw z=>hm (z ▸ hw)
theorem Zq(hu:X.A.units+64<cLine):n5 X (compareOp .In) (r2 X (Z5 false)):=λpins s σ H x y v u Q I rx ry h9=>by
 obtain⟨ρ,S,a,b,R,va,vb,h⟩:=h9;obtain⟨ys,hy,h⟩:=jE h;obtain⟨k,hk,h⟩:=jE h;obtain⟨p,us,rfl,hs,r⟩:=Ve R vb hy
 cases ry
 rcases hs with hs|hs
 ·obtain⟨its,rv,pl,hz⟩:=I.list hs;obtain⟨e,he,ha⟩:=Cv I R hu va rx r rv hk;refine SeqAt.in_listAt e pl.isList (λw hw=>he w (by simpa using hw)) ⟨.bl _,H,I,rfl,?_⟩;rw[show its.toArray.any e=its.any e by simp,ha];exact h _ _ _ .refl R (.bl _)
 ·obtain⟨its,rv,pl,hz⟩:=I.tuple hs;obtain⟨e,he,ha⟩:=Cv I R hu va rx r rv hk;refine SeqAt.in_tupleAt e pl (λw hw=>he w (by simpa using hw)) ⟨.bl _,H,I,rfl,?_⟩;rw[show its.toArray.any e=its.any e by simp,ha];exact h _ _ _ .refl R (.bl _)
end
noncomputable def jQ (S:jx)(n:Nat):Option (List (List Int×A)):=match S[n]? with
 | some (.dct xs)=>some xs
 | _=>none
theorem m_{n:Nat}(h:jQ S n=some xs):S[n]?=some (.dct xs):=by
 unfold jQ at h;split at h
 ·rename_i e;cases h;exact e
 ·cases h
theorem vh{S:jx}{n:Nat}(h:S[n]?=some (.dct xs)):jQ S n=some xs:=by
 unfold jQ;rw[h]
noncomputable def kF (kvs:List (List Int×A))(k:List Int):Option A:=(kvs.find? λkv=>decide (kv.1=k)).map (·.2)
noncomputable def putD (kvs:List (List Int×A))(k:List Int)(v:A):List (List Int×A):=
 if (kF kvs k).isSome=true then kvs.map (λkv=>if kv.1=k then(kv.1,v)else kv)else kvs++[(k,v)]
theorem CH:∀{a b:List Int},a.map (Sum.inl:Int->Key)=b.map Sum.inl->a=b
 | [],[],_=>rfl
 | [],_::_,e=>by simp at e
 | _::_,[],e=>by simp at e
 | x::xs,y::ys,e=>by
  rw[bC,bC]at e
  injection e with e1 e2
  injection e1 with e1
  rw[e1,CH e2]
theorem GV(ns:List Int):(ns.map (Sum.inl:Int->Key)).map kV=ns.map V.int:=by rw[bh];rfl
section
variable {K:au}{ρ:List ak}{H:Hp}
theorem JS{p:List Int×A}{r:List (List Int×A)}{k:List Int}(e:p.1=k):kF (p::r) k=some p.2:=by simp[kF,cH,e]
theorem JM{p:List Int×A}{r:List (List Int×A)}{k:List Int}(e:¬p.1=k):kF (p::r) k=kF r k:=by simp[kF,cH,e]
theorem DV.look:∀{kvs:List (List Int×A)}{ks:List (List Key×V)}(k:List Int),DV K ρ H kvs ks->(kF kvs k).isSome=(pL ks (k.map Sum.inl)).isSome/\∀x,kF kvs k=some x->∃v,pL ks (k.map Sum.inl)=some v/\AV K ρ H x v
 | [],[],k,_=>⟨rfl,λx h=>nomatch h⟩
 | p::r,q::r',k,⟨⟨e,a⟩,t⟩=>by
  by_cases c:p.1=k
  ·have c':q.1=k.map Sum.inl:=by rw[e,c]
   rw[JS c,sV c'];exact⟨rfl,λx h=>by cases h;exact⟨_,rfl,a⟩⟩
  ·have c':¬q.1=k.map Sum.inl:=λz=>c (CH (e.symm.trans z));rw[JM c,sL c'];exact DV.look k t
theorem DV.repl{x:A}{v:V}(h:AV K ρ H x v)(k:List Int):∀{kvs:List (List Int×A)}{ks:List (List Key×V)},DV K ρ H kvs ks->DV K ρ H (kvs.map λkv=>if kv.1=k then(kv.1,x)else kv) (ks.map λkv=>if kv.1=k.map Sum.inl then(kv.1,v)else kv)
 | [],[],_=>trivial
 | p::r,q::r',⟨⟨e,a⟩,t⟩=>by
  refine⟨?_,DV.repl h k t⟩;dsimp only;by_cases c:p.1=k
  ·rw[aM c,aM (by rw[e,c])];exact⟨e,h⟩
  ·rw[aJ c,aJ (λz=>c (CH (e.symm.trans z)))];exact⟨e,a⟩
theorem DV.snoc{x:A}{v:V}(h:AV K ρ H x v)(k:List Int):∀{kvs:List (List Int×A)}{ks:List (List Key×V)},DV K ρ H kvs ks->DV K ρ H (kvs++[(k,x)]) (ks++[(k.map Sum.inl,v)])
 | [],[],_=>⟨⟨rfl,h⟩,trivial⟩
 | p::r,q::r',⟨a,t⟩=>⟨a,DV.snoc h k t⟩
theorem DV.put{x:A}{v:V}(h:AV K ρ H x v)(k:List Int)(d:DV K ρ H kvs ks):DV K ρ H (putD kvs k x) (putK ks (k.map Sum.inl) v):=by
 unfold putD putK;rw[vp,<- (d.look k).1];by_cases c:(kF kvs k).isSome=true
 ·rw[aM c,aM c];exact DV.repl h k d
 ·rw[aJ c,aJ c];exact DV.snoc h k d
theorem DV.length:∀{kvs:List (List Int×A)}{ks:List (List Key×V)},DV K ρ H kvs ks->kvs.length=ks.length
 | [],[],_=>rfl
 | _::_,_::_,⟨_,t⟩=>dg (·+1) t.length
theorem Rel.dct{n:Nat}{a:ak}(R:Rel K ρ H S)(ha:ρ[n]?=some a)(hS:S[n]?=some (.dct xs)):∃vs,H a=some (.dT vs)/\DV K ρ H xs vs:=R.at n a _ ha hS
theorem Rel.ZK{S:jx}{p:ak}(R:Rel K ρ H S)(hp:H p=none)(r:DV K ρ H xs vs):Ext ρ (ρ++[p]) H (upd H p (.dT vs))/\Rel K (ρ++[p]) (upd H p (.dT vs)) (S++[.dct xs])/\(ρ++[p])[S.length]?=some p:=by
 have ex:Ext ρ (ρ++[p]) H (upd H p (.dT vs)):=⟨⟨fL _ _,λa u _ h=>by rw[jG (jN h hp)];exact h⟩,λa u h _=>by rw[jG (jN h hp)];exact h,λa h=>by
  rcases bD.mp h with z|z
  ·exact .inl z
  ·have e:a=p:=by simpa using z
   rw[e];exact .inr hp⟩
 have np:p∉ρ:=R.Pn hp;have last:(ρ++[p])[S.length]?=some p:=by rw[<- R.len];simp
 refine⟨ex,⟨by simp[R.len],?_,?_⟩,last⟩
 ·rw[dO];refine⟨R.nd,by simp,λa ha b hb e=>?_⟩;have:b=p:=by simpa using hb
  exact np (by rw[<- this,<- e];exact ha)
 ·intro n a o h1 h2;by_cases hn:n<S.length
  ·rw[bG (by rw[R.len];exact hn)]at h1;rw[bG hn]at h2;have na:a≠p:=λz=>np (by rw[<- z];exact aX h1);have:=R.at n a o h1 h2
   cases o with
   | lst ys=>obtain⟨ws,e,q⟩:=this;exact⟨ws,by rw[jG na];exact e,q.ext ex⟩
   | dct _|pP _=>obtain⟨ws,e,q⟩:=this;exact⟨ws,by rw[jG na];exact e,q.ext ex⟩
   | ins _ _=>obtain⟨oo,uu,e⟩:=this;exact⟨oo,uu,by rw[jG na];exact e⟩
  ·have e:n=S.length:=by
    have:=(aN.mp h2).1;simp at this;lia
   subst e;rw[last]at h1
   cases h1
   simp at h2;subst h2;exact⟨vs,kJ,r.ext ex⟩
theorem Rel.putD{S:jx}{n:Nat}{a:ak}(R:Rel K ρ H S)(ha:ρ[n]?=some a)(hS:S[n]?=some (.dct xs))(r:DV K ρ H ys ws):Ext ρ ρ H (upd H a (.dT ws))/\Rel K ρ (upd H a (.dT ws)) (S.set n (.dct ys)):=by
 obtain⟨vs,e,_⟩:=R.at n a _ ha hS;have ex:Ext ρ ρ H (upd H a (.dT ws)):=⟨⟨fH _,λb u i h=>by
  have:b≠a:=by
   intro z;subst z;rw[e]at h;cases h;exact i
  rw[jG this];exact h⟩,λb u h n=>by
  rw[jG (λz=>n (by rw[z];exact aX ha))];exact h,λ_ h=>.inl h⟩
 refine⟨ex,by rw[bY];exact R.len,R.nd,λm b o h1 h2=>?_⟩;by_cases hm:m=n
 ·subst hm;rw[ha]at h1;cases h1;rw[bV (aN.mp hS).1]at h2
  cases h2
  exact⟨ws,kJ,r.ext ex⟩
 ·rw[cu (c6 hm)]at h2;have nb:b≠a:=λz=>by
   subst z;obtain⟨l1,e1⟩:=aN.mp ha;obtain⟨l2,e2⟩:=aN.mp h1;exact hm ((dc R.nd).mp (e2.trans e1.symm))
  have:=R.at m b o h1 h2
  cases o with
  | lst ys=>obtain⟨ws',e',q⟩:=this;exact⟨ws',by rw[jG nb];exact e',q.ext ex⟩
  | dct _|pP _=>obtain⟨ws',e',q⟩:=this;exact⟨ws',by rw[jG nb];exact e',q.ext ex⟩
  | ins _ _=>obtain⟨oo,uu,e'⟩:=this;exact⟨oo,uu,by rw[jG nb];exact e'⟩
end
section
variable {X:Cx}{pos:Pos}{a b:aC}
theorem BG{H:Hp}{p q:ak}{n:Nat}{ns:List Int}(R:Rel X.K ρ H S)(hp:ρ[n]?=some p)(hn:jQ S n=some kvs)(hq:H q=some (.tup vs))(r:AVs X.K ρ H xs vs)(hi:A.ints xs=some ns) :
  ∃ks,H p=some (.dT ks)/\DV X.K ρ H kvs ks/\H q=some (.tup ((ns.map (Sum.inl:Int->Key)).map kV))/\uO H p (.ref q) (pL ks (ns.map Sum.inl)):=by
 obtain⟨ks,e,d⟩:=R.dct hp (m_ hn);have z:=yr r hi;subst z;rw[<- GV]at hq;exact⟨ks,e,d,hq,uO.t e hq⟩
noncomputable def vq (x y:A)(S:jx):R A:=match x,y with
 | .ref n,.tup xs=>opt (jQ S n) λkvs=>opt (A.ints xs) λns=>opt (kF kvs ns) λv=>.ok v S
 | _,_=>.no
theorem XC(hu:X.A.units+64<cLine):Tz X (r2 X vq):=λvalue slice pins s σ H x y v u Q I rx ry ⟨ρ,S,a,b,R,va,vb,h⟩ hs=>by
 cases va with
 | @ref p n hp=>
  cases vb with
  | @tup q xs vs hq r=>
   obtain⟨kvs,hn,h⟩:=jE h;obtain⟨ns,hi,h⟩:=jE h;obtain⟨z,hz,h⟩:=jE h;obtain⟨ks,e,d,hq',g⟩:=BG R hp hn hq r hi;obtain⟨w,hw,aw⟩:=(d.look ns).2 z hz;rw[hw]at g;exact HB (by lia) value slice pins s σ H _ _ v u Q I rx ry ⟨p,w,rfl,g,h _ _ _ .refl R aw⟩ hs
  | _=>exact h.elim
 | _=>exact h.elim
theorem zh(hu:X.A.units+64<cLine){ca cb:Ex}(ha:AE X a ca)(hb:AE X b cb)(hs:yg b:=by exact λ_ _=>rfl):AE X (.Subscript a b pos) (jJ vq ca cb):=PE.imp (NR (XC hu) ha hb hs) λσ H Q h=>t6 h
noncomputable def J4 (neg:Bool)(x y:A)(S:jx):R A:=match x,y with
 | .tup xs,.ref n=>opt (jQ S n) λkvs=>opt (A.ints xs) λns=>.ok (.bl (if neg then !(kF kvs ns).isSome else(kF kvs ns).isSome)) S
 | _,_=>.no
theorem Dj(hu:X.A.units+64<cLine):n5 X (compareOp .NotIn) (r2 X (J4 true)):=λpins s σ H x y v u Q I rx ry h9=>by
 obtain⟨ρ,S,a,b,R,va,vb,h⟩:=h9
 cases va with
 | @tup q xs vs hq r=>
  cases vb with
  | @ref p n hp=>
   obtain⟨kvs,hn,h⟩:=jE h;obtain⟨ns,hi,h⟩:=jE h;obtain⟨ks,e,d,hq',g⟩:=BG R hp hn hq r hi;exact Kx (by lia) pins s σ H _ _ v u Q I rx ry ⟨p,_,rfl,g,by rw[<- (d.look ns).1];exact h _ _ _ .refl R (.bl _)⟩
  | _=>exact h.elim
 | _=>exact h.elim
noncomputable def EV (o i v:A)(S:jx):R Unit:=match o,i with
 | .ref n,.tup xs=>opt (jQ S n) λkvs=>opt (A.ints xs) λns=>gd (kvs.length<sizeLine) (.ok () (S.set n (.dct (putD kvs ns v))))
 | _,_=>.no
noncomputable def Zy (X:Cx):JI:=λo i v H Q=>∃ρ S ao ai av,Rel X.K ρ H S/\AV X.K ρ H ao o/\AV X.K ρ H ai i/\AV X.K ρ H av v/\(EV ao ai av S).post (λ_ S'=>∀ρ' H',Ext ρ ρ' H H'->Rel X.K ρ' H' S'->Q H') (XE X ρ H)
theorem RO(hu:X.A.units+64<cLine):J7 X (Zy X):=λpins s σ H o i v ov iv u Q I ro ri rv h9=>by
 obtain⟨ρ,S,ao,ai,av,R,h1,h2,h3,h⟩:=h9
 cases h1 with
 | @ref p n hp=>
  cases h2 with
  | @tup q xs vs hq r=>
   obtain⟨kvs,hn,h⟩:=jE h;obtain⟨ns,hi,h⟩:=jE h;obtain⟨hl,h⟩:=jW h;obtain⟨ks,e,d,hq',g⟩:=BG R hp hn hq r hi;obtain⟨ex,R'⟩:=R.putD hp (m_ hn) (d.put h3 ns);exact set_dict (by lia) pins s σ H _ _ v ov iv u Q I ro ri rv ⟨p,_,rfl,Eb.t e hq' (by rw[<- d.length];exact hl),h _ _ ex R'⟩
  | _=>exact h.elim
 | _=>exact h.elim
noncomputable def E2 (co ci:Ex):Tg:=λa τ S=>(co τ S).bind λo S1=>(ci τ S1).bind λi S2=>(EV o i a S2).bind λ_ S3=>.ok τ S3
theorem ug(hu:X.A.units+64<cLine){co ci:Ex}(ho:AE X o co)(hi:AE X i ci)
  (ha:∀v,assign (.Subscript o i pos) X.env v=(do
   let ov <- holding [v] (eval o X.env)
   let iv <- holding [v,ov] (eval i X.env)
   standAt pos
   holding [v,ov,iv] (setItem ov iv v)
   release [v,ov,iv] []):=by intro _;rfl):AG X (.Subscript o i pos) (E2 co ci):=PG.imp (Gq ho hi (RO hu) ha) λv σ H Q h9=>by
 obtain⟨ρ,S,τ,a,R,r,va,h⟩:=h9;refine⟨ρ,S,τ,R,r,jz (jD h) .refl λo S1 h1 ρ1 H1 x e1 R1 v1=>⟨ρ1,S1,τ,R1,r.ext e1,jz (jD h1) e1 λi S2 h2 ρ2 H2 y e2 R2 v2=>?_⟩⟩;refine⟨ρ2,S2,o,i,a,R2,v1.ext e2,v2,va.ext (e1.trans e2),jz (jD h2) (e1.trans e2) λ_ S3 h3 ρ3 H3 e3 R3=>?_⟩;exact h3 ρ3 H3 σ ((e1.trans e2).trans e3) R3 (r.ext ((e1.trans e2).trans e3))
noncomputable def ux:Ex:=λ_ S=>.ok (.ref S.length) (S++[.dct []])
theorem p_:AE X (.Dict [] [] pos) ux:=PE.imp Mj λσ H Q ⟨ρ,S,τ,R,r,h⟩ p hp=>by
 obtain⟨ex,R',hl⟩:=R.ZK (xs:=[]) (vs:=[]) hp trivial;exact h _ _ _ ex R' (.ref hl)
noncomputable def dct? (a:A)(S:jx):Option Unit:=match a with
 | .ref n=>(jQ S n).map λ_=>()
 | _=>none
noncomputable def V_ (f:A->List A->jx->R A)(co:Ex)(d:qo):Ex:=λτ S=>(co τ S).bind λx S1=>opt (dct? x S1) λ_=>(d τ S1).bind λas S2=>f x as S2
theorem dct?_ty{K:au}{H:Hp}{x:A}{v:V}(R:Rel K ρ H S)(a:AV K ρ H x v)(e:dct? x S=some u):W4 K "dict" v H:=by
 cases a with
 | @ref p n h=>
  obtain⟨xs,hx,_⟩:=aY.mp e;obtain⟨vs,h1,_⟩:=R.dct h (m_ hx);exact .inr (.inr (.inl ⟨rfl,.inr ⟨vs,h1⟩⟩))
 | _=>cases e
theorem Vh{e:aC}{id:String}{apos cpos:Pos}{f:A->List A->jx->R A}{co:Ex}{d:qo}(slot:Slot "dict" name id)(hty:typeOf (.builtin id)=pure (.type "method_descriptor"))(hm:Sb X id (rM X f))(ho:AE X o co)(ha:AL X (e::es) d)
  (hbase:attributeBase o name X.env (eval o X.env)=eval o X.env:=by rfl)
  (hfew:((backTo cpos (starEach (e::es) X.env)).all (λx=>!x.1) && (backToKw cpos (keywordEach [] X.env)).all (λx=>x.1.isSome)
   && decide ((e::es).length+([]:List Keyword).length+(if ([]:List Keyword).isEmpty then 0 else 1)<30))=true:=by rfl)
  (hline:(apos.endLine == cpos.line)=true:=by rfl) (hs:starEach (e::es) X.env=(false,eval e X.env)::starEach es X.env:=by rfl) (hplain:(backTo cpos (starEach es X.env)).any (·.1)=false:=by rfl) :
  AE X (.Call (.Attribute o name apos) (e::es) [] cpos) (V_ f co d):=PE.imp (Lu PySem.F.plainAttrs_dict slot hty hm ho ha hbase hfew hline hs hplain) λσ H Q h9=>by
 obtain⟨ρ,S,τ,R,r,h⟩:=h9;refine⟨ρ,S,τ,R,r,jz (jD h) .refl λx S1 h1 ρ1 H1 v e1 R1 v1=>?_⟩;obtain⟨xs,hx,h1⟩:=jE h1;refine⟨dct?_ty R1 v1 hx,ρ1,S1,τ,R1,r.ext e1,jz (jD h1) e1 λas S2 h2 ρ2 H2 vs e2 R2 v2=>?_⟩;exact⟨ρ2,S2,x,as,R2,v1.ext e2,v2,jz h2 (e1.trans e2) λ_ _ z=>z.ext (e1.trans e2)⟩
noncomputable def Ug (o:A)(as:List A)(S:jx):R A:=match o,as with
 | .ref n,[.tup xs,y]=>opt (jQ S n) λkvs=>opt (A.ints xs) λk=>.ok ((kF kvs k).getD y) S
 | _,_=>.no
theorem W0(hu:X.A.units+64<cLine):Sb X "dict.get" (rM X Ug):=λpins s σ H x vs v us Q I rx rv h9=>by
 obtain⟨ρ,S,o,as,R,vo,va,h⟩:=h9
 cases vo with
 | @ref p n hp=>
  match as,va,h with
  | [],_,h=>exact h.elim
  | [z],_,h=>exact(by cases z<;>exact h.elim)
  | z::_::_::_,_,h=>exact(by cases z<;>exact h.elim)
  | [z,y],va,h=>
   obtain⟨w1,w2,rfl,hz,hy⟩:=UL va
   cases hz with
   | @tup q xs ws hq rr=>
    obtain⟨kvs,hn,h⟩:=jE h;obtain⟨ns,hi,h⟩:=jE h;have z:=yr rr hi;subst z;obtain⟨ks,h1,dv⟩:=R.dct hp (m_ hn);refine Qy (by lia) pins s σ H _ _ v us Q I rx rv ⟨p,q,ns.map Sum.inl,ks,w2,rfl,rfl,h1,by rw[GV];exact hq,h _ _ _ .refl R ?_⟩;obtain⟨l1,l2⟩:=dv.look ns
    cases e1:kF kvs ns with
    | none=>
     rw[e1]at l1
     cases e2:pL ks (ns.map Sum.inl)with
     | none=>exact hy
     | some _=>rw[e2]at l1;cases l1
    | some x1=>
     obtain⟨v1,e2,a1⟩:=l2 x1 e1;rw[e2];exact a1
   | _=>exact h.elim
 | _=>exact h.elim
end
section
variable {X:Cx}{pos:Pos}{a tg:aC}
noncomputable def Hh (n k:Nat):Src:=⟨k,λi S=>(jw S n).bind λxs=>if i<k then xs[k-1-i]? else none,λ_=>true⟩
noncomputable def kRv (a:A)(S:jx):R Src:=match a with
 | .ref n=>opt (jw S n) λxs=>.ok (Hh n xs.length) S
 | _=>.no
noncomputable def W8 (c:Ex):Ic:=λτ S=>(c τ S).bind λa S1=>kRv a S1
theorem Xa{K:au}{ρ0:List ak}{H0:Hp}{p:ak}{n k:Nat}(hp:ρ0[n]?=some p):JR K (Hh n k) (Zs K p k) ρ0 H0 where
 go:=λi S H ρ x e R g=>by
  obtain⟨xs,hn,g⟩:=cj.mp g;by_cases hi:i<k
  ·rw[aM hi]at g;obtain⟨vs,h1,r1⟩:=R.lst (e.get hp) (jL hn);obtain⟨v,ev,av⟩:=r1.get g;refine⟨⟨hi,vs,v,oX.of h1,ev⟩,λw H' z=>?_⟩;obtain⟨rfl,hz⟩:=z;rw[hz vs v (oX.of h1) ev];exact⟨.refl,R,av⟩
  ·rw[aJ hi]at g;cases g
 stop:=λS H ρ e R hf=>aO _
theorem Wx{p:Pos}{c:Ex}(hm:X.mg "reversed" = none)(ha:AE X a c)(hg:Gl X "reversed" := by rfl)(hs:starEach [a] X.env=[(false,eval a X.env)]:=by rfl):AI X tg (.Call (.Name "reversed" p) [a] [] pos) (W8 c):=λpins s σ H Q I h9=>by
 obtain⟨ρ,S,τ,R,r,h⟩:=h9;refine Vv hg hm (ue ha zP hs) hs pins s σ H Q I ⟨ρ,S,τ,R,r,jz (jD h) .refl λx S1 h1 ρ1 H1 v e1 R1 v1=>?_⟩
 cases v1 with
 | @ref p n hp=>
  obtain⟨xs,hn,h1⟩:=jE h1;obtain⟨vs,g1,r1⟩:=R1.lst hp (jL hn);exact⟨_,vs,rfl,oX.of g1,h1 ρ1 H1 _ e1 R1 (by rw[<- r1.length];exact Xa hp)⟩
 | _=>exact h1.elim
theorem WB{c:Ex}{n:Nat}{xs:List A}(h:c τ S=.ok (.ref n) S1)(hn:jw S1 n=some xs):W8 c τ S=.ok (Hh n xs.length) S1:=by
 unfold W8;rw[h];show opt (jw S1 n) _=_;rw[hn];rfl
end
structure Out (ρ1:List ak)(H1:Hp)(D:ak)(accV:List V)(ρ:List ak)(H:Hp):Prop where
 e0:Ext0 ρ1 ρ H1 H
 fr:∀a u,a≠D->H1 a=some u->a∉ρ1->H a=some u
 nw:∀a∈ρ,a∈ρ1\/H1 a=none
 nD:D∉ρ
 hD:H D=some (.lst accV)
noncomputable def Zj (F:List A->jx->R A)(d:qo):Ex:=λτ S=>(d τ S).bind λas S1=>F as S1
noncomputable def bmV:List af:=[.type "ValueError",.type "Exception",.type "BaseException",.type "object"]
noncomputable def RP:List (Str ⊕ Ex)->List A->jx->R Unit
 | [],_,S=>.ok () S
 | .inl _::ps,τ,S=>RP ps τ S
 | .inr e::ps,τ,S=>(e τ S).bind λv S1=>match v with
  | .int i=>gd (i.natAbs.log2<64) (RP ps τ S1)
  | _=>.no
noncomputable def Uy (c:Str)(ps:List (Str ⊕ Ex)):Sm:=λτ S=>.of (RP ps τ S) λ_ S1=>.ex c S1
noncomputable def SJ (i:Nat):RS->RS
 | .nx τ S=>.nx (τ.set i .unb) S
 | .bk τ S=>.bk (τ.set i .unb) S
 | .ct τ S=>.ct (τ.set i .unb) S
 | .rt a S=>.rt a S
 | _=>.no
noncomputable def X_ (i n:Nat)(cs:List Str)(c d:Sm):Sm:=λτ S=>match c τ S with
 | .ex x S1=>if x∈cs then SJ i (d ((List.replicate n .unb).set i (.exn x)) S1)else .no
 | r=>r
noncomputable def aaj (f:Str->Option Bool)(c:Ex):Ex:=λτ S=>(c τ S).bind λv S1=>match v with
 | .exn x=>opt (f x) λb=>.ok (.bl b) S1
 | _=>.no
structure ExcK (K:au)(U:ak)(c:Str)(C:ak):Prop where
 n:Z9 K c C
 q:PySem.W.excIn K C bmV "ValueError.__new__" = true
 r:L2.mroIn K C=some (.ref U::bmV)
 x:XCls K C
 cl:(PySem.W.clsIn K C).isSome=true
 v:PySem.W.kitOne K (.ref C) (.type "ValueError")=some true
noncomputable def tbX (tb:List (Str×Bool)):Str->Option Bool:=λx=>tb.lookup x
noncomputable def XF (F:List A->jx->R A)(d:qo):Ex:=λτ S=>match d τ S with
 | .ok as S1=>F as S1
 | _=>.no
section
variable {d:qo}
noncomputable def X8 (t:Te)(c d:Sm):Sm:=λτ S=>match t τ S with
 | .ok true S1=>c τ S1
 | .ok false S1=>d τ S1
 | _=>.no
end
noncomputable def To (i:Nat)(cs:List Str)(c d:Sm):Sm:=λτ S=>match c τ S with
 | .ex x S1=>if x∈cs then SJ i (d (τ.set i (.exn x)) S1)else .no
 | r=>r
noncomputable def Zx:Sm:=λ_ _=>.no
theorem Tv{X:Cx}{st:aE}:AS X st Zx:=PS.imp OT λD σ H ⟨ρ,S,τ,R,r,h⟩=>h.elim
theorem KY{K:au}{H:Hp}{a:ak}{ns:List Int}{F:List A->jx->R A}(hO:PX H)(hS:oX K H a (ns.map V.int))(h:∃S',F [.frz (ns.map .int)] []=.ok (.bl true) S'):qv K 1 F [.ref a] H (λv _=>v=.bl true) λ_ _ _=>False:=by
 obtain⟨S',h⟩:=h;have fz:Fz K H a (ns.map V.int):=by
  rcases hS with(h|⟨o,h⟩)|h
  ·rcases hO a with z|⟨ob,xs,z⟩
   ·rw[h]at z;cases z
   ·rw[h]at z;cases z
  ·exact .inl ⟨o,h⟩
  ·exact .inr h
 exact⟨rfl,[],[],_,_,S',⟨rfl,c9,λn a o h=>by simp at h⟩,.cons (.frz fz (qF ns)) .nil,h,λρ' H' v _ _ hv=>EY hv⟩
section
variable {P:aj}{w:ah}{K:au}{mg:Str->Option af}{base:aq}{f:ak}{fd:FuncData}{ps:List Str}{k n:Nat}
theorem Mv(h:n=ps.length):FnOk P w K mg base pQ k f fd ps (qv K n λ_ _=>.no):=
 ⟨λ_ _ _ _ z=>z.1.trans h,λ_ _ _ _ _ _ _ _ _ _ _ _ _ z=>by obtain⟨_,_,_,_,_,_,_,_,e,_⟩:=z;cases e⟩
end
theorem LM{P:List af->Prop}(h:∀a0,P [a0]):∀us:List af,us.length=1->P us
 | [_],_=>h _
theorem Dg{P:List af->Prop}(h:∀a0 a1,P [a0,a1]):∀us:List af,us.length=2->P us
 | [_,_],_=>h _ _
theorem UD{n:Nat}{us:List af}(h:us.length=n+1):∃a t,us=a::t/\t.length=n:=by
 cases us with
 | nil=>simp at h
 | cons a t=>exact⟨a,t,rfl,by simpa using h⟩
theorem Zc{P:List af->Prop}(h:∀a0 a1 a2,P [a0,a1,a2]):∀us:List af,us.length=3->P us:=λus e=>by
 obtain⟨a0,t0,rfl,e0⟩:=UD e;obtain⟨a1,t1,rfl,e1⟩:=UD e0;obtain⟨a2,t2,rfl,e2⟩:=UD e1
 cases dM.mp e2
 exact h _ _ _
end Am
namespace Am
open PySem L2
section
variable {α β:Type}{a b:A}{S S1:jx}{τ:List A}{x:α}
@[simp] theorem R.oS {f:α->jx->R β}:(R.ok x S).bind f=f x S:=rfl
@[simp] theorem R.IW {f:α->jx->R β}{c:Str}:(R.ex c S:R α).bind f=.ex c S:=rfl
@[simp] theorem R.kO {f:α->jx->R β}:(R.ok x S).rQ f=f x S:=rfl
@[simp] theorem RS.of_ok {f:α->jx->RS}:RS.of (R.ok x S) f=f x S:=rfl
@[simp] theorem RS.Sw {f:α->jx->RS}{c:Str}:RS.of (R.ex c S:R α) f=.ex c S:=rfl
@[simp] theorem j3 {f:β->R α}{y:β}:opt (some y) f=f y:=rfl
@[simp] theorem Ho {r:R α}:gd True r=r:=aM trivial
theorem mz{c:Prop}[Decidable c]{r:R α}(h:c):gd c r=r:=aM h
@[simp] theorem HX {i:Nat}:ju i τ S=bif (τ.getD i .unb).pH then .no else .ok (τ.getD i .unb) S:=by unfold ju;cases(τ.getD i .unb).pH<;>rfl
@[simp] theorem IL {xs:List A}:A.pH (.tup xs)=false:=rfl
@[simp] theorem Ik {xs:List A}:A.pH (.frz xs)=false:=rfl
@[simp] theorem IC {i:Int}:A.pH (.int i)=false:=rfl
@[simp] theorem NC {i:Bool}:A.pH (.bl i)=false:=rfl
@[simp] theorem IF {i:Str}:A.pH (.str i)=false:=rfl
@[simp] theorem IK {i:Nat}:A.pH (.ref i)=false:=rfl
@[simp] theorem Ji:A.pH .non=false:=rfl
@[simp] theorem G4 {i j:Int}:A.pH (.rng i j)=false:=rfl
@[simp] theorem IU {c:Str}:A.pH (.exn c)=false:=rfl
@[simp] theorem Tr:eC a τ S=.ok a S:=rfl
noncomputable def Yp (f:A->A->jx->R A)(cb:Ex)(τ:List A)(a:A)(S:jx):R A:=(cb τ S).bind (f a)
@[simp] theorem G1 {f:A->A->jx->R A}{cb:Ex}:Yp f cb τ a S=(cb τ S).bind (f a):=rfl
@[simp] theorem Je {f:A->A->jx->R A}{ca cb:Ex}:jJ f ca cb τ S=(ca τ S).bind (Yp f cb τ):=rfl
@[simp] theorem MA {f:A->jx->R A}{ca:Ex}:QC f ca τ S=(ca τ S).bind f:=rfl
@[simp] theorem Jr {c:Ex}:Ac c τ S=(c τ S).bind λa S1=>opt (a.Sj S1) λb=>.ok b S1:=rfl
noncomputable def aB (a:A)(S:jx):R Bool:=match a with
 | .bl b=>.ok b S
 | _=>.no
@[simp] theorem Tn {b:Bool}:aB (.bl b) S=.ok b S:=rfl
@[simp] theorem NQ {c:Ex}:A8 c τ S=(c τ S).bind aB:=rfl
@[simp] theorem Jy {c:Te}:U0 c τ S=(c τ S).bind λb S1=>.ok (!b) S1:=rfl
noncomputable def Wa (d:Te)(τ:List A)(b:Bool)(S:jx):R Bool:=match b with|true=>d τ S|false=>.ok false S
noncomputable def kOr (d:Te)(τ:List A)(b:Bool)(S:jx):R Bool:=match b with|true=>.ok true S|false=>d τ S
@[simp] theorem OL {d:Te}:Wa d τ true S=d τ S:=rfl
@[simp] theorem NW {d:Te}:Wa d τ false S=.ok false S:=rfl
@[simp] theorem SK {d:Te}:kOr d τ true S=.ok true S:=rfl
@[simp] theorem T4 {d:Te}:kOr d τ false S=d τ S:=rfl
@[simp] theorem Ii {c d:Te}:Qs c d τ S=(c τ S).bind (Wa d τ):=rfl
@[simp] theorem Nq {c d:Te}:Y9 c d τ S=(c τ S).bind (kOr d τ):=rfl
@[simp] theorem IE:vK τ S=.ok true S:=rfl
noncomputable def OY (d:Ex)(τ:List A)(a:A)(S:jx):R A:=match a with | .bl true=>d τ S | .bl false=>.ok (.bl false) S|_=>.no
noncomputable def T8 (d:Ex)(τ:List A)(a:A)(S:jx):R A:=match a with | .bl true=>.ok (.bl true) S | .bl false=>d τ S|_=>.no
@[simp] theorem GR {d:Ex}:OY d τ (.bl true) S=d τ S:=rfl
@[simp] theorem GX {d:Ex}:OY d τ (.bl false) S=.ok (.bl false) S:=rfl
@[simp] theorem Lb {d:Ex}:T8 d τ (.bl true) S=.ok (.bl true) S:=rfl
@[simp] theorem LA {d:Ex}:T8 d τ (.bl false) S=d τ S:=rfl
@[simp] theorem Jq {c d:Ex}:Fo c d τ S=(c τ S).bind (OY d τ):=by
 unfold Fo
 cases c τ S with
 | ok a S1=>cases a<;>first|rfl|(rename_i b;cases b<;>rfl)
 | _=>rfl
@[simp] theorem OP {c d:Ex}:eOr c d τ S=(c τ S).bind (T8 d τ):=by
 unfold eOr
 cases c τ S with
 | ok a S1=>cases a<;>first|rfl|(rename_i b;cases b<;>rfl)
 | _=>rfl
noncomputable def TQ (a:A)(S:jx):R A:=match a with | .bl b=>.ok (.bl !b) S|_=>.no
@[simp] theorem Ek {b:Bool}:TQ (.bl b) S=.ok (.bl !b) S:=rfl
@[simp] theorem IZ {c:Ex}:UI c τ S=(c τ S).bind TQ:=rfl
noncomputable def Vt (c d:Ex)(τ:List A)(b:Bool)(S:jx):R A:=match b with|true=>c τ S|false=>d τ S
@[simp] theorem MZ {c d:Ex}:Vt c d τ true S=c τ S:=rfl
@[simp] theorem Oe {c d:Ex}:Vt c d τ false S=d τ S:=rfl
@[simp] theorem LD {t:Te}{c d:Ex}:eIf t c d τ S=(t τ S).bind (Vt c d τ):=rfl
@[simp] theorem HY:jB τ S=.ok [] S:=rfl
noncomputable def GB (a:A)(as:List A)(S:jx):R (List A):=.ok (a::as) S
noncomputable def Ti (d:qo)(τ:List A)(a:A)(S:jx):R (List A):=(d τ S).bind (GB a)
@[simp] theorem A1 {as:List A}:GB a as S=.ok (a::as) S:=rfl
@[simp] theorem ER {d:qo}:Ti d τ a S=(d τ S).bind (GB a):=rfl
@[simp] theorem EW {c:Ex}{d:qo}:jt c d τ S=(c τ S).bind (Ti d τ):=rfl
@[simp] theorem ID {d:qo}:qM d τ S=(d τ S).bind λas S1=>gd (as.length<=sizeLine) (.ok (.tup as) S1):=rfl
@[simp] theorem HZ {d:qo}:vd d τ S=(d τ S).bind newL:=rfl
theorem kL{as:List A}(h:as.length<=16777216):newL as S=.ok (.ref S.length) (S++[.lst as]):=mz (by rw[dY];exact h)
@[simp] theorem DS {f:List A->jx->R A}{d:qo}:j6 f d τ S=(d τ S).bind f:=rfl
noncomputable def Z4 (r:R A):R A:=match r with
 | .ok a S=>.ok a S
 | _=>.no
@[simp] theorem LY:Z4 (.ok a S)=.ok a S:=rfl
noncomputable def kFn (f:List A->jx->R A)(as:List A)(S:jx):R A:=Z4 (f as S)
@[simp] theorem MJ {f:List A->jx->R A}{as:List A}:kFn f as S=Z4 (f as S):=rfl
@[simp] theorem NT {f:List A->jx->R A}{d:qo}:eFn f d τ S=(d τ S).bind (kFn f):=rfl
@[simp] theorem RZ {g:A->jx->R A}:f1 g [a] S=g a S:=rfl
@[simp] theorem TR {g:A->A->jx->R A}:f2 g [a,b] S=g a b S:=rfl
noncomputable def V5 (h:Pt)(τ:List A)(a:A)(l:Option Int)(S:jx):R A:=(h τ S).bind (YW a l)
noncomputable def kSl (l h:Pt)(τ:List A)(a:A)(S:jx):R A:=(l τ S).bind (V5 h τ a)
@[simp] theorem Jv {h:Pt}{l:Option Int}:V5 h τ a l S=(h τ S).bind (YW a l):=rfl
@[simp] theorem NL {l h:Pt}:kSl l h τ a S=(l τ S).bind (V5 h τ a):=rfl
@[simp] theorem LR {c:Ex}{l h:Pt}:eSl c l h τ S=(c τ S).bind (kSl l h τ):=rfl
@[simp] theorem E7:Xu τ S=.ok none S:=rfl
noncomputable def aPt (a:A)(S:jx):R (Option Int):=match a with
 | .int i=>.ok (some i) S
 | _=>.no
@[simp] theorem IY {i:Int}:aPt (.int i) S=.ok (some i) S:=rfl
@[simp] theorem DH {c:Ex}:XS c τ S=(c τ S).bind aPt:=rfl
noncomputable def Ue (f:A->List A->jx->R A)(d:qo)(τ:List A)(o:A)(S:jx)(_:List A):R A:=(d τ S).bind (f o)
noncomputable def kMe (f:A->List A->jx->R A)(d:qo)(τ:List A)(o:A)(S:jx):R A:=opt (o.lst? S) (Ue f d τ o S)
@[simp] theorem HM {f:A->List A->jx->R A}{d:qo}{xs:List A}:Ue f d τ a S xs=(d τ S).bind (f a):=rfl
@[simp] theorem Na {f:A->List A->jx->R A}{d:qo}:kMe f d τ a S=opt (a.lst? S) (Ue f d τ a S):=rfl
@[simp] theorem Lp {f:A->List A->jx->R A}{c:Ex}{d:qo}:YK f c d τ S=(c τ S).bind (kMe f d τ):=rfl
@[simp] theorem Hv {f:A->List A->jx->R A}{c:Ex}:Z6 f c τ S=(c τ S).bind λo S1=>opt (o.lst? S1) λ_=>f o [] S1:=rfl
@[simp] theorem lst?_ref {n:Nat}:A.lst? S (.ref n)=jw S n:=rfl
noncomputable def RS.seq (r:RS)(d:Sm):RS:=match r with
 | .nx τ S=>d τ S
 | r=>r
@[simp] theorem RS.Mz {d:Sm}:RS.seq (.nx τ S) d=d τ S:=rfl
@[simp] theorem RS.Lk {d:Sm}:RS.seq (.rt a S) d=.rt a S:=rfl
@[simp] theorem RS.Mx {d:Sm}{c:Str}:RS.seq (.ex c S) d=.ex c S:=rfl
@[simp] theorem RS.MF {d:Sm}:RS.seq (.bk τ S) d=.bk τ S:=rfl
@[simp] theorem RS.N7 {d:Sm}:RS.seq (.ct τ S) d=.ct τ S:=rfl
@[simp] theorem HJ {c d:Sm}:j0 c d τ S=RS.seq (c τ S) d:=by unfold j0 RS.seq;cases c τ S<;>rfl
@[simp] theorem GS:ur τ S=.nx τ S:=rfl
@[simp] theorem Av:Vb τ S=.bk τ S:=rfl
@[simp] theorem DJ:XA τ S=.ct τ S:=rfl
@[simp] theorem EB {e:Ex}:o5 e τ S=RS.of (e τ S) λ_ S1=>.nx τ S1:=rfl
@[simp] theorem G5 {e:Ex}:lK e τ S=RS.of (e τ S) .rt:=rfl
@[simp] theorem Eo:WN τ S=.rt .non S:=rfl
noncomputable def YY (c d:Sm)(τ:List A)(b:Bool)(S:jx):RS:=match b with|true=>c τ S|false=>d τ S
@[simp] theorem Sy {c d:Sm}:YY c d τ true S=c τ S:=rfl
@[simp] theorem Tc {c d:Sm}:YY c d τ false S=d τ S:=rfl
@[simp] theorem LW {t:Te}{c d:Sm}:Dh t c d τ S=RS.of (t τ S) (YY c d τ):=rfl
noncomputable def Xj (g:Tg)(τ:List A)(a:A)(S:jx):RS:=RS.of (g a τ S) .nx
@[simp] theorem Jd {g:Tg}:Xj g τ a S=RS.of (g a τ S) .nx:=rfl
@[simp] theorem HR {e:Ex}{g:Tg}:kg e g τ S=RS.of (e τ S) (Xj g τ):=rfl
@[simp] theorem Mq {i:Nat}:ku i a τ S=.ok (τ.set i a) S:=rfl
noncomputable def VE (a o:A)(τ:List A)(i:A)(S:jx):R (List A):=(E6 o i a S).bind λ_ S3=>.ok τ S3
noncomputable def kSb (ci:Ex)(τ:List A)(a o:A)(S:jx):R (List A):=(ci τ S).bind (VE a o τ)
@[simp] theorem IB {o i:A}:VE a o τ i S=(E6 o i a S).bind λ_ S3=>.ok τ S3:=rfl
@[simp] theorem OF {ci:Ex}{o:A}:kSb ci τ a o S=(ci τ S).bind (VE a o τ):=rfl
@[simp] theorem Nh {co ci:Ex}:Ws co ci a τ S=(co τ S).bind (kSb ci τ a):=rfl
@[simp] theorem Ot {n:Nat}{gs:Py}{xs:List A}:xG n gs (.tup xs) τ S=gd (xs.length=n) (gs xs τ S):=rfl
@[simp] theorem M7:xO [] τ S=.ok τ S:=rfl
@[simp] theorem Pf {g:Tg}{gs:Py}{as:List A}:oW g gs (a::as) τ S=(g a τ S).bind (gs as):=rfl
noncomputable def sPr (i j:Nat)(τ:List A)(as:List A)(S:jx):RS:=match as with
 | [a,b]=>.nx ((τ.set i a).set j b) S
 | _=>.no
@[simp] theorem La {i j:Nat}:sPr i j τ [a,b] S=.nx ((τ.set i a).set j b) S:=rfl
@[simp] theorem Hg {i j:Nat}{c:qo}:aai i j c τ S=RS.of (c τ S) (sPr i j τ):=rfl
noncomputable def M8 (i:Nat)(τ:List A)(c:A)(S:jx):RS:=.nx (τ.set i c) S
noncomputable def X3 (i:Nat)(f:A->A->jx->R A)(τ:List A)(b:A)(S:jx):RS:=.of (f (τ.getD i .unb) b S) (M8 i τ)
@[simp] theorem Dk {i:Nat}:M8 i τ a S=.nx (τ.set i a) S:=rfl
@[simp] theorem HE {i:Nat}{f:A->A->jx->R A}:X3 i f τ a S=.of (f (τ.getD i .unb) a S) (M8 i τ):=rfl
@[simp] theorem IQ {i:Nat}{f:A->A->jx->R A}{e:Ex}:YE i f e τ S=bif (τ.getD i .unb).pH then .no else .of (e τ S) (X3 i f τ):=by
 unfold YE;cases(τ.getD i .unb).pH<;>rfl
noncomputable def ZM (o i:A)(τ:List A)(z:A)(S:jx):RS:=.of (E6 o i z S) λ_ S6=>.nx τ S6
noncomputable def Zk (f:A->A->jx->R A)(o i x:A)(τ:List A)(y:A)(S:jx):RS:=.of (f x y S) (ZM o i τ)
noncomputable def ZZ (ce:Ex)(f:A->A->jx->R A)(o i:A)(τ:List A)(x:A)(S:jx):RS:=.of (ce τ S) (Zk f o i x τ)
noncomputable def ZO (ce:Ex)(f:A->A->jx->R A)(o:A)(τ:List A)(i:A)(S:jx):RS:=.of (QH o i S) (ZZ ce f o i τ)
noncomputable def kS1 (ci ce:Ex)(f:A->A->jx->R A)(τ:List A)(o:A)(S:jx):RS:=.of (ci τ S) (ZO ce f o τ)
@[simp] theorem Ng {o i:A}:ZM o i τ a S=.of (E6 o i a S) λ_ S6=>.nx τ S6:=rfl
@[simp] theorem Pq {f:A->A->jx->R A}{o i x:A}:Zk f o i x τ a S=.of (f x a S) (ZM o i τ):=rfl
@[simp] theorem K_ {ce:Ex}{f:A->A->jx->R A}{o i:A}:ZZ ce f o i τ a S=.of (ce τ S) (Zk f o i a τ):=rfl
@[simp] theorem MO {ce:Ex}{f:A->A->jx->R A}{o:A}:ZO ce f o τ a S=.of (QH o a S) (ZZ ce f o a τ):=rfl
@[simp] theorem OW {ci ce:Ex}{f:A->A->jx->R A}:kS1 ci ce f τ a S=.of (ci τ S) (ZO ce f a τ):=rfl
@[simp] theorem DC {co ci ce:Ex}{f:A->A->jx->R A}:Yr co ci ce f τ S=RS.of (co τ S) (kS1 ci ce f τ):=rfl
noncomputable def RS.end (r:RS):R A:=match r with
 | .rt a S'=>.ok a S'
 | .nx _ S'=>.ok .non S'
 | .ex c S'=>.ex c S'
 | _=>.no
@[simp] theorem RS.Mf:RS.end (.rt a S)=.ok a S:=rfl
@[simp] theorem RS.MQ:RS.end (.nx τ S)=.ok .non S:=rfl
@[simp] theorem RS.LJ {c:Str}:RS.end (.ex c S)=.ex c S:=rfl
theorem vC {N:List Str}{m:Sm}{as:List A}:lC N m as S=RS.end (m (as++List.replicate (N.length-as.length) .unb) S):=by
 unfold lC RS.end;cases m (as++List.replicate (N.length-as.length) .unb) S<;>rfl
@[simp] theorem MW {i j:Int}:qp (.int i) (.int j) S=.ok (.int (i+j)) S:=rfl
@[simp] theorem Ni {i j:Int}:aSub (.int i) (.int j) S=.ok (.int (i-j)) S:=rfl
@[simp] theorem Mm {i j:Int}:ZU (.int i) (.int j) S=.ok (.int (i+j)) S:=rfl
theorem O4{i j:Int}(h:-18446744073709551616<i)(h':i<18446744073709551616):xF (.int i) (.int j) S=.ok (.int (i * j)) S:=mz (by unfold ED;simp;left;exact⟨by lia,by lia⟩)
theorem mul_r{i j:Int}(h:-18446744073709551616<j)(h':j<18446744073709551616):xF (.int i) (.int j) S=.ok (.int (i * j)) S:=mz (by unfold ED;simp;right;exact⟨by lia,by lia⟩)
theorem L_{i j:Int}(h:0<j)(h':j<1073741824):HG (.int i) (.int j) S=.ok (.int (i / j)) S:=mz ⟨h,by lia⟩
theorem Ea{i j:Int}(h:0<j):CD (.int i) (.int j) S=.ok (.int (i % j)) S:=mz h
@[simp] theorem R0 {i j:Int}:WJ (.int i) (.int j) S=.ok (.bl (decide (i<j))) S:=rfl
@[simp] theorem Td {i j:Int}:Y7 (.int i) (.int j) S=.ok (.bl (decide (i<=j))) S:=rfl
@[simp] theorem Sv {i j:Int}:WD (.int i) (.int j) S=.ok (.bl (decide (j<i))) S:=rfl
@[simp] theorem SE {i j:Int}:ZH (.int i) (.int j) S=.ok (.bl (decide (j<=i))) S:=rfl
@[simp] theorem SI {i j:Bool}:TY false (.bl i) (.bl j) S=.ok (.bl (i == j)) S:=rfl
@[simp] theorem Ma {i j:Bool}:TY true (.bl i) (.bl j) S=.ok (.bl (i != j)) S:=rfl
@[simp] theorem Pc {i:Int}:BJ (.int i) S=.ok (.int (-i)) S:=rfl
@[simp] theorem Mw {xs:List A}:vI (.tup xs) S=.ok (.int xs.length) S:=rfl
@[simp] theorem OE {xs:List A}:vI (.frz xs) S=.ok (.int xs.length) S:=rfl
@[simp] theorem N5 {n:Nat}:vI (.ref n) S=opt (jw S n) λxs=>.ok (.int xs.length) S:=rfl
@[simp] theorem OX {i:Int}:UG (.int i) S=.ok (.int (if i<0 then -i else i)) S:=rfl
@[simp] theorem HH {i j:Int}:Xf (.int i) (.int j) S=.ok (.int (if j>i then j else i)) S:=rfl
@[simp] theorem Iq {i j:Int}:W6 (.int i) (.int j) S=.ok (.int (if j<i then j else i)) S:=rfl
@[simp] theorem Jc {i:Int}:SG (.int i) S=.ok (.int i) S:=rfl
@[simp] theorem GP {i:Bool}:SG (.bl i) S=.ok (.int (if i then 1 else 0)) S:=rfl
@[simp] theorem Au {i j:Int}:xX (.int i) (.int j) S=.ok (.rng i j) S:=rfl
@[simp] theorem SW {xs:List A}{i:Int}:uX (.tup xs) (.int i) S=opt (rP xs i) λx=>.ok x S:=rfl
@[simp] theorem Tu {xs:List A}{i:Int}:uX (.frz xs) (.int i) S=opt (rP xs i) λx=>.ok x S:=rfl
@[simp] theorem Tj {n:Nat}{i:Int}:uX (.ref n) (.int i) S=opt (jw S n) λxs=>opt (rP xs i) λx=>.ok x S:=rfl
@[simp] theorem Nx {n:Nat}{k:Int}:E6 (.ref n) (.int k) a S=opt (jw S n) λxs=>opt (A7 xs.length k) λj=>.ok () (S.set n (.lst (xs.set j a))):=rfl
@[simp] theorem LK {n:Nat}{i:Int}:QH (.ref n) (.int i) S=opt (jw S n) λxs=>gd (0<=i) (opt (xs[i.toNat]?) λx=>.ok x S):=rfl
theorem KJ{i j:Int}(h:zq i j):vn (.rng i j) S=.ok (.ref S.length) (S++[.lst ((kc i j).map .int)]):=mz h
theorem Gu{i j:Int}(h:zq i j):rF (.rng i j) S=.ok (.tup ((kc i j).map .int)) S:=mz h
@[simp] theorem Hy {xs:List A}:vn (.tup xs) S=.ok (.ref S.length) (S++[.lst xs]):=rfl
@[simp] theorem Ie {xs:List A}:vn (.frz xs) S=.ok (.ref S.length) (S++[.lst xs]):=rfl
@[simp] theorem Ir {n:Nat}:vn (.ref n) S=opt (jw S n) λxs=>.ok (.ref S.length) (S++[.lst xs]):=rfl
@[simp] theorem Ei {xs:List A}:rF (.tup xs) S=.ok (.tup xs) S:=rfl
@[simp] theorem Dm {n:Nat}:rF (.ref n) S=opt (jw S n) λxs=>.ok (.tup xs) S:=rfl
@[simp] theorem N9 {xs:List A}:Xs (.tup xs) S=.ok (.tup xs.reverse) S:=rfl
@[simp] theorem Oc {n:Nat}:Xs (.ref n) S=opt (jw S n) λxs=>.ok (.ref S.length) (S++[.lst xs.reverse]):=rfl
@[simp] theorem TF {n:Nat}{l u:Option Int}:YW (.ref n) l u S=opt (jw S n) λxs=>.ok (.ref S.length) (S++[.lst (PV xs l u)]):=rfl
@[simp] theorem zK {n:Nat}:xQ (.ref n) [a] S=opt (jw S n) λxs=>gd (xs.length<sizeLine) (.ok .non (S.set n (.lst (xs++[a])))):=rfl
@[simp] theorem Ms {b:Bool}:A.Sj (.bl b) S=some b:=rfl
@[simp] theorem Jj {i:Int}:A.Sj (.int i) S=some (i != 0):=rfl
theorem FN{o:O}:(S++[o])[S.length]?=some o:=by simp
@[simp] theorem jM {xs:List A}:jw (S++[.lst xs]) S.length=some xs:=vm FN
theorem ko{o:O}{n:Nat}(h:jw S n=some xs):jw (S++[o]) n=some xs:=by
 have h':=jL h;exact vm (by rw[bG (aN.mp h').1];exact h')
theorem ni{n:Nat}(h:jw S n=some xs):n<S.length:=(aN.mp (jL h)).1
theorem pT{n:Nat}(h:n<S.length):jw (S.set n (.lst ys)) n=some ys:=vm (bV h)
theorem pN{n:Nat}(h:n≠m):jw (S.set n (.lst ys)) m=jw S m:=by unfold jw;rw[cu h]
theorem F7{xs:List A}{i:Int}{k:Nat}{x:A}(h:i=k)(hx:xs[k]?=some x):rP xs i=some x:=by rw[h];exact P9 hx
theorem zc{n:Nat}{i:Int}{k:Nat}(h:i=k)(hk:k<n):A7 n i=some k:=by
 subst h;unfold A7;rw[aM (by lia),aM (by lia)];simp
end
structure Kp (b:Nat->Prop)(S S':jx):Prop where
 len:S.length<=S'.length
 obj:∀(n:Nat) (o:O),¬b n->S[n]?=some o->S'[n]?=some o
noncomputable abbrev lG:=Kp λ_=>False
theorem Kp.lst{b:Nat->Prop}(h:Kp b S S')(n:Nat)(xs:List A)(hb:¬b n)(e:jw S n=some xs):jw S' n=some xs:=vm (h.obj n _ hb (jL e))
theorem Kp.dct{b:Nat->Prop}(h:Kp b S S')(n:Nat)(xs:List (List Int×A))(hb:¬b n)(e:jQ S n=some xs):jQ S' n=some xs:=vh (h.obj n _ hb (m_ e))
theorem Kp.refl{b:Nat->Prop}:Kp b S S:=⟨aO _,λ_ _ _ h=>h⟩
theorem Kp.trans{b:Nat->Prop}(h:Kp b S S1)(h':Kp b S1 S2):Kp b S S2:=⟨bH h.len h'.len,λn xs hb e=>h'.obj n xs hb (h.obj n xs hb e)⟩
theorem CU{S:jx}{n:Nat}(e:S[n]?=some o):n<S.length:=(aN.mp e).1
theorem Kp.lay{b:Nat->Prop}{o:O}(h:Kp b S S1):Kp b S (S1++[o]):=⟨bH h.len (by simp),λn xs hb e=>by
 have:=h.obj n xs hb e;rw[bG (CU this)];exact this⟩
theorem Kp.BN{b:Nat->Prop}{S S1:jx}(h:Kp b S S1)(hm:b m\/S.length<=m):Kp b S (S1.set m o):=⟨by rw[bY];exact h.len,λn xs hb e=>by
 have:m≠n:=λz=>by
  subst z
  rcases hm with z|z
  ·exact hb z
  ·exact absurd (CU e) (by lia)
 rw[cu this];exact h.obj n xs hb e⟩
theorem Kp.set{b:Nat->Prop}{S S1:jx}(h:Kp b S S1)(hm:b m\/S.length<=m):Kp b S (S1.set m (.lst ys)):=h.BN hm
theorem Kp.mono{b c:Nat->Prop}{S:jx}(h:Kp b S S1)(hb:∀n,n<S.length->b n->c n):Kp c S S1:=⟨h.len,λn xs hc e=>h.obj n xs (λz=>hc (hb n (CU e) z)) e⟩
theorem Kp.of0{b:Nat->Prop}(h:lG S S1):Kp b S S1:=h.mono λ_ _ z=>z.elim
theorem Kp.old{b c:Nat->Prop}{S:jx}(h:Kp b S S1)(h':Kp c S1 S2)(hc:∀n,n<S.length->¬b n->¬c n):Kp b S S2:=⟨bH h.len h'.len,λn xs hb e=>h'.obj n xs (hc n (CU e) hb) (h.obj n xs hb e)⟩
theorem zQ{t:Te}{c:Sm}(Inv:List A->jx->Prop)(μ:List A->jx->Nat)(Post:RS->Prop)
  (h:∀τ S,Inv τ S->(∃S1,t τ S=.ok false S1/\Post (.nx τ S1))\/(∃S1,t τ S=.ok true S1/\((∃τ' S',c τ S1=.nx τ' S'/\Inv τ' S'/\μ τ' S'<μ τ S)\/(∃a S',c τ S1=.rt a S'/\Post (.rt a S'))))) :
  ∀n τ S,Inv τ S->μ τ S<n->Post (nv t c n τ S)
 | 0,_,_,_,hn=>absurd hn (eS _)
 | n+1,τ,S,hi,hn=>by
  unfold nv
  rcases h τ S hi with⟨S1,e,q⟩|⟨S1,e,⟨τ',S',e2,hi',hm⟩|⟨a,S',e2,q⟩⟩
  ·rw[e];exact q
  ·rw[e];show Post (match c τ S1 with
    | .nx τ' S'=>nv t c n τ' S'
    | .ct τ' S'=>nv t c n τ' S'
    | .bk τ' S'=>.nx τ' S'
    | r=>r)
   rw[e2];exact zQ Inv μ Post h n τ' S' hi' (by lia)
  ·rw[e];show Post (match c τ S1 with
    | .nx τ' S'=>nv t c n τ' S'
    | .ct τ' S'=>nv t c n τ' S'
    | .bk τ' S'=>.nx τ' S'
    | r=>r)
   rw[e2];exact q
theorem Cg{s:Src}{g:Tg}{c:Sm}(Inv:Nat->List A->jx->Prop)(Post:RS->Prop)
  (step:∀i τ S,i<s.k->Inv i τ S->∃x τ1 S1,s.get i S=some x/\g x τ S=.ok τ1 S1/\((∃τ' S',c τ1 S1=.nx τ' S'/\Inv (i+1) τ' S')\/(∃a S',c τ1 S1=.rt a S'/\Post (.rt a S'))))
  (fin:∀τ S,Inv s.k τ S->s.fin S=true/\Post (.nx τ S)):∀k i τ S,k+i=s.k->Inv i τ S->Post (qb s g c k i τ S)
 | 0,i,τ,S,hk,hi=>by
  have:i=s.k:=by lia
  subst this;obtain⟨hf,q⟩:=fin τ S hi;unfold qb;rw[aM hf];exact q
 | k+1,i,τ,S,hk,hi=>by
  obtain⟨x,τ1,S1,hx,hg,h⟩:=step i τ S (by lia) hi;unfold qb;rw[hx];show Post (RS.of (g x τ S) λτ1 S1=>match c τ1 S1 with
   | .nx τ' S'=>qb s g c k (i+1) τ' S'
   | .ct τ' S'=>qb s g c k (i+1) τ' S'
   | .bk τ' S'=>.nx τ' S'
   | r=>r)
  rw[hg];show Post (match c τ1 S1 with
   | .nx τ' S'=>qb s g c k (i+1) τ' S'
   | .ct τ' S'=>qb s g c k (i+1) τ' S'
   | .bk τ' S'=>.nx τ' S'
   | r=>r)
  rcases h with⟨τ',S',e,hi'⟩|⟨a,S',e,q⟩
  ·rw[e];exact Cg Inv Post step fin k (i+1) τ' S' (by lia) hi'
  ·rw[e];exact q
theorem BB{lo hi:Int}{c:Sm}{src:Ic}{τ:List A}(hs:src τ S=.ok (sP lo hi) S1)(Inv:Nat->List A->jx->Prop)(Post:RS->Prop)(h0:Inv 0 τ S1)
  (step:∀(i:Nat) τ S,(i:Int)<hi-lo->Inv i τ S->(∃τ' S',c (τ.set j (.int (lo+i))) S=.nx τ' S'/\Inv (i+1) τ' S')\/(∃a S',c (τ.set j (.int (lo+i))) S=.rt a S'/\Post (.rt a S')))
  (fin:∀τ S,Inv (hi-lo).toNat τ S->Post (.nx τ S)):Post (ly src (ku j) c τ S):=by
 unfold ly;rw[hs];refine Cg (s:=sP lo hi) Inv Post (λi τ S hi' h=>?_) (λτ S h=>⟨rfl,fin τ S h⟩) _ 0 τ S1 rfl h0;have hi':i<(hi-lo).toNat:=hi';exact⟨.int (lo+i),_,S,aM hi',rfl,step i τ S (by lia) h⟩
theorem Vi{xs:List A}{g:Tg}{c:Sm}{src:Ic}(hs:src τ S=.ok (EA xs) S1)(Inv:Nat->List A->jx->Prop)(Post:RS->Prop)(h0:Inv 0 τ S1)
  (step:∀(i:Nat) x τ S,xs[i]?=some x->Inv i τ S->∃τ1 S1,g (.tup [.int i,x]) τ S=.ok τ1 S1/\((∃τ' S',c τ1 S1=.nx τ' S'/\Inv (i+1) τ' S')\/(∃a S',c τ1 S1=.rt a S'/\Post (.rt a S'))))
  (fin:∀τ S,Inv xs.length τ S->Post (.nx τ S)):Post (ly src g c τ S):=by
 unfold ly;rw[hs];refine Cg (s:=EA xs) Inv Post (λi τ S hi' h=>?_) (λτ S h=>⟨rfl,fin τ S h⟩) _ 0 τ S1 rfl h0;have hi':i<xs.length:=hi';obtain⟨τ1,S1,e,q⟩:=step i xs[i] τ S (aF hi') h;exact⟨.tup [.int i,xs[i]],τ1,S1,by show(xs[i]?).map _=_;rw[aF hi'];rfl,e,q⟩
theorem rJ{n:Nat}{xs:List A}{g:Tg}{c:Sm}{src:Ic}(hs:src τ S=.ok (kN n xs.length) S1)(Inv:Nat->List A->jx->Prop)(Post:RS->Prop)(h0:Inv 0 τ S1)(hl:∀i τ S,Inv i τ S->jw S n=some xs)
  (step:∀(i:Nat) x τ S,xs[i]?=some x->Inv i τ S->∃τ1 S1,g x τ S=.ok τ1 S1/\((∃τ' S',c τ1 S1=.nx τ' S'/\Inv (i+1) τ' S')\/(∃a S',c τ1 S1=.rt a S'/\Post (.rt a S'))))
  (fin:∀τ S,Inv xs.length τ S->Post (.nx τ S)):Post (ly src g c τ S):=by
 unfold ly;rw[hs];refine Cg (s:=kN n xs.length) Inv Post (λi τ S hi' h=>?_) (λτ S h=>⟨?_,fin τ S h⟩) _ 0 τ S1 rfl h0
 ·have hi':i<xs.length:=hi';obtain⟨τ1,S1,e,q⟩:=step i xs[i] τ S (aF hi') h;exact⟨xs[i],τ1,S1,by show(jw S n).bind _=_;rw[hl i τ S h];exact aF hi',e,q⟩
 ·show(match jw S n with
   | some ys=>decide (ys.length<=xs.length)
   | none=>false)=true
  rw[hl _ τ S h];exact bq (aO _)
@[simp] theorem yT {c:Ex}{τ:List A}{S S1:jx}{j:Int}(h:c τ S=.ok (.int j) S1)(hb:bnd j):vQ c τ S=.ok (sP 0 j) S1:=by
 unfold vQ;rw[h];exact mz hb
theorem K6{c d:Ex}{i j:Int}(h:c τ S=.ok (.int i) S1)(h':d τ S1=.ok (.int j) S2)(hb:bnd i)(hb':bnd j):zz c d τ S=.ok (sP i j) S2:=by
 unfold zz;rw[h];show(d τ S1).bind _=_;rw[h'];exact mz ⟨hb,hb'⟩
theorem mP{c:Ex}{n:Nat}{xs:List A}(h:c τ S=.ok (.ref n) S1)(hl:jw S1 n=some xs):nO c τ S=.ok (kN n xs.length) S1:=by
 unfold nO;rw[h];show opt (jw S1 n) _=_;rw[hl];rfl
theorem Wu{c:Ex}(h:c τ S=.ok (.tup xs) S1):QD c τ S=.ok (EA xs) S1:=by unfold QD;rw[h];rfl
theorem vG{s:Src}{g:Tg}{t:Te}{e:Ex}{P:jx->Prop}{T:List A->Prop}(it:Nat->A)(p:Nat->Bool)(f:Nat->A)
  (hget:∀i S,i<s.k->P S->s.get i S=some (it i)) (hfin:∀S,P S->s.fin S=true)
  (step:∀i τ S,i<s.k->T τ->P S->∃τ1 S1 S2,g (it i) τ S=.ok τ1 S1/\t τ1 S1=.ok (p i) S2/\T τ1/\(p i=false->P S2)/\(p i=true->∃S3,e τ1 S2=.ok (f i) S3/\P S3)) :
  ∀k i τ S,k+i=s.k->T τ->P S->∃S',mU s g t e k i τ S=.ok (((List.range' i k).filter p).map f) S'/\P S'
 | 0,i,τ,S,hk,hT,hP=>⟨S,by unfold mU;rw[aM (hfin S hP)];rfl,hP⟩
 | k+1,i,τ,S,hk,hT,hP=>by
  obtain⟨τ1,S1,S2,hg,ht,hT1,hF,hTr⟩:=step i τ S (by lia) hT hP;unfold mU;rw[hget i S (by lia) hP,j3,hg,R.kO,ht,R.kO,List.range'_succ,cQ]
  cases hp:p i with
  | false=>
   obtain⟨S',h1,h2⟩:=vG it p f hget hfin step k (i+1) τ1 S2 (by lia) hT1 (hF hp);exact⟨S',by simpa using h1,h2⟩
  | true=>
   obtain⟨S3,he,hP3⟩:=hTr hp;obtain⟨S',h1,h2⟩:=vG it p f hget hfin step k (i+1) τ1 S3 (by lia) hT1 hP3;refine⟨S',?_,h2⟩;show(e τ1 S2).rQ _=_;rw[he,R.kO,h1];rfl
theorem Bk{s:Src}{src:Ic}{t:Te}{e:Ex}{S1:jx}(hs:src τ S=.ok s S1)(it:Nat->A)(p:Nat->Bool)(f:Nat->A)(hget:∀i,i<s.k->s.get i S1=some (it i))(hfin:s.fin S1=true)
  (ht:∀i,i<s.k->t (it i::lB cap τ) S1=.ok (p i) S1) (he:∀i,i<s.k->p i=true->e (it i::lB cap τ) S1=.ok (f i) S1) (hl:s.k<=16777216) :
  kP (none::cap) src (ku 0) t e τ S=.ok (.ref S1.length) (S1++[.lst (((List.range s.k).filter p).map f)]):=by
 unfold kP;rw[hs,R.oS];obtain⟨S',h1,h2⟩:=vG (s:=s) (g:=ku 0) (t:=t) (e:=e) (P:=λS=>S=S1) (T:=λτ'=>∃y,τ'=y::lB cap τ) it p f (λi S hi h=>by subst h;exact hget i hi) (λS h=>by subst h;exact hfin)
  (λi τ' S hi ⟨y,hy⟩ h=>by
   subst h hy;exact⟨it i::lB cap τ,S,S,rfl,ht i hi,⟨_,rfl⟩,λ_=>rfl,λhp=>⟨S,he i hi hp,rfl⟩⟩) s.k 0 (lB (none::cap) τ) S1 rfl ⟨_,rfl⟩ rfl
 subst h2;rw[h1,R.kO,fV];refine kL ?_;rw[aK];refine bH (dw _ _) ?_;rw[List.length_range'];exact hl
theorem qB{α β:Type}(xs:List α)(p:α->Bool)(f:α->β):∀(d:α) ,(((List.range xs.length).filter λi=>p (xs.getD i d)).map λi=>f (xs.getD i d))=(xs.filter p).map f:=by
 intro d
 induction xs with
 | nil=>rfl
 | cons x xs ih=>
  rw[bz,gI,cQ,cQ];have e:((List.filter (λi=>p ((x::xs).getD i d)) (List.map Nat.succ (List.range xs.length))).map λi=>f ((x::xs).getD i d))=(xs.filter p).map f:=by
   rw[ji,bh];rw[<- ih];rfl
  show List.map _ (if p x=true then _ else _)=List.map f (if p x=true then _ else _);by_cases hp:p x=true
  ·rw[aM hp,aM hp,bC,bC,e];rfl
  ·rw[aJ hp,aJ hp,e]
theorem ML{lo hi:Int}{src:Ic}{t:Te}{e:Ex}{S1:jx}(hs:src τ S=.ok (sP lo hi) S1)(p:Int->Bool)(f:Int->A)
  (ht:∀k,lo<=k->k<hi->t (.int k::lB cap τ) S1=.ok (p k) S1) (he:∀k,lo<=k->k<hi->p k=true->e (.int k::lB cap τ) S1=.ok (f k) S1) (hl:(hi-lo).toNat<=16777216) :
  kP (none::cap) src (ku 0) t e τ S=.ok (.ref S1.length) (S1++[.lst (((kc lo hi).filter p).map f)]):=by
 rw[Bk hs (λi=>.int (lo+i)) (λi=>p (lo+i)) (λi=>f (lo+i)) (λi hi'=>aM hi') rfl (λi hi'=>ht _ (by lia) (by have:i<(hi-lo).toNat:=hi';lia)) (λi hi'=>he _ (by lia) (by have:i<(hi-lo).toNat:=hi';lia)) hl];unfold kc;rw[ji,bh];rfl
@[simp] theorem L0 {cap:List (Option Nat)}{τ:List A}:lB (none::cap) τ=.unb::lB cap τ:=rfl
@[simp] theorem Mn {cap:List (Option Nat)}{τ:List A}{j:Nat}:lB (some j::cap) τ=τ.getD j .unb::lB cap τ:=rfl
@[simp] theorem Ey {τ:List A}:lB [] τ=[]:=rfl
theorem AO{x:A}:rP (x::xs) 0=some x:=F7 (k:=0) rfl rfl
theorem Nt{x:A}:rP (x::y::xs) 1=some y:=F7 (k:=1) rfl rfl
theorem Cp{ns:List Int}{i:Int}{k:Nat}{x:Int}(h:i=k)(hx:ns[k]?=some x):rP (ns.map A.int) i=some (.int x):=F7 h (by rw[aP,hx];rfl)
theorem zE{j:Int}(h:-4611686018427387904<=j)(h':j<4611686018427387904):bnd j:=⟨by lia,by lia⟩
theorem DR{i j:Int}(h1:-1000000<=i)(h2:i<=1000000)(h3:-1000000<=j)(h4:j<=1000000)(h5:j-i<=1000):zq i j:=⟨⟨by lia,by lia,by lia,by lia⟩,by lia⟩
theorem ints_map:∀(ns:List Int),A.ints (ns.map .int)=some ns
 | []=>rfl
 | n::ns=>by show(A.ints (ns.map .int)).map (n::·)=_;rw[ints_map ns];rfl
theorem vW{n:Nat}:∀(xs ys:List Int),qf (qU S (n+1)) (xs.map .int) (ys.map .int)=some (decide (xs=ys))
 | [],[]=>rfl
 | [],_::_=>rfl
 | _::_,[]=>rfl
 | x::xs,y::ys=>by
  show(qU S (n+1) (.int x) (.int y)).bind _=_;show Option.bind (some (x == y)) _=_;show Option.map _ (qf (qU S (n+1)) (xs.map .int) (ys.map .int))=_;rw[vW xs ys];show some (x == y && decide (xs=ys))=_;by_cases h1:x=y<;>by_cases h2:xs=ys<;>simp[h1,h2]
@[simp] theorem R9 {S:jx}{x y:Bool}:vR false (.bl x) (.bl y) S=.ok (.bl (x == y)) S:=rfl
@[simp] theorem Sl {S:jx}{x y:Bool}:vR true (.bl x) (.bl y) S=.ok (.bl (!(x == y))) S:=rfl
@[simp] theorem T7 {S:jx}{x y:Int}:vR false (.int x) (.int y) S=.ok (.bl (x == y)) S:=rfl
@[simp] theorem Tt {S:jx}{x y:Int}:vR true (.int x) (.int y) S=.ok (.bl (!(x == y))) S:=rfl
@[simp] theorem Ju {S:jx}:TY false .non .non S=.ok (.bl true) S:=rfl
@[simp] theorem Im {S:jx}{xs:List A}:TY false (.tup xs) .non S=.ok (.bl false) S:=rfl
@[simp] theorem JC {S:jx}{n:Nat}:TY false (.ref n) .non S=.ok (.bl false) S:=rfl
@[simp] theorem Et {S:jx}:TY true .non .non S=.ok (.bl false) S:=rfl
@[simp] theorem DE {S:jx}{xs:List A}:TY true (.tup xs) .non S=.ok (.bl true) S:=rfl
@[simp] theorem Du {S:jx}{n:Nat}:TY true (.ref n) .non S=.ok (.bl true) S:=rfl
@[simp] theorem GQ {S:jx}{x:A}{c:String}:Q7 x (.ty c) S=opt (x.kd S) λk=>opt (KD k c) λb=>.ok (.bl b) S:=rfl
@[simp] theorem Th {S:jx}{b:Bool}:A.kd (.bl b) S=some .bl:=rfl
@[simp] theorem M3 {S:jx}{b:Int}:A.kd (.int b) S=some .int:=rfl
@[simp] theorem Pb {S:jx}{b:List A}:A.kd (.tup b) S=some .tup:=rfl
@[simp] theorem LG {S:jx}:A.kd .non S=some .non:=rfl
@[simp] theorem Nb {S:jx}{b:Str}:A.kd (.str b) S=some .str:=rfl
@[simp] theorem NK {S:jx}{n:Nat}:A.kd (.ref n) S=(jw S n).map λ_=>.lst:=rfl
@[simp] theorem K4 {S:jx}:newL [] S=.ok (.ref S.length) (S++[.lst []]):=kL (by simp)
@[simp] theorem OC {S:jx}{x0:A}:newL [x0] S=.ok (.ref S.length) (S++[.lst [x0]]):=kL (by simp)
@[simp] theorem Ly {S:jx}{x0 x1:A}:newL [x0,x1] S=.ok (.ref S.length) (S++[.lst [x0,x1]]):=kL (by simp)
@[simp] theorem LH {S:jx}{x0 x1 x2:A}:newL [x0,x1,x2] S=.ok (.ref S.length) (S++[.lst [x0,x1,x2]]):=kL (by simp)
@[simp] theorem Mu {S:jx}{x0 x1 x2 x3:A}:newL [x0,x1,x2,x3] S=.ok (.ref S.length) (S++[.lst [x0,x1,x2,x3]]):=kL (by simp)
@[simp] theorem MT {S:jx}{x0 x1 x2 x3 x4:A}:newL [x0,x1,x2,x3,x4] S=.ok (.ref S.length) (S++[.lst [x0,x1,x2,x3,x4]]):=kL (by simp)
@[simp] theorem Pa {S:jx}{x0 x1 x2 x3 x4 x5:A}:newL [x0,x1,x2,x3,x4,x5] S=.ok (.ref S.length) (S++[.lst [x0,x1,x2,x3,x4,x5]]):=kL (by simp)
@[simp] theorem Pw {S:jx}{x0 x1 x2 x3 x4 x5 x6:A}:newL [x0,x1,x2,x3,x4,x5,x6] S=.ok (.ref S.length) (S++[.lst [x0,x1,x2,x3,x4,x5,x6]]):=kL (by simp)
@[simp] theorem MI {S:jx}{x0 x1 x2 x3 x4 x5 x6 x7:A}:newL [x0,x1,x2,x3,x4,x5,x6,x7] S=.ok (.ref S.length) (S++[.lst [x0,x1,x2,x3,x4,x5,x6,x7]]):=kL (by simp)
@[simp] theorem O_ {S:jx}{x0 x1 x2 x3 x4 x5 x6 x7 x8:A}:newL [x0,x1,x2,x3,x4,x5,x6,x7,x8] S=.ok (.ref S.length) (S++[.lst [x0,x1,x2,x3,x4,x5,x6,x7,x8]]):=kL (by simp)
@[simp] theorem Hi {S:jx}{x0 x1 x2 x3 x4 x5 x6 x7 x8 x9:A}:newL [x0,x1,x2,x3,x4,x5,x6,x7,x8,x9] S=.ok (.ref S.length) (S++[.lst [x0,x1,x2,x3,x4,x5,x6,x7,x8,x9]]):=kL (by simp)
theorem vZ{α:Type}{n:Nat}{r:R α}(h:n<=16777216):gd (n<=sizeLine) r=r:=mz (by rw[dY];exact h)
theorem xD{α:Type}{n:Nat}{r:R α}(h:n<16777216):gd (n<sizeLine) r=r:=mz (by rw[dY];exact h)
theorem R_ {x:A}{xs:List A}:(x::xs).getD 0 .unb=x:=rfl
theorem Sa {x:A}{xs:List A}{n:Nat}:(x::xs).getD (n+1) .unb=xs.getD n .unb:=rfl
theorem WQ {x y:A}{xs:List A}:(x::xs).set 0 y=y::xs:=rfl
theorem sets {x y:A}{xs:List A}{n:Nat}:(x::xs).set (n+1) y=x::xs.set n y:=rfl
theorem rep0 {x:A}:List.replicate 0 x=[]:=rfl
theorem reps {x:A}{n:Nat}:List.replicate (n+1) x=x::List.replicate n x:=rfl
theorem YO {x:A}{xs ys:List A}:(x::xs)++ys=x::(xs++ys):=rfl
theorem XX {ys:List A}:[]++ys=ys:=rfl
theorem XR{S:jx}{n:Nat}{xs ys:List A}(h:jw S n=some xs)(h':jw S m=some ys)(hl:xs.length+ys.length<=16777216):qp (.ref n) (.ref m) S=.ok (.ref S.length) (S++[.lst (xs++ys)]):=by
 show opt (jw S n) _=_;rw[h,j3,h',j3];exact mz (by rw[dY];exact hl)
theorem j9:type_of% (anI @R.oS (anI @R.IW (anI @R.kO (anI @RS.of_ok (anI @RS.Sw (anI @j3 (anI @Ho (anI @HX (anI @IL (anI @Ik (anI @IC (anI @NC (anI @IF (anI @IK (anI @Ji (anI @G4 (anI @IU (anI @Tr (anI @Je (anI @MA (anI @Jr (anI @Tn (anI @NQ (anI @Jy (anI @Ii (anI @Nq (anI @IE (anI @GR (anI @GX (anI @Lb (anI @LA (anI @Jq (anI @OP (anI @Ek (anI @IZ (anI @LD (anI @HY (anI @EW (anI @ID (anI @HZ (anI @DS (anI @LY (anI @NT (anI @RZ (anI @TR (anI @LR (anI @E7 (anI @IY (anI @DH (anI @Lp (anI @Hv (anI @lst?_ref (anI @RS.Mz (anI @RS.Lk (anI @RS.Mx (anI @RS.MF (anI @RS.N7 (anI @HJ (anI @GS (anI @Av (anI @DJ (anI @EB (anI @G5 (anI @Eo (anI @LW (anI @HR (anI @Mq (anI @Nh (anI @Ot (anI @M7 (anI @Pf (anI @La (anI @Hg (anI @IQ (anI @DC (anI @RS.Mf (anI @RS.MQ (anI @RS.LJ (anI @MW (anI @Ni (anI @Mm (anI @R0 (anI @Td (anI @Sv (anI @SE (anI @SI (anI @Ma (anI @Pc (anI @Mw (anI @OE (anI @N5 (anI @OX (anI @HH (anI @Iq (anI @Jc (anI @GP (anI @Au (anI @SW (anI @Tu (anI @Tj (anI @Nx (anI @LK (anI @Hy (anI @Ie (anI @Ir (anI @Ei (anI @Dm (anI @N9 (anI @Oc (anI @TF (anI @zK (anI @Ms (anI @Jj (anI @jM (anI @L0 (anI @Mn (anI @Ey (anI @R9 (anI @Sl (anI @T7 (anI @Tt (anI @Ju (anI @Im (anI @JC (anI @Et (anI @DE (anI @Du (anI @GQ (anI @Th (anI @M3 (anI @Pb (anI @LG (anI @Nb (anI @NK (anI @K4 (anI @OC (anI @Ly (anI @LH (anI @Mu (anI @MT (anI @Pa (anI @Pw (anI @MI (anI @O_ (anI @Hi (anI @R_ (anI @Sa (anI @WQ (anI @sets (anI @rep0 (anI @reps (anI @YO (anI @XX (anI @vC (anI @G1 (anI @OL (anI @NW (anI @SK (anI @T4 (anI @MZ (anI @Oe (anI @A1 (anI @ER (anI @MJ (anI @Jv (anI @NL (anI @HM (anI @Na (anI @Sy (anI @Tc (anI @Jd (anI @IB (anI @OF (anI @Dk (anI @HE (anI @OW (anI @MO (anI @K_ (anI @Pq (@Ng)))))))))))))))))))))))))))))))))))))))))))))))))))))))))))))))))))))))))))))))))))))))))))))))))))))))))))))))))))))))))))))))))))))))))))))))))))))))))))))))))))))))))))))))))))):=anI @R.oS (anI @R.IW (anI @R.kO (anI @RS.of_ok (anI @RS.Sw (anI @j3 (anI @Ho (anI @HX (anI @IL (anI @Ik (anI @IC (anI @NC (anI @IF (anI @IK (anI @Ji (anI @G4 (anI @IU (anI @Tr (anI @Je (anI @MA (anI @Jr (anI @Tn (anI @NQ (anI @Jy (anI @Ii (anI @Nq (anI @IE (anI @GR (anI @GX (anI @Lb (anI @LA (anI @Jq (anI @OP (anI @Ek (anI @IZ (anI @LD (anI @HY (anI @EW (anI @ID (anI @HZ (anI @DS (anI @LY (anI @NT (anI @RZ (anI @TR (anI @LR (anI @E7 (anI @IY (anI @DH (anI @Lp (anI @Hv (anI @lst?_ref (anI @RS.Mz (anI @RS.Lk (anI @RS.Mx (anI @RS.MF (anI @RS.N7 (anI @HJ (anI @GS (anI @Av (anI @DJ (anI @EB (anI @G5 (anI @Eo (anI @LW (anI @HR (anI @Mq (anI @Nh (anI @Ot (anI @M7 (anI @Pf (anI @La (anI @Hg (anI @IQ (anI @DC (anI @RS.Mf (anI @RS.MQ (anI @RS.LJ (anI @MW (anI @Ni (anI @Mm (anI @R0 (anI @Td (anI @Sv (anI @SE (anI @SI (anI @Ma (anI @Pc (anI @Mw (anI @OE (anI @N5 (anI @OX (anI @HH (anI @Iq (anI @Jc (anI @GP (anI @Au (anI @SW (anI @Tu (anI @Tj (anI @Nx (anI @LK (anI @Hy (anI @Ie (anI @Ir (anI @Ei (anI @Dm (anI @N9 (anI @Oc (anI @TF (anI @zK (anI @Ms (anI @Jj (anI @jM (anI @L0 (anI @Mn (anI @Ey (anI @R9 (anI @Sl (anI @T7 (anI @Tt (anI @Ju (anI @Im (anI @JC (anI @Et (anI @DE (anI @Du (anI @GQ (anI @Th (anI @M3 (anI @Pb (anI @LG (anI @Nb (anI @NK (anI @K4 (anI @OC (anI @Ly (anI @LH (anI @Mu (anI @MT (anI @Pa (anI @Pw (anI @MI (anI @O_ (anI @Hi (anI @R_ (anI @Sa (anI @WQ (anI @sets (anI @rep0 (anI @reps (anI @YO (anI @XX (anI @vC (anI @G1 (anI @OL (anI @NW (anI @SK (anI @T4 (anI @MZ (anI @Oe (anI @A1 (anI @ER (anI @MJ (anI @Jv (anI @NL (anI @HM (anI @Na (anI @Sy (anI @Tc (anI @Jd (anI @IB (anI @OF (anI @Dk (anI @HE (anI @OW (anI @MO (anI @K_ (anI @Pq (@Ng)))))))))))))))))))))))))))))))))))))))))))))))))))))))))))))))))))))))))))))))))))))))))))))))))))))))))))))))))))))))))))))))))))))))))))))))))))))))))))))))))))))))))))))))))))
theorem bools:(∀b:Bool,cond false b b=b)/\(∀(α:Type) (x y:α),cond false x y=y)/\(∀(α:Type) (x y:α),cond true x y=x):=⟨λ_=>rfl,λ_ _ _=>rfl,λ_ _ _=>rfl⟩
theorem l6:(∀(x:Str) (xs:List Str),(x::xs).length=xs.length+1)/\([]:List Str).length=0/\(∀(x:A) (xs:List A),(x::xs).length=xs.length+1)/\([]:List A).length=0:=⟨λ_ _=>rfl,rfl,λ_ _=>rfl,rfl⟩
section
variable {τ:List A}{S:jx}
theorem HP {f:List A->jx->R A}{d:qo}:Zj f d τ S=(d τ S).bind f:=rfl
noncomputable def kRz (c:Str):Unit->jx->RS:=λ_ S1=>.ex c S1
theorem Pe {c:Str}{u:Unit}:kRz c u S=.ex c S:=rfl
theorem A5 {c:Str}{ps:List (Str ⊕ Ex)}:Uy c ps τ S=RS.of (RP ps τ S) (kRz c):=rfl
theorem HF:RP [] τ S=.ok () S:=rfl
theorem Hj {x:Str}{ps:List (Str ⊕ Ex)}:RP (.inl x::ps) τ S=RP ps τ S:=rfl
noncomputable def kFs (ps:List (Str ⊕ Ex))(τ:List A):A->jx->R Unit:=λv S1=>match v with
 | .int i=>gd (i.natAbs.log2<64) (RP ps τ S1)
 | _=>.no
theorem IJ {e:Ex}{ps:List (Str ⊕ Ex)}:RP (.inr e::ps) τ S=(e τ S).bind (kFs ps τ):=rfl
noncomputable def RS.try (i n:Nat)(cs:List Str)(d:Sm):RS->RS
 | .ex x S1=>if x∈cs then SJ i (d ((List.replicate n .unb).set i (.exn x)) S1)else .no
 | r=>r
theorem G3 {i n:Nat}{cs:List Str}{c d:Sm}:X_ i n cs c d τ S=RS.try i n cs d (c τ S):=by
 unfold X_ RS.try;cases c τ S<;>rfl
theorem MG {i n:Nat}{cs:List Str}{d:Sm}:RS.try i n cs d (.nx τ S)=.nx τ S:=rfl
theorem MC {i n:Nat}{cs:List Str}{d:Sm}{a:A}:RS.try i n cs d (.rt a S)=.rt a S:=rfl
theorem Lr {i n:Nat}{x:Str}{cs:List Str}{d:Sm}:RS.try i n (x::cs) d (.ex x S)=SJ i (d ((List.replicate n .unb).set i (.exn x)) S):=aM (.head _)
theorem Nk {i:Nat}{a:A}:SJ i (.rt a S)=.rt a S:=rfl
theorem Nm {i:Nat}:SJ i (.nx τ S)=.nx (τ.set i .unb) S:=rfl
noncomputable def Yz (f:Str->Option Bool):A->jx->R A:=λv S1=>match v with
 | .exn x=>opt (f x) λb=>.ok (.bl b) S1
 | _=>.no
theorem Js {f:Str->Option Bool}{c:Ex}:aaj f c τ S=(c τ S).bind (Yz f):=rfl
theorem O5 {x:Str}{b:Bool}{tb:List (Str×Bool)}:Yz (tbX ((x,b)::tb)) (.exn x) S=.ok (.bl b) S:=by
 show opt (List.lookup x ((x,b)::tb)) _=_;rw[f7,bK];rfl
noncomputable def R.NP {α β:Type}(r:R α)(f:α->jx->R β):R β:=match r with
 | .ok a S=>f a S
 | _=>.no
theorem Ej {α β:Type}{a:α}{f:α->jx->R β}:R.NP (.ok a S) f=f a S:=rfl
theorem Hl {f:List A->jx->R A}{d:qo}:XF f d τ S=R.NP (d τ S) f:=by unfold XF R.NP;cases d τ S<;>rfl
noncomputable def RS.ofK {α:Type}(r:R α)(f:α->jx->RS):RS:=match r with
 | .ok a S=>f a S
 | _=>.no
theorem OD {α:Type}{a:α}{f:α->jx->RS}:RS.ofK (.ok a S) f=f a S:=rfl
theorem Hw {t:Te}{c d:Sm}:X8 t c d τ S=RS.ofK (t τ S) (YY c d τ):=by
 unfold X8 RS.ofK
 cases t τ S with
 | ok b S1=>cases b<;>rfl
 | ex _ _=>rfl
 | no=>rfl
noncomputable def RS.O7 (i:Nat)(cs:List Str)(d:Sm)(τ:List A):RS->RS
 | .ex x S1=>if x∈cs then SJ i (d (τ.set i (.exn x)) S1)else .no
 | r=>r
theorem Ez {i:Nat}{cs:List Str}{c d:Sm}:To i cs c d τ S=RS.O7 i cs d τ (c τ S):=by
 unfold To RS.O7;cases c τ S<;>rfl
theorem JA {i:Nat}{cs:List Str}{d:Sm}{τ':List A}:RS.O7 i cs d τ (.nx τ' S)=.nx τ' S:=rfl
theorem IX {i:Nat}{cs:List Str}{d:Sm}{a:A}:RS.O7 i cs d τ (.rt a S)=.rt a S:=rfl
theorem G9 {i:Nat}{x:Str}{cs:List Str}{d:Sm}:RS.O7 i (x::cs) d τ (.ex x S)=SJ i (d (τ.set i (.exn x)) S):=aM (.head _)
theorem D9:A.YS []=some []:=rfl
theorem Ba {b:Bool}{xs:List A}:A.YS (.bl b::xs)=(A.YS xs).map (b::·):=rfl
end
theorem rR:type_of% (anI @HP (anI @A5 (anI @Pe (anI @HF (anI @Hj (anI @IJ (anI @G3 (anI @MG (anI @MC (anI @Lr (anI @Nk (anI @Nm (anI @Js (anI @O5 (anI @D9 (anI @Ba (anI @Ej (anI @Hl (anI @OD (anI @Hw (anI @Ez (anI @JA (anI @IX (anI @G9 (trivial))))))))))))))))))))))))):=anI @HP (anI @A5 (anI @Pe (anI @HF (anI @Hj (anI @IJ (anI @G3 (anI @MG (anI @MC (anI @Lr (anI @Nk (anI @Nm (anI @Js (anI @O5 (anI @D9 (anI @Ba (anI @Ej (anI @Hl (anI @OD (anI @Hw (anI @Ez (anI @JA (anI @IX (anI @G9 (trivial))))))))))))))))))))))))
end Am
namespace L2
open PySem PySem.Spec PyProof.Rows
section
variable {P:aj}{w:ah}{A:az}{E:af->aA->Prop}{s:aA}{it d:ak}{i ep:Nat}{es:Array DictEntry}{o:Obj}
theorem U5{Q:Option af->aA->Prop}(hi:s.heap.IsKeyIter it d i es.size ep)(ho:s.heap.get? d=some o)(hd:o.data=.dict es ep)(lt:i<es.size)
  (q:∀h',h'.IsKeyIter it d (i+1) es.size ep->Heap.SameBut it s.heap h'->Q (some es[i].key) { s with heap:=h' }):wpAny (model P w) A (pyNext (.ref it)) Q E s:=by
 have ty:=hi.typeIs;obtain⟨oi,hoi,hci,hdi⟩:=id hi;have own:Builtin.Dict_items.ownsTuple "dict_keyiterator" = false:=by decide
 have nn:¬((Value.ref d == Value.none)=true):=bF;have n0:¬((i:Int)<0):=by lia
 unfold pyNext;refine aH (iy (dh (name:=Str.ofString "__next__") ty cK (cO cK ty gq ?_ (gf _))));refine aH (aS (aH (aH ?_)))
 first
  | refine aH (dG ty (aS (aH (iW hoi hdi ?_))))
  | refine aH (eZ ty (aS (aH (iW hoi hdi ?_))))
 simp only[own,bW,bu];show wpAny (model P w) _ (if (Value.ref d == Value.none)=true then _ else _) _ _ s;rw[aJ nn];refine aH (aS (aH (i6 ho hd ?_)));rw[aJ (show ¬_ by simp)];refine aH (aS (aH (wpAny_dictEpoch ho hd ?_)));rw[aJ (show ¬_ by simp)];refine aS ?_;simp only[n0,bW,c7,Array.getElem?_eq_getElem lt];refine aH ?_
 first
  | refine aH (dG ty (aS (aH (h_ ty ?_))))
  | refine aH (eZ ty (aS (aH (h_ ty ?_))))
 show wpAny (model P w) _ (setField (.ref it) 1 (rawInt ((i:Int)+1)) >>= _) _ _ s;refine aH (gM hoi hdi (show _ by simp) ?_);have hi':(s.heap.update it (Obj.mapFields λfs=>fs.setIfInBounds 1 (rawInt ((i:Int)+1)))).IsKeyIter it d (i+1) es.size ep:=
  ⟨_,fO _ hoi (gZ (eB hdi _)),(iY ..).trans hci,by
   rw[eB hdi];simp[rawInt]⟩
 have ty':Shared.TypeIs { s with heap:=s.heap.update it (Obj.mapFields λfs=>fs.setIfInBounds 1 (rawInt ((i:Int)+1)))} (.ref it) "dict_keyiterator" := Heap.IsKeyIter.typeIs (s:={ s with heap:=_ }) hi';refine aH (dB (aH (h_ ty' ?_)));show wpAny (model P w) _ (pure es[i].key) _ _ _;exact aS (aS ⟨_,rfl,aS (q _ hi' (fq ..))⟩)
theorem Qu{Q:Option af->aA->Prop}(hh:A.handled=none)(hi:s.heap.IsKeyIter it d i es.size ep)(ho:s.heap.get? d=some o)(hd:o.data=.dict es ep)(ge:es.size<=i)
  (q:∀h',Heap.ExtBut it s.heap h'->Q none { s with heap:=h' }):wpAny (model P w) A (pyNext (.ref it)) Q E s:=by
 have ty:=hi.typeIs;obtain⟨oi,hoi,hci,hdi⟩:=id hi;have own:Builtin.Dict_items.ownsTuple "dict_keyiterator" = false:=by decide
 have nn:¬((Value.ref d == Value.none)=true):=bF;have n0:¬((i:Int)<0):=by lia
 unfold pyNext;refine aH (iy (dh (name:=Str.ofString "__next__") ty cK (cO cK ty gq ?_ (gf _))));refine aH (aS (aH (aH ?_)))
 first
  | refine aH (dG ty (aS (aH (iW hoi hdi ?_))))
  | refine aH (eZ ty (aS (aH (iW hoi hdi ?_))))
 simp only[own,bW,bu];show wpAny (model P w) _ (if (Value.ref d == Value.none)=true then _ else _) _ _ s;rw[aJ nn];refine aH (aS (aH (i6 ho hd ?_)));rw[aJ (show ¬_ by simp)];refine aH (aS (aH (wpAny_dictEpoch ho hd ?_)));rw[aJ (show ¬_ by simp)];refine aS ?_;simp only[n0,bW,c7,gT ge];refine aH ?_
 first
  | refine aH (dG ty (aS ?_))
  | refine aH (eZ ty (aS ?_))
 show wpAny (model P w) _ (setField (.ref it) 0 .none >>= _) _ _ s;refine aH (gM hoi hdi (show _ by simp) ?_);show wpAny (model P w) _ (newExc (.type "StopIteration") [] >>= _) _ _ _;refine aH ?_;simp only[newExc,newTuple];refine aH (cR (aH (m:=firstArgMember _ _) (iA (a:=Value.none) (by first|rfl|(simp only[firstArgMember];rfl)) (cR ?_ (by size_fits)))) (by size_fits));simp only[raiseNew];have hn:A.in1.handled=none:=hh;refine aH (wpAny_handled (?_));rw[hn];refine aH (aS (wpAny_throw (?_)));refine aH (wpAny_isInstance (b:=true) (T := "StopIteration") ⟨_,bA _ rfl,rfl⟩ isSubtype_stop (aS (q _ (((fq ..).extBut.push _).push _))))
theorem Gf{Q:af->aA->Prop}(ty:s.TypeIs (.ref d) "dict")(hs:(d == sysModules)=false)(ho:s.heap.get? d=some o)(hd:o.data=.dict es ep)
  (q:Q (.ref s.heap.objs.size) { s with heap:=s.heap.push { cls:=.type "dict_keyiterator",data:=.fields #[.ref d,.int 0 0,.int es.size 0,.int ep 0]}}):wpAny (model P w) A (pyIter (.ref d)) Q E s:=by
 refine wpAny_pyIter_slot ty PySem.F.slot_dict_iter (cO PySem.F.slot_dict_iter ty PySem.F.entry_dict_iter ?_ (PySem.F.args_dict_iter_1 _));delta Builtin.«dict.__iter__»;refine aH ?_;delta Builtin.Dict.dictSlotNone;refine aH (wpAny_notOrdered_dict ty ?_);show wpAny (model P w) _ (pure (Value.ref d)) _ _ s;refine aS ?_;show wpAny (model P w) _ (Builtin.Dict.showsAll d >>= _) _ _ s;delta Builtin.Dict.showsAll;have nd:¬((d == sysModules)=true):=by rw[hs];exact bF
 rw[aJ nd];refine aH (aS (aH (i6 ho hd (aH (wpAny_dictEpoch ho hd ?_)))));refine aH (cR (aS ⟨_,rfl, "dict_keyiterator",_,⟨_,bA _ rfl,rfl⟩,cK.lookup,?_⟩));simpa[rawInt]using q
end
section
variable {P:aj}{w:ah}
theorem Kl{A:az}(hh:A.handled=none)(it d:ak)(ne:d≠it){es:Array DictEntry}{o:Obj}(hd:o.data=.dict es ep) :
  Walks P w A it [it,d] [it] es.size (λi v=>(es[i]?).map (λe=>e.key)=some v) (λi h=>h.IsKeyIter it d i es.size ep/\h.get? d=some o) where
 sub:=λb hb=>by
  rw[aV.mp hb];exact aG ..
 frame:=λ_ _ _ st hk=>⟨st.1.at λx e=>hk it (aG ..) x e,hk d (aI _ (aG ..)) o st.2⟩
 item:=λi s Q E lt st q=>U5 st.1 st.2 hd lt λh' k1 k2=>q _ h' s.toks (by rw[Array.getElem?_eq_getElem lt];rfl) ⟨k1,k2.extBut d o ne st.2⟩ λb x nb e=>k2.extBut b x (λz=>nb (aV.mpr z)) e
 done:=λs Q E st q=>Qu hh st.1 st.2 hd (aO _) λh' k=>q h' s.toks λb x nb e=>k b x (λz=>nb (aV.mpr z)) e
 self:=λ_ _ _ _ st q=>wpAny_pyIter_keyiter st.1 q
theorem Q_{es:Array DictEntry}{o:Obj}(hs:(d == sysModules)=false)(hc:o.cls=.type "dict")(hd:o.data=.dict es ep) :
  PySem.W.KdlSrc P w "dict" d d es.size (λi v=>(es[i]?).map (λe=>e.key)=some v) (λh=>h.get? d=some o) where
 type:=λ_ hm=>⟨o,hm,hc⟩
 there:=λ_ hm=>⟨bf hm,bf hm⟩
 keep:=λ_ _ hm hk=>hk d (.inl rfl) o hm
 notList:=by decide
 notTuple:=by decide
 hint:=λ_ _ _ _ hm hq=>PySem.W.kdl_hint_dict ⟨o,hm,hc⟩ hq
 iter:=λ_ s hh hm=>⟨_,_,(λ_ _ hq=>Gf ⟨o,hm,hc⟩ hs hm hd hq),Kl hh _ d (bE (bf hm)) hd,⟨⟨_,bA _ rfl,rfl,rfl⟩,aQ _ hm⟩⟩
end
section
variable {X:Cx}
theorem Vy{H:Hp}{s:aA}{kvs:List (List Key×V)}(I:Inv X pins σ H s)(ed:H d=some (.dT kvs)) :
  ∃(ob:Obj) (es:Array DictEntry) (ep:Nat) (rs:List ak),s.heap.get? d=some ob/\ob.cls=.type "dict" /\ ob.data=.dict es ep/\(d == sysModules)=false/\kvs.length<=sizeLine/\rs.length=kvs.length/\es.size=kvs.length /\
   (∀i:Nat,(es[i]?).map (λe:DictEntry=>e.key)=(rs[i]?).map Value.ref)/\∀(i:Nat) r p,rs[i]?=some r->kvs[i]?=some p->H r=some (.tup (p.1.map kV)):=by
 obtain⟨z,hd,xs,rel,dd⟩:=Pk I.hok ed;obtain⟨ob,es,ep,g1,g2,g3,g4,g5,g6⟩:=id dd;obtain⟨kl,kt⟩:=kt_at rel;have hes:es.size=xs.length:=by have:=dg List.length g4;simpa using this
 refine⟨ob,es,ep,xs.map λy=>y.2.1,g1,g2.1,g3,hd,z,by rw[aK,kl],by rw[hes,kl],λi=>?_,λi r p e1 e2=>?_⟩
 ·rw[<- eK,g4,aP,aP,fZ,fZ]
  cases xs[i]?<;>rfl
 ·obtain⟨y,h1,h2,h3,h4⟩:=kt i p e2;rw[aP,h1]at e1
  cases e1
  exact h3
theorem CB(hc:X.calm=true):kh X (.builtin "sorted") (λxs H Q=>∃(d:ak) (kvs:List (List Key×V)) (kss:List (List Int)),xs=[.ref d]/\H d=some (.dT kvs)/\kvs.map (λp=>p.1)=kss.map (λks=>ks.map Sum.inl)/\(∀ks∈kss,ks≠[]) /\
  ∀(rs:List ak) l g,rs.length=kss.length->(∀(i:Nat) (r:ak) (ks:List Int),rs[i]?=some r->kss[i]?=some ks->H r=some (.tup (ks.map V.int)))->H l=none->Sx.Cl g 0 kss.length->Sx.So (Sx.zX kss) g 0 kss.length ->
   Q (.ref l) (upd H l (.lst (((List.range kss.length).map λi=>rs.getD (g i) 0).map V.ref)))):=by
 intro pins s σ H xs us Q I r h;obtain⟨d,kvs,kss,rfl,ed,ek,hne,q⟩:=h;obtain⟨u,rfl,rx⟩:=vals1 r
 cases rx
 obtain⟨ob,es,ep,rs,g1,g2,g3,g4,g5,g6,g7,g8,g9⟩:=Vy I ed;have kl:kvs.length=kss.length:=by have:=dg List.length ek;simpa using this
 have tp:∀(i:Nat) (r:ak) (ks:List Int),rs[i]?=some r->kss[i]?=some ks->H r=some (.tup (ks.map V.int)):=λi r ks e1 e2=>by
  have lt:i<kvs.length:=by rw[kl];exact(aN.mp e2).1
  have h1:=g9 i r kvs[i] e1 (aF lt);have h2:(kvs.map (λp=>p.1))[i]?=(kss.map (λks=>ks.map Sum.inl))[i]?:=by rw[ek]
  rw[aP,aP,e2,aF lt]at h2;have h3:kvs[i].1=ks.map Sum.inl:=aZ h2;rw[h3,bh]at h1;exact h1
 refine gb kind_sorted plain_sorted entry_sorted (args_sorted1 _) ?_;unfold Builtin.«sorted»;refine aH (m:=checkCount "sorted" 1 1 _) (aS ?_);refine aH (PySem.W.kdu_collect (Q_ g4 g2 g3) (show X.A.in1.handled=none from I.ok.hd hc) g1 (by rw[g7];exact g5) λh' tk acc hk hacc=>?_);have ea:acc.toList=rs.map Value.ref:=by
  refine cT λj=>?_;rw[eK,aP,<- g8 j]
  cases e:acc[j]? with
  | some v=>exact(hacc.2 j v e).symm
  | none=>
   have:acc.size<=j:=Array.getElem?_eq_none_iff.mp e;rw[gT (by rw[<- hacc.1];exact this)];rfl
 rw[ea];exact J5 (s:=s) (I.kept (t':=tk) hk) (by rw[g6,kl]) (by rw[g6];exact g5) (λi r ks e1 e2=>⟨mD.of (tp i r ks e1 e2),hne ks (aX e2)⟩) λl g h1 h2 h3=>q rs l g (by rw[g6,kl]) tp h1 h2 h3
end
section
variable {P:aj}{w:ah}{A:az}{E:af->aA->Prop}{s:aA}
theorem KU:typeLookup (.type "list") "keys" = pure none:=am_miss_of_fast (by kernel_rfl)
theorem JW{a:ak}{o:Obj}{k:Nat}{Q:Option af->aA->Prop}(hx:s.heap.get? a=some o)(hc:o.cls=.type "list")(hdat:o.data=.seq xs k)(hd:o.dict=none)(hA:A.handled=none)
  (h:∀h' tk,(∀b ob,s.heap.get? b=some ob->h'.get? b=some ob)->Q none { s with heap:=h',toks:=tk }):wpAny (model P w) A (getAttr? (.ref a) "keys") Q E s:=by
 obtain⟨c,dct,dat,sl⟩:=o;simp only at hc hdat hd;subst hc hdat hd;obtain⟨hp,g,d,tk,os⟩:=s;have hT:∀tk',(⟨hp,g,d,tk',os⟩:aA).TypeIs (.ref a) "list" := λ_=>⟨_,hx,rfl⟩;have f1:=sub_AttributeError;have f3:=gr.lookup;have f4:=gr.bind (.ref a);have f5:=am_list_getattr_none;unfold getAttr? getAttrBy? getAttrBy
 repeat (any_goals (first|assumption|exact hT _|((with_reducible show wpAny _ _ (call (Value.builtin "list.__getattribute__") _ _) _ _ _);refine iR gr (hT _) am_entry_list_getattribute (F.args_list_getattribute_2 _ _) (meets_getattribute_miss_list a xs k sl "keys" _ KU (by decide) (by size_fits)) ⟨hx,hA,λh' tk' e hx'=>?_⟩)|wp_step))
 obtain⟨t',u',he⟩:=hx'.there;show wpAny _ _ (getattributeRaised _ _ _ _ _ _ _) _ _ _;unfold getattributeRaised
 repeat (any_goals (first|assumption|wp_step))
 exact h _ _ hx'.keeps
theorem A2:entryFor table "dict.update.loop" = some Builtin.«dict.update.loop»:=entryFor_of_tree (by kernel_rfl)
theorem uf:plainId "dict.update.loop" = true:=by decide +kernel
noncomputable def Nn (h:aq)(d I:ak)(its:List af)(ps:List (Int×af)):Prop:=∀(i:Nat) (v:af),its[i]?=some v->∃(b:ak) (p:Int×af) (t:Tok),v=.ref b/\b≠d/\b≠I/\ps[i]?=some p/\IsTup h b #[.int p.1 t,p.2]
theorem Nn.mono{h h':aq}(x:Nn h d I its ps)(k:∀b o,b≠d->b≠I->h.get? b=some o->h'.get? b=some o):Nn h' d I its ps:=λi v hv=>by
 obtain⟨b,p,t,h1,h2,h3,h4,o,h5,h6⟩:=x i v hv;exact⟨b,p,t,h1,h2,h3,h4,o,k b o h2 h3 h5,h6⟩
noncomputable def V0 (ps:List (Int×af)):List (Key×af):=ps.foldl (λacc p=>stored acc (Sum.inl p.1) p.2) []
theorem NO(ps:List (Int×af))(i:Nat)(p:Int×af)(h:ps[i]?=some p):V0 (ps.take (i+1))=stored (V0 (ps.take i)) (Sum.inl p.1) p.2:=by
 unfold V0;rw[c8,h,cU];rfl
theorem I_:∀(ps:List (Int×af)) (acc:List (Key×af)),(ps.foldl (λacc p=>stored acc (Sum.inl p.1) p.2) acc).length<=acc.length+ps.length
 | [],acc=>aO _
 | p::ps,acc=>by
  have:=I_ ps (stored acc (Sum.inl p.1) p.2);have h:(stored acc (Sum.inl p.1) p.2).length<=acc.length+1:=by
   unfold stored;split
   ·rw[aK];lia
   ·rw[aR];exact aO _
  rw[eO,bz];lia
theorem Mt{R:Result->aA->Prop}{I l:ak}{St:Nat->aq->Prop}{its:List af}{ps:List (Int×af)}(W:Walks P w A.in1 I [I,l] [I] its.length (λi v=>its[i]?=some v) St)(hdI:d≠I)(hdl:d≠l)(hl:ps.length=its.length)(hz:ps.length<=sizeLine) :
  ∀(k i:Nat) (s:aA),its.length-i=k->i<=its.length->St i s.heap->s.heap.DictOf (j5 P w) d (V0 (ps.take i))->Nn s.heap d I its ps ->
   (∀h' tk,h'.DictOf (j5 P w) d (V0 ps)->(∀b o,b≠d->b≠I->s.heap.get? b=some o->h'.get? b=some o)->R (.ok (.ret .none)) { s with heap:=h',toks:=tk }) ->
   codeAny (model P w) A (.builtin "dict.update.loop" ⟨[.ref d,.ref I,rawInt i,.none],[]⟩) R s:=by
 intro k
 induction k with
 | zero=>
  intro i s hk hi hst hD hP hR;have hin:i=its.length:=by lia
  subst hin;refine gz A2 ?_;rw[fW uf _];show wpAny _ A.in1 (pyNext (.ref I) >>= _) _ _ s;refine aH (W.done s _ _ hst λh' tk hm=>?_);show wpAny _ A.in1 (Builtin.Dict.addKeywords d [] >>= _) _ _ _;refine aH (aS (aS (hR h' tk ?_ λb o _ h2 e=>hm b o (by simpa using h2) e)));rw[<- hl,di]at hD;obtain⟨o,es,ep,ho,rest⟩:=hD;exact⟨o,es,ep,hm d o (by simpa using hdI) ho,rest⟩
 | succ k ih=>
  intro i s hk hi hst hD hP hR;have hlt:i<its.length:=by lia
  refine gz A2 ?_;rw[fW uf _];show wpAny _ A.in1 (pyNext (.ref I) >>= _) _ _ s;refine aH (W.item i s _ _ hlt hst λv h' tk hv hst' hm=>?_);have hP':Nn h' d I its ps:=hP.mono λb o h1 h2 e=>hm b o (by simpa using h2) e;obtain⟨b,p,t,rfl,hbd,hbI,hp,o,ho,hc,n,hd⟩:=hP' i v hv;have hD':h'.DictOf (j5 P w) d (V0 (ps.take i)):=by
   obtain⟨o,es,ep,ho,rest⟩:=hD;exact⟨o,es,ep,hm d o (by simpa using hdI) ho,rest⟩
  have hT:Shared.TypeIs { s with heap:=h',toks:=tk } (.ref b) "tuple" := ⟨o,ho,hc⟩;have hpair:∀(A:az) (E:af->aA->Prop) (Q:List af->aA->Prop),Q [.int p.1 t,p.2] { s with heap:=h',toks:=tk }->wpAny (model P w) A (Builtin.Dict.pairItems (.ref b)) Q E { s with heap:=h',toks:=tk }:=λA E Q q=>by
   unfold Builtin.Dict.pairItems;refine aH (gK hT ?_);rw[aM (by decide)];refine aH (iS ho hd (aS q))
  have hlen:(V0 (ps.take i)).length<=sizeLine:=by
   refine bH (I_ (ps.take i) []) ?_;rw[b8,bX];lia
  refine aH (dB (aH (wpAny_tryCatch (hpair _ _ _ ?_))));show wpAny _ _ (holding [Value.int p.1 t,p.2] (dictSet d (.int p.1 t) p.2)) _ _ _;refine dB (wpAny_dictSet_pairs (hsz:=hlen) (knd:=j5 P w) (k:=Sum.inl p.1) (s:={ s with heap:=h',toks:=tk }) (show Value.isInt p.1 (.int p.1 t)=true by simp[Value.isInt]) hD' λh2 hD2 hs=>?_);refine aS ⟨plainId_quiet uf _,?_⟩;have hsame:∀b o,b≠d->b≠I->s.heap.get? b=some o->h2.get? b=some o:=λb o h3 h4 e=>by rw[hs.2 b h3];exact hm b o (by simpa using h4) e
  refine ih (i+1) _ (by lia) hlt (W.frame _ _ _ hst' λb hb o e=>?_) (by rw[NO ps i p hp];exact hD2) (hP.mono hsame) λh3 tk3 hD3 hs3=>hR h3 tk3 hD3 λb o h4 h5 e=>hs3 b o h4 h5 (hsame b o h4 h5 e);have hne:b≠d:=by
   intro z;subst z
   rcases bB.mp hb with z|z
   ·exact hdI z
   ·exact hdl (by simpa using z)
  show h2.get? b=some o;rw[hs.2 b hne];exact e
theorem A_{H:Hp}{X:Cx}(I:Inv X pins σ H s):∀(rs:List ak) (ps:List (Int×V)),rs.length=ps.length->(∀(i:Nat) (r:ak) (q:Int×V),rs[i]?=some r->ps[i]?=some q->mD X.K H r [.int q.1,q.2]) ->
  ∃qs:List (Int×af),KV ps qs/\∀(i:Nat) (r:ak),rs[i]?=some r->∃q t,qs[i]?=some q/\IsTup s.heap r #[.int q.1 t,q.2]
 | [],[],_,_=>⟨[],.nil,λi r h=>by simp at h⟩
 | [],_::_,h,_=>nomatch h
 | _::_,[],h,_=>nomatch h
 | r::rs,p::ps,hl,hh=>by
  obtain⟨qs,h1,h2⟩:=A_ I rs ps (by simpa using hl) λi r q e1 e2=>hh (i+1) r q (by simpa using e1) (by simpa using e2);obtain⟨its,rv,tp,_⟩:=I.tuple (hh 0 r p rfl rfl);obtain⟨u1,u2,rfl,r1,r2⟩:=vals2 rv;obtain⟨t,rfl⟩:∃t,u1=Value.int p.1 t:=r1;refine⟨(p.1,u2)::qs,.cons ⟨rfl,r2⟩ h1,λi r' e=>?_⟩
  cases i with
  | zero=>cases e;exact⟨(p.1,u2),t,rfl,tp⟩
  | succ i=>exact h2 i r' (by simpa using e)
noncomputable def Zo (ps:List (Int×V)):List (Key×V):=ps.foldl (λacc p=>putK acc (Sum.inl p.1) p.2) []
theorem X4:∀{ps:List (Int×V)}{qs:List (Int×af)},KV ps qs->∀{as:List (Key×V)}{bs:List (Key×af)},KV as bs->KV (ps.foldl (λacc p=>putK acc (Sum.inl p.1) p.2) as) (qs.foldl (λacc p=>stored acc (Sum.inl p.1) p.2) bs):=by
 intro ps qs h;unfold KV at h
 induction h with
 | nil=>exact λh=>h
 | @cons p q ps qs h t ih=>
  intro as bs h2;rw[eO,eO];obtain⟨e,r⟩:=h;rw[e];exact ih (h2.put _ r)
theorem Jm:∀(ps:List (Int×V)) (acc:List (Key×V)),(ps.foldl (λacc p=>putK acc (Sum.inl p.1) p.2) acc).length<=acc.length+ps.length
 | [],acc=>aO _
 | p::ps,acc=>by
  have:=Jm ps (putK acc (Sum.inl p.1) p.2);have:=su acc (Sum.inl p.1) p.2;rw[eO,bz];lia
end
section
variable {X:Cx}
theorem FU(hc:X.calm=true):kh X (.type "dict") (λxs H Q=>∃(p:ak) (rs:List ak) (ps:List (Int×V)),xs=[.ref p]/\oX X.K H p (rs.map V.ref)/\rs.length=ps.length /\
  (∀(i:Nat) (r:ak) (q:Int×V),rs[i]?=some r->ps[i]?=some q->mD X.K H r [.int q.1,q.2])/\∀l,H l=none->Q (.ref l) (upd H l (.dK (Zo ps)))):=by
 intro pins s σ H xs us Q I r h;obtain⟨p,rs,ps,rfl,hq,hlen,hT,q⟩:=h;obtain⟨u,rfl,rx⟩:=vals1 r
 cases rx
 obtain⟨its,rv,pl,hz⟩:=I.list hq;have ei:=v5 rv;subst ei;rw[aK]at hz;obtain⟨qs,kv,tp⟩:=A_ I rs ps hlen hT;have ql:ps.length=qs.length:=kv.length;obtain⟨o,n,ho,hcl,hdn,hd⟩:=pl;have lp:p<s.heap.objs.size:=bf ho;refine callType_codes (Q₁:=λobj s₁=>obj=.ref s.heap.objs.size/\s₁={ s with heap:=s.heap.push { cls:=.type "dict",data:=.dict #[]}}) F.kt_called_dict (F.kt_typeCall_dict_1 _) F.entry_dict_init (kt_code_dict_new _ ⟨rfl,rfl⟩) ?_;rintro obj s₁ ⟨rfl,rfl⟩;have hnew:(s.heap.push { cls:=.type "dict",data:=.dict #[]}).DictOf (j5 X.prog X.w) s.heap.objs.size []:=Heap.DictOf.new s.heap;have ho':(s.heap.push { cls:=.type "dict",data:=.dict #[]}).get? p=some o:=aQ _ ho;have hTy:Shared.TypeIs { s with heap:=s.heap.push { cls:=.type "dict",data:=.dict #[]}} (.ref p) "list" := ⟨o,ho',hcl⟩;refine⟨hnew.typeIs,F.args_dict_init_2 _ _,?_⟩;unfold Builtin.«dict.__init__»;refine aH ?_;unfold Builtin.Dict.selfAndRest;refine aH (wpAny_notOrdered_dict hnew.typeIs ?_);show wpAny _ _ (pure (s.heap.objs.size,[Value.ref p])) _ _ _;refine aS ?_;show wpAny _ _ (Builtin.Dict.updateFrom "dict.__init__" s.heap.objs.size (.ref p) [] .none) _ _ _;unfold Builtin.Dict.updateFrom;refine aH (gK hTy ?_);rw[aM (by decide)];refine aH (JW ho' hcl hd hdn (show X.A.in1.in1.handled=none from I.ok.hd hc) λh' tk hk=>?_);rw[aM (by rfl)];refine aH (eE ?_);have hl2:h'.IsList p (rs.map Value.ref).toArray:=⟨o,hk p o ho',hcl,n,hd⟩;refine aH (wpAny_pyIter_list (s:={ s with heap:=h',toks:=tk }) hl2 ?_);refine aS ⟨plainId_quiet uf _,?_⟩;have sz:s.heap.objs.size<h'.objs.size:=bf (hk _ _ (bA _ rfl));have W:Walks X.prog X.w X.A.in1.in1 h'.objs.size [h'.objs.size,p] [h'.objs.size] (rs.map Value.ref).length (λi v=>(rs.map Value.ref)[i]?=some v) (λi h=>h.IsListIter h'.objs.size p i/\h.IsList p (rs.map Value.ref).toArray):=by
  have W:=Walks.list (prog:=X.prog) (w:=X.w) (A:=X.A.in1.in1) (I.ok.hd hc) h'.objs.size p (bE (bf (hk p o ho'))) (rs.map Value.ref).toArray;rw[a_]at W;simp only[eL]at W;exact W
 refine Mt (d:=s.heap.objs.size) (its:=rs.map Value.ref) (ps:=qs) W (bE sz) (c6 (bE lp)) (by rw[aK];lia) (by lia) (rs.map Value.ref).length 0 _ (by lia) (bI _)
  ⟨⟨_,bA _ rfl,rfl,rfl⟩,hl2.push _⟩ ?_ (λi v hv=>?_) λh2 tk2 hD hs=>⟨rfl,.ref s.heap.objs.size,_,I.laid (t':=tk2) (o:=.dK (Zo ps)) (λb ob eb=>?_) (aO _) ?_,rfl,q _ (I.hok.fresh (aO _))⟩
 ·obtain⟨o,es,ep,e,rest⟩:=hnew;exact⟨o,es,ep,aQ _ (hk _ _ e),rest⟩
 ·rw[aP]at hv;obtain⟨r,hr,rfl⟩:=aY.mp hv;obtain⟨q,t,h1,o2,h2,h3⟩:=tp i r hr;have lr:=bf h2;exact⟨r,q,t,rfl,bE lr,bE (lt_trans lr sz),h1,o2,aQ _ (hk _ _ (aQ _ h2)),h3⟩
 ·have lb:=bf eb;exact hs b ob (bE lb) (bE (lt_trans lb sz)) (aQ _ (hk _ _ (aQ _ eb)))
 ·refine Me (bH (Jm ps []) (by rw[bX];lia)) ?_ (X4 kv .nil) hD;exact fj.mpr (c6 (bE I.big))
noncomputable def Rw (ns:List Int):Sx.Ord where
 lt i j:=decide (ns.getD i 0<ns.getD j 0)
 K2 i:=bw (by lia)
 tr i j k h1 h2:=bq (by have:=bN h1;have:=bN h2;lia)
 neg i j k h:=by
  have:=bN h;by_cases c:ns.getD i 0<ns.getD j 0
  ·exact .inl (bq c)
  ·exact .inr (bq (by lia))
theorem yc:∀{vs:List af}{ns:List Int},IntsAre vs ns->vs.length=ns.length/\∀i,i<vs.length->∃t,vs.getD i .none=.int (ns.getD i 0) t
 | _,_,.nil=>⟨rfl,λi h=>absurd h (eS _)⟩
 | _,_,.cons n t h=>by
  obtain⟨h1,h2⟩:=yc h;refine⟨dg (·+1) h1,λi hi=>?_⟩
  cases i with
  | zero=>exact⟨t,rfl⟩
  | succ i=>exact h2 i (by simpa using hi)
theorem yU{f:Nat->Int}{h:Nat->af}:∀(l:List Nat),(∀i∈l,∃t,h i=.int (f i) t)->Vals (l.map λi=>V.int (f i)) (l.map h)
 | [],_=>.nil
 | i::l,e=>.cons (e i (aG ..)) (yU l λj hj=>e j (aI _ hj))
theorem Gg{s:aA}{H:Hp}{Q:VK}{h':aq}{tk:Nat}{vs:List af}{ns:List Int}(I1:Inv X pins σ H { s with heap:=h',toks:=tk })(hi:IntsAre vs ns)(hz:vs.length<=sizeLine)
  (q:∀l g,H l=none->Sx.Cl g 0 ns.length->Sx.So (Rw ns) g 0 ns.length->Q (.ref l) (upd H l (.lst ((List.range ns.length).map λi=>V.int (ns.getD (g i) 0))))) :
  wpAny (model X.prog X.w) X.A.in1 (do
   let l <- newList vs
   let _ <- holding [l] (call (Value.builtin "list.sort") [l] [])
   ret l) (λfin s'=>∃v,fin=Fin.done (Flow.ret v)/\EP X pins σ Q v s') X.xe { s with heap:=h',toks:=tk }:=by
 obtain⟨hN,at_⟩:=yc hi;refine aH (ja ?_);have hoL:(h'.push (seqObj "list" vs.toArray 0)).get? h'.objs.size=some (seqObj "list" vs.toArray 0):=bA _ rfl;show wpAny _ _ _ _ _ { s with toks:=tk,heap:=h'.push (seqObj "list" vs.toArray 0)};refine aH (dB (cO slot_list_sort ⟨_,hoL,rfl⟩ entry_list_sort (Sx.wX (o:=Rw ns) (kd:=oneType') hoL hz (λh2 Q' q'=>?_) (λh2 i j hi' hj E' Q' q'=>?_) λg hc hs=>⟨_,rfl,?_⟩) (args_list_sort _)))
 ·obtain⟨a,b,r,rfl⟩:∃a b r,vs=a::b::r:=by
   cases vs with
   | nil=>simp at h2
   | cons a vs=>cases vs with
    | nil=>simp at h2
    | cons b r=>exact⟨a,b,r,rfl⟩
  exact iA (keyKind_ints hi) q'
 ·obtain⟨t,e1⟩:=at_ i hi';obtain⟨u,e2⟩:=at_ j hj;show wpAny _ _ (keyLt' oneType' (vs.getD i .none) (vs.getD j .none)) Q' E' _;rw[e1,e2,keyLt'_oneType];exact Sx.HW true q'
 ·rw[hN]at hc hs ⊢;obtain⟨e,he⟩:=sortedHeap_at (out:=((List.range ns.length).map λi=>vs.getD (g i) .none).toArray) hoL;have old:∀b ob,h'.get? b=some ob->(sortedHeap (h'.push (seqObj "list" vs.toArray 0)) h'.objs.size vs ((List.range ns.length).map λi=>vs.getD (g i) .none).toArray).get? b=some ob:=λb ob eb=>by
   rw[sortedHeap_old (bE (bf eb)) (by rw[ef];exact dN (bf eb))];exact aQ _ eb
  refine aS ⟨_,rfl,.ref h'.objs.size,_,I1.laid (t':=tk) (o:=.lst ((List.range ns.length).map λi=>V.int (ns.getD (g i) 0))) old (aO _) ?_,rfl,q _ g (I1.hok.fresh (aO _)) hc hs⟩;refine⟨by rw[aK,b_];lia,(List.range ns.length).map λi=>vs.getD (g i) .none,e,yU _ λi hi=>at_ _ (by have:=(hc i (bI _) (cI.mp hi)).2;lia),he⟩
theorem Ky{P:aj}{w:ah}{vs:List (Key×af)}:∀{acc:List af}{ns:List Int},vs.map (·.1)=ns.map Sum.inl->acc.length=vs.length->(∀(j:Nat) v,acc[j]?=some v->∃k x,vs[j]?=some (k,x)/\(j5 P w).is k v=true)->IntsAre acc ns:=by
 intro acc ns hk hl h
 induction acc generalizing vs ns with
 | nil=>cases vs with
  | nil=>cases ns with
   | nil=>exact .nil
   | cons=>cases hk
  | cons=>cases hl
 | cons a acc ih=>cases vs with
  | nil=>cases hl
  | cons v vs=>cases ns with
   | nil=>cases hk
   | cons n ns=>
    rw[bC,bC,List.cons.injEq]at hk;obtain⟨k,x,e1,e2⟩:=h 0 a rfl
    cases e1
    obtain⟨e3,e4⟩:=hk;have e3:k=Sum.inl n:=e3;subst e3;obtain⟨t,rfl⟩:=Value.isInt_shape (k:=n) (v:=a) e2;exact .cons n t (ih e4 (by simpa using hl) λj v e=>h (j+1) v (by simpa using e))
theorem CA(hc:X.calm=true):kh X (.builtin "sorted") (λxs H Q=>∃(d:ak) (kvs:List (Key×V)) (ns:List Int),xs=[.ref d]/\H d=some (.dK kvs)/\kvs.map (λp=>p.1)=ns.map Sum.inl /\
  ∀l g,H l=none->Sx.Cl g 0 ns.length->Sx.So (Rw ns) g 0 ns.length->Q (.ref l) (upd H l (.lst ((List.range ns.length).map λi=>V.int (ns.getD (g i) 0))))):=by
 intro pins s σ H xs us Q I r h;obtain⟨d,kvs,ns,rfl,ed,ek,q⟩:=h;obtain⟨u,rfl,rx⟩:=vals1 r
 cases rx
 obtain⟨z,hd,vs,rel,dd⟩:=TJ I.hok ed;obtain⟨ep,da⟩:=dd.dictAt;have kl:kvs.length=vs.length:=rel.length;have ke:vs.map (·.1)=kvs.map (·.1):=by
  clear ek z dd da kl ed;unfold KV at rel
  induction rel with
  | nil=>rfl
  | cons h _ ih=>rw[bC,bC,ih,h.1]
 refine gb kind_sorted plain_sorted entry_sorted (args_sorted1 _) ?_;unfold Builtin.«sorted»;refine aH (m:=checkCount "sorted" 1 1 _) (aS ?_);refine aH (PySem.W.kdu_collect (PySem.W.kdl_dict hd) (show X.A.in1.handled=none from I.ok.hd hc) da (by lia) λh' tk acc hk hacc=>?_);have al:acc.toList.length=vs.length:=by rw[dQ];exact hacc.1
 exact Gg (s:=s) (I.kept (t':=tk) hk) (Ky (P:=X.prog) (w:=X.w) (ke.trans ek) al λj v e=>hacc.2 j v (by rw[eK]at e;exact e)) (by lia) q
end
end L2
namespace Sx
open PySem PyProof.Rows
section
variable {prog:aj}{w:ah}{A:az}{E:af->aA->Prop}{s:aA}
theorem NX{ns:List Int}(h:IntsAre vs ns)(h':IntsAre vs ms):ns=ms:=by
 induction h generalizing ms with
 | nil=>cases h';rfl
 | cons n t _ ih=>cases h' with
  | cons _ _ h2=>rw[ih h2]
theorem VD{a c:ak}{as cs:List af}{ns:List Int}(ha:IsTup s.heap a as.toArray)(hc:IsTup s.heap c cs.toArray)(hi:IntsAre as ns)(hj:IntsAre cs ms)(hu:A.units<cLine)(hne:ns≠ms):SeqAt.EqAt A s (.ref a) (.ref c) false:=by
 have hac:a≠c:=λz=>by
  subst z;obtain⟨o,ho,_,n,hd⟩:=ha;obtain⟨o',ho',_,n',hd'⟩:=hc;rw[ho]at ho'
  cases ho'
  rw[hd]at hd'
  injection hd' with e1 e2
  have:as=cs:=by have:=dg Array.toList e1;simpa using this
  subst this;exact hne (NX hi hj)
 have r1:=L2.uh hi;have r2:=L2.uh hj;have fl:∀l:List Int,(l.map L2.V.int).all L2.y9=true:=λl=>by rw[gJ,d7];intro _ _;rfl
 have h:=SeqAt.RcAt.tuples ha hc hu (L2.Ow r1 r2 (fl ns) (fl ms));have e:((List.range (min as.toArray.size cs.toArray.size)).all (L2.YR (ns.map L2.V.int) (ms.map L2.V.int)) && as.toArray.size == cs.toArray.size)=false:=by
  have q:L2.Pz (ns.map L2.V.int) (ms.map L2.V.int)=false:=by rw[L2.DG,bw hne]
  rw[<- q,a_,a_,<- r1.length,<- r2.length];by_cases hl:(ns.map L2.V.int).length=(ms.map L2.V.int).length
  ·rw[hl,Nat.min_self,bK,Bool.and_true];exact L2.US _ hl.symm rfl
  ·rw[L2.RK hl,beq_false_of_ne hl,jj]
 rw[e]at h;exact .of_refs hac h
theorem Ft{l k a c:ak}{x:af}{as cs:List af}{ns:List Int}{Q:Bool->aA->Prop}(hl:IsTup s.heap l #[.ref a,x])(hk:IsTup s.heap k #[.ref c,y])(ha:IsTup s.heap a as.toArray)(hc:IsTup s.heap c cs.toArray)(hi:IntsAre as ns)(hj:IntsAre cs ms)(hu:A.units<cLine)(hne:ns≠ms)(h:Q (HT.lexLt ns ms) s) :
  wpAny (model prog w) A (keyLt' (tuples' false) (.ref l) (.ref k)) Q E s:=by
 rw[wF];obtain⟨o1,ho1,_,n1,hd1⟩:=hl;obtain⟨o2,ho2,_,n2,hd2⟩:=hk;refine aH (eW ho1 hd1 ?_);refine aH (eW ho2 hd2 ?_);show wpAny (model prog w) A (forIn (([Value.ref a,x].zip [Value.ref c,y]).zipIdx) ((none,()):Option Bool×Unit) _ >>= _) _ _ s;rw[show([Value.ref a,x].zip [Value.ref c,y]).zipIdx=[((Value.ref a,Value.ref c),0),((x,y),1)]from rfl,gw];refine aH (aH ?_);dsimp only;refine aH (VD ha hc hi hj hu hne prog w _ _ ?_);simp only[c_,cV];refine aH ?_;rw[oneLt'_eq];simp only[Bool.false_and,bu,bW];refine aH (HT.GH ha hc (by simpa using hi) (by simpa using hj) hu ?_);refine dI ?_;exact aS (aS (aS h))
theorem FY{l:ak}{v:af}{Q:Bool->aA->Prop}(hl:IsTup s.heap l #[u,v])(h:Q false s):wpAny (model prog w) A (keyLt' (tuples' false) (.ref l) (.ref l)) Q E s:=by
 rw[wF];obtain⟨o1,ho1,_,n1,hd1⟩:=hl;refine aH (eW ho1 hd1 ?_);refine aH (eW ho1 hd1 ?_);show wpAny (model prog w) A (forIn (([u,v].zip [u,v]).zipIdx) ((none,()):Option Bool×Unit) _ >>= _) _ _ s;rw[show([u,v].zip [u,v]).zipIdx=[((u,u),0),((v,v),1)]from rfl,gw];refine aH (aH ?_);dsimp only;refine aH (SeqAt.EqAt.same u prog w _ _ ?_);simp only[cP,bu,bW];refine aS ?_;dsimp only;rw[gw];refine aH ?_;dsimp only;refine aH (SeqAt.EqAt.same v prog w _ _ ?_);simp only[cP,bu,bW];refine aS ?_;dsimp only;rw[jl];refine aS ?_;dsimp only;exact aS h
theorem Ga{vs:List af}(h0:vs≠[])(ht:∀v∈vs,∃(l a:ak) (xs ys:List af),v=.ref l/\IsTup s.heap l (.ref a::xs).toArray/\IsTup s.heap a ys.toArray){Q:SortKind->aA->Prop}(q:Q (tuples' false) s) :
  wpAny (model prog w) A (keyKind' vs.toArray) Q E s:=by
 have ch:∀v,∃a:ak,v∈vs->∃(l:ak) (xs ys:List af),v=.ref l/\IsTup s.heap l (.ref a::xs).toArray/\IsTup s.heap a ys.toArray:=λv=>by
  by_cases c:v∈vs
  ·obtain⟨l,a,xs,ys,e⟩:=ht v c;exact⟨a,λ_=>⟨l,xs,ys,e⟩⟩
  ·exact⟨0,λz=>absurd z c⟩
 obtain⟨F,hF⟩:=Classical.axiomOfChoice ch;rw[keyKind'_eq];refine aH (x_ (λv=>some (Value.ref (F v))) vs (λv hv Q' q'=>?_) _ ?_)
 ·obtain⟨l,xs,ys,rfl,⟨o,ho,hc,n,hd⟩,_⟩:=hF v hv;rw[EH];refine aH (gK (T := "tuple") ⟨o,ho,hc⟩ ?_);rw[aJ (by decide)];exact aH (eW ho hd (aS q'))
 ·rw[aM (by simp)];refine aH (eE ?_);have e1:(vs.map λv=>some (Value.ref (F v))).toArray.filterMap id=(vs.map λv=>Value.ref (F v)).toArray:=by
   rw[List.filterMap_toArray,List.filterMap_map];congr 1;rw[show(id ∘ λv=>some (Value.ref (F v)))=λv=>some (Value.ref (F v))from rfl];exact congrFun List.filterMap_eq_map' vs
  rw[e1,oneTypeOnly'_eq];refine aH (aH (x_ (λ_=>Value.type "tuple") _ (λv hv Q' q'=>?_) _ ?_))
  ·obtain⟨u,hu,rfl⟩:=bg.mp hv;obtain⟨_,_,ys,_,_,o,ho,hc,n,hd⟩:=hF u hu;exact gK (T := "tuple") ⟨o,ho,hc⟩ q'
  ·rw[bh];obtain⟨v0,vs',rfl⟩:∃v0 vs',vs=v0::vs':=by
    cases vs with
    | nil=>exact absurd rfl h0
    | cons a b=>exact⟨a,b,rfl⟩
   have ha:((List.map ((λ_=>Value.type "tuple") ∘ λv=>Value.ref (F v)) (v0::vs')).toArray.all λx=>x == Value.type "tuple")=true:=by
    simp only[List.all_toArray,gJ,d7];intro _ _;rfl
   have hz:(List.map ((λ_=>Value.type "tuple") ∘ λv=>Value.ref (F v)) (v0::vs')).toArray[0]?=some (Value.type "tuple"):=by simp
   rw[hz];simp only[ha,cV];exact aS (aS q)
end
end Sx
namespace L2
open PySem PySem.Spec PyProof.Rows
section
variable {X:Cx}
theorem Gm{s:aA}{H:Hp}{Q:VK}{h':aq}{tk:Nat}{rs:List ak}{kss:List (List Int)}(I1:Inv X pins σ H { s with heap:=h',toks:=tk })(hlen:rs.length=kss.length)(hz:rs.length<=sizeLine)(hu:X.A.units+64<cLine)
  (hnd:∀i j (hi:i<kss.length) (hj:j<kss.length),kss[i]=kss[j]->i=j)
  (hT:∀(i:Nat) (r:ak) (ks:List Int),rs[i]?=some r->kss[i]?=some ks->∃(a:ak) (v:V),mD X.K H r [.ref a,v]/\mD X.K H a (ks.map V.int))
  (q:∀l g,H l=none->Sx.Cl g 0 kss.length->Sx.So (Sx.zX kss) g 0 kss.length->Q (.ref l) (upd H l (.lst (((List.range kss.length).map λi=>rs.getD (g i) 0).map V.ref)))) :
  wpAny (model X.prog X.w) X.A.in1 (do
   let l <- newList (rs.map Value.ref)
   let _ <- holding [l] (call (Value.builtin "list.sort") [l] [])
   ret l) (λfin s'=>∃v,fin=Fin.done (Flow.ret v)/\EP X pins σ Q v s') X.xe { s with heap:=h',toks:=tk }:=by
 have hN:(rs.map Value.ref).length=kss.length:=by rw[aK,hlen]
 refine aH (ja ?_);have hoL:(h'.push (seqObj "list" (rs.map Value.ref).toArray 0)).get? h'.objs.size=some (seqObj "list" (rs.map Value.ref).toArray 0):=bA _ rfl;show wpAny _ _ _ _ _ { s with toks:=tk,heap:=h'.push (seqObj "list" (rs.map Value.ref).toArray 0)};have keep:∀(r:ak) (its:Array af),IsTup h' r its->IsTup (Sx.Aa (h'.push (seqObj "list" (rs.map Value.ref).toArray 0)) h'.objs.size (rs.map Value.ref)) r its:=λr its ⟨o,ho,hc,n,hd⟩=>by
  refine⟨o,?_,hc,n,hd⟩;have lt:r<h'.objs.size:=bf ho;rw[Sx.Il (bE lt) (by rw[ef];exact dN lt)];exact aQ _ ho
 have tup:∀(i:Nat) (r:ak) (ks:List Int),rs[i]?=some r->kss[i]?=some ks->∃(a:ak) (u:af) (its:List af),IntsAre its ks/\IsTup (Sx.Aa (h'.push (seqObj "list" (rs.map Value.ref).toArray 0)) h'.objs.size (rs.map Value.ref)) r #[.ref a,u]/\IsTup (Sx.Aa (h'.push (seqObj "list" (rs.map Value.ref).toArray 0)) h'.objs.size (rs.map Value.ref)) a its.toArray:=λi r ks e1 e2=>by
  obtain⟨a,v,t1,t2⟩:=hT i r ks e1 e2;obtain⟨its,rv,p1,_⟩:=I1.tuple t1;obtain⟨jts,rw_,p2,_⟩:=I1.tuple t2
  cases rv with
  | cons g1 rv=>cases rv with
   | cons g2 rv=>
    cases rv
    have g1:_=Value.ref a:=g1;subst g1;exact⟨a,_,jts,intsAre_of rw_,keep _ _ p1,keep _ _ p2⟩
 refine aH (dB (cO slot_list_sort ⟨_,hoL,rfl⟩ entry_list_sort (Sx.wX (o:=Sx.zX kss) (kd:=tuples' false) hoL (by rw[hN];lia) (λh2 Q' q'=>?_) (λh2 i j hi hj E' Q' q'=>?_) λg hc hs=>⟨_,rfl,?_⟩) (args_list_sort _)))
 ·refine Sx.Ga (λz=>by rw[z]at h2;simp at h2) (λv hv=>?_) q';obtain⟨i,hi⟩:=eT hv;rw[aP]at hi;obtain⟨r,hr,rfl⟩:=aY.mp hi;have lt:=(aN.mp hr).1;have e2:kss[i]?=some kss[i]:=aF (by lia);obtain⟨a,u,its,_,h3,h4⟩:=tup i r _ hr e2;exact⟨r,a,_,its,rfl,h3,h4⟩
 ·rw[hN]at hi hj;have e1:rs[i]?=some (rs[i]'(by lia)):=aF _;have e2:rs[j]?=some (rs[j]'(by lia)):=aF _;have k1:kss[i]?=some kss[i]:=aF hi;have k2:kss[j]?=some kss[j]:=aF hj;obtain⟨a1,u1,x1,y1,b1,c1⟩:=tup i _ _ e1 k1;obtain⟨a2,u2,x2,y2,b2,c2⟩:=tup j _ _ e2 k2;have v1:(rs.map Value.ref).getD i .none=.ref (rs[i]'(by lia)):=by rw[aL,aP,e1];rfl
  have v2:(rs.map Value.ref).getD j .none=.ref (rs[j]'(by lia)):=by rw[aL,aP,e2];rfl
  show wpAny _ _ (keyLt' (tuples' false) ((rs.map Value.ref).getD i .none) ((rs.map Value.ref).getD j .none)) Q' E' _;rw[v1,v2];have d1:kss.getD i []=kss[i]:=by rw[aL,k1];rfl
  have d2:kss.getD j []=kss[j]:=by rw[aL,k2];rfl
  have this:(Sx.zX kss).lt i j=HT.lexLt kss[i] kss[j]:=by show HT.lexLt _ _=_;rw[d1,d2]
  by_cases hij:i=j
  ·subst hij;rw[this,Sx.yu]at q';exact Sx.FY b1 q'
  ·rw[this]at q';exact Sx.Ft b1 b2 c1 c2 y1 y2 (by show X.A.units+1+1<cLine;lia) (λz=>hij (hnd i j hi hj z)) q'
 ·rw[hN]at hc hs ⊢;obtain⟨e,he⟩:=sortedHeap_at (out:=((List.range kss.length).map λi=>(rs.map Value.ref).getD (g i) .none).toArray) hoL;have old:∀b ob,h'.get? b=some ob->(sortedHeap (h'.push (seqObj "list" (rs.map Value.ref).toArray 0)) h'.objs.size (rs.map Value.ref) ((List.range kss.length).map λi=>(rs.map Value.ref).getD (g i) .none).toArray).get? b=some ob:=λb ob eb=>by
   rw[sortedHeap_old (bE (bf eb)) (by rw[ef];exact dN (bf eb))];exact aQ _ eb
  refine aS ⟨_,rfl,.ref h'.objs.size,_,I1.laid (t':=tk) (o:=.lst (((List.range kss.length).map λi=>rs.getD (g i) 0).map V.ref)) old (aO _) ?_,rfl,q _ g (I1.hok.fresh (aO _)) hc hs⟩;refine⟨by rw[aK,aK,b_];lia,((List.range kss.length).map λi=>rs.getD (g i) 0).map Value.ref,e,wA _,?_⟩;rw[he];congr 2;rw[bh];congr 1;refine cE λi hi=>?_;have:=(hc i (bI _) (cI.mp hi)).2;have lt:g i<rs.length:=by lia
  show(rs.map Value.ref).getD (g i) .none=Value.ref (rs.getD (g i) 0);rw[aL,aP,aF lt,aL,aF lt];rfl
theorem C4(hu:X.A.units+64<cLine):kh X (.builtin "sorted") (λxs H Q=>∃(p:ak) (rs:List ak) (kss:List (List Int)),xs=[.ref p]/\oX X.K H p (rs.map V.ref)/\rs.length=kss.length/\(∀i j (hi:i<kss.length) (hj:j<kss.length),kss[i]=kss[j]->i=j) /\
  (∀(i:Nat) (r:ak) (ks:List Int),rs[i]?=some r->kss[i]?=some ks->∃(a:ak) (v:V),mD X.K H r [.ref a,v]/\mD X.K H a (ks.map V.int)) /\
  ∀l g,H l=none->Sx.Cl g 0 kss.length->Sx.So (Sx.zX kss) g 0 kss.length->Q (.ref l) (upd H l (.lst (((List.range kss.length).map λi=>rs.getD (g i) 0).map V.ref)))):=by
 intro pins s σ H xs us Q I r h;obtain⟨p,rs,kss,rfl,hq,hlen,hnd,hT,q⟩:=h;obtain⟨u,rfl,rx⟩:=vals1 r
 cases rx
 obtain⟨its,rv,pl,hz⟩:=I.list hq;have ei:=v5 rv;subst ei;obtain⟨o,ho,hcl,n,hd⟩:=pl.isList;rw[aK]at hz;have hN:(rs.map Value.ref).length=kss.length:=by rw[aK,hlen]
 refine gb kind_sorted plain_sorted entry_sorted (args_sorted1 _) ?_;unfold Builtin.«sorted»;refine aH (m:=checkCount "sorted" 1 1 _) (aS ?_);refine aH (wpAny_collect_seq p (.inl rfl) ho hcl hd (λh' hk=>Gm (s:=s) (I.kept (t':=s.toks) hk) hlen hz hu hnd hT q) (by rw[a_,hN];lia))
end
end L2
namespace Am
open PySem PySem.Spec PyProof.Rows L2
noncomputable def kC (S:jx)(n:Nat):Option (List (Int×A)):=match S[n]? with
 | some (.pP xs)=>some xs
 | _=>none
theorem nQ{n:Nat}(h:kC S n=some xs):S[n]?=some (.pP xs):=by
 unfold kC at h;split at h
 ·rename_i e;cases h;exact e
 ·cases h
theorem yh{S:jx}{n:Nat}(h:S[n]?=some (.pP xs)):kC S n=some xs:=by
 unfold kC;rw[h]
noncomputable def mG (kvs:List (Int×A))(k:Int):Option A:=(kvs.find? λkv=>decide (kv.1=k)).map (·.2)
noncomputable def we (kvs:List (Int×A))(k:Int)(v:A):List (Int×A):=
 if (mG kvs k).isSome=true then kvs.map (λkv=>if kv.1=k then(kv.1,v)else kv)else kvs++[(k,v)]
section
variable {K:au}{ρ:List ak}{H:Hp}
theorem J3{p:Int×A}{r:List (Int×A)}{k:Int}(e:p.1=k):mG (p::r) k=some p.2:=by simp[mG,cH,e]
theorem KR{p:Int×A}{r:List (Int×A)}{k:Int}(e:¬p.1=k):mG (p::r) k=mG r k:=by simp[mG,cH,e]
theorem XZ{a b:Int}(e:(Sum.inl a:Key)=Sum.inl b):a=b:=by injection e
theorem DI.look:∀{kvs:List (Int×A)}{ks:List (Key×V)}(k:Int),DI K ρ H kvs ks->(mG kvs k).isSome=(pL ks (Sum.inl k:Key)).isSome/\∀x,mG kvs k=some x->∃v,pL ks (Sum.inl k:Key)=some v/\AV K ρ H x v
 | [],[],k,_=>⟨rfl,λx h=>nomatch h⟩
 | p::r,q::r',k,⟨⟨e,a⟩,t⟩=>by
  by_cases c:p.1=k
  ·have c':q.1=(Sum.inl k:Key):=by rw[e,c]
   rw[J3 c,sV c'];exact⟨rfl,λx h=>by cases h;exact⟨_,rfl,a⟩⟩
  ·have c':¬q.1=(Sum.inl k:Key):=λz=>c (XZ (e.symm.trans z));rw[KR c,sL c'];exact DI.look k t
theorem DI.repl{x:A}{v:V}(h:AV K ρ H x v)(k:Int):∀{kvs:List (Int×A)}{ks:List (Key×V)},DI K ρ H kvs ks->DI K ρ H (kvs.map λkv=>if kv.1=k then(kv.1,x)else kv) (ks.map λkv=>if kv.1=(Sum.inl k:Key)then(kv.1,v)else kv)
 | [],[],_=>trivial
 | p::r,q::r',⟨⟨e,a⟩,t⟩=>by
  refine⟨?_,DI.repl h k t⟩;dsimp only;by_cases c:p.1=k
  ·rw[aM c,aM (by rw[e,c])];exact⟨e,h⟩
  ·rw[aJ c,aJ (λz=>c (XZ (e.symm.trans z)))];exact⟨e,a⟩
theorem DI.snoc{x:A}{v:V}(h:AV K ρ H x v)(k:Int):∀{kvs:List (Int×A)}{ks:List (Key×V)},DI K ρ H kvs ks->DI K ρ H (kvs++[(k,x)]) (ks++[(Sum.inl k,v)])
 | [],[],_=>⟨⟨rfl,h⟩,trivial⟩
 | p::r,q::r',⟨a,t⟩=>⟨a,DI.snoc h k t⟩
theorem DI.put{x:A}{v:V}(h:AV K ρ H x v)(k:Int)(d:DI K ρ H kvs ks):DI K ρ H (we kvs k x) (putK ks (Sum.inl k:Key) v):=by
 unfold we putK;rw[vp,<- (d.look k).1];by_cases c:(mG kvs k).isSome=true
 ·rw[aM c,aM c];exact DI.repl h k d
 ·rw[aJ c,aJ c];exact DI.snoc h k d
theorem DI.length:∀{kvs:List (Int×A)}{ks:List (Key×V)},DI K ρ H kvs ks->kvs.length=ks.length
 | [],[],_=>rfl
 | _::_,_::_,⟨_,t⟩=>dg (·+1) t.length
theorem DI.keys:∀{kvs:List (Int×A)}{ks:List (Key×V)},DI K ρ H kvs ks->ks.map (·.1)=kvs.map λkv=>(Sum.inl kv.1:Key)
 | [],[],_=>rfl
 | _::_,_::_,⟨⟨e,_⟩,t⟩=>by rw[bC,bC,e,DI.keys t]
theorem Rel.pP{n:Nat}{a:ak}(R:Rel K ρ H S)(ha:ρ[n]?=some a)(hS:S[n]?=some (.pP xs)):∃vs,H a=some (.dK vs)/\DI K ρ H xs vs:=R.at n a _ ha hS
theorem Rel.Yu{S:jx}{p:ak}(R:Rel K ρ H S)(hp:H p=none)(r:DI K ρ H xs vs):Ext ρ (ρ++[p]) H (upd H p (.dK vs))/\Rel K (ρ++[p]) (upd H p (.dK vs)) (S++[.pP xs])/\(ρ++[p])[S.length]?=some p:=by
 have ex:Ext ρ (ρ++[p]) H (upd H p (.dK vs)):=⟨⟨fL _ _,λa u _ h=>by rw[jG (jN h hp)];exact h⟩,λa u h _=>by rw[jG (jN h hp)];exact h,λa h=>by
  rcases bD.mp h with z|z
  ·exact .inl z
  ·have e:a=p:=by simpa using z
   rw[e];exact .inr hp⟩
 have np:p∉ρ:=R.Pn hp;have last:(ρ++[p])[S.length]?=some p:=by rw[<- R.len];simp
 refine⟨ex,⟨by simp[R.len],?_,?_⟩,last⟩
 ·rw[dO];refine⟨R.nd,by simp,λa ha b hb e=>?_⟩;have:b=p:=by simpa using hb
  exact np (by rw[<- this,<- e];exact ha)
 ·intro n a o h1 h2;by_cases hn:n<S.length
  ·rw[bG (by rw[R.len];exact hn)]at h1;rw[bG hn]at h2;have na:a≠p:=λz=>np (by rw[<- z];exact aX h1);have:=R.at n a o h1 h2
   cases o with
   | lst ys=>obtain⟨ws,e,q⟩:=this;exact⟨ws,by rw[jG na];exact e,q.ext ex⟩
   | dct _|pP _=>obtain⟨ws,e,q⟩:=this;exact⟨ws,by rw[jG na];exact e,q.ext ex⟩
   | ins _ _=>obtain⟨oo,uu,e⟩:=this;exact⟨oo,uu,by rw[jG na];exact e⟩
  ·have e:n=S.length:=by
    have:=(aN.mp h2).1;simp at this;lia
   subst e;rw[last]at h1
   cases h1
   simp at h2;subst h2;exact⟨vs,kJ,r.ext ex⟩
theorem Rel.we{S:jx}{n:Nat}{a:ak}(R:Rel K ρ H S)(ha:ρ[n]?=some a)(hS:S[n]?=some (.pP xs))(r:DI K ρ H ys ws):Ext ρ ρ H (upd H a (.dK ws))/\Rel K ρ (upd H a (.dK ws)) (S.set n (.pP ys)):=by
 obtain⟨vs,e,_⟩:=R.at n a _ ha hS;have ex:Ext ρ ρ H (upd H a (.dK ws)):=⟨⟨fH _,λb u i h=>by
  have:b≠a:=by
   intro z;subst z;rw[e]at h;cases h;exact i
  rw[jG this];exact h⟩,λb u h n=>by
  rw[jG (λz=>n (by rw[z];exact aX ha))];exact h,λ_ h=>.inl h⟩
 refine⟨ex,by rw[bY];exact R.len,R.nd,λm b o h1 h2=>?_⟩;by_cases hm:m=n
 ·subst hm;rw[ha]at h1;cases h1;rw[bV (aN.mp hS).1]at h2
  cases h2
  exact⟨ws,kJ,r.ext ex⟩
 ·rw[cu (c6 hm)]at h2;have nb:b≠a:=λz=>by
   subst z;obtain⟨l1,e1⟩:=aN.mp ha;obtain⟨l2,e2⟩:=aN.mp h1;exact hm ((dc R.nd).mp (e2.trans e1.symm))
  have:=R.at m b o h1 h2
  cases o with
  | lst ys=>obtain⟨ws',e',q⟩:=this;exact⟨ws',by rw[jG nb];exact e',q.ext ex⟩
  | dct _|pP _=>obtain⟨ws',e',q⟩:=this;exact⟨ws',by rw[jG nb];exact e',q.ext ex⟩
  | ins _ _=>obtain⟨oo,uu,e'⟩:=this;exact⟨oo,uu,by rw[jG nb];exact e'⟩
end
section
variable {X:Cx}{pos:Pos}{a b:aC}
noncomputable def wj (x y:A)(S:jx):R A:=match x,y with
 | .ref n,.int k=>opt (kC S n) λkvs=>opt (mG kvs k) λv=>.ok v S
 | _,_=>.no
theorem Ka{x:A}{P:A->jx->Prop}{E:Str->jx->Prop}(h:(wj x y S).post P E):∃n k kvs v,x=.ref n/\y=.int k/\kC S n=some kvs/\mG kvs k=some v/\P v S:=by
 unfold wj at h;split at h
 ·obtain⟨kvs,h1,h⟩:=jE h;obtain⟨v,h2,h⟩:=jE h;exact⟨_,_,kvs,v,rfl,rfl,h1,h2,h⟩
 ·exact h.elim
theorem Ye(hu:X.A.units+64<cLine):Tz X (r2 X wj):=λvalue slice pins s σ H x y v u Q I rx ry ⟨ρ,S,a,b,R,va,vb,h⟩ hs=>by
 obtain⟨n,k,kvs,z,ha,hb,hn,hz,hP⟩:=Ka h;subst ha hb
 cases vb
 cases va with
 | @ref p _ hp=>
  obtain⟨ks,e,d⟩:=R.pP hp (nQ hn);obtain⟨w,hw,aw⟩:=(d.look k).2 z hz;have g:uO H p (kV (Sum.inl k)) (pL ks (Sum.inl k)):=uO.k e;rw[hw]at g;exact HB (by lia) value slice pins s σ H _ _ v u Q I rx ry ⟨p,w,rfl,g,hP _ _ _ .refl R aw⟩ hs
theorem Fg(hu:X.A.units+64<cLine){ca cb:Ex}(ha:AE X a ca)(hb:AE X b cb)(hs:yg b:=by exact λ_ _=>rfl):AE X (.Subscript a b pos) (jJ wj ca cb):=PE.imp (NR (Ye hu) ha hb hs) λσ H Q h=>t6 h
noncomputable def AJ (o i v:A)(S:jx):R Unit:=match o,i with
 | .ref n,.int k=>opt (kC S n) λkvs=>gd (kvs.length<sizeLine) (.ok () (S.set n (.pP (we kvs k v))))
 | _,_=>.no
theorem F9{x v:A}{S:jx}{P:Unit->jx->Prop}{E:Str->jx->Prop}(h:(AJ x y v S).post P E):∃n k kvs,x=.ref n/\y=.int k/\kC S n=some kvs/\kvs.length<sizeLine/\P () (S.set n (.pP (we kvs k v))):=by
 unfold AJ at h;split at h
 ·obtain⟨kvs,h1,h⟩:=jE h;obtain⟨h2,h⟩:=jW h;exact⟨_,_,kvs,rfl,rfl,h1,h2,h⟩
 ·exact h.elim
noncomputable def Zz (X:Cx):JI:=λo i v H Q=>∃ρ S ao ai av,Rel X.K ρ H S/\AV X.K ρ H ao o/\AV X.K ρ H ai i/\AV X.K ρ H av v/\(AJ ao ai av S).post (λ_ S'=>∀ρ' H',Ext ρ ρ' H H'->Rel X.K ρ' H' S'->Q H') (XE X ρ H)
theorem Qh(hu:X.A.units+64<cLine):J7 X (Zz X):=λpins s σ H o i v ov iv u Q I ro ri rv h9=>by
 obtain⟨ρ,S,ao,ai,av,R,h1,h2,h3,h⟩:=h9;obtain⟨n,k,kvs,ha,hb,hn,hl,hP⟩:=F9 h;subst ha hb
 cases h2
 cases h1 with
 | @ref p _ hp=>
  obtain⟨ks,e,d⟩:=R.pP hp (nQ hn);obtain⟨ex,R'⟩:=R.we hp (nQ hn) (d.put h3 k);exact set_dict (by lia) pins s σ H _ _ v ov iv u Q I ro ri rv ⟨p,_,rfl,Eb.k (k:=Sum.inl k) e (by rw[<- d.length];exact hl),hP _ _ ex R'⟩
noncomputable def FP (co ci:Ex):Tg:=λa τ S=>(co τ S).bind λo S1=>(ci τ S1).bind λi S2=>(AJ o i a S2).bind λ_ S3=>.ok τ S3
theorem Ct(hu:X.A.units+64<cLine){co ci:Ex}(ho:AE X o co)(hi:AE X i ci)
  (ha:∀v,assign (.Subscript o i pos) X.env v=(do
   let ov <- holding [v] (eval o X.env)
   let iv <- holding [v,ov] (eval i X.env)
   standAt pos
   holding [v,ov,iv] (setItem ov iv v)
   release [v,ov,iv] []):=by intro _;rfl):AG X (.Subscript o i pos) (FP co ci):=PG.imp (Gq ho hi (Qh hu) ha) λv σ H Q h9=>by
 obtain⟨ρ,S,τ,a,R,r,va,h⟩:=h9;refine⟨ρ,S,τ,R,r,jz (jD h) .refl λo S1 h1 ρ1 H1 x e1 R1 v1=>⟨ρ1,S1,τ,R1,r.ext e1,jz (jD h1) e1 λi S2 h2 ρ2 H2 y e2 R2 v2=>?_⟩⟩;refine⟨ρ2,S2,o,i,a,R2,v1.ext e2,v2,va.ext (e1.trans e2),jz (jD h2) (e1.trans e2) λ_ S3 h3 ρ3 H3 e3 R3=>?_⟩;exact h3 ρ3 H3 σ ((e1.trans e2).trans e3) R3 (r.ext ((e1.trans e2).trans e3))
noncomputable def CJ:Ex:=λ_ S=>.ok (.ref S.length) (S++[.pP []])
theorem EG:AE X (.Dict [] [] pos) CJ:=PE.imp NJ λσ H Q ⟨ρ,S,τ,R,r,h⟩ p hp=>by
 obtain⟨ex,R',hl⟩:=R.Yu (xs:=[]) (vs:=[]) hp trivial;exact h _ _ _ ex R' (.ref hl)
noncomputable def dk? (a:A)(S:jx):Option Unit:=match a with
 | .ref n=>(kC S n).map λ_=>()
 | _=>none
noncomputable def Kh (f:A->List A->jx->R A)(co:Ex)(d:qo):Ex:=λτ S=>(co τ S).bind λx S1=>opt (dk? x S1) λ_=>(d τ S1).bind λas S2=>f x as S2
theorem dk?_ty{K:au}{H:Hp}{x:A}{v:V}(R:Rel K ρ H S)(a:AV K ρ H x v)(e:dk? x S=some u):W4 K "dict" v H:=by
 cases a with
 | @ref p n h=>
  obtain⟨xs,hx,_⟩:=aY.mp e;obtain⟨vs,h1,_⟩:=R.pP h (nQ hx);exact .inr (.inr (.inl ⟨rfl,.inl ⟨vs,h1⟩⟩))
 | _=>cases e
theorem Oi{e:aC}{id:String}{apos cpos:Pos}{f:A->List A->jx->R A}{co:Ex}{d:qo}(slot:Slot "dict" name id)(hty:typeOf (.builtin id)=pure (.type "method_descriptor"))(hm:Sb X id (rM X f))(ho:AE X o co)(ha:AL X (e::es) d)
  (hbase:attributeBase o name X.env (eval o X.env)=eval o X.env:=by rfl)
  (hfew:((backTo cpos (starEach (e::es) X.env)).all (λx=>!x.1) && (backToKw cpos (keywordEach [] X.env)).all (λx=>x.1.isSome)
   && decide ((e::es).length+([]:List Keyword).length+(if ([]:List Keyword).isEmpty then 0 else 1)<30))=true:=by rfl)
  (hline:(apos.endLine == cpos.line)=true:=by rfl) (hs:starEach (e::es) X.env=(false,eval e X.env)::starEach es X.env:=by rfl) (hplain:(backTo cpos (starEach es X.env)).any (·.1)=false:=by rfl) :
  AE X (.Call (.Attribute o name apos) (e::es) [] cpos) (Kh f co d):=PE.imp (Lu PySem.F.plainAttrs_dict slot hty hm ho ha hbase hfew hline hs hplain) λσ H Q h9=>by
 obtain⟨ρ,S,τ,R,r,h⟩:=h9;refine⟨ρ,S,τ,R,r,jz (jD h) .refl λx S1 h1 ρ1 H1 v e1 R1 v1=>?_⟩;obtain⟨xs,hx,h1⟩:=jE h1;refine⟨dk?_ty R1 v1 hx,ρ1,S1,τ,R1,r.ext e1,jz (jD h1) e1 λas S2 h2 ρ2 H2 vs e2 R2 v2=>?_⟩;exact⟨ρ2,S2,x,as,R2,v1.ext e2,v2,jz h2 (e1.trans e2) λ_ _ z=>z.ext (e1.trans e2)⟩
noncomputable def xy (o:A)(as:List A)(S:jx):R A:=match o,as with
 | .ref n,[.int k,y]=>opt (kC S n) λkvs=>.ok ((mG kvs k).getD y) S
 | _,_=>.no
theorem GN{x:A}{P:A->jx->Prop}{E:Str->jx->Prop}(h:(xy x as S).post P E):∃n k y kvs,x=.ref n/\as=[.int k,y]/\kC S n=some kvs/\P ((mG kvs k).getD y) S:=by
 unfold xy at h;split at h
 ·obtain⟨kvs,h1,h⟩:=jE h;exact⟨_,_,_,kvs,rfl,rfl,h1,h⟩
 ·exact h.elim
theorem Pg(hu:X.A.units+64<cLine):Sb X "dict.get" (rM X xy):=λpins s σ H x vs v us Q I rx rv h9=>by
 obtain⟨ρ,S,o,as,R,vo,va,h⟩:=h9;obtain⟨n,k,y,kvs,ho,has,hn,hP⟩:=GN h;subst ho has;obtain⟨w1,w2,rfl,hz,hy⟩:=UL va
 cases hz
 cases vo with
 | @ref p _ hp=>
  obtain⟨ks,h1,dv⟩:=R.pP hp (nQ hn)
  cases rx
  obtain⟨u1,u2,rfl,r1,r2⟩:=vals2 rv;refine V9 (by lia) I (uO.k (k:=Sum.inl k) h1) r1 r2 λw' s' I' rw'=>⟨_,H,I',rw',hP _ _ _ .refl R ?_⟩;obtain⟨l1,l2⟩:=dv.look k
  cases e1:mG kvs k with
  | none=>
   rw[e1]at l1
   cases e2:pL ks (Sum.inl k:Key)with
   | none=>exact hy
   | some _=>rw[e2]at l1;cases l1
  | some x1=>
   obtain⟨v1,e2,a1⟩:=l2 x1 e1;rw[e2];exact a1
end
section
variable {X:Cx}
noncomputable def UR (n:Nat)(S:jx):R A:=opt (jQ S n) λkvs=>match (kvs.map Prod.fst).all (λks=>!ks.isEmpty)with
 | true=>.ok (.ref S.length) (S++[.lst ((lH (kvs.map Prod.fst)).map λks=>.tup (ks.map .int))])
 | false=>.no
noncomputable def wK (x:A)(S:jx):R A:=match x with
 | .ref n=>UR n S
 | _=>.no
theorem Jh{K:au}{H:Hp}:∀{kvs:List (List Int×A)}{ks:List (List Key×V)},DV K ρ H kvs ks->ks.map (λp=>p.1)=(kvs.map Prod.fst).map (λks=>ks.map Sum.inl)
 | [],[],_=>rfl
 | a::kvs,b::ks,⟨z,t⟩=>by
  have:=Jh t;show b.1::ks.map _=a.1.map Sum.inl::_;rw[this,z.1]
theorem Hz(hc:X.calm=true):kh X (.builtin "sorted") (rN X (f1 wK)):=kh.imp (CB hc) λvs H Q h0=>by
 obtain⟨w,rfl,ρ,S,x,R,hv,h⟩:=SV h0;clear h0
 cases hv with
 | ref hp=>
  rename_i p n;obtain⟨kvs,hn,h⟩:=jE h;obtain⟨ks,g1,dv⟩:=R.dct hp (m_ hn)
  cases hb:(kvs.map Prod.fst).all (λks=>!ks.isEmpty)with
  | false=>rw[hb]at h;exact h.elim
  | true=>
   rw[hb]at h;refine⟨p,ks,kvs.map Prod.fst,rfl,g1,Jh dv,λk hk z=>?_,λrs l g hl hh hl' hc hs=>?_⟩
   ·have:=d7.mp hb k hk;rw[z]at this
    cases this
   have av:AVs X.K ρ H ((lH (kvs.map Prod.fst)).map λks=>.tup (ks.map .int)) (((List.range (kvs.map Prod.fst).length).map λi=>rs.getD (g i) 0).map V.ref):=by
    rw[<- Om hc hs,bh,bh];refine Cr λi hi=>?_;have lt:=(hc i (bI _) (cI.mp hi)).2;have e1:rs[g i]?=some (rs.getD (g i) 0):=by rw[aL,aF (by rw[hl];exact lt)];rfl
    have e2:(kvs.map Prod.fst)[g i]?=some ((kvs.map Prod.fst).getD (g i) []):=by rw[aL,aF lt];rfl
    exact .tup (hh _ _ _ e1 e2) (qF _)
   exact nS R av .refl h l hl'
 | _=>exact h.elim
end
noncomputable def Rq:List A->Option (List (Int×A))
 | []=>some []
 | .tup [.int k,x]::r=>(Rq r).map λps=>(k,x)::ps
 | _=>none
noncomputable def Q9 (ps:List (Int×A)):List (Int×A):=ps.foldl (λacc p=>we acc p.1 p.2) []
section
variable {K:au}{ρ:List ak}{H:Hp}
theorem Rl{x:A}(r:AVs K ρ H [x,y] vs):∃v w,vs=[v,w]/\AV K ρ H x v/\AV K ρ H y w:=by
 cases r with
 | cons h t=>cases t with
  | cons h' t'=>cases t';exact⟨_,_,rfl,h,h'⟩
theorem ON{x:A}(e:Rq (x::xs)=some ps):∃k y ps',x=.tup [.int k,y]/\Rq xs=some ps'/\ps=(k,y)::ps':=by
 unfold Rq at e;split at e
 ·rename_i e2;cases e2
 ·rename_i k y r e2
  cases e2
  obtain⟨ps',h1,h2⟩:=aY.mp e;exact⟨_,_,_,rfl,h1,h2.symm⟩
 ·cases e
theorem Xy:∀{xs:List A}{vs:List V}{ps:List (Int×A)},AVs K ρ H xs vs->Rq xs=some ps ->
  ∃(rs:List ak) (qs:List (Int×V)),vs=rs.map V.ref/\rs.length=qs.length/\(∀(i:Nat) (r:ak) (q:Int×V),rs[i]?=some r->qs[i]?=some q->mD K H r [.int q.1,q.2]) /\
   ∀as bs,DI K ρ H as bs->DI K ρ H (ps.foldl (λacc p=>we acc p.1 p.2) as) (qs.foldl (λacc p=>putK acc (Sum.inl p.1) p.2) bs):=by
 intro xs
 induction xs with
 | nil=>intro vs ps r e;cases r;cases e;exact⟨[],[],rfl,rfl,λi r q h=>by simp at h,λas bs h=>h⟩
 | cons x xs ih=>
  intro vs ps r e;obtain⟨k,y,ps',rfl,e1,rfl⟩:=ON e
  cases r with
  | cons h t=>
   obtain⟨rs,qs,rfl,hl,hh,hd⟩:=ih t e1
   cases h with
   | @tup a _ us h r=>
    obtain⟨v,w,rfl,h1,h2⟩:=Rl r
    cases h1
    refine⟨a::rs,(k,w)::qs,rfl,by rw[bz,bz,hl],λi r q e1 e2=>?_,λas bs d=>hd _ _ (d.put h2 k)⟩
    cases i with
    | zero=>cases e1;cases e2;exact mD.of h
    | succ i=>exact hh i r q (by simpa using e1) (by simpa using e2)
end
section
variable {X:Cx}
noncomputable def Gx (x:A)(S:jx):R A:=match x with
 | .ref n=>opt (jw S n) λxs=>opt (Rq xs) λps=>.ok (.ref S.length) (S++[.pP (Q9 ps)])
 | _=>.no
theorem PU(hc:X.calm=true):kh X (.type "dict") (rN X (f1 Gx)):=kh.imp (FU hc) λvs H Q h0=>by
 obtain⟨w,rfl,ρ,S,x,R,hv,h⟩:=SV h0;clear h0
 cases hv with
 | ref hp=>
  rename_i p n;obtain⟨xs,hn,h⟩:=jE h;obtain⟨ps,hb,h⟩:=jE h;obtain⟨us,h1,r⟩:=R.lst hp (jL hn);obtain⟨rs,qs,rfl,hl,hh,hd⟩:=Xy r hb;refine⟨p,rs,qs,rfl,oX.of h1,hl,hh,λl hl'=>?_⟩;obtain⟨ex,R',hl⟩:=R.Yu (xs:=Q9 ps) (vs:=Zo qs) hl' (hd [] [] trivial);exact h _ _ _ ex R' (.ref hl)
 | _=>exact h.elim
noncomputable def r8 (x:A)(S:jx):R A:=match x with
 | .ref n=>opt (kC S n) λkvs=>.ok (.ref S.length) (S++[.lst ((sortI (kvs.map Prod.fst)).map .int)])
 | _=>.no
theorem Rg{ns:List Int}{g:Nat->Nat}(c:Sx.Cl g 0 ns.length)(so:Sx.So (Rw ns) g 0 ns.length):(List.range ns.length).map (λi=>ns.getD (g i) 0)=sortI ns:=by
 refine RC ?_ ?_ (zI ns)
 ·refine List.Perm.trans ?_ (sortI_perm ns).symm;have p:=qX (N:=ns.length) (g:=g) (λi hi=>(c i (bI _) hi).2) λi j hij hj z=>by
   have:=so i j (bI _) hij hj;rw[z]at this;exact this.K2
  have:=p.map λi=>ns.getD i 0;rw[bh,range_getD]at this;exact this
 ·rw[cY];intro i j hi hj hij;rw[aK,b_]at hi hj;rw[cX,cX,eG,eG];have:=cW (so i j (bI _) hij hj).ge;lia
theorem IT(hc:X.calm=true):kh X (.builtin "sorted") (rN X (f1 r8)):=kh.imp (CA hc) λvs H Q h0=>by
 obtain⟨w,rfl,ρ,S,x,R,hv,h⟩:=SV h0;clear h0
 cases hv with
 | ref hp=>
  rename_i p n;obtain⟨kvs,hn,h⟩:=jE h;obtain⟨ks,g1,dv⟩:=R.pP hp (nQ hn);refine⟨p,ks,kvs.map Prod.fst,rfl,g1,by rw[dv.keys,bh];rfl,λl g hl' hc hs=>?_⟩;have av:AVs X.K ρ H ((sortI (kvs.map Prod.fst)).map .int) ((List.range (kvs.map Prod.fst).length).map λi=>V.int ((kvs.map Prod.fst).getD (g i) 0)):=by
   rw[<- Rg hc hs,bh];exact Cr λi _=>.int _
  exact nS R av .refl h l hl'
 | _=>exact h.elim
@[irreducible] noncomputable def big:Nat:=2 ^ 4096
theorem tM:big=2 ^ 4096:=by unfold big;rfl
theorem Eh{i:Int}(h:i.natAbs<big):Builtin.Int.intBits i<=2 ^ 20:=by
 rw[tM]at h;exact bH (intBits_le h) (by decide)
noncomputable def Ip (a b:A)(S:jx):R A:=match a,b with
 | .int i,.int j=>gd (i.natAbs<big/\j.natAbs<big) (.ok (.int (i * j)) S)
 | _,_=>.no
theorem VH:n5 X (binaryOp .Mult) (r2 X Ip):=λpins s σ H x y v u Q I rx ry h9=>by
 obtain⟨ρ,S,a,b,R,va,vb,h⟩:=h9
 cases va with
 | int i=>cases vb with
  | int j=>
   obtain⟨⟨h1,h2⟩,h⟩:=jW h;obtain⟨t,rfl⟩:∃t,v=Value.int i t:=rx;obtain⟨t',rfl⟩:∃t,u=Value.int j t:=ry;exact mul_int ⟨.int _,H,I.tok _,⟨_,rfl⟩,h _ _ _ .refl R (.int _)⟩ (IntMulOk.of_bits (Eh h1) (Eh h2))
  | _=>exact h.elim
 | _=>exact h.elim
end
theorem Qj:bootBuiltins "dict" = some (.type "dict"):=by decide +kernel
noncomputable def kA (p:Int×Int):A:=.ktu [.int p.1,.int p.2]
noncomputable def NI (K:au):af->Option (Int×Int)
 | .ref b=>match K.lookup b with
  | some ⟨.type "tuple",none,.seq its _,_⟩=>match its.toList with
   | [.int i _,.int j _]=>some (i,j)
   | _=>none
  | _=>none
 | _=>none
noncomputable def F_ (K:au):List af->Option (List (Int×Int))
 | []=>some []
 | v::vs=>(NI K v).bind λp=>(F_ K vs).map λps=>p::ps
noncomputable def PD (K:au)(a:ak):Option (List (Int×Int)):=match K.lookup a with
 | some ⟨.type "list",none,.seq its _,_⟩=>if its.size<=sizeLine then F_ K its.toList else none
 | _=>none
theorem NS{K:au}{v:af}{p:Int×Int}(h:NI K v=some p):∃b,v=.ref b/\KTp K b [.int p.1,.int p.2]:=by
 unfold NI at h;split at h
 ·rename_i b;refine⟨b,rfl,?_⟩;split at h
  ·rename_i its n sl e;split at h
   ·rename_i i t j u e2
    cases h
    refine⟨_,its,n,e,rfl,rfl,rfl,?_,?_⟩
    ·rw[<- dQ,e2];show 2<=sizeLine;decide
    ·rw[e2];exact .cons ⟨t,rfl⟩ (.cons ⟨u,rfl⟩ .nil)
   ·cases h
  ·cases h
 ·cases h
theorem JL{K:au}{H:Hp}:∀{vs:List af}{ps:List (Int×Int)},F_ K vs=some ps->∃us:List V,Vals us vs/\AVs K ρ H (ps.map kA) us:=by
 intro vs
 induction vs with
 | nil=>intro ps h;cases h;exact⟨[],.nil,.nil⟩
 | cons v vs ih=>
  intro ps h;obtain⟨p,h1,h⟩:=cj.mp h;obtain⟨qs,h2,rfl⟩:=aY.mp h;obtain⟨us,h3,h4⟩:=ih h2;obtain⟨b,rfl,h5⟩:=NS h1;exact⟨.ref b::us,.cons rfl h3,.cons (.ktu h5 (.cons (.int _) (.cons (.int _) .nil))) h4⟩
theorem VB{K:au}{H:Hp}{a:ak}{ps:List (Int×Int)}(h:PD K a=some ps):AV K ρ H (.frz (ps.map kA)) (.ref a):=by
 unfold PD at h;split at h
 ·rename_i its n sl e;split at h
  ·rename_i hz;obtain⟨us,h1,h2⟩:=JL (ρ:=ρ) (H:=H) h;exact .frz (.inr ⟨_,its,n,e,rfl,rfl,rfl,hz,h1⟩) h2
  ·cases h
 ·cases h
theorem E1{X:Cx}{x:Str}{a:ak}{ps:List (Int×Int)}(hm:X.mg x=some (.ref a))(hk:PD X.K a=some ps)(hg:Gl X x:=by rfl)(hd:(x == ("__debug__" : Str))=false:=by decide):AE X (.Name x pos) (eC (.frz (ps.map kA))):=
 PE.imp (QW (v:=.ref a) hg hm rfl hd) λσ H Q h9=>by
  obtain⟨ρ,S,τ,R,r,h⟩:=h9;exact h ρ H _ .refl R (VB hk)
noncomputable def zF {α:Type}(x:List Int×α):List (List Int×α)->List (List Int×α)
 | []=>[x]
 | y::ys=>if HT.lexLt y.1 x.1=true then y::zF x ys else x::y::ys
noncomputable def lZ {α:Type}:List (List Int×α)->List (List Int×α)
 | []=>[]
 | x::xs=>zF x (lZ xs)
section
variable {α:Type}
theorem AR(x:List Int×α):∀ys:List (List Int×α),(zF x ys).Perm (x::ys)
 | []=>eF _
 | y::ys=>by
  unfold zF;by_cases h:HT.lexLt y.1 x.1=true
  ·rw[aM h];exact((AR x ys).cons y).trans (List.Perm.swap x y ys)
  ·rw[aJ h]
theorem o7:∀xs:List (List Int×α),(lZ xs).Perm xs
 | []=>eF _
 | x::xs=>(AR x (lZ xs)).trans ((o7 xs).cons x)
theorem EU(x:List Int×α):∀ys:List (List Int×α),(zF x ys).map Prod.fst=CO x.1 (ys.map Prod.fst)
 | []=>rfl
 | y::ys=>by
  unfold zF;rw[bC];unfold CO;by_cases h:HT.lexLt y.1 x.1=true
  ·rw[aM h,aM h,bC,EU]
  ·rw[aJ h,aJ h];rfl
theorem Be:∀xs:List (List Int×α),(lZ xs).map Prod.fst=lH (xs.map Prod.fst)
 | []=>rfl
 | x::xs=>by
  show(zF x (lZ xs)).map Prod.fst=CO x.1 (lH (xs.map Prod.fst));rw[EU,Be]
theorem BD:∀{l:List (List Int×α)},(l.map Prod.fst).Nodup->∀a∈l,∀b∈l,a.1=b.1->a=b
 | [],_,_,h,_,_,_=>nomatch h
 | x::l,nd,a,ha,b,hb,e=>by
  obtain⟨h1,h2⟩:=cG.mp nd
  rcases bB.mp ha with ea|ha'
  ·rcases bB.mp hb with eb|hb'
   ·rw[ea,eb]
   ·subst ea;exact absurd (e ▸ dW hb') h1
  ·rcases bB.mp hb with eb|hb'
   ·subst eb;exact absurd (e ▸ dW ha') h1
   ·exact BD h2 a ha' b hb' e
theorem y_{xs ys:List (List Int×α)}(nd:(ys.map Prod.fst).Nodup)(p:xs.Perm ys)(h:(xs.map Prod.fst).Pairwise BS):xs=lZ ys:=by
 refine dD (le:=λ(a b:List Int×α)=>BS a.1 b.1) (λ(a b:List Int×α) ha hb h1 h2=>BD nd a (p.mem_iff.mp ha) b ((o7 ys).mem_iff.mp hb) (Sx.u0 (show HT.lexLt b.1 a.1=false from h1) (show HT.lexLt a.1 b.1=false from h2)).symm) ?_ ?_ (p.trans (o7 ys).symm)
 ·exact cB.mp h
 ·have:=qK (ys.map Prod.fst);rw[<- Be]at this;exact cB.mp this
theorem Qm{ps:List (List Int×α)}{d:α}{g:Nat->Nat}(nd:(ps.map Prod.fst).Nodup)(c:Sx.Cl g 0 (ps.map Prod.fst).length)(so:Sx.So (Sx.zX (ps.map Prod.fst)) g 0 (ps.map Prod.fst).length):(List.range (ps.map Prod.fst).length).map (λi=>ps.getD (g i) ([],d))=lZ ps:=by
 refine y_ nd ?_ ?_
 ·have p:=qX (N:=(ps.map Prod.fst).length) (g:=g) (λi hi=>(c i (bI _) hi).2) λi j hij hj z=>by
   have:=so i j (bI _) hij hj;rw[z]at this;exact this.K2
  have:=p.map λi=>ps.getD i ([],d);rw[bh,aK,range_getD]at this;rw[aK];exact this
 ·rw[bh];have e:(Prod.fst ∘ λi=>ps.getD (g i) ([],d))=λi=>(ps.map Prod.fst).getD (g i) []:=funext λi=>by
   show(ps.getD (g i) ([],d)).1=_;rw[aL,aL,aP]
   cases ps[g i]?<;>rfl
  rw[e,Om c so];exact qK _
end
noncomputable def WE:List A->Option (List (List Int×A))
 | []=>some []
 | .tup [.tup xs,y]::r=>match A.ints xs with
  | some ks=>(WE r).map λrs=>(ks,y)::rs
  | _=>none
 | _=>none
theorem OJ{K:au}{H:Hp}:∀{xs:List A}{vs:List V}{ps:List (List Int×A)},AVs K ρ H xs vs->WE xs=some ps ->
  ∃rs:List ak,vs=rs.map V.ref/\rs.length=ps.length/\∀(i:Nat) (r:ak) (e:List Int×A),rs[i]?=some r->ps[i]?=some e->(∃(a:ak) (v:V),mD K H r [.ref a,v]/\mD K H a (e.1.map V.int))/\AV K ρ H (.tup [.tup (e.1.map .int),e.2]) (.ref r)
 | [],_,_,.nil,e=>by cases e;exact⟨[],rfl,rfl,λi r ks h=>by simp at h⟩
 | x::xs,_,ps,.cons h t,e=>by
  unfold WE at e;split at e
  ·rename_i z;cases z
  ·rename_i ys y r' z
   cases z
   cases e1:A.ints ys with
   | none=>rw[e1]at e;cases e
   | some ks=>
    rw[e1]at e;obtain⟨ps',e2,rfl⟩:=aY.mp e;obtain⟨rs,rfl,hl,hh⟩:=OJ t e2
    cases h with
    | tup h r=>cases r with
     | cons h1 r=>cases r with
      | cons h2 r=>
       cases r
       cases h1 with
       | tup h3 r3=>
        have ev:=yr r3 e1;subst ev;rename_i p _ q;refine⟨_::rs,rfl,by rw[bz,bz,hl],λi r' e' g1 g2=>?_⟩
        cases i with
        | zero=>
         cases g1
         cases g2
         exact⟨⟨_,_,mD.of h,mD.of h3⟩,.tup h (.cons (.tup h3 (qF _)) (.cons h2 .nil))⟩
        | succ i=>exact hh i r' e' (by simpa using g1) (by simpa using g2)
  ·cases e
section
variable {X:Cx}
noncomputable def BW (x:A)(S:jx):R A:=match x with
 | .ref n=>opt (jw S n) λxs=>opt (WE xs) λps=>gd (ps.map Prod.fst).Nodup (.ok (.ref S.length) (S++[.lst ((lZ ps).map λe=>.tup [.tup (e.1.map .int),e.2])]))
 | _=>.no
theorem LC(hu:X.A.units+64<cLine):kh X (.builtin "sorted") (rN X (f1 BW)):=kh.imp (C4 hu) λvs H Q h0=>by
 obtain⟨w,rfl,ρ,S,x,R,hv,h⟩:=SV h0;clear h0
 cases hv with
 | ref hp=>
  rename_i p n;obtain⟨xs,hn,h⟩:=jE h;obtain⟨ps,hb,h⟩:=jE h;obtain⟨nd,h⟩:=jW h;obtain⟨us,h1,r⟩:=R.lst hp (jL hn);obtain⟨rs,rfl,hl,hh⟩:=OJ r hb;have at_:∀(i:Nat) (ks:List Int),(ps.map Prod.fst)[i]?=some ks->∃e,ps[i]?=some e/\e.1=ks:=λi ks h=>by
   rw[aP]at h;exact aY.mp h
  refine⟨p,rs,ps.map Prod.fst,rfl,oX.of h1,by rw[aK,hl],λi j hi hj z=>(dc nd).mp z,λi r ks e1 e2=>?_,λl g hl' hc hs=>?_⟩
  ·obtain⟨e,g1,rfl⟩:=at_ i ks e2;exact(hh i r e e1 g1).1
  have av:AVs X.K ρ H ((lZ ps).map λe=>.tup [.tup (e.1.map .int),e.2]) (((List.range (ps.map Prod.fst).length).map λi=>rs.getD (g i) 0).map V.ref):=by
   rw[<- Qm (d:=.non) nd hc hs,bh,bh];refine Cr λi hi=>?_;have lt:=(hc i (bI _) (cI.mp hi)).2;rw[aK]at lt;have e1:rs[g i]?=some (rs.getD (g i) 0):=by rw[aL,aF (by lia)];rfl
   have e2:ps[g i]?=some (ps.getD (g i) ([],.non)):=by rw[aL,aF lt];rfl
   exact(hh _ _ _ e1 e2).2
  exact nS R av .refl h l hl'
 | _=>exact h.elim
end
noncomputable def Df (K:au)(x:Str)(st:aE):Prop:=∃(f:ak) (fd:FuncData),PySem.W.nsIn K mainGlobals x=some (some (.ref f))/\Fun K x x st f fd
inductive En (P:aj) (w:ah) (K:au) (mg:Str->Option af) (base:aq):Prop
 | mk (h:aq) (X:K.In h) (G:h.Ns mainGlobals mg)
section
variable {P:aj}{w:ah}{K:au}{mg:Str->Option af}{base:aq}{x:Str}{st:aE}{ps:List Str}{k:Nat}{F:List A->jx->R A}
theorem En.at(E:En P w K mg base){f:ak}(h:PySem.W.nsIn K mainGlobals x=some (some (.ref f))):mg x=some (.ref f):=by
 obtain⟨_,X,G⟩:=E;exact jb X G h
theorem Df.of{f:ak}{kV pm ct:af}(a:PySem.W.nsIn K mainGlobals x=some (some (.ref f)))(l:K.lookup f=some ⟨oc,od,.func (PySem.W.fnOf x x (t_ st) (pY st) (jH st) .none kV doc pm an cdv ct),osl⟩)(c:PySem.W.codeIn K cdv x=true)(k:PySem.W.keepIn K (.ref f)=true):Df K x st:=⟨f,_,a,Wt l c k⟩
noncomputable abbrev Bi (x:Str)(st:aE)(ps:List Str):Prop:=∀us:List af,us.length=ps.length->∀(kV doc pm:af) (an:Option ak) (cdv ct:af),bindArgs (PySem.W.fnOf x x (t_ st) (pY st) (jH st) .none kV doc pm an cdv ct) ⟨us,[]⟩=pure (ps.zip us)
theorem Df.get(d:Df K x st)(E:En P w K mg base)(b:Bi x st ps):∃f fd,Fun K x x st f fd/\mg x=some (.ref f)/\PySem.W.keepIn K (.ref f)=true/\Binds K fd ps []:=by
 obtain⟨f,fd,a,F⟩:=d;exact⟨f,fd,F,E.at a,F.kp,F.binds λkV doc pm an cdv ct us hl=>b us hl kV doc pm an cdv ct⟩
theorem Df.kA(d:Df K x st)(E:En P w K mg base)(h:∀{f fd},Fun K x x st f fd->FnOk P w K mg base pQ k f fd ps (qv K ps.length F))(b:Bi x st ps):mq P w K mg base k x ps F:=by
 obtain⟨f,fd,a,c,e,g⟩:=d.get E b;exact⟨f,fd,h a,c,e,g⟩
theorem Df.rA(d:Df K x st)(E:En P w K mg base)(h:∀{f fd},Fun K x x st f fd->mg x=some (.ref f)->PySem.W.keepIn K (.ref f)=true->Binds K fd ps []->FnOk P w K mg base pQ k f fd ps (qv K ps.length F))(b:Bi x st ps):mq P w K mg base k x ps F:=by
 obtain⟨f,fd,a,c,e,g⟩:=d.get E b;exact⟨f,fd,h a c e g,c,e,g⟩
end
section
variable {X:Cx}{pos p:Pos}{e1 e2 e3:aC}{x p1 p2 p3:Str}{k K0:Nat}{F:List A->jx->R A}{c1 c2 c3:Ex}
theorem xE(G:mq X.prog X.w X.K X.mg X.base k x [p1] F)(hr:Room K0 X.A)(h1:AE X e1 c1)(hk:k<=K0:=by decide)(hg:Gl X x:=by rfl)(hdb:(x == ("__debug__" : Str))=false:=by decide)(s1:starEach [e1] X.env=(false,eval e1 X.env)::starEach [] X.env:=by rfl)(hp:(backTo pos (starEach [] X.env)).any (·.1)=false:=by rfl):AE X (.Call (.Name x p) [e1] [] pos) (eFn F (jt c1 jB)):=qA G (hr.mono hk) (jv h1 jF s1) (jS l_) hg hdb s1 hp
theorem qN(G:mq X.prog X.w X.K X.mg X.base k x [p1,p2] F)(hr:Room K0 X.A)(h1:AE X e1 c1)(h2:AE X e2 c2)(hk:k<=K0:=by decide)(hg:Gl X x:=by rfl)(hdb:(x == ("__debug__" : Str))=false:=by decide)(s1:starEach [e1,e2] X.env=(false,eval e1 X.env)::starEach [e2] X.env:=by rfl)(s2:starEach [e2] X.env=(false,eval e2 X.env)::starEach [] X.env:=by rfl)(hp:(backTo pos (starEach [e2] X.env)).any (·.1)=false:=by rfl):AE X (.Call (.Name x p) [e1,e2] [] pos) (eFn F (jt c1 (jt c2 jB))):=qA G (hr.mono hk) (jv h1 (jv h2 jF s2) s1) (jS (jS l_)) hg hdb s1 hp
theorem RW(G:mq X.prog X.w X.K X.mg X.base k x [p1,p2,p3] F)(hr:Room K0 X.A)(h1:AE X e1 c1)(h2:AE X e2 c2)(h3:AE X e3 c3)(hk:k<=K0:=by decide)(hg:Gl X x:=by rfl)(hdb:(x == ("__debug__" : Str))=false:=by decide)(s1:starEach [e1,e2,e3] X.env=(false,eval e1 X.env)::starEach [e2,e3] X.env:=by rfl)(s2:starEach [e2,e3] X.env=(false,eval e2 X.env)::starEach [e3] X.env:=by rfl)(s3:starEach [e3] X.env=(false,eval e3 X.env)::starEach [] X.env:=by rfl)(hp:(backTo pos (starEach [e2,e3] X.env)).any (·.1)=false:=by rfl):AE X (.Call (.Name x p) [e1,e2,e3] [] pos) (eFn F (jt c1 (jt c2 (jt c3 jB)))):=qA G (hr.mono hk) (jv h1 (jv h2 (jv h3 jF s3) s2) s1) (jS (jS (jS l_))) hg hdb s1 hp
theorem uF{N P:List Str}{sc:Scope}(a:sc.kind=.function)(b:sc.isCoroutine=false)(c:sc.isGenerator=false)(h:N.Nodup/\N.take P.length=P/\(∀x∈P,sc.names.lookup x=some .local\/sc.names.lookup x=some .cell)/\∀y∈sc.names,y.2≠.free):FnScope N P sc:=⟨a,b,c,h.1,h.2.1,h.2.2.1,h.2.2.2⟩
end
end Am
namespace Bl
open L2
noncomputable def cnt:List Int->Int->Int
 | [],_=>0
 | x::l,j=>(if j<=x then 1 else 0)+cnt l j
noncomputable def Below (xs ys:List Int):Prop:=∀(i:Nat) (j:Int),cnt (xs.take i) j<=cnt (ys.take i) j
theorem take_snoc{l:List Int}{i:Nat}(h:i<l.length):l.take (i+1)=l.take i++[l[i]]:=by
 rw[List.take_succ,aF h];rfl
theorem JB{l:List Int}{p:Nat}(h:p<l.length)(v:Int)(i:Nat)(j:Int) :
  cnt ((l.set p v).take i) j=cnt (l.take i) j+(if p<i then(if j<=v then 1 else 0)-(if j<=l[p]then 1 else 0)else 0):=by
 induction l generalizing p i with
 | nil=>cases h
 | cons x l ih=>
  cases i with
  | zero=>simp[cnt]
  | succ i=>
   cases p with
   | zero=>
    show(if j<=v then 1 else 0)+cnt (l.take i) j=(if j<=x then 1 else 0)+cnt (l.take i) j+_;rw[aM (Nat.succ_pos _)];show _=(if j<=x then 1 else 0)+cnt (l.take i) j+((if j<=v then 1 else 0)-(if j<=x then 1 else 0));lia
   | succ p=>
    show(if j<=x then 1 else 0)+cnt ((l.set p v).take i) j=(if j<=x then 1 else 0)+cnt (l.take i) j+_;have hp:p<l.length:=gU h;rw[ih hp];by_cases z:p<i
    ·rw[aM z,aM (Nat.succ_lt_succ z)];show _=(if j<=x then 1 else 0)+cnt (l.take i) j+((if j<=v then 1 else 0)-(if j<=l[p]then 1 else 0));lia
    ·rw[aJ z,aJ (λy=>z (gU y))];lia
theorem EF{l:List Int}{p q:Nat}(hp:p<l.length)(hq:q<l.length)(hpq:p<q)(h:l[p]<l[q]):Below l ((l.set p l[q]).set q l[p]):=by
 intro i j;have hq':q<(l.set p l[q]).length:=by rw[bY];exact hq
 rw[JB hq',JB hp];have e:(l.set p l[q])[q]=l[q]:=by rw[List.getElem_set_ne (bE hpq)]
 rw[e]
 (repeat' split)<;>lia
noncomputable def oz (a b:List Int):Prop:=a.length=b.length/\∀(p:Nat) (h:p<a.length),b[(a[p]-1).toNat]?=some ((p:Int)+1)
end Bl
namespace Am
open PySem L2 Bl
theorem XM{S:jx}{n:Nat}{x:A}{k:Nat}(h:jw S n=some [x])(hk:k<=16777216):xF (.ref n) (.int k) S=.ok (.ref S.length) (S++[.lst (List.replicate k x)]):=by
 show opt (jw S n) _=_;rw[h,j3];have e:(List.replicate k [x]).flatten=List.replicate k x:=by
  induction k with
  | zero=>rfl
  | succ k ih=>rw[c5,dJ,ih (by lia)];rfl
 rw[mz ⟨by lia,by lia,by rw[dY,c7];simpa using hk⟩,c7,e]
theorem Nj{xs:List Int}{n:Int}(h:xs.Perm (kc 1 (n+1)))(hn:0<=n):(xs.length:Int)=n:=by
 rw[h.length_eq,o_];lia
theorem EI{xs:List Int}{n x:Int}(h:xs.Perm (kc 1 (n+1)))(hx:x∈xs):1<=x/\x<=n:=by
 have:=nq.mp (h.mem_iff.mp hx);lia
end Am
namespace Tb
noncomputable def fg (r:List Int)(x:Int):Nat:=r.findIdx λy=>decide (x<y)
noncomputable def put:List (List Int)->Int->List (List Int)
 | [],x=>[[x]]
 | r::rs,x=>if fg r x=r.length then(r++[x])::rs else r.set (fg r x) x::put rs (r.getD (fg r x) 0)
noncomputable def row:List (List Int)->Int->Nat
 | [],_=>0
 | r::rs,x=>if fg r x=r.length then 0 else row rs (r.getD (fg r x) 0)+1
theorem PJ{r:List Int}{x:Int}(h:fg r x=r.length):put (r::rs) x=(r++[x])::rs:=aM h
theorem U7{r:List Int}{x:Int}(h:fg r x≠r.length):put (r::rs) x=r.set (fg r x) x::put rs (r.getD (fg r x) 0):=aJ h
theorem Hu{r:List Int}{x:Int}(h:fg r x=r.length):row (r::rs) x=0:=aM h
theorem Of{r:List Int}{x:Int}(h:fg r x≠r.length):row (r::rs) x=row rs (r.getD (fg r x) 0)+1:=aJ h
theorem ME:∀(T:List (List Int)) (x:Int),row T x<=T.length
 | [],_=>aO _
 | r::rs,x=>by
  by_cases h:fg r x=r.length
  ·rw[Hu h];exact bI _
  ·rw[Of h,bz];exact Nat.succ_le_succ (ME rs _)
noncomputable def bump:List Nat->Nat->List Nat
 | [],_=>[1]
 | n::ns,0=>(n+1)::ns
 | n::ns,i+1=>n::bump ns i
theorem Az:∀(T:List (List Int)) (x:Int),(put T x).map List.length=bump (T.map List.length) (row T x)
 | [],_=>rfl
 | r::rs,x=>by
  by_cases h:fg r x=r.length
  ·rw[PJ h,Hu h,bC,bC,aR];rfl
  ·rw[U7 h,Of h,bC,bC,bY,Az rs];rfl
theorem DA:∀(ns:List Nat) (i:Nat),i<=ns.length->(bump ns i).length=if i=ns.length then ns.length+1 else ns.length
 | [],i,h=>by
  have:i=0:=by simpa using h
  subst this;rfl
 | n::ns,0,_=>by rw[aJ (by simp)];rfl
 | n::ns,i+1,h=>by
  have h':i<=ns.length:=Nat.le_of_succ_le_succ h;show(bump ns i).length+1=_;rw[DA ns i h'];by_cases e:i=ns.length
  ·rw[aM e,aM (by rw[bz,e])];rfl
  ·rw[aJ e,aJ (by rw[bz];lia)];rfl
theorem BC(T:List (List Int))(x:Int):(put T x).length=if row T x=T.length then T.length+1 else T.length:=by
 have:=dg List.length (Az T x);rw[aK,DA _ _ (by rw[aK];exact ME T x),aK]at this;exact this
noncomputable def add:List (List Int)->Nat->Int->List (List Int)
 | [],_,k=>[[k]]
 | q::qs,0,k=>(q++[k])::qs
 | q::qs,i+1,k=>q::add qs i k
noncomputable def gs (r:List Int)(x:Int):List Nat:=(List.range r.length).filter λk=>decide (x<r.getD k 0)
end Tb
namespace Am
open PySem L2
noncomputable def Rows (S:jx):List Nat->List (List Int)->Prop
 | [],[]=>True
 | r::rs,x::T=>jw S r=some (x.map .int)/\Rows S rs T
 | _,_=>False
structure Tab (S:jx)(n:Nat)(rs:List Nat)(T:List (List Int)):Prop where
 top:jw S n=some (rs.map .ref)
 rows:Rows S rs T
 nd:(n::rs).Nodup
theorem DX{s:Src}{g:Tg}{e:Ex}{T:List A->Prop}(P:Nat->List A->jx->Prop)
  (step:∀i acc τ S,i<s.k->T τ->P i acc S->∃x τ1 S1 y S3,s.get i S=some x/\g x τ S=.ok τ1 S1/\T τ1/\e τ1 S1=.ok y S3/\P (i+1) (acc++[y]) S3) (hfin:∀acc S,P s.k acc S->s.fin S=true) :
  ∀k i acc τ S,k+i=s.k->T τ->P i acc S->∃ys S',mU s g vK e k i τ S=.ok ys S'/\P s.k (acc++ys) S'
 | 0,i,acc,τ,S,hk,hT,hP=>by
  have:i=s.k:=by lia
  subst this;exact⟨[],S,by unfold mU;rw[aM (hfin acc S hP)],by rw[ck];exact hP⟩
 | k+1,i,acc,τ,S,hk,hT,hP=>by
  obtain⟨x,τ1,S1,y,S3,hx,hg,hT1,he,hP3⟩:=step i acc τ S (by lia) hT hP;obtain⟨ys,S',h1,h2⟩:=DX P step hfin k (i+1) (acc++[y]) τ1 S3 (by lia) hT1 hP3;refine⟨y::ys,S',?_,by rw[b9]at h2;exact h2⟩;unfold mU;rw[hx,j3,hg,R.kO];show(e τ1 S1).rQ _=_;rw[he,R.kO,h1];rfl
theorem eq_nil{a:Nat}{xs:List A}(h:jw S a=some xs)(h':jw S b=some []):qU S 12 (.ref a) (.ref b)=some xs.isEmpty:=by
 show(jw S a).bind (λxs=>(jw S b).bind λys=>qf (qU S 11) xs ys)=_;rw[h,d8,h',d8]
 cases xs<;>rfl
theorem FQ{a:A}{k:Bool}(h:qU S 12 a b=some k):vR false a b S=.ok (.bl k) S:=by unfold vR;rw[h];rfl
theorem Bx{a:A}{k:Bool}(h:qU S 12 a b=some k):vR true a b S=.ok (.bl (!k)) S:=by unfold vR;rw[h];rfl
theorem MD{xs:List A}{n:Nat}{src:Ic}{t:Te}{e:Ex}{S:jx}(hs:src τ S=.ok (kN n xs.length) S)(hx:jw S n=some xs)(p:A->Bool)(f:A->A)
  (ht:∀x∈xs,t (x::lB cap τ) S=.ok (p x) S) (he:∀x∈xs,p x=true->e (x::lB cap τ) S=.ok (f x) S) (hl:xs.length<=16777216) :
  kP (none::cap) src (ku 0) t e τ S=.ok (.ref S.length) (S++[.lst ((xs.filter p).map f)]):=by
 have hm:∀i,i<xs.length->xs.getD i .unb∈xs:=λi hi=>by
  rw[aL,aF hi];exact dz hi
 rw[Bk hs (λi=>xs.getD i .unb) (λi=>p (xs.getD i .unb)) (λi=>f (xs.getD i .unb)) (λi hi=>by
  have hi:i<xs.length:=hi;show(jw S n).bind _=_;rw[hx,d8,aL,aF hi];rfl) (by
   show(match jw S n with
    | some ys=>decide (ys.length<=xs.length)
    | none=>false)=true
   rw[hx];simp) (λi hi=>ht _ (hm i hi)) (λi hi=>he _ (hm i hi)) hl]
 have:=qB xs p f .unb;show R.ok _ (S++[O.lst (((List.range xs.length).filter _).map _)])=_;rw[this]
theorem getD_at{r:List Int}{k:Nat}(h:k<r.length):r[k]?=some (r.getD k 0):=by rw[aL,aF h];rfl
end Am
namespace Wd
open Bl L2
noncomputable def ex (l:List Int)(k:Nat):List Int:=(l.set (k-1) (l.getD k 0)).set k (l.getD (k-1) 0)
noncomputable def led (l:List Int)(w:List Nat):List Int:=w.foldl ex l
theorem l9{l:List Int}{k:Nat}(h:k<l.length):l.getD k 0=l[k]:=by rw[aL,aF h];rfl
theorem DP{l:List Int}{k:Nat}(h0:1<=k)(h:k<l.length):ex l k=(l.set (k-1) l[k]).set k (l[k-1]'(by lia)):=by
 unfold ex;rw[l9 h,l9 (show k-1<l.length by lia)]
theorem k_(l:List Int)(k:Nat):(ex l k).length=l.length:=by unfold ex;rw[bY,bY]
theorem Cu:∀(w:List Nat) (l:List Int),(led l w).length=l.length
 | [],_=>rfl
 | k::w,l=>by show(led (ex l k) w).length=_;rw[Cu w,k_]
theorem BO{l:List Int}{k:Nat}(h0:1<=k)(h:k<l.length):(ex l k).Perm l:=by
 rw[DP h0 h];exact List.set_set_perm (by lia) h
theorem rG(a b:List Nat)(l:List Int):led l (a++b)=led (led l a) b:=cU
theorem up{l:List Int}{k:Nat}(h0:1<=k)(h:k<l.length)(hr:l[k-1]'(by lia)<l[k]):Below l (ex l k):=by
 rw[DP h0 h];exact EF (by lia) h (by lia) hr
noncomputable def jK:List Int->List Nat->Prop
 | _,[]=>True
 | l,k::w=>1<=k/\k<l.length/\l.getD (k-1) 0<l.getD k 0/\jK (ex l k) w
theorem jK.snoc:∀{w:List Nat}{l:List Int}{k:Nat},jK l w->1<=k->k<l.length->(led l w).getD (k-1) 0<(led l w).getD k 0->jK l (w++[k])
 | [],l,k,_,h0,h1,h2=>⟨h0,h1,h2,trivial⟩
 | m::w,l,k,h,h0,h1,h2=>⟨h.1,h.2.1,h.2.2.1,jK.snoc h.2.2.2 h0 (by rw[k_];exact h1) h2⟩
theorem jK.valid:∀{w:List Nat}{l:List Int},jK l w->∀k∈w,1<=k/\k<l.length
 | [],_,_,k,hk=>by cases hk
 | m::w,l,h,k,hk=>by
  rcases bB.mp hk with z|z
  ·rw[z];exact⟨h.1,h.2.1⟩
  ·have:=jK.valid h.2.2.2 k z;rw[k_]at this;exact this
noncomputable def sw (k:Nat)(x:Int):Int:=if x=k then(k:Int)+1 else if x=(k:Int)+1 then k else x
theorem ex_map(f:Int->Int){l:List Int}{k:Nat}(h0:1<=k)(h:k<l.length):ex (l.map f) k=(ex l k).map f:=by
 rw[DP h0 h,DP h0 (by rw[aK];exact h),iN,iN,cX,cX]
theorem xY(f:Int->Int):∀{w:List Nat}{l:List Int},(∀k∈w,1<=k/\k<l.length)->led (l.map f) w=(led l w).map f
 | [],_,_=>rfl
 | k::w,l,h=>by
  have hk:=h k (aG ..);show led (ex (l.map f) k) w=(led (ex l k) w).map f;rw[ex_map f hk.1 hk.2,xY f λm hm=>by rw[k_];exact h m (aI _ hm)]
theorem qc{n p:Nat}(h:p<n):(kc 1 ((n:Int)+1))[p]?=some ((p:Int)+1):=by
 unfold kc;rw[aP,dS (by lia)];simp;lia
theorem jI(n:Nat):(kc 1 ((n:Int)+1)).length=n:=by rw[o_];lia
theorem nP{l:List Int}{k:Nat}(h0:1<=k)(h:k<l.length)(p:Nat):(ex l k)[p]?=if p=k then l[k-1]? else if p=k-1 then l[k]? else l[p]?:=by
 rw[DP h0 h,List.getElem?_set];by_cases h1:k=p
 ·rw[aM h1,aM h1.symm,aM (by rw[bY];lia),aF]
 ·rw[aJ h1,aJ (λz=>h1 z.symm),List.getElem?_set];by_cases h2:k-1=p
  ·rw[aM h2,aM h2.symm,aM (by lia),aF]
  ·rw[aJ h2,aJ (λz=>h2 z.symm)]
theorem NH{n k:Nat}(h0:1<=k)(h:k<n):ex (kc 1 ((n:Int)+1)) k=(kc 1 ((n:Int)+1)).map (sw k):=by
 apply cT;intro p;rw[nP h0 (by rw[jI];exact h),aP];by_cases hp:p<n
 ·rw[qc hp,qc h,qc (show k-1<n by lia)];show _=some (sw k ((p:Int)+1));unfold sw;by_cases h1:p=k
  ·rw[aM h1,aJ (by lia),aM (by lia)];congr 1;lia
  ·rw[aJ h1];by_cases h2:p=k-1
   ·rw[aM h2,aM (by lia)]
   ·rw[aJ h2,aJ (by lia),aJ (by lia)]
 ·have e:(kc 1 ((n:Int)+1))[p]?=none:=bS (by rw[jI];lia);rw[aJ (by lia),aJ (by lia),e];rfl
theorem Ax{A B:List Int}{k:Nat}(h0:1<=k)(h:k<A.length)(hb:oz A B):oz (ex A k) (B.map (sw k)):=by
 refine⟨by rw[k_,aK];exact hb.1,λp hp=>?_⟩;rw[k_]at hp;have hg:(ex A k)[p]'(by rw[k_];exact hp)=if p=k then A[k-1]'(by lia)else if p=k-1 then A[k]else A[p]:=by
  have:=nP h0 h p;rw[aF (by rw[k_];exact hp)]at this;by_cases h1:p=k
  ·rw[aM h1,aF (show k-1<A.length by lia)]at this;rw[aM h1];exact aZ this
  ·rw[aJ h1]at this;rw[aJ h1];by_cases h2:p=k-1
   ·rw[aM h2,aF h]at this;rw[aM h2];exact aZ this
   ·rw[aJ h2,aF hp]at this;rw[aJ h2];exact aZ this
 rw[hg,aP];by_cases h1:p=k
 ·rw[aM h1,hb.2 (k-1) (by lia)];show some (sw k _)=_;unfold sw;rw[aM (by lia)];congr 1;lia
 ·rw[aJ h1];by_cases h2:p=k-1
  ·rw[aM h2,hb.2 k h];show some (sw k _)=_;unfold sw;rw[aJ (by lia),aM (by lia)];congr 1;lia
  ·rw[aJ h2,hb.2 p hp];show some (sw k _)=_;unfold sw;rw[aJ (by lia),aJ (by lia)]
theorem mE{n:Nat}:∀(w:List Nat),(∀k∈w,1<=k/\k<n)->oz (led (kc 1 ((n:Int)+1)) w.reverse) (led (kc 1 ((n:Int)+1)) w)
 | [],_=>⟨rfl,λp hp=>by
  have hp:p<n:=by rw[show([]:List Nat).reverse=[]from rfl]at hp;have:p<(kc 1 ((n:Int)+1)).length:=hp;rw[jI]at this;exact this
  have e:(kc 1 ((n:Int)+1))[p]'(by rw[jI];exact hp)=(p:Int)+1:=by
   have:=qc hp;rw[aF (by rw[jI];exact hp)]at this;exact aZ this
  show(kc 1 ((n:Int)+1))[(((kc 1 ((n:Int)+1))[p]'(by rw[jI];exact hp))-1).toNat]?=_;rw[e,show((p:Int)+1-1).toNat=p by lia];exact qc hp⟩
 | k::w,h=>by
  have hk:=h k (aG ..);have hw:=λm hm=>h m (aI k hm);have ih:=mE w hw;rw[eV,rG];show oz (ex (led (kc 1 ((n:Int)+1)) w.reverse) k) (led (ex (kc 1 ((n:Int)+1)) k) w);rw[NH hk.1 hk.2,xY (sw k) (λm hm=>by rw[jI];exact hw m hm)];exact Ax hk.1 (by rw[Cu,jI];exact hk.2) ih
end Wd
namespace Iv
open L2 Bl
noncomputable def inv:List Int->Nat
 | []=>0
 | x::l=>l.countP (λy=>decide (y<x))+inv l
noncomputable def nJ (a b:List Int):Nat:=(a.map λx=>b.countP λy=>decide (y<x)).sum
theorem uC(x:Int)(a b:List Int):nJ (x::a) b=b.countP (λy=>decide (y<x))+nJ a b:=rfl
theorem kY:∀(a b:List Int),inv (a++b)=inv a+inv b+nJ a b
 | [],b=>by show inv b=0+inv b+0;lia
 | x::a,b=>by
  show(a++b).countP _+inv (a++b)=(a.countP _+inv a)+inv b+nJ (x::a) b;rw[List.countP_append,kY a b,uC];lia
theorem vf:∀{a b:List Nat},a.Perm b->a.sum=b.sum
 | _,_,.nil=>rfl
 | _,_,.cons x h=>by rw[gu,gu,vf h]
 | _,_,.swap x y l=>by rw[gu,gu,gu,gu];lia
 | _,_,.trans h k=>(vf h).trans (vf k)
theorem PO{a:List Int}(b:List Int)(h:a.Perm a'):nJ a b=nJ a' b:=vf (h.map _)
theorem QI(a:List Int){b:List Int}(h:b.Perm b'):nJ a b=nJ a b':=by
 unfold nJ;congr 1;refine cE λx _=>h.countP_eq _
theorem Bv{M:List Int}{x y:Int}(h:∀m∈M,m<x\/y<m)(hxy:x<y):M.countP (λm=>decide (m<x))=M.countP (λm=>decide (m<y)):=by
 refine List.countP_congr λm hm=>?_;rw[decide_eq_true_iff,decide_eq_true_iff]
 rcases h m hm with z|z<;>lia
theorem xB:∀{M:List Int}{x y:Int},(∀m∈M,m<x\/y<m)->x<y->nJ M [x]=nJ M [y]
 | [],_,_,_,_=>rfl
 | m::M,x,y,h,hxy=>by
  rw[uC,uC,xB (λm' hm=>h m' (aI _ hm)) hxy];congr 1;have:=h m (aG ..);simp only[jd,List.countP_nil];by_cases c:x<m
  ·rw[bq c,bq (show y<m by lia)]
  ·rw[bw c,bw (show ¬y<m by lia)]
theorem mid{M:List Int}{x y:Int}(h:∀m∈M,m<x\/y<m)(hxy:x<y):inv ([y]++M++[x])=inv ([x]++M++[y])+1:=by
 rw[kY,kY,kY ([x]++M),kY [x]];have e1:nJ [y] M=nJ [x] M:=by
  show M.countP _+0=M.countP _+0;rw[Bv h hxy]
 have e2:nJ ([y]++M) [x]=1+nJ M [x]:=by
  show[x].countP _+nJ M [x]=_;rw[jd,bq hxy];rfl
 have e3:nJ ([x]++M) [y]=nJ M [y]:=by
  show[y].countP _+nJ M [y]=_;rw[jd,bw (by lia:¬y<x)];simp
 rw[e1,e2,e3,xB h hxy];show 0+inv M+_+0+_=0+inv M+_+0+_+1;lia
theorem Lh(M:List Int)(x y:Int):([y]++M++[x]).Perm ([x]++M++[y]):=by
 refine(List.perm_append_comm (l₁:=[y]++M) (l₂:=[x])).trans ?_;show(x::(y::M)).Perm (x::(M++[y]));exact .cons x (List.perm_append_comm (l₁:=[y]) (l₂:=M))
theorem step{P M R:List Int}{x y:Int}(h:∀m∈M,m<x\/y<m)(hxy:x<y):inv (P++([y]++M++[x])++R)=inv (P++([x]++M++[y])++R)+1:=by
 have p:=Lh M x y;rw[kY,kY P,kY (P++([x]++M++[y])),kY P,mid h hxy,QI P p,PO R (p.append_left P)];lia
theorem FD:∀(l:List Int),inv l<=l.length * l.length
 | []=>aO _
 | x::l=>by
  show l.countP _+inv l<=(l.length+1) * (l.length+1);have h1:=List.countP_le_length (p:=λy=>decide (y<x)) (l:=l);have h2:=FD l;rw[Nat.add_mul,Nat.mul_add];lia
noncomputable def sw (a:List Int)(i j:Nat):List Int:=(a.set i (a.getD j 0)).set j (a.getD i 0)
theorem zk(a:List Int)(i j:Nat):(sw a i j).length=a.length:=by unfold sw;rw[bY,bY]
theorem split{a:List Int}(hij:i<j)(hj:j<a.length):∃P M R:List Int,a=P++([a.getD i 0]++M++[a.getD j 0])++R/\P=a.take i/\(∀m∈M,∃k,i<k/\k<j/\a[k]?=some m)/\sw a i j=P++([a.getD j 0]++M++[a.getD i 0])++R:=by
 have gi:a.getD i 0=a[i]:=by rw[aL,aF (by lia)];rfl
 have gj:a.getD j 0=a[j]:=by rw[aL,aF hj];rfl
 obtain⟨M,hM⟩:∃M,M=(a.drop (i+1)).take (j-i-1):=⟨_,rfl⟩;have lM:M.length=j-i-1:=by rw[hM,b8,fF];lia
 have ea:a=a.take i++([a.getD i 0]++M++[a.getD j 0])++a.drop (j+1):=by
  have h1:a.drop i=a[i]::a.drop (i+1):=cZ (by lia);have h2:a.drop (i+1)=M++a.drop j:=by
   rw[hM];have:=g_ (j-i-1) (a.drop (i+1));rw[List.drop_drop,show i+1+(j-i-1)=j by lia]at this;exact this.symm
  have h3:a.drop j=a[j]::a.drop (j+1):=cZ hj
  conv=>lhs;rw[<- g_ i a,h1,h2,h3]
  rw[gi,gj];simp
 refine⟨a.take i,M,a.drop (j+1),ea,rfl,λm hm=>?_,?_⟩
 ·rw[hM]at hm;obtain⟨k,hk⟩:=eT hm;have hlt:k<j-i-1:=by
   have:=(aN.mp hk).1;rw[b8]at this;lia
  rw[gg hlt,iU]at hk;exact⟨i+1+k,by lia,by lia,hk⟩
 ·have key:∀(P R:List Int) (x y x' y':Int),P.length=i->((P++([x]++M++[y])++R).set i y').set j x'=P++([y']++M++[x'])++R:=λP R x y x' y' lP=>by
   rw[b9,fQ _ _ (by lia),lP,iM];show(P++(y'::((M++[y])++R))).set j x'=_;rw[fQ _ _ (by lia),lP,show j-i=(j-i-1)+1 by lia,List.set_cons_succ,b9,fQ _ _ (by lia),lM,iM];simp
  have:=key (a.take i) (a.drop (j+1)) (a.getD i 0) (a.getD j 0) (a.getD i 0) (a.getD j 0) (by rw[b8];lia);rw[<- ea]at this;exact this
end Iv
namespace Fw
open PySem L2 Bl
open Wd (ex led)
noncomputable abbrev rg (n:Nat):List Int:=kc 1 ((n:Int)+1)
theorem uz{l:List Int}{k:Nat}(h0:1<=k)(h:k<l.length):ex (ex l k) k=l:=by
 apply cT;intro p;have h':k<(ex l k).length:=by rw[Wd.k_];exact h
 rw[Wd.nP h0 h',Wd.nP h0 h,Wd.nP h0 h,Wd.nP h0 h];by_cases c3:p=k
 ·rw[aM c3,aJ (by lia),aM rfl,c3]
 ·rw[aJ c3];by_cases c2:p=k-1
  ·rw[aM c2,aM rfl,c2]
  ·rw[aJ c2,aJ c3,aJ c2]
theorem Xl{l:List Int}{k:Nat}(h0:1<=k)(h:k<l.length):(ex l k).getD k 0=l.getD (k-1) 0:=by
 rw[aL,Wd.nP h0 h,aM rfl,aL]
theorem Xc{l:List Int}{k:Nat}(h0:1<=k)(h:k<l.length):(ex l k).getD (k-1) 0=l.getD k 0:=by
 rw[aL,Wd.nP h0 h,aJ (by lia),aM rfl,aL]
theorem GD{l:List Int}{k:Nat}(h0:1<=k)(h:k<l.length)(hr:l.getD (k-1) 0<l.getD k 0):Iv.inv (ex l k)=Iv.inv l+1:=by
 obtain⟨P,M,R,e,_,hM,es⟩:=Iv.split (a:=l) (i:=k-1) (j:=k) (by lia) h;have:=Iv.step (P:=P) (M:=M) (R:=R) (x:=l.getD (k-1) 0) (y:=l.getD k 0) (λm hm=>by obtain⟨_,_,_,_⟩:=hM m hm;lia) hr;rw[<- es,<- e]at this;exact this
theorem nI{l:List Int}{k:Nat}(h0:1<=k)(h:k<l.length)(hr:l.getD k 0<l.getD (k-1) 0):Iv.inv l=Iv.inv (ex l k)+1:=by
 have:=GD (l:=ex l k) h0 (by rw[Wd.k_];exact h) (by rw[Xl h0 h,Xc h0 h];exact hr);rw[uz h0 h]at this;exact this
noncomputable def Va (n:Nat)(w:List Nat):Prop:=∀k∈w,1<=k/\k<n
theorem Va.tail{n k:Nat}{w:List Nat}(h:Va n (k::w)):Va n w:=λj hj=>h j (aI _ hj)
theorem Va.head{n k:Nat}{w:List Nat}(h:Va n (k::w)):1<=k/\k<n:=h k (aG ..)
theorem zb:∀{w:List Nat}{l:List Int},Va l.length w->led (led l w) w.reverse=l
 | [],l,_=>rfl
 | k::w,l,h=>by
  rw[eV,Wd.rG];show led (led (led (ex l k) w) w.reverse) [k]=l;rw[zb (w:=w) (l:=ex l k) (by rw[Wd.k_];exact h.tail)];exact uz h.head.1 h.head.2
theorem BZ:∀{l:List Int},l.Pairwise (·<=·)->Iv.inv l=0
 | [],_=>rfl
 | x::l,h=>by
  show l.countP (λy=>decide (y<x))+Iv.inv l=0;rw[BZ (bM.mp h).2,List.countP_eq_zero.mpr λa ha z=>by have:=bN z;have:=(bM.mp h).1 a ha;lia]
theorem uR(n:Nat):Iv.inv (rg n)=0:=BZ (BI _ _)
noncomputable def yN (l:List Int)(k:Nat):Prop:=1<=k/\k<l.length/\l.getD k 0<l.getD (k-1) 0
theorem Mp{l:List Int}(h:∀k,¬yN l k):l.Pairwise (·<=·):=by
 have key:∀d i,i+d<l.length->l.getD i 0<=l.getD (i+d) 0:=by
  intro d
  induction d with
  | zero=>intro i _;exact Int.le_refl _
  | succ d ih=>
   intro i hi;have h1:=ih i (by lia);have h2:¬l.getD (i+d+1) 0<l.getD (i+d) 0:=λz=>h (i+d+1) ⟨by lia,hi,z⟩;rw[<- iz];lia
 rw[cY];intro i j hi hj hij;have:=key (j-i) i (by lia);rw[show i+(j-i)=j by lia,Wd.l9 hi,Wd.l9 hj]at this;exact this
theorem Jx{l:List Int}{n:Nat}(p:l.Perm (rg n))(h:∀k,¬yN l k):l=rg n:=
 dD (λx y _ _ h1 h2=>Int.le_antisymm h1 h2) (Mp h) (BI _ _) p
theorem IV{l:List Int}(h:0<Iv.inv l):∃k,yN l k:=by
 refine Classical.byContradiction λz=>?_;rw[BZ (Mp λk hk=>z ⟨k,hk⟩)]at h;exact absurd h (fM _)
noncomputable def Dn:List Int->List Nat->Prop
 | l,[]=>∀k,¬yN l k
 | l,k::ks=>(yN l k/\∀j,yN l j->k<=j)/\Dn (ex l k) ks
theorem mY{l:List Int}{n k:Nat}(p:l.Perm (rg n))(h0:1<=k)(h:k<l.length):(ex l k).Perm (rg n):=(Wd.BO h0 h).trans p
theorem Dn.len:∀{ks:List Nat}{l:List Int},Dn l ks->ks.length=Iv.inv l
 | [],l,h=>(BZ (Mp h)).symm
 | k::ks,l,h=>by
  have:=h.2.len;rw[nI h.1.1.1 h.1.1.2.1 h.1.1.2.2,bz];lia
theorem Dn.va:∀{ks:List Nat}{l:List Int},Dn l ks->Va l.length ks
 | [],l,_=>λk hk=>absurd hk (by simp)
 | k::ks,l,h=>λj hj=>by
  rcases bB.mp hj with rfl|z
  ·exact⟨h.1.1.1,h.1.1.2.1⟩
  ·have:=h.2.va j z
   rwa [Wd.k_]at this
theorem Dn.led:∀{ks:List Nat}{l:List Int}{n:Nat},Dn l ks->l.Perm (rg n)->led l ks=rg n
 | [],l,n,h,p=>Jx p h
 | k::ks,l,n,h,p=>Dn.led (ks:=ks) h.2 (mY p h.1.1.1 h.1.1.2.1)
theorem HA:∀(m:Nat) (l:List Int),Iv.inv l<=m->∃ks,Dn l ks
 | 0,l,h=>⟨[],λk hk=>by have:=nI hk.1 hk.2.1 hk.2.2;lia⟩
 | m+1,l,h=>by
  by_cases c:∃k,yN l k
  ·obtain⟨k,hk,hmin⟩:∃k,yN l k/\∀j,yN l j->k<=j:=by
    obtain⟨k,hk⟩:=c
    induction k using Nat.strongRecOn with
    | ind k ih=>
     by_cases z:∃j,yN l j/\j<k
     ·obtain⟨j,hj,hlt⟩:=z;exact ih j hlt hj
     ·exact⟨k,hk,λj hj=>ig λy=>z ⟨j,hj,y⟩⟩
   have:=nI hk.1 hk.2.1 hk.2.2;obtain⟨ks,hks⟩:=HA m (ex l k) (by lia);exact⟨k::ks,⟨hk,hmin⟩,hks⟩
  ·exact⟨[],λk hk=>c ⟨k,hk⟩⟩
theorem KW{a c:List Int}{n:Nat}(pa:a.Perm (rg n))(h1:oz a b)(h2:oz b c):a=c:=by
 have l1:=h1.1;have l2:=h2.1;refine List.ext_getElem (by lia) λq hq hq'=>?_;have e1:=h1.2 q hq;have hm:=(nq.mp (pa.mem_iff.mp (dz hq)));obtain⟨hb,eb⟩:=aN.mp e1;have e2:=h2.2 _ hb;rw[eb,show((q:Int)+1-1).toNat=q by lia,aF hq']at e2;have:=aZ e2;lia
structure Two (n:Nat)(o u:List Int):Prop where
 po:o.Perm (rg n)
 pu:u.Perm (rg n)
 ou:oz o u
theorem Two.lu{n:Nat}{u:List Int}(t:Two n o u):u.length=n:=by rw[t.pu.length_eq,Wd.jI]
theorem Two.lo{n:Nat}{o:List Int}(t:Two n o u):o.length=n:=by rw[t.po.length_eq,Wd.jI]
theorem Two.led{n:Nat}(t:Two n o u)(h:Dn u ks):Wd.led (rg n) ks=o:=by
 have v:Va n ks:=by have:=h.va;rwa [t.lu]at this
 have e:=h.led t.pu;have e2:u=Wd.led (rg n) ks.reverse:=by rw[<- e,zb (by rw[t.lu];exact v)]
 have b:=Wd.mE ks v;rw[<- show u=Wd.led (kc 1 ((n:Int)+1)) ks.reverse from e2]at b;exact(KW t.po t.ou b).symm
theorem Two.uo{n:Nat}(t:Two n o u):oz u o:=by
 obtain⟨ks,h⟩:=HA _ u (aO _);have v:Va n ks:=by have:=h.va;rwa [t.lu]at this
 have e:=h.led t.pu;have e2:u=Wd.led (rg n) ks.reverse:=by rw[<- e,zb (by rw[t.lu];exact v)]
 have b:=Wd.mE ks v;rw[<- show u=Wd.led (kc 1 ((n:Int)+1)) ks.reverse from e2,show Wd.led (kc 1 ((n:Int)+1)) ks=o from t.led h]at b;exact b
theorem Two.flip{n:Nat}(t:Two n o u):Two n u o:=⟨t.pu,t.po,t.uo⟩
theorem Two.step{n k:Nat}{o:List Int}(t:Two n o u)(h0:1<=k)(h:k<n):Two n (o.map (Wd.sw k)) (ex u k):=by
 have lu:=t.lu;have b:=Wd.Ax h0 (by lia) t.uo;have p1:=mY t.pu h0 (by lia);have p2:(o.map (Wd.sw k)).Perm (rg n):=(t.po.map _).trans (by rw[<- Wd.NH h0 h];exact Wd.BO h0 (by rw[Wd.jI];exact h));exact(Two.mk p1 p2 b).flip
end Fw
namespace Po
open Am
noncomputable abbrev Pl:=List (Int×Int)
noncomputable def val (d:Pl)(k:Int):Int:=((d.find? λp=>decide (p.1=k)).map (·.2)).getD 0
noncomputable def has (d:Pl)(k:Int):Bool:=d.any λp=>decide (p.1=k)
noncomputable def put (d:Pl)(k v:Int):Pl:=if has d k=true then d.map (λp=>if p.1=k then(p.1,v)else p)else d++[(k,v)]
noncomputable def acc (d:Pl)(k v:Int):Pl:=put d k (val d k+v)
noncomputable def cf:Pl->Int->Int
 | [],_=>0
 | p::l,k=>(if p.1=k then p.2 else 0)+cf l k
theorem om{p:Int×Int}{k:Int}:val (p::d) k=if p.1=k then p.2 else val d k:=by
 unfold val;rw[cH];by_cases h:p.1=k
 ·rw[bq h,aM h];rfl
 ·rw[bw h,aJ h]
theorem zS{p:Int×Int}{k:Int}:has (p::d) k=(decide (p.1=k) || has d k):=rfl
theorem uc{d:Pl}{k:Int}:has d k=true ↔ k∈d.map Prod.fst:=by
 unfold has;rw[f9,bg];constructor
 ·rintro⟨p,h1,h2⟩;exact⟨p,h1,bN h2⟩
 ·rintro⟨p,h1,h2⟩;exact⟨p,h1,bq h2⟩
theorem Pu{k:Int}(h:has d k=false):val d k=0:=by
 induction d with
 | nil=>rfl
 | cons p d ih=>
  rw[zS,iC]at h;rw[om,aJ (cW h.1),ih h.2]
theorem PR{k v j:Int}(h:has d k=false):val (d++[(k,v)]) j=if j=k then v else val d j:=by
 induction d with
 | nil=>
  show val [(k,v)] j=_;rw[om];by_cases c:k=j
  ·rw[aM c,aM c.symm]
  ·rw[aJ c,aJ (λz=>c z.symm)]
 | cons p d ih=>
  rw[zS,iC]at h;have:=cW h.1;rw[List.cons_append,om,om,ih h.2];by_cases c:p.1=j
  ·rw[aM c,aM c,aJ (λz=>this (c.trans z))]
  ·rw[aJ c,aJ c]
theorem Qq{d:Pl}{k v j:Int}:val (d.map λp=>if p.1=k then(p.1,v)else p) j=if j=k/\has d k=true then v else val d j:=by
 induction d with
 | nil=>
  rw[aJ (λz=>by cases z.2)];rfl
 | cons p d ih=>
  rw[bC,om,om,ih,zS];by_cases c:p.1=k
  ·rw[aM c,bq c,Bool.true_or];by_cases e:j=k
   ·rw[aM (show p.1=j by lia),aM ⟨e,rfl⟩]
   ·rw[aJ (show ¬p.1=j by lia),aJ (λz=>e z.1),aJ (λz=>e z.1),aJ (show ¬p.1=j by lia)]
  ·rw[aJ c,bw c,gp];by_cases e:p.1=j
   ·rw[aM e,aM e,aJ (λz=>c (e.trans z.1))]
   ·rw[aJ e,aJ e]
theorem Jp{k v j:Int}:val (put d k v) j=if j=k then v else val d j:=by
 unfold put
 cases h:has d k with
 | true=>
  rw[aM rfl,Qq,h];by_cases c:j=k
  ·rw[aM ⟨c,rfl⟩,aM c]
  ·rw[aJ (λz=>c z.1),aJ c]
 | false=>rw[aJ (by simp),PR h]
theorem Qg{k v j:Int}:val (acc d k v) j=val d j+if k=j then v else 0:=by
 unfold acc;rw[Jp];by_cases c:j=k
 ·subst c;rw[aM rfl,aM rfl]
 ·rw[aJ c,aJ (λz=>c z.symm),cC]
theorem zx{d:Pl}{k v:Int}:(put d k v).map Prod.fst=if has d k=true then d.map Prod.fst else d.map Prod.fst++[k]:=by
 unfold put;split
 ·rw[bh];apply cE;intro p _;show(if p.1=k then(p.1,v)else p).1=p.1;split<;>rfl
 ·rw[bO];rfl
theorem MS{d:Pl}{k v:Int}(h:(d.map Prod.fst).Nodup):((put d k v).map Prod.fst).Nodup:=by
 rw[zx];split
 ·exact h
 ·rename_i c;rw[dO];refine⟨h,cJ _ _,λa ha b hb z=>c ?_⟩;rw[aV]at hb;rw[uc,<- hb,<- z];exact ha
theorem GZ{d:Pl}{k v:Int}:(put d k v).length<=d.length+1:=by
 unfold put;split
 ·rw[aK];lia
 ·rw[aR];exact aO _
noncomputable def Bd (c:Nat)(d:Pl):Prop:=∀p∈d,p.2.natAbs<=c
theorem Bd.val{c:Nat}(h:Bd c d)(k:Int):(val d k).natAbs<=c:=by
 induction d with
 | nil=>exact bI _
 | cons p d ih=>
  rw[om];split
  ·exact h p (aG ..)
  ·exact ih λq hq=>h q (aI _ hq)
noncomputable def pS (d ps:Pl):Pl:=ps.foldl (λd p=>acc d p.1 p.2) d
theorem OM(d:Pl):pS d []=d:=rfl
theorem yF(d ps qs:Pl):pS d (ps++qs)=pS (pS d ps) qs:=by unfold pS;rw[cU]
theorem vL(ps:Pl):∀(d:Pl) (k:Int),val (pS d ps) k=val d k+cf ps k:=by
 induction ps with
 | nil=>intro d k;rw[OM];show _=_+0;rw[cC]
 | cons p ps ih=>
  intro d k;show val (pS (acc d p.1 p.2) ps) k=_;rw[ih,Qg];show _=_+(_+_);rw[e_]
theorem ud(ps:Pl):∀{d:Pl},(d.map Prod.fst).Nodup->((pS d ps).map Prod.fst).Nodup:=by
 induction ps with
 | nil=>intro d h;exact h
 | cons p ps ih=>intro d h;exact ih (MS h)
theorem o4(ps:Pl):∀(d:Pl),(pS d ps).length<=d.length+ps.length:=by
 induction ps with
 | nil=>intro d;exact aO _
 | cons p ps ih=>
  intro d;have h1:=ih (acc d p.1 p.2);have h2:(acc d p.1 p.2).length<=d.length+1:=GZ;show(pS (acc d p.1 p.2) ps).length<=_;rw[bz];lia
structure Ok (l:Pl):Prop where
 up:l.Pairwise λp q=>p.1<q.1
 nz:∀p∈l,p.2≠0
theorem Ok.tail{p:Int×Int}{l:Pl}(h:Ok (p::l)):Ok l:=⟨(bM.mp h.up).2,λq hq=>h.nz q (aI _ hq)⟩
theorem Ef{l:Pl}{k:Int}(h:∀p∈l,k<p.1):cf l k=0:=by
 induction l with
 | nil=>rfl
 | cons p l ih=>
  show(if p.1=k then p.2 else 0)+cf l k=0;have:=h p (aG ..);rw[aJ (by lia),ih λq hq=>h q (aI _ hq)];rfl
theorem Ok.head{p:Int×Int}{l:Pl}(h:Ok (p::l)):cf (p::l) p.1=p.2:=by
 show(if p.1=p.1 then p.2 else 0)+cf l p.1=p.2;rw[aM rfl,Ef (bM.mp h.up).1,cC]
theorem Ok.low{p:Int×Int}{l:Pl}(h:Ok (p::l)){k:Int}(hk:k<p.1):cf (p::l) k=0:=Ef λq hq=>by
 rcases bB.mp hq with rfl|z
 ·exact hk
 ·have:=(bM.mp h.up).1 q z;lia
theorem uniq:∀{l m:Pl},Ok l->Ok m->(∀k,cf l k=cf m k)->l=m
 | [],[],_,_,_=>rfl
 | [],q::m,_,h,e=>by
  have:=e q.1;rw[h.head]at this;exact absurd this.symm (h.nz q (aG ..))
 | p::l,[],h,_,e=>by
  have:=e p.1;rw[h.head]at this;exact absurd this (h.nz p (aG ..))
 | p::l,q::m,h,h',e=>by
  have n1:=h.nz p (aG ..);have n2:=h'.nz q (aG ..);have e1:p.1=q.1:=by
   rcases Int.lt_trichotomy p.1 q.1 with c|c|c
   ·have:=e p.1;rw[h.head,h'.low c]at this;exact absurd this n1
   ·exact c
   ·have:=e q.1;rw[h'.head,h.low c]at this;exact absurd this.symm n2
  have e2:p.2=q.2:=by
   have:=e p.1;rw[h.head,e1,h'.head]at this;exact this
  have e3:p=q:=Prod.ext e1 e2;subst e3;rw[uniq h.tail h'.tail λk=>by
   have:(if p.1=k then p.2 else 0)+cf l k=(if p.1=k then p.2 else 0)+cf m k:=e k;lia]
noncomputable def Ib (d:Pl):Pl:=((sortI (d.map Prod.fst)).filter λk=>val d k != 0).map λk=>(k,val d k)
theorem GO{ks:List Int}(h:ks.Nodup):(sortI ks).Pairwise (· < ·):=by
 have p:=zI ks;have n:(sortI ks).Nodup:=(sortI_perm ks).nodup_iff.mpr h;have:(sortI ks).Pairwise λa b=>a<=b/\a≠b:=p.and n;exact this.imp λ⟨a,b⟩=>by lia
theorem CF{d:Pl}(h:(d.map Prod.fst).Nodup):Ok (Ib d):=by
 refine⟨?_,λp hp=>?_⟩
 ·unfold Ib;rw[cB];exact(GO h).filter _
 ·obtain⟨k,hk,rfl⟩:=bg.mp hp;have:=(cF.mp hk).2;simpa using this
theorem LX{k:Int}:∀{ks:List Int},ks.Nodup->cf (ks.map λj=>(j,val d j)) k=if k∈ks then val d k else 0
 | [],_=>by rw[aJ (by simp)];rfl
 | j::ks,h=>by
  obtain⟨h1,h2⟩:=cG.mp h;show(if j=k then val d j else 0)+cf (ks.map λj=>(j,val d j)) k=_;rw[LX h2];by_cases c:j=k
  ·subst c;rw[aM rfl,aJ h1,aM (aG ..),cC]
  ·rw[aJ c,bP];by_cases e:k∈ks
   ·rw[aM e,aM (aI _ e)]
   ·rw[aJ e,aJ λz=>(bB.mp z).elim (λz=>c z.symm) e]
theorem CP{d:Pl}(h:(d.map Prod.fst).Nodup)(k:Int):cf (Ib d) k=val d k:=by
 unfold Ib;rw[LX (((sortI_perm _).nodup_iff.mpr h).filter _)];split
 ·rfl
 ·rename_i c
  cases e:has d k with
  | false=>exact(Pu e).symm
  | true=>
   by_cases z:val d k=0
   ·exact z.symm
   ·exact absurd (cF.mpr ⟨(sortI_perm _).mem_iff.mpr (uc.mp e),by simpa using z⟩) c
theorem Ub{d e:Pl}(h:(d.map Prod.fst).Nodup)(h':(e.map Prod.fst).Nodup)(hv:∀k,val d k=val e k):Ib d=Ib e:=
 uniq (CF h) (CF h') λk=>by rw[CP h,CP h',hv]
theorem Ok.nd{l:Pl}(h:Ok l):(l.map Prod.fst).Nodup:=by
 unfold List.Nodup;rw[cB];exact h.up.imp λa=>by lia
theorem Ph{l:Pl}(h:(l.map Prod.fst).Nodup)(k:Int):val l k=cf l k:=by
 induction l with
 | nil=>rfl
 | cons p l ih=>
  obtain⟨h1,h2⟩:=cG.mp h;rw[om];show _=(if p.1=k then p.2 else 0)+cf l k;rw[<- ih h2];by_cases c:p.1=k
  ·have:has l k=false:=by
    cases e:has l k with
    | false=>rfl
    | true=>exact absurd (uc.mp e) (by rw[<- c];exact h1)
   rw[aM c,aM c,Pu this,cC]
  ·rw[aJ c,aJ c,bP]
noncomputable def Mb (d ps:Pl):Pl:=ps.foldl (λd p=>put d p.1 p.2) d
theorem Jl:∀(ps d:Pl),((d++ps).map Prod.fst).Nodup->Mb d ps=d++ps
 | [],d,_=>by rw[ck];rfl
 | p::ps,d,h=>by
  have hn:has d p.1=false:=by
   cases e:has d p.1 with
   | false=>rfl
   | true=>
    rw[bO,dO]at h;exact absurd rfl (h.2.2 _ (uc.mp e) p.1 (dW (aG ..)))
  have e:put d p.1 p.2=d++[p]:=by unfold put;rw[hn];rfl
  show Mb (put d p.1 p.2) ps=_;rw[e,Jl ps (d++[p]) (by rw[b9];exact h),b9];rfl
theorem Q3{l:Pl}(h:Ok l):Mb [] l=l:=Jl l [] h.nd
noncomputable def plus (a b:Pl):Pl:=Ib (pS a b)
noncomputable def oh (a b:Pl):Pl:=Ib (pS [] (a++b))
theorem Ri{a:Pl}(h:Ok a):plus a b=oh a b:=by
 refine Ub (ud _ h.nd) (ud _ c9) λk=>?_;rw[vL,vL,Ph h.nd];have:∀(a b:Pl),cf (a++b) k=cf a k+cf b k:=λa b=>by
  induction a with
  | nil=>exact(bP _).symm
  | cons p a ih=>
   show _+cf (a++b) k=_+_+_;rw[ih,e_]
 rw[this];show _=0+_;rw[bP]
theorem Fc(a b:Pl):Ok (oh a b):=CF (ud _ c9)
noncomputable def z8 (a b:Pl):Pl:=a.flatMap λp=>b.map λq=>(p.1+q.1,p.2 * q.2)
noncomputable def times (a b:Pl):Pl:=Ib (pS [] (z8 a b))
theorem qE(a b:Pl):Ok (times a b):=CF (ud _ c9)
theorem N_(a:Pl)(p:Int×Int)(b:Pl):z8 (a++[p]) b=z8 a b++b.map λq=>(p.1+q.1,p.2 * q.2):=by
 unfold z8;rw[iJ,i7,List.flatMap_nil,ck]
theorem yp(a b:Pl):(z8 a b).length=a.length * b.length:=by
 induction a with
 | nil=>simp[z8]
 | cons p a ih=>
  show((b.map _)++z8 a b).length=_;rw[aR,aK,ih,bz,dX];lia
theorem Bd.z8{c:Nat}{a:Pl}(h:Bd c a)(h':Bd c' b):Bd (c * c') (z8 a b):=λr hr=>by
 obtain⟨p,hp,hr⟩:=d9.mp hr;obtain⟨q,hq,rfl⟩:=bg.mp hr;show(p.2 * q.2).natAbs<=_;rw[Int.natAbs_mul];exact dH (h p hp) (h' q hq)
theorem HQ(d:Pl):(Ib d).length<=d.length:=by
 unfold Po.Ib;rw[aK];refine bH (dw _ _) ?_;rw[(sortI_perm _).length_eq,aK];exact aO _
noncomputable def turn (a:Pl):Pl:=a.reverse.map λp=>(-p.1,p.2)
noncomputable def iv (d:Pl):List (Int×A):=d.map λp=>(p.1,.int p.2)
noncomputable def pA (p:Int×Int):A:=.tup [.int p.1,.int p.2]
noncomputable def pl (l:Pl):List A:=l.map pA
theorem BA(d:Pl)(k:Int):mG (iv d) k=(d.find? λp=>decide (p.1=k)).map λp=>.int p.2:=by
 unfold mG iv;rw[gW,fZ];rfl
theorem ND(d:Pl)(k:Int):(mG (iv d) k).getD (.int 0)=.int (val d k):=by
 rw[BA];unfold val
 cases d.find? λp=>decide (p.1=k)<;>rfl
theorem zV{d:Pl}{k:Int}(h:k∈d.map Prod.fst):mG (iv d) k=some (.int (val d k)):=by
 have:=uc.mpr h;unfold has at this;rw[BA];unfold val
 cases e:d.find? λp=>decide (p.1=k)with
 | some p=>rfl
 | none=>
  obtain⟨p,hp,hd⟩:=f9.mp this;exact absurd hd (gB.mp e p hp)
theorem Bs(d:Pl)(k v:Int):we (iv d) k (.int v)=iv (put d k v):=by
 have e:(mG (iv d) k).isSome=has d k:=by
  rw[BA,gO];unfold has;rw[Bool.eq_iff_iff,i8,f9]
 unfold we put;rw[e];unfold iv;split
 ·rw[bh,bh];apply cE;intro p _;show(if p.1=k then(p.1,A.int v)else(p.1,.int p.2))=_;show _=((if p.1=k then(p.1,v)else p).1,A.int (if p.1=k then(p.1,v)else p).2);split<;>rfl
 ·rw[bO];rfl
theorem Jz(d:Pl):(iv d).map Prod.fst=d.map Prod.fst:=by
 unfold iv;rw[bh];rfl
theorem RV:∀l:Pl,Rq (pl l)=some (iv l)
 | []=>rfl
 | p::l=>by
  show(Rq (pl l)).map _=_;rw[RV l];rfl
theorem Rf(l:Pl):Q9 (iv l)=iv (Mb [] l):=by
 have:∀(l d:Pl),(iv l).foldl (λacc p=>we acc p.1 p.2) (iv d)=iv (Mb d l):=by
  intro l
  induction l with
  | nil=>intro d;rfl
  | cons p l ih=>
   intro d;show(iv l).foldl _ (we (iv d) p.1 (.int p.2))=_;rw[Bs,ih];rfl
 exact this l []
end Po
namespace Am
open PySem L2 Po
noncomputable abbrev WG:Tg:=xG 2 (oW (ku 0) (oW (ku 1) xO))
theorem F3{s:Src}{src:Ic}{e:Ex}{S1:jx}(hs:src τ S=.ok s S1)(a b f:Nat->A)(hget:∀i,i<s.k->s.get i S1=some (.tup [a i,b i]))(hfin:s.fin S1=true)
  (he:∀i,i<s.k->e (a i::b i::lB cap τ) S1=.ok (f i) S1) (hl:s.k<=16777216) :
  kP (none::none::cap) src WG vK e τ S=.ok (.ref S1.length) (S1++[.lst ((List.range s.k).map f)]):=by
 unfold kP;rw[hs,R.oS];obtain⟨S',h1,h2⟩:=vG (s:=s) (g:=WG) (t:=vK) (e:=e) (P:=λS=>S=S1) (T:=λτ'=>∃y z,τ'=y::z::lB cap τ) (λi=>.tup [a i,b i]) (λ_=>true) f (λi S hi h=>by subst h;exact hget i hi) (λS h=>by subst h;exact hfin)
  (λi τ' S hi ⟨y,z,hy⟩ h=>by
   subst h hy;exact⟨a i::b i::lB cap τ,S,S,rfl,rfl,⟨_,_,rfl⟩,λh=>(nomatch h),λhp=>⟨S,he i hi,rfl⟩⟩) s.k 0 (lB (none::none::cap) τ) S1 rfl ⟨_,_,rfl⟩ rfl
 subst h2;rw[h1,R.kO,fV,iK.mpr (λ_ _=>rfl)];refine kL ?_;rw[aK,List.length_range'];exact hl
theorem Xg{l:Pl}{i:Nat}(h:i<l.length):(pl l)[i]?=some (.tup [.int (l.getD i (0,0)).1,.int (l.getD i (0,0)).2]):=by
 unfold pl;rw[aP,aF h,aL,aF h];rfl
theorem w9(l:Pl):(pl l).length=l.length:=aK ..
theorem MV{l:Pl}{n:Nat}{src:Ic}{e:Ex}{S1:jx}(hs:src τ S=.ok (Hh n (pl l).length) S1)(hx:jw S1 n=some (pl l))(f:Int×Int->A)
  (he:∀p:Int×Int,e (.int p.1::.int p.2::lB cap τ) S1=.ok (f p) S1) (hl:l.length<=16777216) :
  kP (none::none::cap) src WG vK e τ S=.ok (.ref S1.length) (S1++[.lst (l.reverse.map f)]):=by
 have rg:∀i,i<l.length->l.reverse.getD i (0,0)=l.getD (l.length-1-i) (0,0):=λi hi=>by
  rw[aL,aL,List.getElem?_reverse hi]
 rw[F3 hs (λi=>.int (l.reverse.getD i (0,0)).1) (λi=>.int (l.reverse.getD i (0,0)).2) (λi=>f (l.reverse.getD i (0,0))) (λi hi=>by
  have hi:i<(pl l).length:=hi;rw[w9]at hi;show(jw S1 n).bind _=_;rw[hx,d8,w9,aM hi,Xg (by lia),rg i hi]) rfl (λi _=>he _) (by show(pl l).length<=_;rw[w9];exact hl)]
 have:=range_getD l.reverse (0,0);show R.ok _ (S1++[O.lst ((List.range (pl l).length).map _)])=_;rw[w9]
 conv=>rhs;rw[<- this,bh,fB]
 rfl
theorem A3{xs:List A}{n:Nat}{src:Ic}{t:Te}{e:Ex}{S1:jx}(hs:src τ S=.ok (kN n xs.length) S1)(hx:jw S1 n=some xs)(p:A->Bool)(f:A->A)
  (ht:∀x∈xs,t (x::lB cap τ) S1=.ok (p x) S1) (he:∀x∈xs,p x=true->e (x::lB cap τ) S1=.ok (f x) S1) (hl:xs.length<=16777216) :
  kP (none::cap) src (ku 0) t e τ S=.ok (.ref S1.length) (S1++[.lst ((xs.filter p).map f)]):=by
 have:=MD (S:=S1) (src:=λ_ _=>.ok (kN n xs.length) S1) (τ:=τ) rfl hx p f ht he hl;unfold kP at this ⊢;rw[hs];exact this
theorem GJ{S:jx}:kC (S++[.pP d]) S.length=some d:=yh FN
theorem NG{o:O}{n:Nat}(h:kC S n=some d):kC (S++[o]) n=some d:=by
 have h':=nQ h;exact yh (by rw[bG (aN.mp h').1];exact h')
theorem LL{S:jx}{n:Nat}(h:kC S n=some d):n<S.length:=(aN.mp (nQ h)).1
theorem FO{S:jx}{n:Nat}(h:n<S.length):kC (S.set n (.pP d)) n=some d:=yh (bV h)
theorem Kp.dk{b:Nat->Prop}(h:Kp b S S')(n:Nat)(d:List (Int×A))(hb:¬b n)(e:kC S n=some d):kC S' n=some d:=yh (h.obj n _ hb (nQ e))
theorem Ig{n:Nat}(h:kC S n=some d)(h':jw S m=some xs):n≠m:=λz=>by
 subst z;have e1:=nQ h;rw[jL h']at e1
 cases e1
theorem Jw{f:A->List A->jx->R A}{co:Ex}{d:qo}:Kh f co d τ S=(co τ S).bind λx S1=>opt (dk? x S1) λ_=>(d τ S1).bind λas S2=>f x as S2:=rfl
theorem L8{n:Nat}:dk? (.ref n) S=(kC S n).map λ_=>():=rfl
theorem Dv{n:Nat}{k:Int}:xy (.ref n) [.int k,y] S=opt (kC S n) λkvs=>.ok ((mG kvs k).getD y) S:=rfl
theorem Co{co ci:Ex}{a:A}:FP co ci a τ S=(co τ S).bind λo S1=>(ci τ S1).bind λi S2=>(AJ o i a S2).bind λ_ S3=>.ok τ S3:=rfl
theorem zp{n:Nat}{k:Int}{v:A}{S:jx}:AJ (.ref n) (.int k) v S=opt (kC S n) λkvs=>gd (kvs.length<sizeLine) (.ok () (S.set n (.pP (we kvs k v)))):=rfl
theorem BU{n:Nat}{k:Int}:wj (.ref n) (.int k) S=opt (kC S n) λkvs=>opt (mG kvs k) λv=>.ok v S:=rfl
theorem AX{S:jx}:CJ τ S=.ok (.ref S.length) (S++[.pP []]):=rfl
theorem AD{n:Nat}{S:jx}:r8 (.ref n) S=opt (kC S n) λkvs=>.ok (.ref S.length) (S++[.lst ((sortI (kvs.map Prod.fst)).map .int)]):=rfl
theorem J0{n:Nat}{S:jx}:Gx (.ref n) S=opt (jw S n) λxs=>opt (Rq xs) λps=>.ok (.ref S.length) (S++[.pP (Q9 ps)]):=rfl
theorem Zi{i j:Int}(h:i.natAbs<big)(h':j.natAbs<big):Ip (.int i) (.int j) S=.ok (.int (i * j)) S:=mz ⟨h,h'⟩
theorem Gj(d:Pl):(iv d).length=d.length:=aK ..
noncomputable abbrev Us:Sm:=kg (jJ qp (Kh xy (ju 2) (jt (ju 3) (jt (eC (.int 0)) (jB)))) (ju 4)) (FP (ju 2) (ju 3))
theorem acc_step{S:jx}{D:Pl}{k v:Int}(hd:kC S d=some (iv D))(hl:D.length<16777216):Us [x0,x1,.ref d,.int k,.int v] S=.nx [x0,x1,.ref d,.int k,.int v] (S.set d (.pP (iv (acc D k v)))):=by
 unfold Us;simp only[j9,bools,Jw,L8,hd,dP,Dv,ND,Co,zp,xD (show(iv D).length<16777216 by rw[Gj];exact hl),Bs];rfl
noncomputable abbrev PC:Tg:=xG 2 (oW (ku 3) (oW (ku 4) xO))
theorem Rm{n:Nat}{D l:Pl}{src:Ic}(hs:src [x0,x1,.ref d,x3,x4] S=.ok (kN n (pl l).length) S1)(hn:jw S1 n=some (pl l))(hd:kC S1 d=some (iv D))(hl:D.length+l.length<16777216) :
  ∃y3 y4 S',ly src PC Us [x0,x1,.ref d,x3,x4] S=.nx [x0,x1,.ref d,y3,y4] S'/\kC S' d=some (iv (pS D l))/\Kp (·=d) S1 S':=by
 have nd:=Ig hd hn;refine rJ (n:=n) (xs:=pl l) hs (λi τ T=>(∃y3 y4,τ=[x0,x1,.ref d,y3,y4])/\kC T d=some (iv (pS D (l.take i)))/\Kp (·=d) S1 T)
  (λr=>∃y3 y4 S',r=.nx [x0,x1,.ref d,y3,y4] S'/\kC S' d=some (iv (pS D l))/\Kp (·=d) S1 S') ⟨⟨_,_,rfl⟩,hd,Kp.refl⟩ (λi τ T h=>h.2.2.lst _ _ (c6 nd) hn) ?_ ?_
 ·rintro i z τ T hz ⟨⟨y3,y4,rfl⟩,hD,kp⟩;unfold pl at hz;rw[aP]at hz;obtain⟨p,hp,rfl⟩:=aY.mp hz;refine⟨[x0,x1,.ref d,.int p.1,.int p.2],T,rfl,.inl ?_⟩;have hlen:=o4 (l.take i) D;have hi:=(aN.mp hp).1;rw[b8]at hlen;refine⟨_,_,acc_step hD (by lia),⟨_,_,rfl⟩,?_,kp.BN (.inl rfl)⟩;rw[FO (LL hD),c8,hp,yF];rfl
 ·rintro τ T ⟨⟨y3,y4,rfl⟩,hD,kp⟩;rw[w9,di]at hD;exact⟨y3,y4,T,rfl,hD,kp⟩
noncomputable abbrev P5:Sm:=kg (jJ qp (Kh xy (ju 2) (jt (jJ qp (ju 3) (ju 5)) (jt (eC (.int 0)) (jB)))) (jJ Ip (ju 4) (ju 6))) (FP (ju 2) (jJ qp (ju 3) (ju 5)))
noncomputable abbrev g56:Tg:=xG 2 (oW (ku 5) (oW (ku 6) xO))
theorem OQ{S:jx}{D:Pl}{k v j u:Int}(hd:kC S d=some (iv D))(hl:D.length<16777216)(hv:v.natAbs<big)(hu:u.natAbs<big):P5 [x0,x1,.ref d,.int k,.int v,.int j,.int u] S=.nx [x0,x1,.ref d,.int k,.int v,.int j,.int u] (S.set d (.pP (iv (acc D (k+j) (v * u))))):=by
 unfold P5;simp only[j9,bools,Jw,L8,hd,dP,Dv,ND,Zi hv hu,Co,zp,xD (show(iv D).length<16777216 by rw[Gj];exact hl),Bs];rfl
theorem Qd{n:Nat}{D l:Pl}{k v:Int}(hn:jw S n=some (pl l))(hd:kC S d=some (iv D))(hl:D.length+l.length<16777216)(hv:v.natAbs<big)(hu:∀p∈l,p.2.natAbs<big) :
  ∃y5 y6 S',ly (nO (ju 1)) g56 P5 [x0,.ref n,.ref d,.int k,.int v,x5,x6] S=.nx [x0,.ref n,.ref d,.int k,.int v,y5,y6] S'/\kC S' d=some (iv (pS D (l.map λq=>(k+q.1,v * q.2))))/\Kp (·=d) S S':=by
 have nd:=Ig hd hn;refine rJ (n:=n) (xs:=pl l) (S1:=S) (mP (by simp only[j9,bools]) hn) (λi τ T=>(∃y5 y6,τ=[x0,.ref n,.ref d,.int k,.int v,y5,y6])/\kC T d=some (iv (pS D ((l.take i).map λq=>(k+q.1,v * q.2))))/\Kp (·=d) S T)
  (λr=>∃y5 y6 S',r=.nx [x0,.ref n,.ref d,.int k,.int v,y5,y6] S'/\kC S' d=some (iv (pS D (l.map λq=>(k+q.1,v * q.2))))/\Kp (·=d) S S') ⟨⟨_,_,rfl⟩,hd,Kp.refl⟩ (λi τ T h=>h.2.2.lst _ _ (c6 nd) hn) ?_ ?_
 ·rintro i z τ T hz ⟨⟨y5,y6,rfl⟩,hD,kp⟩;unfold pl at hz;rw[aP]at hz;obtain⟨p,hp,rfl⟩:=aY.mp hz;refine⟨[x0,.ref n,.ref d,.int k,.int v,.int p.1,.int p.2],T,rfl,.inl ?_⟩;have hlen:=o4 ((l.take i).map λq=>(k+q.1,v * q.2)) D;have hi:=(aN.mp hp).1;rw[aK,b8]at hlen;refine⟨_,_,OQ hD (by lia) hv (hu p (aX hp)),⟨_,_,rfl⟩,?_,kp.BN (.inl rfl)⟩;rw[FO (LL hD),c8,hp,bO,yF];rfl
 ·rintro τ T ⟨⟨y5,y6,rfl⟩,hD,kp⟩;rw[w9,di]at hD;exact⟨y5,y6,T,rfl,hD,kp⟩
noncomputable abbrev Uz:Sm:=ly (nO (ju 1)) g56 P5
theorem Gy(f:Int×Int->A)(hf:∀p τ S,PC (f p) τ S=PC (pA p) τ S){n:Nat}{a b:Pl}(hn:jw S n=some (a.map f))(hm:jw S m=some (pl b))(hd:kC S d=some [])(hl:a.length * b.length<16777216)(ha:∀p∈a,p.2.natAbs<big)(hb:∀p∈b,p.2.natAbs<big) :
  ∃y3 y4 y5 y6 S',ly (nO (ju 0)) PC Uz [.ref n,.ref m,.ref d,x3,x4,x5,x6] S=.nx [.ref n,.ref m,.ref d,y3,y4,y5,y6] S'/\kC S' d=some (iv (pS [] (z8 a b)))/\Kp (·=d) S S':=by
 have nd:=Ig hd hn;have md:=Ig hd hm;refine rJ (n:=n) (xs:=a.map f) (S1:=S) (mP (by simp only[j9,bools]) hn) (λi τ T=>(∃y3 y4 y5 y6,τ=[.ref n,.ref m,.ref d,y3,y4,y5,y6])/\kC T d=some (iv (pS [] (z8 (a.take i) b)))/\Kp (·=d) S T)
  (λr=>∃y3 y4 y5 y6 S',r=.nx [.ref n,.ref m,.ref d,y3,y4,y5,y6] S'/\kC S' d=some (iv (pS [] (z8 a b)))/\Kp (·=d) S S') ⟨⟨_,_,_,_,rfl⟩,hd,Kp.refl⟩ (λi τ T h=>h.2.2.lst _ _ (c6 nd) hn) ?_ ?_
 ·rintro i z τ T hz ⟨⟨y3,y4,y5,y6,rfl⟩,hD,kp⟩;rw[aP]at hz;obtain⟨p,hp,rfl⟩:=aY.mp hz;refine⟨[.ref n,.ref m,.ref d,.int p.1,.int p.2,y5,y6],T,hf _ _ _,.inl ?_⟩;have hlen:=o4 (z8 (a.take i) b) [];have hi:=(aN.mp hp).1;rw[yp,b8,Nat.min_eq_left (jf hi),bX,cA]at hlen;have hmul:i * b.length+b.length<=a.length * b.length:=by rw[<- dX];exact bJ _ hi
  obtain⟨z5,z6,T',e,hD',kp'⟩:=Qd (x0:=.ref n) (x5:=y5) (x6:=y6) (k:=p.1) (v:=p.2) (kp.lst _ _ (c6 md) hm) hD (by lia) (ha p (aX hp)) hb;refine⟨_,_,e,⟨_,_,_,_,rfl⟩,?_,kp.trans kp'⟩;rw[hD',c8,hp,Option.toList_some,N_,yF]
 ·rintro τ T ⟨⟨y3,y4,y5,y6,rfl⟩,hD,kp⟩;rw[aK,di]at hD;exact⟨y3,y4,y5,y6,T,rfl,hD,kp⟩
noncomputable abbrev Zm:Ex:=kP [none,some 0] (nO (j6 (f1 r8) (jt (ju 0) (jB)))) (ku 0) (A8 (jJ (vR true) (jJ wj (ju 1) (ju 0)) (eC (.int 0)))) (qM (jt (ju 0) (jt (jJ wj (ju 1) (ju 0)) (jB))))
theorem Ww{S:jx}{D:Pl}(hd:kC S d=some (iv D))(hl:D.length<=16777216):∃S',Zm [.ref d] S=.ok (.ref (S.length+1)) S'/\jw S' (S.length+1)=some (pl (Ib D))/\lG S S':=by
 have hd1:kC (S++[.lst ((sortI (D.map Prod.fst)).map .int)]) d=some (iv D):=NG hd;have ls:(S++[O.lst ((sortI (D.map Prod.fst)).map A.int)]).length=S.length+1:=by simp
 have cc:=A3 (n:=S.length) (xs:=(sortI (D.map Prod.fst)).map A.int) (cap:=[some 0]) (src:=nO (j6 (f1 r8) (jt (ju 0) (jB)))) (t:=A8 (jJ (vR true) (jJ wj (ju 1) (ju 0)) (eC (.int 0)))) (e:=qM (jt (ju 0) (jt (jJ wj (ju 1) (ju 0)) (jB)))) (τ:=[.ref d]) (S:=S) (S1:=S++[.lst ((sortI (D.map Prod.fst)).map .int)])
  (mP (by simp only[j9,bools,AD,hd,Jz]) jM) jM (λx=>match x with | .int k=>val D k != 0|_=>false) (λx=>match x with | .int k=>pA (k,val D k)|_=>.non) (λx hx=>by
   obtain⟨k,hk,rfl⟩:=bg.mp hx;have hk:=(sortI_perm _).mem_iff.mp hk;simp only[j9,bools,BU,hd1,zV hk];rfl) (λx hx _=>by
   obtain⟨k,hk,rfl⟩:=bg.mp hx;have hk:=(sortI_perm _).mem_iff.mp hk;simp only[j9,bools,BU,hd1,zV hk];exact vZ (show 2<=16777216 by decide)) (by rw[aK,(sortI_perm _).length_eq,aK];exact hl)
 refine⟨_,cc.trans (by rw[ls]),?_,Kp.refl.lay.lay⟩;rw[<- ls,jM];congr 1;unfold pl Ib;rw[bh,ji,bh];rfl
end Am
namespace Su
open Am Po PySem L2
noncomputable abbrev En:=List Int×Nat×Pl
noncomputable abbrev Es:=List En
noncomputable def ent (e:En):A:=.tup [.tup (e.1.map .int),.ref e.2.1]
noncomputable def kv (e:En):List Int×A:=(e.1,.ref e.2.1)
noncomputable def At (S:jx)(es:Es):Prop:=∀e∈es,jw S e.2.1=some (pl e.2.2)
noncomputable abbrev Ps:=List (List Int×Pl)
noncomputable def sm (es:Es):Ps:=es.map λe=>(e.1,e.2.2)
theorem ng(es:Es):(sm es).length=es.length:=aK ..
theorem Ge(a b:Es):sm (a++b)=sm a++sm b:=bO
noncomputable def vS (D:Ps)(o:List Int):Pl:=((D.find? λe=>decide (e.1=o)).map (·.2)).getD []
noncomputable def hS (D:Ps)(o:List Int):Bool:=D.any λe=>decide (e.1=o)
noncomputable def yH (D:Ps)(o:List Int)(p:Pl):Ps:=if hS D o=true then D.map (λe=>if e.1=o then(e.1,p)else e)else D++[(o,p)]
noncomputable def wY (D:Ps)(o:List Int)(p:Pl):Ps:=yH D o (oh (vS D o) p)
noncomputable def adds (D l:Ps):Ps:=l.foldl (λD e=>wY D e.1 e.2) D
theorem yY(D a b:Ps):adds D (a++b)=adds (adds D a) b:=by unfold adds;rw[cU]
noncomputable def toS (D:Ps):Ps:=((lH (D.map Prod.fst)).filter λo=>!(vS D o).isEmpty).map λo=>(o,vS D o)
noncomputable def fE (D:Es)(o:List Int):Option En:=D.find? λe=>decide (e.1=o)
noncomputable def oH (D:Es)(o:List Int)(r:Nat)(p:Pl):Es:=if (fE D o).isSome=true then D.map (λe=>if e.1=o then(e.1,r,p)else e)else D++[(o,r,p)]
theorem Q4(D:Es)(o:List Int):(sm D).find? (λe=>decide (e.1=o))=(fE D o).map λe=>(e.1,e.2.2):=by
 unfold sm fE;rw[gW];rfl
theorem KG(D:Es)(o:List Int):vS (sm D) o=((fE D o).map λe=>e.2.2).getD []:=by
 unfold vS;rw[Q4,fZ];rfl
theorem ZC(D:Es)(o:List Int):hS (sm D) o=(fE D o).isSome:=by
 unfold hS sm fE;rw[List.any_map,Bool.eq_iff_iff,i8,f9];rfl
theorem GC(D:Es)(o:List Int)(r:Nat)(p:Pl):sm (oH D o r p)=yH (sm D) o p:=by
 unfold oH yH;rw[ZC];unfold sm;split
 ·rw[bh,bh];apply cE;intro e _;show((if e.1=o then(e.1,r,p)else e).1,(if e.1=o then(e.1,r,p)else e).2.2)=if e.1=o then(e.1,p)else(e.1,e.2.2)
  split<;>rfl
 ·rw[bO];rfl
theorem pW(D:Es)(o:List Int):kF (D.map kv) o=(fE D o).map λe=>.ref e.2.1:=by
 unfold kF fE;rw[gW,fZ];rfl
theorem Gv(D:Es)(o:List Int)(r:Nat)(p:Pl):putD (D.map kv) o (.ref r)=(oH D o r p).map kv:=by
 unfold putD oH;rw[pW,gO];split
 ·rw[bh,bh];apply cE;intro e _;show(if e.1=o then(e.1,A.ref r)else(e.1,.ref e.2.1))=kv (if e.1=o then(e.1,r,p)else e);split<;>rfl
 ·rw[bO];rfl
theorem qZ{D:Es}{r:Nat}{p:Pl}{e:En}(h:e∈oH D o r p):e∈D\/e=(o,r,p):=by
 unfold oH at h;split at h
 ·obtain⟨e',h1,rfl⟩:=bg.mp h;split
  ·rename_i c;exact .inr (by rw[c])
  ·exact .inl h1
 ·rcases bD.mp h with z|z
  ·exact .inl z
  ·exact .inr (aV.mp z)
theorem BC{D:Es}{r:Nat}{p:Pl}:(oH D o r p).length<=D.length+1:=by
 unfold oH;split
 ·rw[aK];lia
 ·rw[aR];exact aO _
theorem qt{D:Es}{e:En}(h:fE D o=some e):e∈D/\e.1=o:=⟨gc h,by
 unfold fE at h;have:=iG h;simpa using this⟩
theorem At.put{D:Es}{r:Nat}{p:Pl}(h:At S D)(hr:jw S r=some (pl p)):At S (oH D o r p):=λe he=>by
 rcases qZ he with z|z
 ·exact h e z
 ·rw[z];exact hr
theorem At.kp{D:Es}{b:Nat->Prop}(h:At S D)(k:Kp b S S')(hb:∀e∈D,¬b e.2.1):At S' D:=λe he=>k.lst _ _ (hb e he) (h e he)
theorem At.wI{D:Es}(h:At S D)(k:lG S S'):At S' D:=h.kp k λ_ _ z=>z
theorem At.app{a:Es}(h:At S a)(h':At S b):At S (a++b):=λe he=>(bD.mp he).elim (h e) (h' e)
theorem nN{n:Nat}(h:jQ S n=some d)(h':jw S m=some xs):n≠m:=λz=>by
 subst z;have e1:=m_ h;rw[jL h']at e1
 cases e1
theorem At.De{D:Es}(h:At S D)(k:Kp (·=d) S S')(hd:jQ S d=some kvs):At S' D:=h.kp k λe he z=>nN hd (h e he) z.symm
noncomputable def Vl (k b:Nat)(D:Es):Prop:=∀e∈D,Ok e.2.2/\e.2.2.length<=k/\b<=e.2.1
theorem Vl.mono{k:Nat}{D:Es}(h:Vl k b D)(hk:k<=k'):Vl k' b D:=λe he=>⟨(h e he).1,bH (h e he).2.1 hk,(h e he).2.2⟩
theorem Vl.v{k:Nat}{D:Es}(h:Vl k b D)(o:List Int):Ok (vS (sm D) o)/\(vS (sm D) o).length<=k:=by
 rw[KG]
 cases e:fE D o with
 | none=>exact⟨⟨List.Pairwise.nil,λ_ z=>nomatch z⟩,bI _⟩
 | some e'=>exact⟨(h e' (qt e).1).1,(h e' (qt e).1).2.1⟩
theorem JP(a b:Pl):(oh a b).length<=a.length+b.length:=by
 refine bH (HQ _) (bH (o4 _ _) ?_);rw[aR,bX];lia
theorem An(a b:Pl):(times a b).length<=a.length * b.length:=by
 refine bH (HQ _) (bH (o4 _ _) ?_);rw[yp,bX];lia
theorem Vl.add{k r:Nat}{D:Es}{p:Pl}(h:Vl k b D)(hp:p.length<=j)(hr:b<=r):Vl (k+j) b (oH D o r (oh (vS (sm D) o) p)):=λe he=>by
 rcases qZ he with z|z
 ·exact(h.mono (Nat.le_add_right _ _)) e z
 ·rw[z];refine⟨Fc _ _,?_,hr⟩;have:=JP (vS (sm D) o) p;have:=(h.v o).2;show(oh (vS (sm D) o) p).length<=_;lia
theorem nu{S:jx}:jQ (S++[.dct xs]) S.length=some xs:=vh FN
theorem vg{o:O}{n:Nat}(h:jQ S n=some xs):jQ (S++[o]) n=some xs:=by
 have h':=m_ h;exact vh (by rw[bG (aN.mp h').1];exact h')
theorem v_{S:jx}{n:Nat}(h:jQ S n=some xs):n<S.length:=(aN.mp (m_ h)).1
theorem B7{S:jx}{n:Nat}(h:n<S.length):jQ (S.set n (.dct ys)) n=some ys:=vh (bV h)
theorem Rv{f:A->List A->jx->R A}{co:Ex}{d:qo}:V_ f co d τ S=(co τ S).bind λx S1=>opt (dct? x S1) λ_=>(d τ S1).bind λas S2=>f x as S2:=rfl
theorem Qv{n:Nat}:dct? (.ref n) S=(jQ S n).map λ_=>():=rfl
theorem qw{S:jx}:ux τ S=.ok (.ref S.length) (S++[.dct []]):=rfl
theorem tY{co ci:Ex}{a:A}:E2 co ci a τ S=(co τ S).bind λo S1=>(ci τ S1).bind λi S2=>(EV o i a S2).bind λ_ S3=>.ok τ S3:=rfl
theorem P1{n:Nat}{o:List Int}:Ug (.ref n) [.tup (o.map .int),y] S=opt (jQ S n) λkvs=>.ok ((kF kvs o).getD y) S:=by
 show opt (jQ S n) (λkvs=>opt (A.ints (o.map .int)) λk=>.ok ((kF kvs k).getD y) S)=_;rw[ints_map];rfl
theorem zg{n:Nat}{o:List Int}{v:A}{S:jx}:EV (.ref n) (.tup (o.map .int)) v S=opt (jQ S n) λkvs=>gd (kvs.length<sizeLine) (.ok () (S.set n (.dct (putD kvs o v)))):=by
 show opt (jQ S n) (λkvs=>opt (A.ints (o.map .int)) λns=>gd (kvs.length<sizeLine) (.ok () (S.set n (.dct (putD kvs ns v)))))=_;rw[ints_map];rfl
theorem tF{n:Nat}{o:List Int}:vq (.ref n) (.tup (o.map .int)) S=opt (jQ S n) λkvs=>opt (kF kvs o) λv=>.ok v S:=by
 show opt (jQ S n) (λkvs=>opt (A.ints (o.map .int)) λns=>opt (kF kvs ns) λv=>.ok v S)=_;rw[ints_map];rfl
theorem get_or{S:jx}{D:Es}(hd:jQ S d=some (D.map kv))(hA:At S D):∃x:Nat,(kF (D.map kv) o).getD (.ref S.length)=.ref x/\jw (S++[.lst []]) x=some (pl (vS (sm D) o)):=by
 rw[pW,KG]
 cases e:fE D o with
 | none=>exact⟨S.length,rfl,jM⟩
 | some e'=>exact⟨e'.2.1,rfl,ko (hA e' (qt e).1)⟩
theorem RJ{α:Type}{xs:List α}(g:α->A){n:Nat}{src:Ic}{t:Te}{e:Ex}(hs:src τ S=.ok (kN n (xs.map g).length) S1)(hx:jw S1 n=some (xs.map g))(d:α)(p:α->Bool)(f:α->A)
  (step:∀x∈xs,∀T,lG S1 T->∃T1,t (g x::lB cap τ) T=.ok (p x) T1/\lG S1 T1/\(p x=true->∃T2,e (g x::lB cap τ) T1=.ok (f x) T2/\lG S1 T2)) (hl:xs.length<=16777216) :
  ∃S',kP (none::cap) src (ku 0) t e τ S=.ok (.ref S'.length) (S'++[.lst ((xs.filter p).map f)])/\lG S1 S':=by
 have hm:∀i,i<xs.length->xs.getD i d∈xs:=λi hi=>by
  rw[aL,aF hi];exact dz hi
 have hk:(xs.map g).length=xs.length:=aK ..;obtain⟨S',h1,h2⟩:=vG (s:=kN n (xs.map g).length) (g:=ku 0) (t:=t) (e:=e) (P:=λT=>lG S1 T) (T:=λτ'=>∃y,τ'=y::lB cap τ) (λi=>g (xs.getD i d)) (λi=>p (xs.getD i d)) (λi=>f (xs.getD i d)) (λi T hi h=>by
   have hi:i<(xs.map g).length:=hi;show(jw T n).bind _=_;rw[h.lst _ _ (λz=>z) hx,d8,aP,aF (by lia),aL,aF (by lia)];rfl) (λT h=>by
   show(match jw T n with
    | some ys=>decide (ys.length<=(xs.map g).length)
    | none=>false)=true
   rw[h.lst _ _ (λz=>z) hx];simp)
  (λi τ' T hi ⟨y,hy⟩ h=>by
   have hi:i<(xs.map g).length:=hi;subst hy;obtain⟨T1,e1,k1,e2⟩:=step _ (hm i (by lia)) T h;exact⟨g (xs.getD i d)::lB cap τ,T,T1,rfl,e1,⟨_,rfl⟩,λ_=>k1,e2⟩) (xs.map g).length 0 (lB (none::cap) τ) S1 rfl ⟨_,rfl⟩ Kp.refl
 refine⟨S',?_,h2⟩;unfold kP;rw[hs,R.oS];show(mU (kN n (xs.map g).length) (ku 0) t e (xs.map g).length 0 (lB (none::cap) τ) S1).rQ _=_;rw[h1,R.kO,<- fV,hk,qB xs p f d];refine kL ?_;rw[aK];exact bH (dw _ _) hl
theorem EJ{D:Es}{o:List Int}(h:o∈D.map Prod.fst):∃e,fE D o=some e:=by
 unfold fE
 cases e:D.find? λe=>decide (e.1=o)with
 | some x=>exact⟨x,rfl⟩
 | none=>
  obtain⟨x,hx,rfl⟩:=bg.mp h;exact absurd (bq rfl) (gB.mp e x hx)
noncomputable def zf (k:List Int):A:=.tup (k.map .int)
theorem Ec{S:jx}{D:Es}(hd:jQ S d=some (D.map kv))(hne:∀e∈D,e.1≠[]):wK (.ref d) S=.ok (.ref S.length) (S++[.lst ((lH (D.map Prod.fst)).map zf)]):=by
 have ek:(D.map kv).map Prod.fst=D.map Prod.fst:=by rw[bh];rfl
 show opt (jQ S d) _=_;rw[hd,j3];have:((D.map kv).map Prod.fst).all (λks=>!ks.isEmpty)=true:=by
  rw[ek,gJ,d7];intro e he;have:=hne e he;show(!(e.1).isEmpty)=true
  cases h:e.1 with
  | nil=>exact absurd h this
  | cons=>rfl
 rw[ek]at this ⊢;rw[this];rfl
noncomputable def qL (D:Es)(p:Pl->Bool):Es:=((lH (D.map Prod.fst)).filter λo=>p (vS (sm D) o)).map λo=>(o,((fE D o).map λe=>e.2.1).getD 0,vS (sm D) o)
theorem tX(D:Es):sm (qL D λp=>!p.isEmpty)=toS (sm D):=by
 unfold qL toS sm;rw[bh,bh];rfl
theorem tU{D:Es}{p:Pl->Bool}{e:En}(h:e∈qL D p):e∈D/\p e.2.2=true:=by
 obtain⟨o,ho,rfl⟩:=bg.mp h;obtain⟨h1,h2⟩:=cF.mp ho;obtain⟨e,he⟩:=EJ ((jU _).mem_iff.mp h1);rw[KG,he]at h2;rw[KG,he];obtain⟨m,rfl⟩:=qt he;exact⟨m,h2⟩
theorem EK{S:jx}{D:Es}{src:Ic}{t:Te}{e:Ex}(hd:jQ S d=some (D.map kv))(hA:At S D)(hs:src τ S=.ok (kN S.length ((lH (D.map Prod.fst)).map zf).length) (S++[.lst ((lH (D.map Prod.fst)).map zf)]))(p:Pl->Bool)
  (ht:∀(o:List Int) (r:Nat) (q:Pl) (T:jx),jQ T d=some (D.map kv)->kF (D.map kv) o=some (.ref r)->jw T r=some (pl q)->∃T1,t (zf o::lB cap τ) T=.ok (p q) T1/\lG T T1)
  (he:∀(o:List Int) (r:Nat) (T:jx),jQ T d=some (D.map kv)->kF (D.map kv) o=some (.ref r)->e (zf o::lB cap τ) T=.ok (.tup [zf o,.ref r]) T) (hl:D.length<=16777216) :
  ∃(n:Nat) (S':jx),kP (none::cap) src (ku 0) t e τ S=.ok (.ref n) S'/\jw S' n=some ((qL D p).map ent)/\At S' (qL D p)/\S.length<n/\lG S S':=by
 have kx:lG S (S++[.lst ((lH (D.map Prod.fst)).map zf)]):=Kp.refl.lay;obtain⟨S',e1,k1⟩:=RJ zf (t:=t) (e:=e) (cap:=cap) hs jM [] (λo=>p (vS (sm D) o)) (λo=>ent (o,((fE D o).map λe=>e.2.1).getD 0,vS (sm D) o)) (λo ho T kT=>by
  obtain⟨e',he'⟩:=EJ ((jU _).mem_iff.mp ho);have lk:kF (D.map kv) o=some (.ref e'.2.1):=by rw[pW,he'];rfl
  have kST:=kx.trans kT;have dT:=kST.dct _ _ (λz=>z) hd;have lT:=kST.lst _ _ (λz=>z) (hA e' (qt he').1);obtain⟨T1,h1,h2⟩:=ht o e'.2.1 e'.2.2 T dT lk lT;rw[KG,he'];exact⟨T1,h1,kT.trans h2,λ_=>⟨T1,he o e'.2.1 T1 (h2.dct _ _ (λz=>z) dT) lk,kT.trans h2⟩⟩) (by
  rw[(jU _).length_eq,aK];exact hl)
 have kS:=kx.trans k1;refine⟨S'.length,_,e1,?_,(?_:At S' (qL D p)).wI Kp.refl.lay,?_,kS.lay⟩
 ·rw[jM];unfold qL;rw[bh];rfl
 ·exact λe h=>kS.lst _ _ (λz=>z) (hA e (tU h).1)
 ·have:=k1.len;rw[aR]at this;exact this
noncomputable def Br (F:List A->jx->R A):Prop:=∀{S:jx}{d r:Nat}{D:Es}{o:List Int}{p:Pl}{k b:Nat},jQ S d=some (D.map kv)->At S D->Vl k b D->jw S r=some (pl p)->D.length<16777216->k+p.length<16777216 ->
  ∃(L:Nat) (S':jx),F [.ref d,.tup (o.map .int),.ref r] S=.ok .non S'/\jQ S' d=some ((oH D o L (oh (vS (sm D) o) p)).map kv)/\At S' (oH D o L (oh (vS (sm D) o) p))/\S.length<=L/\Kp (·=d) S S'
noncomputable def Kc (F:List A->jx->R A):Prop:=∀{S:jx}{n m:Nat}{a b:Pl},jw S n=some (pl a)->jw S m=some (pl b)->a.length * b.length<16777216->(∀p∈a,p.2.natAbs<big)->(∀p∈b,p.2.natAbs<big) ->
  ∃(L:Nat) (S':jx),F [.ref n,.ref m] S=.ok (.ref L) S'/\jw S' L=some (pl (times a b))/\S.length<=L/\lG S S'
noncomputable def Ap (D:Es):Prop:=D.Pairwise λe f=>e.1≠f.1/\e.2.1≠f.2.1
theorem Ap.put{D:Es}{r:Nat}{p:Pl}(h:Ap D)(hr:∀e∈D,e.2.1≠r):Ap (oH D o r p):=by
 unfold oH;split
 ·unfold Ap;rw[cB];refine gv (λ{e f} he hf z=>?_) h;by_cases c1:e.1=o
  ·have c2:¬f.1=o:=λz2=>z.1 (c1.trans z2.symm);rw[aM c1,aJ c2];exact⟨z.1,λy=>hr f hf y.symm⟩
  ·rw[aJ c1];by_cases c2:f.1=o
   ·rw[aM c2];exact⟨z.1,hr e he⟩
   ·rw[aJ c2];exact z
 ·rename_i c;unfold Ap;rw[b6];refine⟨h,cJ _ _,λe he f hf=>?_⟩;rw[aV.mp hf];refine⟨λz=>c ?_,hr e he⟩;unfold fE;rw[i8];exact⟨e,he,bq z⟩
theorem Ap.at{D:Es}(h:Ap D):∀e∈D,∀f∈D,e.1≠f.1->e.2.1≠f.2.1:=by
 unfold Ap at h
 induction h with
 | nil=>exact λe he=>nomatch he
 | @cons a D ha _ ih=>
  intro e he f hf z
  rcases bB.mp he with h1|h1<;>rcases bB.mp hf with h2|h2
  ·exact absurd (by rw[h1,h2]) z
  ·rw[h1];exact(ha f h2).2
  ·rw[h2];exact(ha e h1).2.symm
  ·exact ih e h1 f h2 z
theorem Ap.nd{D:Es}(h:Ap D):(D.map Prod.fst).Nodup:=by
 unfold List.Nodup;rw[cB];exact h.imp λz=>z.1
theorem Ap.out{D:Es}(h:Ap D)(p:Pl->Bool):Ap (qL D p):=by
 unfold Ap qL;rw[cB];have n:(lH (D.map Prod.fst)).Pairwise (·≠·):=(jU _).nodup_iff.mpr h.nd;refine gv (λ{a b} ha hb z=>?_) (n.filter _);obtain⟨e,he⟩:=EJ ((jU _).mem_iff.mp (cF.mp ha).1);obtain⟨f,hf⟩:=EJ ((jU _).mem_iff.mp (cF.mp hb).1);obtain⟨m1,e1⟩:=qt he;obtain⟨m2,e2⟩:=qt hf;refine⟨z,?_⟩;rw[he,hf];exact h.at e m1 f m2 (by rw[e1,e2];exact z)
structure Fil (T:jx)(d b i j:Nat)(P:Ps)(D:Es):Prop where
 dd:jQ T d=some (D.map kv)
 aa:At T D
 ss:sm D=P
 vv:Vl (i * j) b D
 kk:∀e∈D,e.1≠[]
 ll:D.length<=i
 pw:Ap D
theorem Fil.mono{P:Ps}{D:Es}(h:Fil T d b i j P D)(hi:i<=i'):Fil T d b i' j P D:=⟨h.dd,h.aa,h.ss,h.vv.mono (bJ _ hi),h.kk,bH h.ll hi,h.pw⟩
theorem Fil.new(hd:jQ S d=some []):Fil S d b 0 j [] []:=⟨hd,(λ_ h=>nomatch h),rfl,(λ_ h=>nomatch h),(λ_ h=>nomatch h),aO _,List.Pairwise.nil⟩
theorem Fil.wI{P:Ps}{D:Es}(h:Fil S d b i j P D)(k:lG S T):Fil T d b i j P D:=⟨k.dct _ _ (λz=>z) h.dd,h.aa.wI k,h.ss,h.vv,h.kk,h.ll,h.pw⟩
theorem Fil.add{F:List A->jx->R A}(hF:Br F){T:jx}{r:Nat}{P:Ps}{D:Es}{o:List Int}{p:Pl}(h:Fil T d b i j P D)(hr:jw T r=some (pl p))(hp:p.length<=j)(ho:o≠[])(hb:b<=T.length)(hl:i * j+j<16777216)(hi:i<16777216) :
  ∃(D':Es) (T':jx),F [.ref d,.tup (o.map .int),.ref r] T=.ok .non T'/\Fil T' d b (i+1) j (wY P o p) D'/\Kp (·=d) T T':=by
 have hl0:=h.ll;obtain⟨L,T',e,h1,h2,h3,h4⟩:=hF (o:=o) h.dd h.aa h.vv hr (by lia) (by lia);refine⟨_,T',e,⟨h1,h2,by rw[GC,h.ss];rfl,?_,λe he=>?_,?_,h.pw.put λe he z=>by have:=ni (h.aa e he);lia⟩,h4⟩
 ·have:=h.vv.add (o:=o) (p:=p) (j:=j) hp (show b<=L by lia);rw[dX];exact this
 ·rcases qZ he with z|z
  ·exact h.kk e z
  ·rw[z];exact ho
 ·have:=BC (D:=D) (o:=o) (r:=L) (p:=oh (vS (sm D) o) p);lia
theorem Ro{n i0 w:Nat}{P:Ps}{es:Es}{src:Ic}{c:Sm}(G:En->Ps->Ps)(hs:src (x0::x1::.ref d::x3::x4::xs) S=.ok (kN n (es.map ent).length) S1)(hn:jw S1 n=some (es.map ent))(hd:Fil S1 d b i0 j P D0)
  (step:∀(i:Nat) (e:En) (T:jx) (Q:Ps) (D:Es),i<es.length->e∈es->Kp (·=d) S1 T->Fil T d b (i0+w * i) j Q D->∃(D':Es) (T':jx),c (x0::x1::.ref d::.tup (e.1.map .int)::.ref e.2.1::xs) T=.nx (x0::x1::.ref d::.tup (e.1.map .int)::.ref e.2.1::xs) T'/\Fil T' d b (i0+w * (i+1)) j (G e Q) D'/\Kp (·=d) T T') :
  ∃(y3 y4:A) (D:Es) (S':jx),ly src PC c (x0::x1::.ref d::x3::x4::xs) S=.nx (x0::x1::.ref d::y3::y4::xs) S'/\Fil S' d b (i0+w * es.length) j (es.foldl (λQ e=>G e Q) P) D/\Kp (·=d) S1 S':=by
 have hle:(es.map ent).length=es.length:=aK ..;refine rJ (n:=n) (xs:=es.map ent) (S1:=S1) hs (λi τ T=>(∃y3 y4,τ=x0::x1::.ref d::y3::y4::xs)/\(∃D,Fil T d b (i0+w * i) j ((es.take i).foldl (λQ e=>G e Q) P) D)/\Kp (·=d) S1 T)
  (λr=>∃(y3 y4:A) (D:Es) (S':jx),r=.nx (x0::x1::.ref d::y3::y4::xs) S'/\Fil S' d b (i0+w * es.length) j (es.foldl (λQ e=>G e Q) P) D/\Kp (·=d) S1 S') ⟨⟨_,_,rfl⟩,⟨D0,hd⟩,Kp.refl⟩ (λi τ T h=>h.2.2.lst _ _ (c6 (nN hd.dd hn)) hn) ?_ ?_
 ·rintro i z τ T hz ⟨⟨y3,y4,rfl⟩,⟨D,f⟩,kp⟩;rw[aP]at hz;obtain⟨e,he,rfl⟩:=aY.mp hz;refine⟨x0::x1::.ref d::.tup (e.1.map .int)::.ref e.2.1::xs,T,rfl,.inl ?_⟩;obtain⟨D',T',e1,f',k'⟩:=step i e T _ D (aN.mp he).1 (aX he) kp f;refine⟨_,T',e1,⟨_,_,rfl⟩,⟨D',?_⟩,kp.trans k'⟩;rw[c8,he,cU];exact f'
 ·rintro τ T ⟨⟨y3,y4,rfl⟩,⟨D,f⟩,kp⟩;rw[hle,di]at f;exact⟨y3,y4,D,T,rfl,f,kp⟩
theorem KA(P:Ps)(es:Es):es.foldl (λQ e=>wY Q e.1 e.2.2) P=adds P (sm es):=by
 unfold adds sm;rw[jm]
theorem wU(q:Pl)(P:Ps)(es:Es):es.foldl (λQ e=>wY Q e.1 (times q e.2.2)) P=adds P ((sm es).map λe=>(e.1,times q e.2)):=by
 unfold adds sm;rw[jm,jm]
theorem Rr{F:List A->jx->R A}(hF:Br F){S1:jx}{n i0:Nat}{P:Ps}{es:Es}{src:Ic}(hs:src (x0::x1::.ref d::x3::x4::xs) S=.ok (kN n (es.map ent).length) S1)(hn:jw S1 n=some (es.map ent))(hA:At S1 es)(hd:Fil S1 d b i0 j P D0)(hb:b<=S1.length)
  (hj:∀e∈es,e.2.2.length<=j/\e.1≠[]) (hl:(i0+es.length) * j+j<16777216) (hl':i0+es.length<16777216) :
  ∃(y3 y4:A) (D:Es) (S':jx),ly src PC (o5 (eFn F (jt (ju 2) (jt (ju 3) (jt (ju 4) jB))))) (x0::x1::.ref d::x3::x4::xs) S=.nx (x0::x1::.ref d::y3::y4::xs) S'/\Fil S' d b (i0+es.length) j (adds P (sm es)) D/\Kp (·=d) S1 S':=by
 have:=Ro (w:=1) (c:=o5 (eFn F (jt (ju 2) (jt (ju 3) (jt (ju 4) jB))))) (λe Q=>wY Q e.1 e.2.2) hs hn hd λi e T Q D hi hm kp f=>by
  have hle':=kp.len;rw[dZ]at f ⊢;have hmul:(i0+i) * j<=(i0+es.length) * j:=bJ _ (by lia);obtain⟨D',T',e1,f',k'⟩:=f.add hF (o:=e.1) ((hA.De kp hd.dd) e hm) (hj e hm).1 (hj e hm).2 (by lia) (by lia) (by lia);exact⟨D',T',by simp only[j9,bools,e1],f',k'⟩
 rw[dZ,KA]at this;exact this
theorem vO{n i0 w:Nat}{P:Ps}{es:Es}{src:Ic}{c:Sm}{g:Tg}(Fm:A->A->List A->List A)(Z:List A->Prop)(G:En->Ps->Ps)(hg:∀(e:En) (y z:A) (xs:List A) (T:jx),g (ent e) (Fm y z xs) T=.ok (Fm (.tup (e.1.map .int)) (.ref e.2.1) xs) T)
  {x3 x4:A} {xs0:List A} (hz:Z xs0) (hs:src (Fm x3 x4 xs0) S=.ok (kN n (es.map ent).length) S1) (hn:jw S1 n=some (es.map ent)) (hd:Fil S1 d b i0 j P D0)
  (step:∀(i:Nat) (e:En) (T:jx) (Q:Ps) (D:Es) (xs:List A),i<es.length->e∈es->Z xs->Kp (·=d) S1 T->Fil T d b (i0+w * i) j Q D->∃(D':Es) (T':jx) (xs':List A),Z xs'/\c (Fm (.tup (e.1.map .int)) (.ref e.2.1) xs) T=.nx (Fm (.tup (e.1.map .int)) (.ref e.2.1) xs') T'/\Fil T' d b (i0+w * (i+1)) j (G e Q) D'/\Kp (·=d) T T') :
  ∃(y3 y4:A) (xs:List A) (D:Es) (S':jx),Z xs/\ly src g c (Fm x3 x4 xs0) S=.nx (Fm y3 y4 xs) S'/\Fil S' d b (i0+w * es.length) j (es.foldl (λQ e=>G e Q) P) D/\Kp (·=d) S1 S':=by
 have hle:(es.map ent).length=es.length:=aK ..;refine rJ (n:=n) (xs:=es.map ent) (S1:=S1) hs (λi τ T=>(∃y3 y4 xs,τ=Fm y3 y4 xs/\Z xs)/\(∃D,Fil T d b (i0+w * i) j ((es.take i).foldl (λQ e=>G e Q) P) D)/\Kp (·=d) S1 T)
  (λr=>∃(y3 y4:A) (xs:List A) (D:Es) (S':jx),Z xs/\r=.nx (Fm y3 y4 xs) S'/\Fil S' d b (i0+w * es.length) j (es.foldl (λQ e=>G e Q) P) D/\Kp (·=d) S1 S') ⟨⟨_,_,_,rfl,hz⟩,⟨D0,hd⟩,Kp.refl⟩ (λi τ T h=>h.2.2.lst _ _ (c6 (nN hd.dd hn)) hn) ?_ ?_
 ·rintro i z τ T hz ⟨⟨y3,y4,xs,rfl,hx⟩,⟨D,f⟩,kp⟩;rw[aP]at hz;obtain⟨e,he,rfl⟩:=aY.mp hz;refine⟨Fm (.tup (e.1.map .int)) (.ref e.2.1) xs,T,hg _ _ _ _ _,.inl ?_⟩;obtain⟨D',T',xs',hx',e1,f',k'⟩:=step i e T _ D xs (aN.mp he).1 (aX he) hx kp f;refine⟨_,T',e1,⟨_,_,_,rfl,hx'⟩,⟨D',?_⟩,kp.trans k'⟩;rw[c8,he,cU];exact f'
 ·rintro τ T ⟨⟨y3,y4,xs,rfl,hx⟩,⟨D,f⟩,kp⟩;rw[hle,di]at f;exact⟨y3,y4,xs,D,T,hx,rfl,f,kp⟩
end Su
namespace Su
open Am Po PySem L2
noncomputable def cS (l:Ps)(o:List Int)(t:Int):Int:=match l with
 | []=>0
 | e::l=>(if e.1=o then cf e.2 t else 0)+cS l o t
theorem rW(a b:Ps)(o:List Int)(t:Int):cS (a++b) o t=cS a o t+cS b o t:=by
 induction a with
 | nil=>exact(bP _).symm
 | cons e a ih=>
  show _+cS (a++b) o t=_+_+_;rw[ih,e_]
theorem wQ(a b:Pl)(k:Int):cf (a++b) k=cf a k+cf b k:=by
 induction a with
 | nil=>exact(bP _).symm
 | cons p a ih=>
  show _+cf (a++b) k=_+_+_;rw[ih,e_]
theorem O2(a b:Pl)(k:Int):cf (oh a b) k=cf a k+cf b k:=by
 unfold oh;rw[CP (ud _ (d:=[]) c9),vL,wQ];show 0+_=_;rw[bP]
theorem pG(a b:Pl)(k:Int):cf (times a b) k=cf (z8 a b) k:=by
 unfold times;rw[CP (ud _ (d:=[]) c9),vL];show 0+_=_;rw[bP]
theorem GU(s:Int):∀(b:Pl) (k c:Int),cf (b.map λq=>(c+q.1,s * q.2)) k=s * cf b (k-c)
 | [],k,c=>(f_ s).symm
 | q::b,k,c=>by
  show(if c+q.1=k then s * q.2 else 0)+cf (b.map λq=>(c+q.1,s * q.2)) k=s * ((if q.1=k-c then q.2 else 0)+cf b (k-c));rw[GU s b k c,jn];by_cases h:c+q.1=k
  ·rw[aM h,aM (by lia)]
  ·rw[aJ h,aJ (by lia),f_]
noncomputable abbrev AF:Pl:=[((-1:Int),(1:Int)),((1:Int),(-1:Int))]
theorem Yv(b:Pl)(k:Int):cf (times AF b) k=cf b (k+1)-cf b (k-1):=by
 rw[pG];show cf ((b.map λq=>((-1:Int)+q.1,(1:Int) * q.2))++((b.map λq=>((1:Int)+q.1,(-1:Int) * q.2))++[])) k=_;rw[ck,wQ,GU,GU,one_mul,show k - -1=k+1 by lia];lia
theorem Uo{D:Ps}{p:Pl}:vS (yH D o p) o'=if o'=o then p else vS D o':=by
 have cons:∀(e:List Int×Pl) (D:Ps) (x:List Int),vS (e::D) x=if e.1=x then e.2 else vS D x:=λe D x=>by
  unfold vS;rw[cH];by_cases h:e.1=x
  ·rw[bq h,aM h];rfl
  ·rw[bw h,aJ h]
 unfold yH
 cases h:hS D o with
 | true=>
  rw[aM rfl]
  induction D with
  | nil=>cases h
  | cons e D ih=>
   rw[bC,cons,cons];have hc:hS (e::D) o=(decide (e.1=o) || hS D o):=rfl;rw[hc]at h;by_cases c:e.1=o
   ·rw[aM c];show(if e.1=o' then p else _)=_;by_cases c2:o'=o
    ·rw[aM (c.trans c2.symm),aM c2]
    ·rw[aJ (λz=>c2 (z.symm.trans c)),aJ c2,aJ (λz=>c2 (z.symm.trans c))];clear ih h hc
     induction D with
     | nil=>rfl
     | cons f D ih2=>
      rw[bC,cons,cons,ih2];by_cases c3:f.1=o
      ·rw[aM c3];show(if f.1=o' then p else _)=_;rw[aJ (λz=>c2 (z.symm.trans c3)),aJ (λz=>c2 (z.symm.trans c3))]
      ·rw[aJ c3]
   ·rw[aJ c];rw[bw c,gp]at h;rw[ih h];by_cases c2:e.1=o'
    ·rw[aM c2,aJ (λz=>c (c2.trans z)),aM c2]
    ·rw[aJ c2,aJ c2]
 | false=>
  rw[aJ (by simp)]
  induction D with
  | nil=>
   show vS [(o,p)] o'=_;rw[cons];by_cases c:o=o'
   ·rw[aM c,aM c.symm]
   ·rw[aJ c,aJ (λz=>c z.symm)]
  | cons e D ih=>
   have hc:hS (e::D) o=(decide (e.1=o) || hS D o):=rfl;rw[hc,iC]at h;rw[List.cons_append,cons,cons,ih h.2];have:=cW h.1;by_cases c:e.1=o'
   ·rw[aM c,aM c,aJ (λz=>this (c.trans z))]
   ·rw[aJ c,aJ c]
theorem C6(l:Ps):∀(D:Ps) (o:List Int) (t:Int),cf (vS (adds D l) o) t=cf (vS D o) t+cS l o t:=by
 induction l with
 | nil=>intro D o t;exact(cC _).symm
 | cons e l ih=>
  intro D o t;show cf (vS (adds (wY D e.1 e.2) l) o) t=_+((if e.1=o then cf e.2 t else 0)+cS l o t);rw[ih];unfold wY;rw[Uo];by_cases h:o=e.1
  ·rw[aM h,aM h.symm,O2,h,e_]
  ·rw[aJ h,aJ (λz=>h z.symm),bP]
structure Gd (D:Ps):Prop where
 nd:(D.map Prod.fst).Nodup
 ok:∀e∈D,Ok e.2
theorem VI{D:Ps}{o:List Int}:hS D o=true ↔ o∈D.map Prod.fst:=by
 unfold hS;rw[f9,bg];constructor
 ·rintro⟨p,h1,h2⟩;exact⟨p,h1,bN h2⟩
 ·rintro⟨p,h1,h2⟩;exact⟨p,h1,bq h2⟩
theorem JY{D:Ps}{o:List Int}{p:Pl}:(yH D o p).map Prod.fst=if hS D o=true then D.map Prod.fst else D.map Prod.fst++[o]:=by
 unfold yH;split
 ·rw[bh];apply cE;intro e _;show(if e.1=o then(e.1,p)else e).1=e.1;split<;>rfl
 ·rw[bO];rfl
theorem Gd.put{D:Ps}{p:Pl}(h:Gd D)(hp:Ok p):Gd (yH D o p):=by
 refine⟨?_,λe he=>?_⟩
 ·rw[JY];split
  ·exact h.nd
  ·rename_i c;rw[dO];refine⟨h.nd,cJ _ _,λa ha b hb z=>c ?_⟩;rw[aV]at hb;rw[VI,<- hb,<- z];exact ha
 ·unfold yH at he;split at he
  ·obtain⟨f,hf,rfl⟩:=bg.mp he;split
   ·exact hp
   ·exact h.ok f hf
  ·rcases bD.mp he with z|z
   ·exact h.ok e z
   ·rw[aV.mp z];exact hp
theorem Gd.adds(l:Ps):∀{D:Ps},Gd D->Gd (adds D l):=by
 induction l with
 | nil=>intro D h;exact h
 | cons e l ih=>intro D h;exact ih (h.put (Fc _ _))
theorem Gd.nil:Gd []:=⟨c9,λ_ h=>nomatch h⟩
theorem uM{D:Ps}:(∃e∈D,e.1=o/\vS D o=e.2)\/(o∉D.map Prod.fst/\vS D o=[]):=by
 unfold vS
 cases h:D.find? λe=>decide (e.1=o)with
 | some e=>
  have h1:=iG h;exact .inl ⟨e,gc h,by simpa using h1,rfl⟩
 | none=>
  refine .inr ⟨λz=>?_,rfl⟩;obtain⟨e,he,ee⟩:=bg.mp z;exact gB.mp h e he (bq ee)
theorem Gd.v{D:Ps}(h:Gd D)(o:List Int):Ok (vS D o):=by
 rcases uM (D:=D) (o:=o)with⟨e,h1,_,h2⟩|⟨_,h2⟩
 ·rw[h2];exact h.ok e h1
 ·rw[h2];exact⟨List.Pairwise.nil,λ_ z=>nomatch z⟩
theorem BS.anti{a:List Int}(h1:BS a b)(h2:BS b a):a=b:=(Sx.u0 h1 h2).symm
theorem QV{D:Ps}(h:Gd D)(h':Gd E)(hv:∀o,vS D o=vS E o):toS D=toS E:=by
 have key:∀(D:Ps),Gd D->∀o,o∈(lH (D.map Prod.fst)).filter (λo=>!(vS D o).isEmpty) ↔ (vS D o)≠[]:=λD h o=>by
  rw[cF,(jU _).mem_iff];constructor
  ·rintro⟨_,h2⟩ z;rw[z]at h2;cases h2
  ·intro z;refine⟨?_,by cases e:vS D o with|nil=>exact absurd e z|cons=>rfl⟩
   rcases uM (D:=D) (o:=o)with⟨e,h1,h2,_⟩|⟨_,h2⟩
   ·exact bg.mpr ⟨e,h1,h2⟩
   ·exact absurd h2 z
 have pw:∀(D:Ps),((lH (D.map Prod.fst)).filter (λo=>!(vS D o).isEmpty)).Pairwise BS:=λD=>(qK _).filter _;have nd:∀(D:Ps),Gd D->((lH (D.map Prod.fst)).filter (λo=>!(vS D o).isEmpty)).Nodup:=λD h=>((jU _).nodup_iff.mpr h.nd).filter _;have e:(lH (D.map Prod.fst)).filter (λo=>!(vS D o).isEmpty)=(lH (E.map Prod.fst)).filter (λo=>!(vS E o).isEmpty):=by
  refine dD (λa b _ _ h1 h2=>BS.anti h1 h2) (pw D) (pw E) ((iV (nd D h) (nd E h')).mpr λo=>?_);rw[key D h,key E h',hv]
 unfold toS;rw[e];apply cE;intro o _;rw[hv]
theorem Fb{D:Ps}(h:Gd D)(h':Gd E)(hc:∀o t,cf (vS D o) t=cf (vS E o) t):toS D=toS E:=QV h h' λo=>uniq (h.v o) (h'.v o) (hc o)
theorem Gs{f:List Int->Pl}{o:List Int}{t:Int}:∀{ks:List (List Int)},ks.Nodup->cS (ks.map λk=>(k,f k)) o t=if o∈ks then cf (f o) t else 0
 | [],_=>by rw[aJ (by simp)];rfl
 | j::ks,h=>by
  obtain⟨h1,h2⟩:=cG.mp h;show(if j=o then cf (f j) t else 0)+cS (ks.map λk=>(k,f k)) o t=_;rw[Gs h2];by_cases c:j=o
  ·subst c;rw[aM rfl,aJ h1,aM (aG ..),cC]
  ·rw[aJ c,bP];by_cases e:o∈ks
   ·rw[aM e,aM (aI _ e)]
   ·rw[aJ e,aJ λz=>(bB.mp z).elim (λz=>c z.symm) e]
theorem w_{D:Ps}(h:Gd D)(o:List Int)(t:Int):cS (toS D) o t=cf (vS D o) t:=by
 unfold toS;rw[Gs (((jU _).nodup_iff.mpr h.nd).filter _)];split
 ·rfl
 ·rename_i c
  rcases uM (D:=D) (o:=o)with⟨e,h1,h2,h3⟩|⟨_,h2⟩
  ·by_cases z:vS D o=[]
   ·rw[z];rfl
   ·refine absurd (cF.mpr ⟨(jU _).mem_iff.mpr (bg.mpr ⟨e,h1,h2⟩),?_⟩) c
    cases e:vS D o with|nil=>exact absurd e z|cons=>rfl
  ·rw[h2];rfl
noncomputable def l8 (o:List Int)(k:Nat):Bool:=decide (o.getD (k-1) 0>o.getD k 0)
noncomputable def Ke (k:Nat)(l:Ps):Ps:=l.flatMap λe=>(Wd.ex e.1 k,e.2)::(if l8 e.1 k=true then[(e.1,times AF e.2)]else[])
noncomputable def bx (k:Nat)(l:Ps):Ps:=toS (adds [] (Ke k l))
noncomputable def Go (N k:Nat)(o:List Int):Prop:=o.length=N/\o.getD (k-1) 0≠o.getD k 0
theorem M_{N k:Nat}{o:List Int}(h:o.length=N)(h1:1<=k)(h2:k<N):Wd.ex (Wd.ex o k) k=o:=Fw.uz h1 (by lia)
theorem IG{k:Nat}{o:List Int}(h1:1<=k)(h2:k<o.length):(Wd.ex o k).getD (k-1) 0=o.getD k 0/\(Wd.ex o k).getD k 0=o.getD (k-1) 0:=by
 constructor
 ·rw[aL,Wd.nP h1 h2,aJ (by lia),aM rfl,aL]
 ·rw[aL,Wd.nP h1 h2,aM rfl,aL]
theorem Go.ex{N k:Nat}(h:Go N k o)(h1:1<=k)(h2:k<N):Go N k (Wd.ex o k)/\l8 (Wd.ex o k) k=!l8 o k:=by
 obtain⟨hl,hn⟩:=h;obtain⟨e1,e2⟩:=IG (o:=o) h1 (by lia);refine⟨⟨by rw[Wd.k_];exact hl,by rw[e1,e2];exact λz=>hn z.symm⟩,?_⟩;unfold l8;rw[e1,e2];by_cases c:o.getD (k-1) 0>o.getD k 0
 ·rw[bq c,bw (by lia)];rfl
 ·rw[bw c,bq (by lia)];rfl
theorem Ja{l:Ps}{t:Int}(h:∀e∈l,e.1≠o):cS l o t=0:=by
 induction l with
 | nil=>rfl
 | cons e l ih=>
  show(if e.1=o then _ else 0)+cS l o t=0;rw[aJ (h e (aG ..)),ih λf hf=>h f (aI _ hf)];rfl
theorem Se{N k:Nat}(h1:1<=k)(h2:k<N):∀{l:Ps},(∀e∈l,Go N k e.1)->∀{o:List Int}(t:Int),Go N k o->cS (Ke k l) o t=cS l (Wd.ex o k) t+(if l8 o k=true then cS l o (t+1)-cS l o (t-1)else 0)
 | [],_,o,t,_=>by show(0:Int)=0+if _ then(0:Int)-0 else 0;split<;>rfl
 | e::l,h,o,t,ho=>by
  have he:=h e (aG ..);have ih:=Se h1 h2 (l:=l) (λf hf=>h f (aI _ hf)) t ho;have hx:(Wd.ex e.1 k=o) ↔ (e.1=Wd.ex o k):=⟨λz=>by rw[<- z,M_ he.1 h1 h2],λz=>by rw[z,M_ ho.1 h1 h2]⟩;show cS (((Wd.ex e.1 k,e.2)::(if l8 e.1 k=true then[(e.1,times AF e.2)]else[]))++Ke k l) o t=_;rw[rW,ih];show(if Wd.ex e.1 k=o then cf e.2 t else 0)+cS (if l8 e.1 k=true then[(e.1,times AF e.2)]else[]) o t+_=((if e.1=Wd.ex o k then cf e.2 t else 0)+cS l (Wd.ex o k) t)+(if l8 o k=true then((if e.1=o then cf e.2 (t+1)else 0)+cS l o (t+1))-((if e.1=o then cf e.2 (t-1)else 0)+cS l o (t-1))else 0);have h3:cS (if l8 e.1 k=true then[(e.1,times AF e.2)]else[]) o t=if l8 o k=true then((if e.1=o then cf e.2 (t+1)else 0)-(if e.1=o then cf e.2 (t-1)else 0))else 0:=by
   by_cases c:e.1=o
   ·rw[c,aM rfl,aM rfl]
    cases l8 o k with
    | false=>rfl
    | true=>
     rw[aM rfl,aM rfl];show(if o=o then cf (times AF e.2) t else 0)+0=_;rw[aM rfl,Yv,cC]
   ·rw[aJ c,aJ c];have:cS (if l8 e.1 k=true then[(e.1,times AF e.2)]else[]) o t=0:=Ja λf hf=>by
     split at hf
     ·rw[aV.mp hf];exact c
     ·cases hf
    rw[this];split<;>rfl
  rw[h3];by_cases c:Wd.ex e.1 k=o
  ·rw[aM c,aM (hx.mp c)];split<;>lia
  ·rw[aJ c,aJ (λz=>c (hx.mpr z))];split<;>lia
theorem qy{P:List Int->Prop}(l:Ps):∀{D:Ps},(∀e∈D,P e.1)->(∀e∈l,P e.1)->∀e∈adds D l,P e.1:=by
 induction l with
 | nil=>intro D h _;exact h
 | cons f l ih=>
  intro D h h';refine ih (λe he=>?_) λe he=>h' e (aI _ he);have he:e∈yH D f.1 (oh (vS D f.1) f.2):=he;unfold yH at he;split at he
  ·obtain⟨g,hg,rfl⟩:=bg.mp he;split
   ·exact h g hg
   ·exact h g hg
  ·rcases bD.mp he with z|z
   ·exact h e z
   ·rw[aV.mp z];exact h' f (aG ..)
theorem sd{P:List Int->Prop}{D:Ps}(h:∀e∈D,P e.1):∀e∈toS D,P e.1:=λe he=>by
 obtain⟨o,ho,rfl⟩:=bg.mp he;obtain⟨f,hf,e⟩:=bg.mp ((jU _).mem_iff.mp (cF.mp ho).1);show P o;rw[<- e];exact h f hf
noncomputable def gX (k:Nat)(e:En)(Q:Ps):Ps:=if l8 e.1 k=true then wY (wY Q (Wd.ex e.1 k) e.2.2) e.1 (times AF e.2.2)else wY Q (Wd.ex e.1 k) e.2.2
theorem HV(k:Nat):∀(es:Es) (P:Ps),es.foldl (λQ e=>gX k e Q) P=adds P (Ke k (sm es))
 | [],P=>rfl
 | e::es,P=>by
  show es.foldl (λQ e=>gX k e Q) (gX k e P)=adds P (((Wd.ex e.1 k,e.2.2)::(if l8 e.1 k=true then[(e.1,times AF e.2.2)]else[]))++Ke k (sm es));rw[HV k es,yY];congr 1;unfold gX
  cases l8 e.1 k<;>rfl
theorem Yi{p:Pl}(h:Ok p)(hb:Bd C p)(t:Int):(cf p t).natAbs<=C:=by
 rw[<- Ph h.nd];exact hb.val t
theorem Ok.F8{l:Pl}(h:Ok l){p:Int×Int}(hp:p∈l):cf l p.1=p.2:=by
 induction l with
 | nil=>cases hp
 | cons q l ih=>
  rcases bB.mp hp with z|z
  ·rw[z];exact h.head
  ·show(if q.1=p.1 then q.2 else 0)+cf l p.1=p.2;have:=(bM.mp h.up).1 p z;rw[aJ (by lia),ih h.tail z,bP]
end Su
namespace He
open PySem L2 Am
open Fw (Two rg yN)
open Bl (oz)
open Su (l8)
noncomputable abbrev Fn:=List Int->Int->Int
noncomputable def dl (g:Int->Int)(t:Int):Int:=g (t+1)-g (t-1)
noncomputable def X (k:Nat)(f:Fn):Fn:=λo t=>f (Wd.ex o k) t+if l8 o k=true then dl (f o) t else 0
theorem m8{n:Nat}{v:List Int}(h:Two n o u)(h':Two n o v):u=v:=by
 have l1:=h.lu;have l2:=h'.lu;have l3:=h.lo;apply cT;intro q;by_cases hq:q<n
 ·obtain⟨p,hp,ep⟩:∃p,∃hp:p<o.length,o[p]=(q:Int)+1:=by
   have:(q:Int)+1∈o:=h.po.mem_iff.mpr (nq.mpr ⟨by lia,by lia⟩);obtain⟨p,hp,ep⟩:=List.getElem_of_mem this;exact⟨p,hp,ep⟩
  have a1:=h.ou.2 p hp;have a2:=h'.ou.2 p hp;rw[ep,show((q:Int)+1-1).toNat=q by lia]at a1 a2;rw[a1,a2]
 ·rw[bS (by lia),bS (by lia)]
noncomputable def bk (o:List Int):List Int:=(List.range o.length).map λi:Nat=>((o.idxOf ((i:Int)+1):Nat):Int)+1
theorem mR{n:Nat}{o:List Int}(h:o.Perm (rg n)):Two n o (bk o):=by
 have lo:o.length=n:=by rw[h.length_eq,Wd.jI]
 have nd:o.Nodup:=h.nodup_iff.mpr (pB _ _);have mem:∀i,i<n->(i:Int)+1∈o:=λi hi=>h.mem_iff.mpr (nq.mpr ⟨by lia,by lia⟩);have ix:∀i,i<n->o.idxOf ((i:Int)+1)<n:=λi hi=>by rw[<- lo];exact fh.mpr (mem i hi)
 have get:∀i (hi:i<n),o[o.idxOf ((i:Int)+1)]'(by rw[lo];exact ix i hi)=(i:Int)+1:=λi hi=>iX _;refine⟨h,?_,?_,λp hp=>?_⟩
 ·have p:=Am.qX (N:=n) (g:=λi=>o.idxOf ((i:Int)+1)) ix λi j hij hj z=>by
   have a:=get i (by lia);have b:=get j hj;simp only[z]at a;rw[b]at a;lia
  have p2:=p.map λi:Nat=>(i:Int)+1;rw[bh]at p2;unfold bk;rw[lo];refine List.Perm.trans p2 ?_;have:(List.range n).map (λi:Nat=>(i:Int)+1)=rg n:=by
   apply cT;intro q;rw[aP];by_cases c:q<n
   ·rw[dS c,Wd.qc c];rfl
   ·rw[bS (by rw[b_];lia),bS (by rw[Wd.jI];lia)];rfl
  rw[this]
 ·unfold bk;rw[aK,b_]
 ·have m:=nq.mp (h.mem_iff.mp (dz hp));have hq:(o[p]-1).toNat<o.length:=by lia
  unfold bk;rw[aP,dS hq];show some (((o.idxOf (((o[p]-1).toNat:Int)+1):Nat):Int)+1)=_;rw[show((o[p]-1).toNat:Int)+1=o[p]by lia,nd.idxOf_getElem]
theorem rS{n:Nat}{o:List Int}(h:o.Perm (rg n)):bk (bk o)=o:=m8 (mR (mR h).pu) (mR h).flip
theorem nX{n:Nat}{o:List Int}(h:o.Perm (rg n)):(bk o).Perm (rg n):=(mR h).pu
theorem Sk{n k:Nat}{o:List Int}(h:o.Perm (rg n))(h0:1<=k)(h1:k<n):bk (o.map (Wd.sw k))=Wd.ex (bk o) k:=by
 have t:=(mR h).step h0 h1;exact m8 (mR t.po) t
theorem Xp{n k:Nat}{o:List Int}(h:o.Perm (rg n))(h0:1<=k)(h1:k<n):bk (Wd.ex o k)=(bk o).map (Wd.sw k):=by
 have t:=((mR h).flip.step h0 h1).flip;exact m8 (mR t.po) t
theorem t9{n k p:Nat}{o u:List Int}(t:Two n o u)(h1:1<=k)(h2:k<=n)(hp:o.getD p 0=(k:Int))(hpn:p<n):u.getD (k-1) 0=(p:Int)+1:=by
 have lo:=t.lo;have lp:p<o.length:=by lia
 have:=t.ou.2 p lp;rw[Wd.l9 lp]at hp;rw[hp,show((k:Int)-1).toNat=k-1 by lia]at this;rw[aL,this];rfl
theorem nb{n k:Nat}{o:List Int}(h:o.Perm (rg n))(h0:1<=k)(h1:k<n):o.getD (k-1) 0≠o.getD k 0:=λz=>by
 have lo:o.length=n:=by rw[h.length_eq,Wd.jI]
 have nd:o.Nodup:=h.nodup_iff.mpr (pB _ _);rw[Wd.l9 (by lia),Wd.l9 (by lia)]at z;have:=(dc nd).mp z;lia
noncomputable def Pr (o:List Int)(k j:Nat):Prop:=(o.getD (k-1) 0=j/\o.getD k 0=(j:Int)+1)\/(o.getD (k-1) 0=(j:Int)+1/\o.getD k 0=j)
theorem NV{n k:Nat}{u:List Int}(h:u.Perm (rg n))(h0:1<=j)(h1:j<n):(Pr u j k->l8 (u.map (Wd.sw k)) j=!l8 u j)/\(¬Pr u j k->l8 (u.map (Wd.sw k)) j=l8 u j):=by
 have lu:u.length=n:=by rw[h.length_eq,Wd.jI]
 have ne:=nb h h0 h1;have e1:(u.map (Wd.sw k)).getD (j-1) 0=Wd.sw k (u.getD (j-1) 0):=by
  rw[Wd.l9 (by rw[aK];lia),Wd.l9 (by lia),cX]
 have e2:(u.map (Wd.sw k)).getD j 0=Wd.sw k (u.getD j 0):=by
  rw[Wd.l9 (by rw[aK];lia),Wd.l9 (by lia),cX]
 unfold l8 Pr;rw[e1,e2];generalize u.getD (j-1) 0=a at *
 generalize u.getD j 0=b at *
 constructor
 ·rintro(⟨z1,z2⟩|⟨z1,z2⟩)
  ·subst z1;subst z2;unfold Wd.sw;rw[aM rfl,aJ (by lia),aM rfl,bq (by lia),bw (by lia)];rfl
  ·subst z1;subst z2;unfold Wd.sw;rw[aJ (by lia),aM rfl,aM rfl,bw (by lia),bq (by lia)];rfl
 ·intro z;rw[je];unfold Wd.sw;split<;>split<;>(try split)<;>(try split)<;>lia
theorem yf{n k:Nat}(t:Two n o u)(h0:1<=k)(h1:k<n)(h2:1<=j)(h3:j<n)(h:Pr o k j):Pr u j k:=by
 rcases h with⟨z1,z2⟩|⟨z1,z2⟩
 ·have a:=t9 t h2 (by lia) z1 (by lia);have b:=t9 t (k:=j+1) (by lia) (by lia) (by rw[z2];lia) h1;rw[Nat.add_sub_cancel]at b;exact .inl ⟨by rw[a];lia,by rw[b]⟩
 ·have a:=t9 t (k:=j+1) (by lia) (by lia) (by rw[z1];lia) (show k-1<n by lia);have b:=t9 t h2 (by lia) z2 h1;rw[Nat.add_sub_cancel]at a;exact .inr ⟨by rw[b],by rw[a];lia⟩
theorem WC{n k:Nat}(t:Two n o u)(h0:1<=k)(h1:k<n)(h2:1<=j)(h3:j<n)(h:Pr o k j):l8 u j=l8 o k:=by
 have a:∀x y:List Int,∀i m:Nat,x.getD (i-1) 0=(m:Int)->x.getD i 0=(m:Int)+1->l8 x i=false:=λx y i m p q=>by
  unfold l8;rw[p,q];exact bw (by lia)
 have b:∀x y:List Int,∀i m:Nat,x.getD (i-1) 0=(m:Int)+1->x.getD i 0=(m:Int)->l8 x i=true:=λx y i m p q=>by
  unfold l8;rw[p,q];exact bq (by lia)
 rcases h with⟨z1,z2⟩|⟨z1,z2⟩
 ·rw[a o [] k j z1 z2]
  rcases yf t h0 h1 h2 h3 (.inl ⟨z1,z2⟩)with⟨y1,y2⟩|⟨y1,y2⟩
  ·exact a u [] j k y1 y2
  ·have:=t9 t h2 (by lia) z1 (by lia);lia
 ·rw[b o [] k j z1 z2]
  rcases yf t h0 h1 h2 h3 (.inr ⟨z1,z2⟩)with⟨y1,y2⟩|⟨y1,y2⟩
  ·have:=t9 t h2 (by lia) z2 h1;lia
  ·exact b u [] j k y1 y2
noncomputable def L (j:Nat)(f:Fn):Fn:=λo t=>f (o.map (Wd.sw j)) t+if l8 (bk o) j=true then dl (f o) t else 0
theorem QL{n k:Nat}{o:List Int}(h:o.Perm (rg n))(h0:1<=k)(h1:k<n)(hp:Pr o k j):o.map (Wd.sw j)=Wd.ex o k:=by
 have lo:o.length=n:=by rw[h.length_eq,Wd.jI]
 have nd:o.Nodup:=h.nodup_iff.mpr (pB _ _);apply cT;intro p;rw[Wd.nP h0 (by lia),aP];unfold Pr at hp;rw[Wd.l9 (by lia),Wd.l9 (by lia)]at hp;by_cases c1:p=k
 ·subst c1;rw[aM rfl,aF (by lia),aF (by lia),dP];congr 1;unfold Wd.sw
  rcases hp with⟨z1,z2⟩|⟨z1,z2⟩
  ·rw[z1,z2,aJ (by lia),aM rfl]
  ·rw[z1,z2,aM rfl]
 ·rw[aJ c1];by_cases c2:p=k-1
  ·subst c2;rw[aM rfl,aF (by lia),aF (by lia),dP];congr 1;unfold Wd.sw
   rcases hp with⟨z1,z2⟩|⟨z1,z2⟩
   ·rw[z1,z2,aM rfl]
   ·rw[z1,z2,aJ (by lia),aM rfl]
  ·rw[aJ c2];by_cases c3:p<o.length
   ·rw[aF c3,dP];congr 1;have n1:o[p]≠o[k]:=λz=>c1 ((dc nd).mp z);have n2:o[p]≠o[k-1]:=λz=>c2 ((dc nd).mp z);unfold Wd.sw
    rcases hp with⟨z1,z2⟩|⟨z1,z2⟩
    ·rw[aJ (by rw[<- z1];exact n2),aJ (by rw[<- z2];exact n1)]
    ·rw[aJ (by rw[<- z2];exact n1),aJ (by rw[<- z1];exact n2)]
   ·rw[bS (by lia)];rfl
theorem T6(j:Nat)(o:List Int):(o.map (Wd.sw j)).map (Wd.sw j)=o:=by
 rw[bh];have:(Wd.sw j ∘ Wd.sw j)=id:=funext λx=>by
  show Wd.sw j (Wd.sw j x)=x;unfold Wd.sw;split<;>(try split)<;>(try split)<;>lia
 rw[this,jo]
theorem comm{n k:Nat}(f:Fn){o:List Int}(h:o.Perm (rg n))(h0:1<=k)(h1:k<n)(h2:1<=j)(h3:j<n)(t:Int):X k (L j f) o t=L j (X k f) o t:=by
 have lo:o.length=n:=by rw[h.length_eq,Wd.jI]
 have tw:=mR h;have e1:(Wd.ex o k).map (Wd.sw j)=Wd.ex (o.map (Wd.sw j)) k:=(Wd.ex_map _ h0 (by lia)).symm;have e2:=Xp h h0 h1;have f1:=NV (k:=j) h h0 h1;have f2:=NV (k:=k) tw.pu h2 h3;unfold X L dl;dsimp only;rw[e1,e2];by_cases c:Pr o k j
 ·have c':=yf tw h0 h1 h2 h3 c;have e3:=QL h h0 h1 c;rw[f1.1 c,f2.1 c',WC tw h0 h1 h2 h3 c,<- e3]
 ·have c':¬Pr (bk o) j k:=λz=>c (yf tw.flip h2 h3 h0 h1 z);rw[f1.2 c,f2.2 c']
  cases l8 o k<;>cases l8 (bk o) j
  ·simp only[bu,bW]
  ·simp only[bu,cV,bW];lia
  ·simp only[bu,cV,bW];lia
  ·simp only[cV];lia
noncomputable def j8 (n:Nat)(f g:Fn):Prop:=∀o:List Int,o.Perm (rg n)->∀t,f o t=g o t
theorem j8.refl{n:Nat}{f:Fn}:j8 n f f:=λ_ _ _=>rfl
theorem j8.symm{n:Nat}{f g:Fn}(h:j8 n f g):j8 n g f:=λo p t=>(h o p t).symm
theorem j8.trans{n:Nat}{f g e:Fn}(h:j8 n f g)(h':j8 n g e):j8 n f e:=λo p t=>(h o p t).trans (h' o p t)
theorem mY{n k:Nat}{o:List Int}(h:o.Perm (rg n))(h0:1<=k)(h1:k<n):(Wd.ex o k).Perm (rg n):=(Wd.BO h0 (by rw[h.length_eq,Wd.jI];exact h1)).trans h
theorem SS{n k:Nat}{o:List Int}(h:o.Perm (rg n))(h0:1<=k)(h1:k<n):(o.map (Wd.sw k)).Perm (rg n):=((mR h).step h0 h1).po
theorem KO{n k:Nat}{f g:Fn}(h:j8 n f g)(h0:1<=k)(h1:k<n):j8 n (X k f) (X k g):=λo p t=>by
 unfold X dl;rw[h _ (mY p h0 h1),h o p,h o p]
theorem ZJ{n k:Nat}{f g:Fn}(h:j8 n f g)(h0:1<=k)(h1:k<n):j8 n (L k f) (L k g):=λo p t=>by
 unfold L dl;rw[h _ (SS p h0 h1),h o p,h o p]
noncomputable def Va (n:Nat)(w:List Nat):Prop:=∀k∈w,1<=k/\k<n
noncomputable def Xw (w:List Nat)(f:Fn):Fn:=w.foldl (λf k=>X k f) f
noncomputable def Lw (w:List Nat)(f:Fn):Fn:=w.foldl (λf k=>L k f) f
theorem qJ{n:Nat}:∀{w:List Nat}{f g:Fn},Va n w->j8 n f g->j8 n (Xw w f) (Xw w g)
 | [],_,_,_,h=>h
 | k::w,_,_,v,h=>qJ (w:=w) (λj hj=>v j (aI _ hj)) (KO h (v k (aG ..)).1 (v k (aG ..)).2)
theorem zU{n:Nat}:∀{w:List Nat}{f g:Fn},Va n w->j8 n f g->j8 n (Lw w f) (Lw w g)
 | [],_,_,_,h=>h
 | k::w,_,_,v,h=>zU (w:=w) (λj hj=>v j (aI _ hj)) (ZJ h (v k (aG ..)).1 (v k (aG ..)).2)
theorem YC{n:Nat}(h2:1<=j)(h3:j<n):∀{w:List Nat}{f:Fn},Va n w->j8 n (Xw w (L j f)) (L j (Xw w f))
 | [],_,_=>.refl
 | k::w,f,v=>by
  have v1:=v k (aG ..);have v2:Va n w:=λj hj=>v j (aI _ hj);show j8 n (Xw w (X k (L j f))) (L j (Xw w (X k f)));exact(qJ v2 (λo p t=>comm f p v1.1 v1.2 h2 h3 t)).trans (YC h2 h3 v2)
theorem OS{n:Nat}{w:List Nat}(v:Va n w):∀{u:List Nat}{f:Fn},Va n u->j8 n (Xw w (Lw u f)) (Lw u (Xw w f))
 | [],_,_=>.refl
 | j::u,f,vu=>by
  have v1:=vu j (aG ..);have v2:Va n u:=λi hi=>vu i (aI _ hi);show j8 n (Xw w (Lw u (L j f))) (Lw u (L j (Xw w f)));exact(OS v v2).trans (zU v2 (YC v1.1 v1.2 v))
noncomputable def D (u:List Int)(g:Int->Int):Fn:=λo t=>if o=u then g t else 0
theorem X_D{n k:Nat}{u:List Int}(g:Int->Int)(hu:u.Perm (rg n))(h0:1<=k)(h1:k<n):j8 n (X k (D u g)) λo t=>D (Wd.ex u k) g o t+if l8 u k=true then D u (dl g) o t else 0:=λo p t=>by
 have lo:o.length=n:=by rw[p.length_eq,Wd.jI]
 have lu:u.length=n:=by rw[hu.length_eq,Wd.jI]
 have iff:Wd.ex o k=u ↔ o=Wd.ex u k:=⟨λz=>by rw[<- z,Fw.uz h0 (by lia)],λz=>by rw[z,Fw.uz h0 (by lia)]⟩;unfold X D dl;dsimp only;by_cases c:o=u
 ·subst c;rw[aM rfl,aM rfl,aM rfl];congr 1;by_cases c2:Wd.ex o k=o
  ·rw[aM c2,aM c2.symm]
  ·rw[aJ c2,aJ (λz=>c2 z.symm)]
 ·rw[aJ c,aJ c,aJ c];congr 1
  ·by_cases c2:Wd.ex o k=u
   ·rw[aM c2,aM (iff.mp c2)]
   ·rw[aJ c2,aJ (λz=>c2 (iff.mpr z))]
  ·split<;>split<;>rfl
theorem L_D{n k:Nat}{u:List Int}(g:Int->Int)(hu:u.Perm (rg n))(h0:1<=k)(h1:k<n):j8 n (L k (D u g)) λo t=>D (u.map (Wd.sw k)) g o t+if l8 (bk u) k=true then D u (dl g) o t else 0:=λo p t=>by
 have iff:o.map (Wd.sw k)=u ↔ o=u.map (Wd.sw k):=⟨λz=>by rw[<- z,T6],λz=>by rw[z,T6]⟩;unfold L D dl;dsimp only;by_cases c:o=u
 ·subst c;rw[aM rfl,aM rfl,aM rfl];congr 1;by_cases c2:o.map (Wd.sw k)=o
  ·rw[aM c2,aM c2.symm]
  ·rw[aJ c2,aJ (λz=>c2 z.symm)]
 ·rw[aJ c,aJ c,aJ c];congr 1
  ·by_cases c2:o.map (Wd.sw k)=u
   ·rw[aM c2,aM (iff.mp c2)]
   ·rw[aJ c2,aJ (λz=>c2 (iff.mpr z))]
  ·split<;>split<;>rfl
theorem ES{l:List Int}{k:Nat}(h:l.getD (k-1) 0<l.getD k 0):l8 l k=false:=bw (by lia)
theorem Oa{n:Nat}{g:Int->Int}:∀{w:List Nat}{u:List Int},u.Perm (rg n)->Wd.jK u w->j8 n (Xw w (D u g)) (D (Wd.led u w) g)
 | [],_,_,_=>.refl
 | k::w,u,hu,h=>by
  obtain⟨h1,h2,h3,h4⟩:=h;have lu:u.length=n:=by rw[hu.length_eq,Wd.jI]
  have pu:=mY hu h1 (by lia);have e:j8 n (X k (D u g)) (D (Wd.ex u k) g):=(X_D g hu h1 (by lia)).trans λo p t=>by
   dsimp only;rw[ES h3,aJ (by simp),cC]
  have v:Va n w:=λj hj=>by
   have:=Wd.jK.valid h4 j hj;rw[Wd.k_,lu]at this;exact this
  show j8 n (Xw w (X k (D u g))) (D (Wd.led (Wd.ex u k) w) g);exact(qJ v e).trans (Oa pu h4)
theorem VZ{n:Nat}{g:Int->Int}:∀{w:List Nat}{u:List Int},u.Perm (rg n)->Wd.jK (bk u) w->∃v:List Int,v.Perm (rg n)/\bk v=Wd.led (bk u) w/\j8 n (Lw w (D u g)) (D v g)
 | [],u,hu,_=>⟨u,hu,rfl,.refl⟩
 | k::w,u,hu,h=>by
  obtain⟨h1,h2,h3,h4⟩:=h;have lb:(bk u).length=n:=by rw[(nX hu).length_eq,Wd.jI]
  have pu:=SS hu h1 (by lia);have eb:bk (u.map (Wd.sw k))=Wd.ex (bk u) k:=Sk hu h1 (by lia);have e:j8 n (L k (D u g)) (D (u.map (Wd.sw k)) g):=(L_D g hu h1 (by lia)).trans λo p t=>by
   dsimp only;rw[ES h3,aJ (by simp),cC]
  have v:Va n w:=λj hj=>by
   have:=Wd.jK.valid h4 j hj;rw[Wd.k_,lb]at this;exact this
  rw[<- eb]at h4;obtain⟨x,x1,x2,x3⟩:=VZ (g:=g) pu h4;refine⟨x,x1,?_,(zU v e).trans x3⟩;rw[x2,eb];rfl
theorem mC(n:Nat):(rg n).Perm (rg n):=.refl _
theorem tP{n:Nat}:∀(m:Nat) {u:List Int},u.Perm (rg n)->Iv.inv u=m->∃w,Wd.jK (rg n) w/\Wd.led (rg n) w=u
 | 0,u,hu,hm=>by
  refine⟨[],trivial,(Fw.Jx hu λk hk=>?_).symm⟩;have:=Fw.nI hk.1 hk.2.1 hk.2.2;lia
 | m+1,u,hu,hm=>by
  obtain⟨k,hk⟩:=Fw.IV (l:=u) (by lia);have lu:u.length=n:=by rw[hu.length_eq,Wd.jI]
  have hd:=Fw.nI hk.1 hk.2.1 hk.2.2;obtain⟨w,h1,h2⟩:=tP m (mY hu hk.1 (by rw[<- lu];exact hk.2.1)) (by lia);obtain⟨e1,e2⟩:=Su.IG (o:=u) hk.1 hk.2.1;refine⟨w++[k],Wd.jK.snoc h1 hk.1 (by rw[Wd.jI,<- lu];exact hk.2.1) (by rw[h2,e1,e2];exact hk.2.2),?_⟩;rw[Wd.rG,h2];exact Fw.uz hk.1 hk.2.1
theorem Ht(n:Nat):bk (rg n)=rg n:=by
 refine m8 (mR (mC n)) ⟨mC n,mC n,rfl,λp hp=>?_⟩;have hp':p<n:=by rw[Wd.jI]at hp;exact hp
 have e:=Wd.qc hp';rw[aF hp]at e;have e:=aZ e;rw[show((rg n)[p]-1).toNat=p by rw[e];lia];exact Wd.qc hp'
theorem Qt{n:Nat}{u:List Int}(hu:u.Perm (rg n)):∃v,Va n v/\∀g,j8 n (Lw v (D (rg n) g)) (D u g):=by
 obtain⟨w,h1,h2⟩:=tP _ (nX hu) rfl;have v:Va n w:=λk hk=>by have:=Wd.jK.valid h1 k hk;rwa [Wd.jI]at this
 refine⟨w,v,λg=>?_⟩;have h1':Wd.jK (bk (rg n)) w:=by rw[Ht];exact h1
 obtain⟨x,x1,x2,x3⟩:=VZ (g:=g) (mC n) h1';rw[Ht,h2]at x2;have:x=u:=by rw[<- rS x1,x2,rS hu]
 rw[<- this];exact x3
theorem VC{n:Nat}{w:List Nat}(h:Wd.jK (rg n) w)(h':Wd.jK (rg n) w')(e:Wd.led (rg n) w=Wd.led (rg n) w'){u:List Int}(hu:u.Perm (rg n))(g:Int->Int):j8 n (Xw w (D u g)) (Xw w' (D u g)):=by
 obtain⟨v,v1,v2⟩:=Qt hu;have a:∀{w:List Nat},Wd.jK (rg n) w->j8 n (Xw w (D u g)) (Lw v (D (Wd.led (rg n) w) g)):=λ{w} h=>by
  have vw:Va n w:=λk hk=>by have:=Wd.jK.valid h k hk;rwa [Wd.jI]at this
  exact(qJ vw (v2 g).symm).trans ((OS vw v1).trans (zU v1 (Oa (mC n) h)))
 refine(a h).trans ?_;rw[e];exact(a h').symm
noncomputable def add (f g:Fn):Fn:=λo t=>f o t+g o t
theorem O6(k:Nat)(f g:Fn):X k (add f g)=add (X k f) (X k g):=by
 funext o t
 unfold X add dl;dsimp only;split<;>lia
theorem CK:∀(w:List Nat) (f g:Fn),Xw w (add f g)=add (Xw w f) (Xw w g)
 | [],_,_=>rfl
 | k::w,f,g=>by
  show Xw w (X k (add f g))=_;rw[O6,CK w];rfl
theorem FJ(k:Nat):X k (λ_ _=>0)=λ_ _=>0:=by
 funext o t
 unfold X dl;split<;>rfl
theorem yq:∀w:List Nat,Xw w (λ_ _=>0)=λ_ _=>0
 | []=>rfl
 | k::w=>by
  show Xw w (X k _)=_;rw[FJ,yq w]
theorem qT(e:List Int×Po.Pl)(l:Su.Ps):Su.cS (e::l)=add (D e.1 (Po.cf e.2)) (Su.cS l):=by
 funext o t
 show(if e.1=o then _ else _)+_=(if o=e.1 then _ else _)+_;by_cases c:e.1=o
 ·rw[aM c,aM c.symm]
 ·rw[aJ c,aJ (λz=>c z.symm)]
theorem vY{n:Nat}{w:List Nat}(h:Wd.jK (rg n) w)(h':Wd.jK (rg n) w')(e:Wd.led (rg n) w=Wd.led (rg n) w'):∀{l:Su.Ps},(∀x∈l,x.1.Perm (rg n))->j8 n (Xw w (Su.cS l)) (Xw w' (Su.cS l))
 | [],_=>by
  have z:Su.cS []=λ_ _=>0:=rfl;rw[z,yq,yq];exact .refl
 | x::l,hx=>by
  rw[qT,CK,CK];intro o p t;unfold add;rw[VC h h' e (hx x (aG ..)) _ o p t,vY h h' e (λy hy=>hx y (aI _ hy)) o p t]
theorem O8{n k:Nat}{l:Su.Ps}(h:∀x∈l,x.1.Perm (rg n))(h0:1<=k)(h1:k<n):j8 n (Su.cS (Su.bx k l)) (X k (Su.cS l)):=λo p t=>by
 have go:∀{x:List Int},x.Perm (rg n)->Su.Go n k x:=λ{x} hx=>⟨by rw[hx.length_eq,Wd.jI],nb hx h0 h1⟩;unfold Su.bx;rw[Su.w_ (Su.Gd.nil.adds _),Su.C6];show 0+_=_;rw[bP,Su.Se h0 h1 (λe he=>go (h e he)) t (go p)];rfl
end He
namespace He
open PySem L2 Am Po
open Fw (Two rg yN)
open Su (l8 Ps cS)
noncomputable def cv:Pl->(Int->Int)->Int->Int
 | [],_,_=>0
 | q::p,g,t=>q.2 * g (t-q.1)+cv p g t
theorem BX(a b:Pl)(g:Int->Int)(t:Int):cv (a++b) g t=cv a g t+cv b g t:=by
 induction a with
 | nil=>exact(bP _).symm
 | cons q a ih=>
  show _+cv (a++b) g t=_+_+_;rw[ih,e_]
theorem o6(p:Pl)(g h:Int->Int)(t:Int):cv p (λt=>g t+h t) t=cv p g t+cv p h t:=by
 induction p with
 | nil=>rfl
 | cons q p ih=>
  show q.2 * (g (t-q.1)+h (t-q.1))+cv p _ t=(q.2 * g (t-q.1)+cv p g t)+(q.2 * h (t-q.1)+cv p h t);rw[ih,jn];lia
theorem nR(p:Pl)(t:Int):cv p (λ_=>0) t=0:=by
 induction p with
 | nil=>rfl
 | cons q p ih=>
  show q.2 * 0+cv p _ t=0;rw[ih,f_];rfl
theorem N6(p:Pl)(g:Int->Int)(t:Int):cv p (dl g) t=dl (cv p g) t:=by
 induction p with
 | nil=>rfl
 | cons q p ih=>
  show q.2 * (g (t-q.1+1)-g (t-q.1-1))+cv p (dl g) t=(q.2 * g (t+1-q.1)+cv p g (t+1))-(q.2 * g (t-1-q.1)+cv p g (t-1));rw[ih,Int.mul_sub,show t-q.1+1=t+1-q.1 by lia,show t-q.1-1=t-1-q.1 by lia];show _+(cv p g (t+1)-cv p g (t-1))=_;lia
theorem Yc(p q:Pl)(t:Int):cf (times p q) t=cv p (cf q) t:=by
 rw[Su.pG]
 induction p with
 | nil=>rfl
 | cons a p ih=>
  show cf ((q.map λb=>(a.1+b.1,a.2 * b.2))++z8 p q) t=_;rw[Su.wQ,Su.GU,ih];rfl
theorem N2(p:Pl)(g:Int->Int)(t a:Int):cv p g t=cf p a * g (t-a)+cv (p.filter λq=>decide (q.1≠a)) g t:=by
 induction p with
 | nil=>show(0:Int)=0 * _+0;rw[zero_mul];rfl
 | cons q p ih=>
  show q.2 * g (t-q.1)+cv p g t=((if q.1=a then q.2 else 0)+cf p a) * g (t-a)+_;rw[cQ,Int.add_mul];by_cases c:q.1=a
  ·rw[aM c,bw (by simpa using c),aJ (by simp),ih,c];lia
  ·rw[aJ c,bq c,aM rfl,ih,zero_mul];show _=0+_+(q.2 * g (t-q.1)+cv _ g t);lia
theorem J9(p:Pl)(a b:Int):cf (p.filter λq=>decide (q.1≠a)) b=if b=a then 0 else cf p b:=by
 induction p with
 | nil=>show(0:Int)=_;split<;>rfl
 | cons q p ih=>
  rw[cQ];show _=if b=a then 0 else(if q.1=b then q.2 else 0)+cf p b
  by_cases c:q.1=a
  ·rw[bw (by simpa using c),aJ (by simp),ih];by_cases e:b=a
   ·rw[aM e,aM e]
   ·rw[aJ e,aJ e,aJ (by lia),bP]
  ·rw[bq c,aM rfl];show(if q.1=b then q.2 else 0)+cf _ b=_;rw[ih];by_cases e:b=a
   ·rw[aM e,aM e,aJ (by lia)];rfl
   ·rw[aJ e,aJ e]
theorem AA:∀(m:Nat) {p:Pl},p.length=m->(∀k,cf p k=0)->∀(g:Int->Int) (t:Int),cv p g t=0:=by
 intro m
 induction m using Nat.strongRecOn with
 | _ m ih=>
  intro p hm h g t
  cases p with
  | nil=>rfl
  | cons q p=>
   rw[N2 _ g t q.1,h,zero_mul,bP];refine ih _ ?_ rfl (λk=>?_) g t
   ·rw[cQ,bw (by simp),aJ (by simp),<- hm];exact Nat.lt_succ_of_le (dw _ _)
   ·rw[J9];split
    ·rfl
    ·exact h k
theorem Ny(p:Pl)(g:Int->Int)(t:Int):cv (p.map λq=>(q.1,-q.2)) g t=- cv p g t:=by
 induction p with
 | nil=>rfl
 | cons q p ih=>
  show -q.2 * g (t-q.1)+cv (p.map _) g t=-(q.2 * g (t-q.1)+cv p g t);rw[ih,neg_mul];lia
theorem Np(p:Pl)(k:Int):cf (p.map λq=>(q.1,-q.2)) k=- cf p k:=by
 induction p with
 | nil=>rfl
 | cons q p ih=>
  show(if q.1=k then -q.2 else 0)+cf (p.map _) k=-((if q.1=k then q.2 else 0)+cf p k);rw[ih];split<;>lia
theorem wH{p q:Pl}(h:∀k,cf p k=cf q k)(g:Int->Int)(t:Int):cv p g t=cv q g t:=by
 have:=AA _ (p:=p++q.map λq=>(q.1,-q.2)) rfl (λk=>by rw[Su.wQ,Np,h];lia) g t;rw[BX,Ny]at this;lia
theorem SY(p q:Pl)(g:Int->Int)(t:Int):cv p (cv q g) t=cv q (cv p g) t:=by
 induction p generalizing t with
 | nil=>exact(nR q t).symm
 | cons a p ih=>
  show a.2 * cv q g (t-a.1)+cv p (cv q g) t=cv q (λt=>a.2 * g (t-a.1)+cv p g t) t;rw[ih,o6];congr 1;clear ih
  induction q with
  | nil=>show a.2 * 0=0;rw[f_]
  | cons b q ih2=>
   show a.2 * (b.2 * g (t-a.1-b.1)+cv q g (t-a.1))=b.2 * (a.2 * g (t-b.1-a.1))+cv q _ t;rw[<- ih2,jn,show t-a.1-b.1=t-b.1-a.1 by lia,<- Int.mul_assoc,<- Int.mul_assoc,Int.mul_comm a.2 b.2]
noncomputable def kD (p:Pl)(f:Fn):Fn:=λo t=>cv p (f o) t
theorem Fx(k:Nat)(p:Pl)(f:Fn):X k (kD p f)=kD p (X k f):=by
 funext o t
 show cv p (f (Wd.ex o k)) t+(if l8 o k=true then dl (cv p (f o)) t else 0)=cv p (λt=>f (Wd.ex o k) t+if l8 o k=true then dl (f o) t else 0) t;rw[o6]
 cases l8 o k with
 | true=>simp only[cV];rw[<- N6]
 | false=>simp only[bu,bW];rw[nR]
theorem Ij(p:Pl):∀(w:List Nat) (f:Fn),Xw w (kD p f)=kD p (Xw w f)
 | [],_=>rfl
 | k::w,f=>by
  show Xw w (X k (kD p f))=_;rw[Fx,Ij p w];rfl
noncomputable def sw (n:Nat)(o:List Int):List Nat:=by
 classical
 exact if h:o.Perm (rg n)then(tP _ h rfl).choose else[]
theorem oN{n:Nat}{o:List Int}(h:o.Perm (rg n)):Wd.jK (rg n) (sw n o)/\Wd.led (rg n) (sw n o)=o:=by
 unfold sw;rw[dif_pos h];exact(tP _ h rfl).choose_spec
theorem sE{n:Nat}{o:List Int}(h:o.Perm (rg n)):Va n (sw n o):=λk hk=>by have:=Wd.jK.valid (oN h).1 k hk;rwa [Wd.jI]at this
noncomputable def RG (G:List Int->Fn):Ps->Fn
 | []=>λ_ _=>0
 | e::m=>add (kD e.2 (G e.1)) (RG G m)
noncomputable def R (n:Nat)(m:Ps)(f:Fn):Fn:=RG (λo=>Xw (sw n o) f) m
theorem OG(G:List Int->Fn)(a b:Ps):RG G (a++b)=add (RG G a) (RG G b):=by
 induction a with
 | nil=>funext o t;exact(bP _).symm
 | cons e a ih=>
  show add _ (RG G (a++b))=_;rw[ih]
  funext o t
  exact(e_ _ _ _).symm
theorem SD(G:List Int->Fn)(o:List Int)(t:Int)(w:List Int):∀m:Ps,RG G m o t=cv ((m.filter λe=>decide (e.1=w)).flatMap λe=>e.2) (G w o) t+RG G (m.filter λe=>decide (e.1≠w)) o t
 | []=>rfl
 | e::m=>by
  show cv e.2 (G e.1 o) t+RG G m o t=_;rw[SD G o t w m,cQ,cQ];by_cases c:e.1=w
  ·rw[bq c,aM rfl,bw (by simpa using c),aJ (by simp),i7,BX,c];lia
  ·rw[bw c,aJ (by simp),bq c,aM rfl];show _=_+(cv e.2 (G e.1 o) t+RG G _ o t);lia
theorem Ck(w:List Int)(t:Int):∀m:Ps,cf ((m.filter λe=>decide (e.1=w)).flatMap λe=>e.2) t=cS m w t
 | []=>rfl
 | e::m=>by
  rw[cQ];show _=(if e.1=w then cf e.2 t else 0)+cS m w t;by_cases c:e.1=w
  ·rw[bq c,aM rfl,aM c,i7,Su.wQ,Ck w t m]
  ·rw[bw c,aJ (by simp),aJ c,Ck w t m,bP]
theorem wV(w o:List Int)(t:Int):∀m:Ps,cS (m.filter λe=>decide (e.1≠w)) o t=if o=w then 0 else cS m o t
 | []=>by show(0:Int)=_;split<;>rfl
 | e::m=>by
  rw[cQ];show _=if o=w then 0 else(if e.1=o then cf e.2 t else 0)+cS m o t
  by_cases c:e.1=w
  ·rw[bw (by simpa using c),aJ (by simp),wV w o t m];by_cases e':o=w
   ·rw[aM e',aM e']
   ·rw[aJ e',aJ e',aJ (λz=>e' (z.symm.trans c)),bP]
  ·rw[bq c,aM rfl];show(if e.1=o then cf e.2 t else 0)+cS _ o t=_;rw[wV w o t m];by_cases e':o=w
   ·rw[aM e',aM e',aJ (λz=>c (z.trans e'))];rfl
   ·rw[aJ e',aJ e']
theorem JG(G:List Int->Fn)(o:List Int)(t:Int):∀(k:Nat) {m:Ps},m.length=k->(∀w s,cS m w s=0)->RG G m o t=0:=by
 intro k
 induction k using Nat.strongRecOn with
 | _ k ih=>
  intro m hk h
  cases m with
  | nil=>rfl
  | cons e m=>
   rw[SD G o t e.1];have z:cv (((e::m).filter λx=>decide (x.1=e.1)).flatMap λe=>e.2) (G e.1 o) t=0:=AA _ rfl (λs=>by rw[Ck];exact h _ _) _ _;rw[z,bP];refine ih _ ?_ rfl λw s=>?_
   ·rw[cQ,bw (by simp),aJ (by simp),<- hk];exact Nat.lt_succ_of_le (dw _ _)
   ·rw[wV];split
    ·rfl
    ·exact h w s
theorem OH(G:List Int->Fn)(h:∀w s,cS m w s=cS m' w s):RG G m=RG G m':=by
 funext o t
 have neg:∀m:Ps,RG G (m.map λe=>(e.1,e.2.map λq=>(q.1,-q.2))) o t=- RG G m o t:=λm=>by
  induction m with
  | nil=>rfl
  | cons e m ih=>
   show cv (e.2.map λq=>(q.1,-q.2)) (G e.1 o) t+RG G (m.map _) o t=-(cv e.2 (G e.1 o) t+RG G m o t);rw[ih,Ny];lia
 have cneg:∀(m:Ps) (w:List Int) (s:Int),cS (m.map λe=>(e.1,e.2.map λq=>(q.1,-q.2))) w s=- cS m w s:=λm w s=>by
  induction m with
  | nil=>rfl
  | cons e m ih=>
   show(if e.1=w then cf (e.2.map λq=>(q.1,-q.2)) s else 0)+cS (m.map _) w s=-((if e.1=w then cf e.2 s else 0)+cS m w s);rw[ih,Np];split<;>lia
 have:=JG G o t _ (m:=m++m'.map λe=>(e.1,e.2.map λq=>(q.1,-q.2))) rfl λw s=>by rw[Su.rW,cneg,h];lia
 rw[OG]at this;have this:RG G m o t+RG G (m'.map λe=>(e.1,e.2.map λq=>(q.1,-q.2))) o t=0:=this;rw[neg]at this;lia
theorem Jf(n:Nat)(a b:Ps)(f:Fn):R n (a++b) f=add (R n a f) (R n b f):=OG _ a b
theorem AN(n:Nat)(h:∀w s,cS m w s=cS m' w s)(f:Fn):R n m f=R n m' f:=OH _ h
theorem Zd{n k:Nat}(h0:1<=k)(h1:k<n)(f:Fn):j8 n (X k (X k f)) λo t=>f o t+dl (X k f o) t:=λo p t=>by
 have lo:o.length=n:=by rw[p.length_eq,Wd.jI]
 have go:Su.Go n k o:=⟨lo,nb p h0 h1⟩;obtain⟨_,hf⟩:=go.ex h0 h1;unfold X dl;dsimp only;rw[Fw.uz h0 (by lia),hf]
 cases l8 o k with
 | true=>simp only[cP,bu,bW,cV];lia
 | false=>simp only[c_,bu,bW,cV];lia
theorem SM{n k:Nat}{w:List Int}{l:Ps}(hw:w.Perm (rg n))(h0:1<=k)(h1:k<n)(hf:l8 w k=false)(hl:∀x∈l,x.1.Perm (rg n)):j8 n (Xw (sw n (Wd.ex w k)) (cS l)) (X k (Xw (sw n w) (cS l))):=by
 obtain⟨a1,a2⟩:=oN hw;obtain⟨b1,b2⟩:=oN (mY hw h0 h1);have ne:=nb hw h0 h1;have hr:(Wd.led (rg n) (sw n w)).getD (k-1) 0<(Wd.led (rg n) (sw n w)).getD k 0:=by
  rw[a2];have:=cW hf;lia
 have c1:Wd.jK (rg n) (sw n w++[k]):=Wd.jK.snoc a1 h0 (by rw[Wd.jI];exact h1) hr;have c2:Wd.led (rg n) (sw n w++[k])=Wd.ex w k:=by rw[Wd.rG,a2];rfl
 have:=vY b1 c1 (b2.trans c2.symm) hl;refine this.trans ?_;unfold Xw;rw[cU];exact .refl
theorem TV{n k:Nat}{w:List Int}{l:Ps}(hw:w.Perm (rg n))(h0:1<=k)(h1:k<n)(hf:l8 w k=true)(hl:∀x∈l,x.1.Perm (rg n)):j8 n (Xw (sw n w) (cS l)) (X k (Xw (sw n (Wd.ex w k)) (cS l))):=by
 have lw:w.length=n:=by rw[hw.length_eq,Wd.jI]
 have go:Su.Go n k w:=⟨lw,nb hw h0 h1⟩;have:=SM (mY hw h0 h1) h0 h1 (by rw[(go.ex h0 h1).2,hf];rfl) hl;rw[Fw.uz h0 (by lia)]at this;exact this
theorem lA{n:Nat}{f g:Fn}(p:Pl)(h:j8 n f g):j8 n (kD p f) (kD p g):=λo po t=>by
 show cv p (f o) t=cv p (g o) t;rw[show f o=g o from funext λt=>h o po t]
theorem WO(p:Pl)(g:Int->Int)(t:Int):cv (times Su.AF p) g t=cv p (dl g) t:=by
 have:cv (times Su.AF p) g t=cv (z8 Su.AF p) g t:=wH (λk=>Su.pG _ _ _) g t;rw[this];show cv ((p.map λq=>((-1:Int)+q.1,(1:Int) * q.2))++((p.map λq=>((1:Int)+q.1,(-1:Int) * q.2))++[])) g t=_;rw[ck,BX]
 induction p with
 | nil=>rfl
 | cons q p ih=>
  show(1 * q.2 * g (t-(-1+q.1))+cv (p.map _) g t)+(-1 * q.2 * g (t-(1+q.1))+cv (p.map _) g t)=q.2 * (g (t-q.1+1)-g (t-q.1-1))+cv p (dl g) t;have ih:=ih (wH (λk=>Su.pG _ _ _) g t);rw[<- ih,Int.mul_sub,one_mul,show t-(-1+q.1)=t-q.1+1 by lia,show t-(1+q.1)=t-q.1-1 by lia,neg_mul,one_mul,neg_mul];lia
theorem R_X{n k:Nat}{l:Ps}(h0:1<=k)(h1:k<n)(hl:∀x∈l,x.1.Perm (rg n)):∀{m:Ps},(∀x∈m,x.1.Perm (rg n))->j8 n (R n (Su.Ke k m) (cS l)) (X k (R n m (cS l)))
 | [],_=>by
  show j8 n (λ_ _=>0) (X k λ_ _=>0);rw[FJ];exact .refl
 | e::m,hm=>by
  have he:=hm e (aG ..);have ih:=R_X h0 h1 hl (m:=m) λx hx=>hm x (aI _ hx);show j8 n (R n (((Wd.ex e.1 k,e.2)::(if l8 e.1 k=true then[(e.1,times Su.AF e.2)]else[]))++Su.Ke k m) (cS l)) (X k (add (kD e.2 (Xw (sw n e.1) (cS l))) (R n m (cS l))));rw[Jf,O6,Fx];intro o p t;show R n ((Wd.ex e.1 k,e.2)::_) (cS l) o t+R n (Su.Ke k m) (cS l) o t=kD e.2 (X k (Xw (sw n e.1) (cS l))) o t+X k (R n m (cS l)) o t;rw[ih o p t];congr 1
  cases hf:l8 e.1 k with
  | false=>
   show kD e.2 (Xw (sw n (Wd.ex e.1 k)) (cS l)) o t+0=_;rw[cC];exact lA e.2 (SM he h0 h1 hf hl) o p t
  | true=>
   show kD e.2 (Xw (sw n (Wd.ex e.1 k)) (cS l)) o t+(cv (times Su.AF e.2) (Xw (sw n e.1) (cS l) o) t+0)=_;rw[cC,WO];have d:=TV he h0 h1 hf hl;have x2:j8 n (X k (Xw (sw n e.1) (cS l))) λo t=>Xw (sw n (Wd.ex e.1 k)) (cS l) o t+dl (Xw (sw n e.1) (cS l) o) t:=((KO d h0 h1).trans (Zd h0 h1 _)).trans λo p t=>by
    dsimp only;rw[show X k (Xw (sw n (Wd.ex e.1 k)) (cS l)) o=Xw (sw n e.1) (cS l) o from funext λt=>(d o p t).symm]
   rw[lA e.2 x2 o p t];show _=cv e.2 (λt=>Xw (sw n (Wd.ex e.1 k)) (cS l) o t+dl (Xw (sw n e.1) (cS l) o) t) t;rw[o6];rfl
theorem WM{n k:Nat}{l m:Ps}(h0:1<=k)(h1:k<n)(hl:∀x∈l,x.1.Perm (rg n))(hm:∀x∈m,x.1.Perm (rg n)):j8 n (R n (Su.bx k m) (cS l)) (X k (R n m (cS l))):=by
 have:R n (Su.bx k m) (cS l)=R n (Su.Ke k m) (cS l):=AN n (λw s=>by
  unfold Su.bx;rw[Su.w_ (Su.Gd.nil.adds _),Su.C6];show 0+_=_;rw[bP]) _
 rw[this];exact R_X h0 h1 hl hm
theorem uy{n k:Nat}{m:Ps}(h0:1<=k)(h1:k<n)(hm:∀x∈m,x.1.Perm (rg n)):∀x∈Su.bx k m,x.1.Perm (rg n):=Su.sd (P:=λo=>o.Perm (rg n)) (Su.qy (P:=λo=>o.Perm (rg n)) _ (λ_ z=>nomatch z) λx hx=>by
 obtain⟨f,hf,hx⟩:=d9.mp hx
 rcases bB.mp hx with z|z
 ·rw[z];exact mY (hm f hf) h0 h1
 ·split at z
  ·rw[aV.mp z];exact hm f hf
  ·cases z)
noncomputable def Kv (w:List Nat)(m:Ps):Ps:=w.foldl (λm k=>Su.bx k m) m
theorem GG{n:Nat}:∀{w:List Nat}{m:Ps},Va n w->(∀x∈m,x.1.Perm (rg n))->∀x∈Kv w m,x.1.Perm (rg n)
 | [],_,_,h=>h
 | k::w,m,v,h=>GG (w:=w) (λj hj=>v j (aI _ hj)) (uy (v k (aG ..)).1 (v k (aG ..)).2 h)
theorem SX{n:Nat}{l:Ps}(hl:∀x∈l,x.1.Perm (rg n)):∀{w:List Nat}{m:Ps},Va n w->(∀x∈m,x.1.Perm (rg n))->j8 n (R n (Kv w m) (cS l)) (Xw w (R n m (cS l)))
 | [],_,_,_=>.refl
 | k::w,m,v,h=>by
  have v1:=v k (aG ..);have v2:Va n w:=λj hj=>v j (aI _ hj);show j8 n (R n (Kv w (Su.bx k m)) (cS l)) (Xw w (X k (R n m (cS l))));exact(SX hl v2 (uy v1.1 v1.2 h)).trans (qJ v2 (WM v1.1 v1.2 hl h))
theorem MX{n:Nat}:∀{w:List Nat}{m:Ps},Va n w->(∀x∈m,x.1.Perm (rg n))->j8 n (cS (Kv w m)) (Xw w (cS m))
 | [],_,_,_=>.refl
 | k::w,m,v,h=>by
  have v1:=v k (aG ..);have v2:Va n w:=λj hj=>v j (aI _ hj);show j8 n (cS (Kv w (Su.bx k m))) (Xw w (X k (cS m)));exact(MX v2 (uy v1.1 v1.2 h)).trans (qJ v2 (O8 h v1.1 v1.2))
theorem El(p q:Pl)(g:Int->Int)(t:Int):cv (times p q) g t=cv p (cv q g) t:=by
 have:cv (times p q) g t=cv (z8 p q) g t:=wH (λk=>Su.pG _ _ _) g t;rw[this];clear this
 induction p with
 | nil=>rfl
 | cons a p ih=>
  show cv ((q.map λb=>(a.1+b.1,a.2 * b.2))++z8 p q) g t=a.2 * cv q g (t-a.1)+cv p (cv q g) t;rw[BX,ih];congr 1;clear ih
  induction q with
  | nil=>show(0:Int)=a.2 * 0;rw[f_]
  | cons b q ih2=>
   show a.2 * b.2 * g (t-(a.1+b.1))+cv (q.map _) g t=a.2 * (b.2 * g (t-a.1-b.1)+cv q g (t-a.1));rw[ih2,jn,Int.mul_assoc,show t-(a.1+b.1)=t-a.1-b.1 by lia]
noncomputable def xK (p:Pl)(l:Ps):Ps:=l.map λx=>(x.1,times p x.2)
theorem vU(p:Pl)(l:Ps):cS (xK p l)=kD p (cS l):=by
 funext o t
 induction l with
 | nil=>exact(nR p t).symm
 | cons e l ih=>
  show(if e.1=o then cf (times p e.2) t else 0)+cS (xK p l) o t=cv p (λt=>(if e.1=o then cf e.2 t else 0)+cS l o t) t;rw[o6,ih];congr 1;by_cases c:e.1=o
  ·rw[aM c,Yc,show(λt=>if e.1=o then cf e.2 t else 0)=cf e.2 from funext λt=>aM c]
  ·rw[aJ c,show(λt=>if e.1=o then cf e.2 t else(0:Int))=λ_=>0 from funext λt=>aJ c,nR]
theorem Mr(n:Nat)(p:Pl)(l:Ps)(f:Fn):R n (xK p l) f=kD p (R n l f):=by
 funext o t
 induction l with
 | nil=>exact(nR p t).symm
 | cons e l ih=>
  show cv (times p e.2) (Xw (sw n e.1) f o) t+R n (xK p l) f o t=cv p (λt=>cv e.2 (Xw (sw n e.1) f o) t+R n l f o t) t;rw[o6,ih,El];rfl
noncomputable def Wg (n:Nat)(m h:Ps):Ps:=h.flatMap λe=>xK e.2 (Kv (sw n e.1) m)
theorem UP{n:Nat}{m h:Ps}(hm:∀x∈m,x.1.Perm (rg n))(hh:∀x∈h,x.1.Perm (rg n)):∀x∈Wg n m h,x.1.Perm (rg n):=λx hx=>by
 obtain⟨e,he,hx⟩:=d9.mp hx;obtain⟨y,hy,rfl⟩:=bg.mp hx;exact GG (sE (hh e he)) hm y hy
theorem Nf{n:Nat}{m:Ps}(hm:∀x∈m,x.1.Perm (rg n)):∀{h:Ps},(∀x∈h,x.1.Perm (rg n))->j8 n (cS (Wg n m h)) (R n h (cS m))
 | [],_=>.refl
 | e::h,hh=>λo p t=>by
  show cS (xK e.2 (Kv (sw n e.1) m)++Wg n m h) o t=cv e.2 (Xw (sw n e.1) (cS m) o) t+R n h (cS m) o t;rw[Su.rW,vU,Nf hm (λx hx=>hh x (aI _ hx)) o p t];congr 1;exact lA e.2 (MX (sE (hh e (aG ..))) hm) o p t
theorem Ss{n:Nat}{l m:Ps}(hl:∀x∈l,x.1.Perm (rg n))(hm:∀x∈m,x.1.Perm (rg n)):∀{h:Ps},(∀x∈h,x.1.Perm (rg n))->j8 n (R n (Wg n m h) (cS l)) (R n h (R n m (cS l)))
 | [],_=>.refl
 | e::h,hh=>λo p t=>by
  show R n (xK e.2 (Kv (sw n e.1) m)++Wg n m h) (cS l) o t=cv e.2 (Xw (sw n e.1) (R n m (cS l)) o) t+R n h (R n m (cS l)) o t;rw[Jf];show R n (xK e.2 (Kv (sw n e.1) m)) (cS l) o t+R n (Wg n m h) (cS l) o t=_;rw[Mr,Ss hl hm (λx hx=>hh x (aI _ hx)) o p t];congr 1;exact lA e.2 (SX hl (sE (hh e (aG ..))) hm) o p t
theorem XJ{n:Nat}{f g:Fn}(hf:j8 n f g):∀{m:Ps},(∀x∈m,x.1.Perm (rg n))->j8 n (R n m f) (R n m g)
 | [],_=>.refl
 | e::m,hm=>λo p t=>by
  show cv e.2 (Xw (sw n e.1) f o) t+R n m f o t=cv e.2 (Xw (sw n e.1) g o) t+R n m g o t;rw[XJ hf (λx hx=>hm x (aI _ hx)) o p t];congr 1;exact lA e.2 (qJ (sE (hm e (aG ..))) hf) o p t
theorem off{n:Nat}{m:Ps}(hm:∀x∈m,x.1.Perm (rg n)){o:List Int}(h:¬o.Perm (rg n))(t:Int):cS m o t=0:=Su.Ja λe he z=>h (by rw[<- z];exact hm e he)
theorem BR{n:Nat}{m m':Ps}(hm:∀x∈m,x.1.Perm (rg n))(hm':∀x∈m',x.1.Perm (rg n))(h:j8 n (cS m) (cS m')):∀o t,cS m o t=cS m' o t:=λo t=>by
 by_cases c:o.Perm (rg n)
 ·exact h o c t
 ·rw[off hm c,off hm' c]
theorem assoc{n:Nat}{l m h a b:Ps}(hl:∀x∈l,x.1.Perm (rg n))(hm:∀x∈m,x.1.Perm (rg n))(hh:∀x∈h,x.1.Perm (rg n))(hb:∀x∈b,x.1.Perm (rg n))(ea:j8 n (cS a) (R n m (cS l)))(eb:j8 n (cS b) (R n h (cS m))):j8 n (R n h (cS a)) (R n b (cS l)):=by
 have e1:R n b (cS l)=R n (Wg n m h) (cS l):=AN n (BR hb (UP hm hh) (eb.trans (Nf hm hh).symm)) _;rw[e1];exact(XJ ea hh).trans (Ss hl hm hh).symm
noncomputable def LO (n:Nat)(u:List Int):List Nat:=sw n (bk u)
theorem Xo(k:Nat)(f g:Fn):L k (add f g)=add (L k f) (L k g):=by
 funext o t
 unfold L add dl;dsimp only;split<;>lia
theorem Og:∀(w:List Nat) (f g:Fn),Lw w (add f g)=add (Lw w f) (Lw w g)
 | [],_,_=>rfl
 | k::w,f,g=>by
  show Lw w (L k (add f g))=_;rw[Xo,Og w];rfl
theorem UB(k:Nat)(p:Pl)(f:Fn):L k (kD p f)=kD p (L k f):=by
 funext o t
 show cv p (f (o.map (Wd.sw k))) t+(if l8 (bk o) k=true then dl (cv p (f o)) t else 0)=cv p (λt=>f (o.map (Wd.sw k)) t+if l8 (bk o) k=true then dl (f o) t else 0) t;rw[o6]
 cases l8 (bk o) k with
 | true=>simp only[cV];rw[<- N6]
 | false=>simp only[bu,bW];rw[nR]
theorem Iz(p:Pl):∀(w:List Nat) (f:Fn),Lw w (kD p f)=kD p (Lw w f)
 | [],_=>rfl
 | k::w,f=>by
  show Lw w (L k (kD p f))=_;rw[UB,Iz p w];rfl
noncomputable def B (f:Fn):Fn:=λo=>f (bk o)
theorem B_X{n k:Nat}(h0:1<=k)(h1:k<n)(f:Fn):j8 n (B (X k f)) (L k (B f)):=λo p t=>by
 show f (Wd.ex (bk o) k) t+(if l8 (bk o) k=true then dl (f (bk o)) t else 0)=f (bk (o.map (Wd.sw k))) t+if l8 (bk o) k=true then dl (f (bk o)) t else 0
 rw[Sk p h0 h1]
theorem Xk{n:Nat}:∀{w:List Nat}{f:Fn},Va n w->j8 n (B (Xw w f)) (Lw w (B f))
 | [],_,_=>.refl
 | k::w,f,v=>by
  have v1:=v k (aG ..);have v2:Va n w:=λj hj=>v j (aI _ hj);show j8 n (B (Xw w (X k f))) (Lw w (L k (B f)));exact(Xk v2).trans (zU v2 (B_X v1.1 v1.2 f))
noncomputable def d0:Int->Int:=λt=>if t=0 then 1 else 0
theorem Ls(p:Pl)(t:Int):cv p d0 t=cf p t:=by
 induction p with
 | nil=>rfl
 | cons q p ih=>
  show q.2 * (if t-q.1=0 then 1 else 0)+cv p d0 t=(if q.1=t then q.2 else 0)+cf p t;rw[ih];by_cases c:q.1=t
  ·rw[aM c,aM (by lia),Int.mul_one]
  ·rw[aJ c,aJ (by lia),f_]
theorem Q2(u:List Int)(p:Pl):D u (cf p)=kD p (D u d0):=by
 funext o t
 show(if o=u then cf p t else 0)=cv p (λt=>if o=u then d0 t else 0) t;by_cases c:o=u
 ·rw[aM c,show(λt=>if o=u then d0 t else 0)=d0 from funext λt=>aM c,Ls]
 ·rw[aJ c,show(λt=>if o=u then d0 t else(0:Int))=λ_=>0 from funext λt=>aJ c,nR]
theorem aah{n:Nat}{u:List Int}(hu:u.Perm (rg n))(g:Int->Int):Va n (LO n u)/\j8 n (Lw (LO n u) (D (rg n) g)) (D u g):=by
 unfold LO;have pb:=nX hu;obtain⟨h1,h2⟩:=oN pb;refine⟨sE pb,?_⟩;have h1':Wd.jK (bk (rg n)) (sw n (bk u)):=by rw[Ht];exact h1
 obtain⟨x,x1,x2,x3⟩:=VZ (g:=g) (mC n) h1';rw[Ht,h2]at x2;have:x=u:=by rw[<- rS x1,x2,rS hu]
 rw[this]at x3;exact x3
theorem Qx{n:Nat}{u w:List Int}(hu:u.Perm (rg n))(hw:w.Perm (rg n))(p q:Pl):j8 n (kD p (Lw (LO n u) (D w (cf q)))) (kD q (Xw (sw n w) (D u (cf p)))):=by
 obtain⟨v1,v2⟩:=aah hu d0;have vw:=sE hw;have xw:j8 n (Xw (sw n w) (D (rg n) d0)) (D w d0):=by
  have:=Oa (g:=d0) (mC n) (oN hw).1;rw[(oN hw).2]at this;exact this
 rw[Q2,Q2,Iz,Ij];have a:j8 n (Lw (LO n u) (D w d0)) (Xw (sw n w) (D u d0)):=(zU v1 xw.symm).trans ((OS vw v1).symm.trans (qJ vw v2));refine(lA p (lA q a)).trans λo _ t=>?_;exact SY p q _ t
theorem T5(n:Nat)(f g:Fn):∀m:Ps,R n m (add f g)=add (R n m f) (R n m g)
 | []=>rfl
 | e::m=>by
  funext o t
  show kD e.2 (Xw (sw n e.1) (add f g)) o t+R n m (add f g) o t=(kD e.2 (Xw (sw n e.1) f) o t+R n m f o t)+(kD e.2 (Xw (sw n e.1) g) o t+R n m g o t);rw[T5 n f g m,CK];show cv e.2 (λt=>Xw (sw n e.1) f o t+Xw (sw n e.1) g o t) t+(R n m f o t+R n m g o t)=_;rw[o6];show _=(cv e.2 (Xw (sw n e.1) f o) t+_)+(cv e.2 (Xw (sw n e.1) g o) t+_);lia
theorem Ia:∀w:List Nat,Lw w (λ_ _=>0)=λ_ _=>0
 | []=>rfl
 | k::w=>by
  have:L k (λ_ _=>0)=λ_ _=>0:=by
   funext o t
   unfold L dl;split<;>rfl
  show Lw w (L k _)=_;rw[this,Ia w]
theorem Lo(n:Nat):∀m:Ps,R n m (λ_ _=>0)=λ_ _=>0
 | []=>rfl
 | e::m=>by
  funext o t
  show kD e.2 (Xw (sw n e.1) λ_ _=>0) o t+R n m (λ_ _=>0) o t=0;rw[Lo n m,yq];show cv e.2 (λ_=>0) t+0=0;rw[nR];rfl
theorem G7{n:Nat}{u:List Int}(hu:u.Perm (rg n))(p:Pl):∀{m:Ps},(∀x∈m,x.1.Perm (rg n))->j8 n (kD p (Lw (LO n u) (cS m))) (R n m (D u (cf p)))
 | [],_=>λo _ t=>by
  show cv p (Lw (LO n u) (λ_ _=>0) o) t=0;rw[Ia];exact nR p t
 | e::m,hm=>λo po t=>by
  rw[qT,Og];show cv p (λt=>Lw (LO n u) (D e.1 (cf e.2)) o t+Lw (LO n u) (cS m) o t) t=kD e.2 (Xw (sw n e.1) (D u (cf p))) o t+R n m (D u (cf p)) o t;rw[o6,<- G7 hu p (λx hx=>hm x (aI _ hx)) o po t,<- Qx hu (hm e (aG ..)) p e.2 o po t];rfl
noncomputable def RL (n:Nat):Ps->Fn->Fn
 | [],_=>λ_ _=>0
 | e::l,f=>add (kD e.2 (Lw (LO n e.1) f)) (RL n l f)
theorem X7{n:Nat}{m:Ps}(hm:∀x∈m,x.1.Perm (rg n)):∀{l:Ps},(∀x∈l,x.1.Perm (rg n))->j8 n (RL n l (cS m)) (R n m (cS l))
 | [],_=>by
  have z:cS []=λ_ _=>0:=rfl;rw[z,Lo];exact .refl
 | e::l,hl=>λo p t=>by
  rw[qT,T5];show kD e.2 (Lw (LO n e.1) (cS m)) o t+RL n l (cS m) o t=R n m (D e.1 (cf e.2)) o t+R n m (cS l) o t;rw[X7 hm (λx hx=>hl x (aI _ hx)) o p t,G7 (hl e (aG ..)) e.2 hm o p t]
noncomputable def wb (l:Ps):Ps:=l.map λe=>(bk e.1,e.2)
theorem Dw{n:Nat}{o:List Int}(po:o.Perm (rg n))(t:Int):∀{l:Ps},(∀x∈l,x.1.Perm (rg n))->cS (wb l) o t=cS l (bk o) t
 | [],_=>rfl
 | e::l,hl=>by
  show(if bk e.1=o then cf e.2 t else 0)+cS (wb l) o t=(if e.1=bk o then cf e.2 t else 0)+cS l (bk o) t;rw[Dw po t λx hx=>hl x (aI _ hx)];have he:=hl e (aG ..);congr 1;by_cases c:bk e.1=o
  ·rw[aM c,aM (by rw[<- c,rS he])]
  ·rw[aJ c,aJ (λz=>c (by rw[z,rS po]))]
theorem PZ{n:Nat}{m:Ps}(hm:∀x∈m,x.1.Perm (rg n)){l:Ps}(hl:∀x∈l,x.1.Perm (rg n)):j8 n (B (R n (wb l) (cS (wb m)))) (R n m (cS l)):=by
 have bm:j8 n (B (cS (wb m))) (cS m):=λo p t=>by
  show cS (wb m) (bk o) t=_;rw[Dw (nX p) t hm,rS p]
 have key:∀{l:Ps},(∀x∈l,x.1.Perm (rg n))->j8 n (B (R n (wb l) (cS (wb m)))) (RL n l (cS m)):=by
  intro l
  induction l with
  | nil=>intro _;exact .refl
  | cons e l ih=>
   intro hl o p t;have he:=hl e (aG ..);show cv e.2 (Xw (sw n (bk e.1)) (cS (wb m)) (bk o)) t+R n (wb l) (cS (wb m)) (bk o) t=kD e.2 (Lw (LO n e.1) (cS m)) o t+RL n l (cS m) o t;have i:=ih (λx hx=>hl x (aI _ hx)) o p t;have i':R n (wb l) (cS (wb m)) (bk o) t=RL n l (cS m) o t:=i;rw[i'];congr 1;have v:=sE (nX he);exact lA e.2 ((Xk v).trans (zU v bm)) o p t
 exact(key hl).trans (X7 hm hl)
end He
namespace He
open PySem L2 Am Po
open Fw (Two rg yN)
open Su (l8 Ps cS Gd vS toS adds bx)
theorem MM{D:Ps}(h:Gd D){e:List Int×Pl}(he:e∈D):vS D e.1=e.2:=by
 rcases Su.uM (D:=D) (o:=e.1)with⟨e',h1,h2,h3⟩|⟨h1,_⟩
 ·rw[h3,BD h.nd e' h1 e he h2]
 ·exact absurd (dW he) h1
theorem DK{D:Ps}(h:Gd D):(D.map Prod.fst).map (λk=>(k,vS D k))=D:=by
 rw[bh]
 conv=>rhs;rw[<- jo D]
 exact cE λe he=>by
  show(e.1,vS D e.1)=e;rw[MM h he]
theorem yW{D:Ps}(h:Gd D)(o:List Int)(t:Int):cS D o t=cf (vS D o) t:=by
 conv=>lhs;rw[<- DK h]
 rw[Su.Gs h.nd];split
 ·rfl
 ·rename_i c
  rcases Su.uM (D:=D) (o:=o)with⟨e,h1,h2,_⟩|⟨_,h2⟩
  ·exact absurd (h2 ▸ dW h1) c
  ·rw[h2];rfl
theorem Gk{D:Ps}(h:Gd D):Gd (toS D):=by
 refine⟨?_,λe he=>?_⟩
 ·unfold toS;rw[bh,show(Prod.fst ∘ λo=>(o,vS D o))=id from rfl,jo];exact((jU _).nodup_iff.mpr h.nd).filter _
 ·obtain⟨o,_,rfl⟩:=bg.mp he;exact h.v o
structure Cn (l:Ps):Prop where
 gd:Gd l
 eq:toS l=l
theorem Cn.toS{D:Ps}(h:Gd D):Cn (toS D):=⟨Gk h,Su.Fb (Gk h) h λo t=>by rw[<- yW (Gk h),Su.w_ h]⟩
theorem Cn.uniq{l:Ps}(h:Cn l)(h':Cn m)(e:∀o t,cS l o t=cS m o t):l=m:=by
 rw[<- h.eq,<- h'.eq];exact Su.Fb h.gd h'.gd λo t=>by rw[<- yW h.gd,<- yW h'.gd,e]
theorem Cn.ne{l:Ps}(h:Cn l){e:List Int×Pl}(he:e∈l):e.2≠[]:=by
 rw[<- h.eq]at he;obtain⟨o,ho,rfl⟩:=bg.mp he;have:=(cF.mp ho).2;intro z;have z:vS l o=[]:=z;rw[z]at this
 cases this
theorem DT{P:Ps}(h:Gd P)(hn:∀e∈P,e.2≠[]):lZ P=toS P:=by
 symm
 have all:(lH (P.map Prod.fst)).filter (λo=>!(vS P o).isEmpty)=lH (P.map Prod.fst):=by
  rw[iK];intro o ho;obtain⟨e,he,rfl⟩:=bg.mp ((jU _).mem_iff.mp ho);rw[MM h he]
  cases e':e.2 with
  | nil=>exact absurd e' (hn e he)
  | cons=>rfl
 have ts:toS P=(lH (P.map Prod.fst)).map λo=>(o,vS P o):=by unfold toS;rw[all]
 refine y_ h.nd ?_ ?_
 ·rw[ts];have:=(jU (P.map Prod.fst)).map λo=>(o,vS P o)
  rwa [DK h]at this
 ·rw[ts,bh,show(Prod.fst ∘ λo=>(o,vS P o))=id from rfl,jo];exact qK _
theorem V6(l:Ps):(wb l).map Prod.fst=(l.map Prod.fst).map bk:=by
 unfold wb;rw[bh,bh];rfl
theorem yD{n:Nat}:∀{ks:List (List Int)},(∀o∈ks,o.Perm (rg n))->ks.Nodup->(ks.map bk).Nodup
 | [],_,_=>c9
 | o::ks,hp,nd=>by
  obtain⟨h1,h2⟩:=cG.mp nd;refine cG.mpr ⟨λz=>?_,yD (λo ho=>hp o (aI _ ho)) h2⟩;obtain⟨u,hu,e⟩:=bg.mp z;have:=dg bk e;rw[rS (hp u (aI _ hu)),rS (hp o (aG ..))]at this;exact h1 (this ▸ hu)
theorem JD{n:Nat}{l:Ps}(h:Gd l)(hl:∀x∈l,x.1.Perm (rg n)):Gd (wb l):=by
 refine⟨?_,λe he=>?_⟩
 ·rw[V6];exact yD (λo ho=>by obtain⟨e,he,rfl⟩:=bg.mp ho;exact hl e he) h.nd
 ·obtain⟨x,hx,rfl⟩:=bg.mp he;exact h.ok x hx
theorem Yx{n:Nat}{l:Ps}(hl:∀x∈l,x.1.Perm (rg n)):∀x∈wb l,x.1.Perm (rg n):=λx hx=>by
 obtain⟨y,hy,rfl⟩:=bg.mp hx;exact nX (hl y hy)
noncomputable def Gh (l:Ps):Ps:=lZ (wb l)
theorem Nl{n:Nat}{l:Ps}(h:Cn l)(hl:∀x∈l,x.1.Perm (rg n)):Gh l=toS (wb l):=DT (JD h.gd hl) λe he=>by
 obtain⟨x,hx,z⟩:=bg.mp he;rw[<- z];exact h.ne (e:=x) hx
theorem F6{n:Nat}{l:Ps}(h:Cn l)(hl:∀x∈l,x.1.Perm (rg n)):Cn (Gh l):=by
 rw[Nl h hl];exact .toS (JD h.gd hl)
theorem Bq{n:Nat}{l:Ps}(hl:∀x∈l,x.1.Perm (rg n)):∀x∈Gh l,x.1.Perm (rg n):=λx hx=>Yx hl x ((o7 _).mem_iff.mp hx)
theorem zB{n:Nat}{l:Ps}(h:Cn l)(hl:∀x∈l,x.1.Perm (rg n))(o:List Int)(t:Int):cS (Gh l) o t=cS (wb l) o t:=by
 rw[Nl h hl,Su.w_ (JD h.gd hl),yW (JD h.gd hl)]
noncomputable def ff (o:List Int):Option Nat:=((List.range (o.length-1)).find? λi=>l8 o (i+1)).map (·+1)
theorem B4{o:List Int}{k:Nat}(h:ff o=some k):1<=k/\k<o.length/\l8 o k=true:=by
 obtain⟨i,hi,rfl⟩:=aY.mp h;have h1:=cI.mp (gc hi);have h2:l8 o (i+1)=true:=iG (p:=λi=>l8 o (i+1)) hi;exact⟨by lia,by lia,h2⟩
theorem Qa{o:List Int}(h:ff o=none):∀k,1<=k->k<o.length->l8 o k=false:=λk h1 h2=>by
 have h:=Option.map_eq_none_iff.mp h;have:=gB.mp h (k-1) (cI.mpr (by lia));rw[Nat.sub_add_cancel h1]at this;simpa using this
noncomputable def Sf:Nat->Ps->List Int->Ps
 | 0,l,_=>l
 | m+1,l,o=>match ff o with
  | none=>l
  | some k=>bx k (Sf m l (Wd.ex o k))
theorem Sd(k:Nat)(l:Ps):Cn (bx k l):=.toS (Gd.nil.adds _)
theorem M9{n:Nat}{l:Ps}(hc:Cn l)(hl:∀x∈l,x.1.Perm (rg n)):∀(m:Nat) {o:List Int},o.Perm (rg n)->Iv.inv o=m->Cn (Sf m l o)/\(∀x∈Sf m l o,x.1.Perm (rg n))/\j8 n (cS (Sf m l o)) (Xw (sw n o) (cS l))
 | 0,o,po,hm=>by
  refine⟨hc,hl,?_⟩;have e:o=rg n:=Fw.Jx po λk hk=>by
   have:=Fw.nI hk.1 hk.2.1 hk.2.2;lia
  obtain⟨a1,a2⟩:=oN po;have:=vY a1 (show Wd.jK (rg n) []from trivial) (a2.trans e) hl;exact this.symm
 | m+1,o,po,hm=>by
  have lo:o.length=n:=by rw[po.length_eq,Wd.jI]
  unfold Sf
  cases hf:ff o with
  | none=>
   obtain⟨k,hk⟩:=Fw.IV (l:=o) (by lia);have:=Qa hf k hk.1 hk.2.1;have:=cW this;exact absurd hk.2.2 (by lia)
  | some k=>
   obtain⟨h1,h2,h3⟩:=B4 hf;have hk:=bN h3;have hd:=Fw.nI h1 h2 (by lia);rw[lo]at h2;obtain⟨_,i2,i3⟩:=M9 hc hl m (mY po h1 h2) (by lia);exact⟨Sd _ _,uy h1 h2 i2,(O8 i2 h1 h2).trans ((KO i3 h1 h2).trans (TV po h1 h2 h3 hl).symm)⟩
noncomputable def bo (l:Ps)(o:List Int):Ps:=Sf (Iv.inv o) l o
theorem Jg{n:Nat}{l:Ps}(hc:Cn l)(hl:∀x∈l,x.1.Perm (rg n)){o:List Int}(po:o.Perm (rg n)):Cn (bo l o)/\(∀x∈bo l o,x.1.Perm (rg n))/\j8 n (cS (bo l o)) (Xw (sw n o) (cS l)):=M9 hc hl _ po rfl
theorem E5{l:Ps}(h:ff o=none):bo l o=l:=by
 unfold bo
 cases Iv.inv o with
 | zero=>rfl
 | succ m=>unfold Sf;rw[h]
theorem Qi{l:Ps}{k:Nat}(h:ff o=some k):bo l o=bx k (bo l (Wd.ex o k)):=by
 obtain⟨h1,h2,h3⟩:=B4 h;have hk:=bN h3;have hd:=Fw.nI h1 h2 (by lia);unfold bo;rw[show Iv.inv o=Iv.inv (Wd.ex o k)+1 from by lia]
 conv=>lhs;unfold Sf
 rw[h]
noncomputable def wm (l m:Ps):Ps:=m.flatMap λe=>xK e.2 (bo l e.1)
noncomputable def RH (l m:Ps):Ps:=toS (adds [] (wm l m))
theorem JE{n:Nat}{l m:Ps}(hc:Cn l)(hl:∀x∈l,x.1.Perm (rg n))(hm:∀x∈m,x.1.Perm (rg n)):∀x∈wm l m,x.1.Perm (rg n):=λx hx=>by
 obtain⟨e,he,hx⟩:=d9.mp hx;obtain⟨y,hy,rfl⟩:=bg.mp hx;exact(Jg hc hl (hm e he)).2.1 y hy
theorem FI{n:Nat}{l:Ps}(hc:Cn l)(hl:∀x∈l,x.1.Perm (rg n)):∀{m:Ps},(∀x∈m,x.1.Perm (rg n))->j8 n (cS (wm l m)) (R n m (cS l))
 | [],_=>.refl
 | e::m,hm=>λo p t=>by
  show cS (xK e.2 (bo l e.1)++wm l m) o t=cv e.2 (Xw (sw n e.1) (cS l) o) t+R n m (cS l) o t;rw[Su.rW,vU,FI hc hl (λx hx=>hm x (aI _ hx)) o p t];congr 1;exact lA e.2 (Jg hc hl (hm e (aG ..))).2.2 o p t
theorem tR(l:Ps)(o:List Int)(t:Int):cS (toS (adds [] l)) o t=cS l o t:=by
 rw[Su.w_ (Gd.nil.adds _),Su.C6];exact bP _
theorem Gw{n:Nat}{l m:Ps}(hc:Cn l)(hl:∀x∈l,x.1.Perm (rg n))(hm:∀x∈m,x.1.Perm (rg n)):Cn (RH l m)/\(∀x∈RH l m,x.1.Perm (rg n))/\j8 n (cS (RH l m)) (R n m (cS l)):=
 ⟨.toS (Gd.nil.adds _),Su.sd (P:=λo=>o.Perm (rg n)) (Su.qy (P:=λo=>o.Perm (rg n)) _ (λ_ z=>nomatch z) (JE hc hl hm)),λo p t=>by
  show cS (toS (adds [] (wm l m))) o t=_;rw[tR];exact FI hc hl hm o p t⟩
noncomputable def prod (l m:Ps):Ps:=if m.length<=l.length then RH l m else Gh (RH (Gh m) (Gh l))
theorem lQ{n:Nat}{l m:Ps}(hc:Cn l)(hd:Cn m)(hl:∀x∈l,x.1.Perm (rg n))(hm:∀x∈m,x.1.Perm (rg n)):Cn (prod l m)/\(∀x∈prod l m,x.1.Perm (rg n))/\j8 n (cS (prod l m)) (R n m (cS l)):=by
 unfold prod;by_cases c:m.length<=l.length
 ·rw[aM c];exact Gw hc hl hm
 ·rw[aJ c];obtain⟨h1,h2,h3⟩:=Gw (F6 hd hm) (Bq hm) (Bq hl);refine⟨F6 h1 h2,Bq h2,λo p t=>?_⟩;rw[zB h1 h2,Dw p t h2,h3 _ (nX p) t];rw[AN n (λo t=>zB hc hl o t)];rw[show cS (Gh m)=cS (wb m)from funext λo=>funext λt=>zB hd hm o t];exact PZ hm hl o p t
theorem qP{n:Nat}{a b:Ps}(ha:Cn a)(hb:Cn b)(pa:∀x∈a,x.1.Perm (rg n))(pb:∀x∈b,x.1.Perm (rg n))(h:j8 n (cS a) (cS b)):a=b:=ha.uniq hb (BR pa pb h)
theorem grouped{n:Nat}{l m h:Ps}(hl:Cn l)(hm:Cn m)(hh:Cn h)(pl:∀x∈l,x.1.Perm (rg n))(pm:∀x∈m,x.1.Perm (rg n))(ph:∀x∈h,x.1.Perm (rg n)):prod (prod l m) h=prod l (prod m h):=by
 obtain⟨a1,a2,a3⟩:=lQ hl hm pl pm;obtain⟨b1,b2,b3⟩:=lQ hm hh pm ph;obtain⟨c1,c2,c3⟩:=lQ a1 hh a2 ph;obtain⟨d1,d2,d3⟩:=lQ hl b1 pl b2;exact qP c1 d1 c2 d2 (c3.trans ((assoc pl pm ph b2 a3 b3).trans d3.symm))
noncomputable def xN (l m:Ps):Ps:=toS (adds [] (l++m))
theorem tH{n:Nat}{l m:Ps}(pl:∀x∈l,x.1.Perm (rg n))(pm:∀x∈m,x.1.Perm (rg n)):Cn (xN l m)/\(∀x∈xN l m,x.1.Perm (rg n))/\cS (xN l m)=add (cS l) (cS m):=
 ⟨.toS (Gd.nil.adds _),Su.sd (P:=λo=>o.Perm (rg n)) (Su.qy (P:=λo=>o.Perm (rg n)) _ (λ_ z=>nomatch z) λx hx=>(bD.mp hx).elim (pl x) (pm x)),funext λo=>funext λt=>by
  show cS (toS (adds [] (l++m))) o t=_;rw[tR,Su.rW];rfl⟩
theorem Si{n:Nat}{l m:Ps}(pl:∀x∈l,x.1.Perm (rg n))(pm:∀x∈m,x.1.Perm (rg n))(f:Fn):R n (xN l m) f=add (R n l f) (R n m f):=by
 rw[<- Jf];refine AN n (λo t=>?_) f;rw[(tH pl pm).2.2,Su.rW];rfl
theorem K9{n:Nat}{l m h:Ps}(hl:Cn l)(hm:Cn m)(hh:Cn h)(pl:∀x∈l,x.1.Perm (rg n))(pm:∀x∈m,x.1.Perm (rg n))(ph:∀x∈h,x.1.Perm (rg n)):prod l (xN m h)=xN (prod l m) (prod l h):=by
 obtain⟨s1,s2,s3⟩:=tH pm ph;obtain⟨a1,a2,a3⟩:=lQ hl hm pl pm;obtain⟨b1,b2,b3⟩:=lQ hl hh pl ph;obtain⟨c1,c2,c3⟩:=lQ hl s1 pl s2;obtain⟨d1,d2,d3⟩:=tH a2 b2;refine qP c1 d1 c2 d2 λo p t=>?_;rw[c3 o p t,d3,Si pm ph];show _+_=_+_;rw[a3 o p t,b3 o p t]
noncomputable def one (n:Nat):Ps:=[(rg n,[((0:Int),(1:Int))])]
theorem CI(o:List Int){p:Pl}(hp:Ok p)(h0:p≠[]):Cn [(o,p)]:=by
 have g:Gd [(o,p)]:=⟨cG.mpr ⟨(λz=>nomatch z),c9⟩,λe he=>by rw[aV.mp he];exact hp⟩;exact⟨g,(DT g λe he=>by rw[aV.mp he];exact h0).symm⟩
theorem Bu:Ok [((0:Int),(1:Int))]:=⟨cJ _ _,λp hp=>by rw[aV.mp hp];decide⟩
theorem rD(n:Nat):∀x∈one n,x.1.Perm (rg n):=λx hx=>by rw[aV.mp hx]
theorem BV(g:Int->Int)(t:Int):cv [((0:Int),(1:Int))] g t=g t:=by
 show 1 * g (t-0)+0=_;rw[Int.sub_zero];lia
theorem Tw{n:Nat}{l:Ps}(pl:∀x∈l,x.1.Perm (rg n)):j8 n (R n (one n) (cS l)) (cS l):=λo p t=>by
 show cv [((0:Int),(1:Int))] (Xw (sw n (rg n)) (cS l) o) t+0=_;rw[BV,cC];obtain⟨a1,a2⟩:=oN (mC n);exact vY a1 (show Wd.jK (rg n) []from trivial) a2 pl o p t
theorem Dr{n:Nat}:∀{l:Ps},(∀x∈l,x.1.Perm (rg n))->j8 n (R n l (cS (one n))) (cS l)
 | [],_=>.refl
 | e::l,pl=>λo p t=>by
  have he:=pl e (aG ..);rw[qT];show cv e.2 (Xw (sw n e.1) (cS (one n)) o) t+R n l (cS (one n)) o t=D e.1 (cf e.2) o t+cS l o t;rw[Dr (λx hx=>pl x (aI _ hx)) o p t];congr 1;have z:cS (one n)=add (D (rg n) (cf [((0:Int),(1:Int))])) (λ_ _=>0):=qT _ _;have z:cS (one n)=D (rg n) d0:=by
   rw[z]
   funext u s
   show D (rg n) (cf [((0:Int),(1:Int))]) u s+0=_;rw[cC];unfold D;split
   ·rw[<- Ls,BV]
   ·rfl
  obtain⟨a1,a2⟩:=oN he;rw[z,Q2];have:=Oa (g:=d0) (mC n) a1;rw[a2]at this;exact lA e.2 this o p t
theorem My{n:Nat}{l:Ps}(hl:Cn l)(pl:∀x∈l,x.1.Perm (rg n)):prod l (one n)=l:=by
 obtain⟨a1,a2,a3⟩:=lQ hl (CI _ Bu (by decide)) pl (rD n);exact qP a1 hl a2 pl (a3.trans (Tw pl))
theorem M0{n:Nat}{l:Ps}(hl:Cn l)(pl:∀x∈l,x.1.Perm (rg n)):prod (one n) l=l:=by
 obtain⟨a1,a2,a3⟩:=lQ (CI _ Bu (by decide)) hl (rD n) pl;exact qP a1 hl a2 pl (a3.trans (Dr pl))
end He
namespace He
open PySem L2 Am Po
open Fw (Two rg yN)
open Su (l8 Ps cS Gd vS toS adds bx)
noncomputable def arr:Nat->List Int->List (List Int)
 | 0,_=>[[]]
 | m+1,l=>l.flatMap λx=>(arr m (l.erase x)).map (x::·)
theorem Hr:∀{m:Nat}{l o:List Int},o.Perm l->l.length=m->o∈arr m l
 | 0,l,o,p,h=>by
  have:l=[]:=dM.mp h;subst this;rw[p.eq_nil];exact aV.mpr rfl
 | m+1,l,[],p,h=>by rw[<- p.length_eq]at h;cases h
 | m+1,l,x::o,p,h=>by
  obtain⟨h1,h2⟩:=List.cons_perm_iff_perm_erase.mp p;refine d9.mpr ⟨x,h1,bg.mpr ⟨o,Hr h2 ?_,rfl⟩⟩;rw[List.length_erase_of_mem h1,h];rfl
theorem J2{α:Type}[DecidableEq α]{ks L:List α}(nd:ks.Nodup)(h:∀x∈ks,x∈L):ks.length<=L.length:=by
 have:=ZQ L.length (ks.map λx=>L.idxOf x) ?_ λi hi=>?_
 ·rwa [aK]at this
 ·refine cB.mpr (nd.imp_of_mem λ{a b} ha hb hab z=>hab ?_);have e1:=iX (fh.mpr (h a ha));have e2:=iX (fh.mpr (h b hb));rw[<- e1,<- e2];congr 1
 ·obtain⟨x,hx,rfl⟩:=bg.mp hi;exact fh.mpr (h x hx)
theorem RA:∀n,n<6->(arr n (rg n)).length<=120:=by decide +kernel
theorem many{n:Nat}(hn:n<6){ks:List (List Int)}(nd:ks.Nodup)(h:∀o∈ks,o.Perm (rg n)):ks.length<=120:=
 bH (J2 nd λo ho=>Hr (h o ho) (Wd.jI n)) (RA n hn)
structure FB (n P C:Nat)(f:Fn):Prop where
 c:∀o,o.Perm (rg n)->∀t,(f o t).natAbs<=C
 p:∀o,o.Perm (rg n)->∀t:Int,P<t.natAbs->f o t=0
theorem FB.mono{n P:Nat}{f:Fn}(h:FB n P C f)(hp:P<=P')(hc:C<=C'):FB n P' C' f:=⟨λo po t=>bH (h.c o po t) hc,λo po t ht=>h.p o po t (by lia)⟩
theorem FB.eq{n P:Nat}{f g:Fn}(h:FB n P C f)(e:j8 n g f):FB n P C g:=⟨λo po t=>by rw[e o po t];exact h.c o po t,λo po t ht=>by rw[e o po t];exact h.p o po t ht⟩
theorem FB.X{n P k:Nat}{f:Fn}(h:FB n P C f)(h0:1<=k)(h1:k<n):FB n (P+1) (3 * C) (X k f):=by
 refine⟨λo po t=>?_,λo po t ht=>?_⟩
 ·have a:=h.c _ (mY po h0 h1) t;have b:=h.c o po (t+1);have d:=h.c o po (t-1);unfold He.X dl;split<;>lia
 ·have a:=h.p _ (mY po h0 h1) t (by lia);have b:=h.p o po (t+1) (by lia);have d:=h.p o po (t-1) (by lia);unfold He.X dl;split<;>lia
theorem FB.Xw{n:Nat}:∀{w:List Nat}{P C:Nat}{f:Fn},FB n P C f->Va n w->FB n (P+w.length) (3 ^ w.length * C) (Xw w f)
 | [],P,C,f,h,_=>by
  show FB n (P+0) (1 * C) f;rw[add_zero,dZ];exact h
 | k::w,P,C,f,h,v=>by
  have v1:=v k (aG ..);have:=FB.Xw (h.X v1.1 v1.2) (w:=w) λj hj=>v j (aI _ hj);show FB n (P+(w.length+1)) (3 ^ (w.length+1) * C) (He.Xw w (He.X k f));rw[show P+(w.length+1)=P+1+w.length by lia,Nat.pow_succ,Nat.mul_assoc];exact this
theorem FB.add{n P:Nat}{f g:Fn}(h:FB n P C f)(h':FB n P C' g):FB n P (C+C') (add f g):=by
 refine⟨λo po t=>?_,λo po t ht=>?_⟩
 ·have a:=h.c o po t;have b:=h'.c o po t;show(f o t+g o t).natAbs<=_;lia
 ·show f o t+g o t=0;rw[h.p o po t ht,h'.p o po t ht];rfl
structure PB (Q c:Nat)(p:Pl):Prop where
 c:∀q∈p,q.2.natAbs<=c
 p:∀q∈p,q.1.natAbs<=Q
theorem V8{n P c:Nat}{f:Fn}(h:FB n P C f){o:List Int}(po:o.Perm (rg n)):∀{p:Pl},PB Q c p->(∀t,(cv p (f o) t).natAbs<=p.length * (c * C))/\∀t:Int,P+Q<t.natAbs->cv p (f o) t=0
 | [],_=>⟨λ_=>bI _,λ_ _=>rfl⟩
 | q::p,b=>by
  obtain⟨i1,i2⟩:=V8 h po (p:=p) ⟨λx hx=>b.c x (aI _ hx),λx hx=>b.p x (aI _ hx)⟩;have q1:=b.c q (aG ..);have q2:=b.p q (aG ..);refine⟨λt=>?_,λt ht=>?_⟩
  ·show(q.2 * f o (t-q.1)+cv p (f o) t).natAbs<=(p.length+1) * (c * C);refine bH (Int.natAbs_add_le _ _) ?_;rw[Int.natAbs_mul,dX,jg];exact Nat.add_le_add (i1 t) (dH q1 (h.c o po _))
  ·show q.2 * f o (t-q.1)+cv p (f o) t=0;rw[i2 t ht,h.p o po _ (by lia),f_];rfl
theorem FB.kD{n P c:Nat}{f:Fn}(h:FB n P C f){p:Pl}(b:PB Q c p):FB n (P+Q) (p.length * (c * C)) (kD p f):=⟨λo po t=>(V8 h po b).1 t,λo po t ht=>(V8 h po b).2 t ht⟩
theorem o9:∀{w:List Nat}{l:List Int},Wd.jK l w->Iv.inv (Wd.led l w)=Iv.inv l+w.length
 | [],_,_=>rfl
 | k::w,l,h=>by
  have:=o9 h.2.2.2;rw[Fw.GD h.1 h.2.1 h.2.2.1]at this;show Iv.inv (Wd.led (Wd.ex l k) w)=_+(w.length+1);lia
theorem zk{n:Nat}{o:List Int}(h:o.Perm (rg n)):(sw n o).length=Iv.inv o:=by
 obtain⟨a,b⟩:=oN h;have:=o9 a;rw[b,Fw.uR]at this;lia
theorem zd{n:Nat}(hn:n<6){o:List Int}(h:o.Perm (rg n)):Iv.inv o<=25:=by
 have:=Iv.FD o;rw[h.length_eq,Wd.jI]at this;exact bH this (dH (show n<=5 by lia) (show n<=5 by lia))
theorem FB.zero(n P C:Nat):FB n P C λ_ _=>0:=⟨λ_ _ _=>bI _,λ_ _ _ _=>rfl⟩
theorem FB.R{n P c K:Nat}(hn:n<6){f:Fn}(h:FB n P C f):∀{m:Ps},(∀x∈m,x.1.Perm (rg n))->(∀x∈m,PB Q c x.2/\x.2.length<=K)->FB n (P+25+Q) (m.length * (K * (c * (3 ^ 25 * C)))) (R n m f)
 | [],_,_=>FB.zero ..
 | e::m,hm,hb=>by
  have he:=hm e (aG ..);obtain⟨b1,b2⟩:=hb e (aG ..);have i:=FB.R hn h (m:=m) (λx hx=>hm x (aI _ hx)) λx hx=>hb x (aI _ hx);have l25:(sw n e.1).length<=25:=by rw[zk he];exact zd hn he
  have a:=(h.Xw (sE he)).mono (P':=P+25) (C':=3 ^ 25 * C) (by lia) (bJ _ (iD (by decide) l25));have b:=(a.kD b1).mono (P':=P+25+Q) (C':=K * (c * (3 ^ 25 * C))) (aO _) (bJ _ b2);have d:=b.add i;show FB n _ ((m.length+1) * _) (He.add _ _);rw[dX,jg (m.length * _)];exact d
theorem Ou:∀{l:Pl}{a b:Int},l.Pairwise (λp q=>p.1<q.1)->(∀p∈l,a<=p.1/\p.1<=b)->l.length<=(b-a+1).toNat
 | [],_,_,_,_=>bI _
 | p::l,a,b,h,hb=>by
  obtain⟨h1,h2⟩:=bM.mp h;have p1:=hb p (aG ..);have i:=Ou (l:=l) (a:=a+1) (b:=b) h2 λq hq=>by
   have:=h1 q hq;have:=hb q (aI _ hq);lia
  rw[bz];lia
theorem Ob{p:Pl}{P c:Nat}(h:Ok p)(b:PB P c p):p.length<=2 * P+1:=by
 have:=Ou (a:=-(P:Int)) (b:=P) h.up λq hq=>by have:=b.p q hq;lia
 lia
theorem FB.pb{n P:Nat}{l:Ps}(h:FB n P C (cS l))(hc:Gd l)(pl:∀x∈l,x.1.Perm (rg n)){e:List Int×Pl}(he:e∈l):PB P C e.2/\e.2.length<=2 * P+1:=by
 have ok:=hc.ok e he;have at_:∀q∈e.2,cS l e.1 q.1=q.2:=λq hq=>by
  rw[yW hc,MM hc he];exact Su.Ok.F8 ok hq
 have b:PB P C e.2:=⟨λq hq=>by rw[<- at_ q hq];exact h.c _ (pl e he) _,λq hq=>by
  refine ig λz=>ok.nz q hq ?_;rw[<- at_ q hq];exact h.p _ (pl e he) _ z⟩
 exact⟨b,Ob ok b⟩
structure Sz (n P C:Nat)(l:Ps):Prop where
 cn:Cn l
 pm:∀x∈l,x.1.Perm (rg n)
 fb:FB n P C (cS l)
theorem Sz.pb{n P:Nat}{l:Ps}(h:Sz n P C l){e:List Int×Pl}(he:e∈l):PB P C e.2/\e.2.length<=2 * P+1:=h.fb.pb h.cn.gd h.pm he
theorem Sz.many{n P:Nat}{l:Ps}(hn:n<6)(h:Sz n P C l):l.length<=120:=by
 have:=He.many hn h.cn.gd.nd λo ho=>by obtain⟨e,he,rfl⟩:=bg.mp ho;exact h.pm e he
 rwa [aK]at this
theorem Sz.mono{n P:Nat}{l:Ps}(h:Sz n P C l)(hp:P<=P')(hc:C<=C'):Sz n P' C' l:=⟨h.cn,h.pm,h.fb.mono hp hc⟩
theorem Sz.bx{n P k:Nat}{l:Ps}(h:Sz n P C l)(h0:1<=k)(h1:k<n):Sz n (P+1) (3 * C) (bx k l):=⟨Sd _ _,uy h0 h1 h.pm,(h.fb.X h0 h1).eq (O8 h.pm h0 h1)⟩
theorem Sz.bo{n P:Nat}(hn:n<6){l:Ps}(h:Sz n P C l){o:List Int}(po:o.Perm (rg n)):Sz n (P+25) (3 ^ 25 * C) (bo l o):=by
 obtain⟨h1,h2,h3⟩:=Jg h.cn h.pm po;have l25:(sw n o).length<=25:=by rw[zk po];exact zd hn po
 exact⟨h1,h2,((h.fb.Xw (sE po)).mono (by lia) (bJ _ (iD (by decide) l25))).eq h3⟩
theorem Sz.Gh{n P:Nat}{l:Ps}(h:Sz n P C l):Sz n P C (Gh l):=⟨F6 h.cn h.pm,Bq h.pm,⟨λo po t=>by rw[zB h.cn h.pm,Dw po t h.pm];exact h.fb.c _ (nX po) t,λo po t ht=>by rw[zB h.cn h.pm,Dw po t h.pm];exact h.fb.p _ (nX po) t ht⟩⟩
theorem Sz.R{n P c:Nat}(hn:n<6){l:Ps}(h:Sz n P C l)(h':Sz n Q c m):FB n (P+25+Q) (120 * ((2 * Q+1) * (c * (3 ^ 25 * C)))) (R n m (cS l)):=(FB.R hn h.fb h'.pm λx hx=>h'.pb hx).mono (aO _) (bJ _ (h'.many hn))
theorem Sz.RH{n P c:Nat}(hn:n<6){l:Ps}(h:Sz n P C l)(h':Sz n Q c m):Sz n (P+25+Q) (120 * ((2 * Q+1) * (c * (3 ^ 25 * C)))) (RH l m):=by
 obtain⟨a,b,d⟩:=Gw h.cn h.pm h'.pm;exact⟨a,b,(Sz.R hn h h').eq d⟩
theorem Sz.prod{n P c:Nat}(hn:n<6){l:Ps}(h:Sz n P C l)(h':Sz n Q c m):Sz n (P+25+Q) (120 * ((2 * Q+1) * (c * (3 ^ 25 * C)))) (prod l m):=by
 obtain⟨a,b,d⟩:=lQ h.cn h'.cn h.pm h'.pm;exact⟨a,b,(Sz.R hn h h').eq d⟩
theorem Sz.sum{n P c:Nat}{l:Ps}(h:Sz n P C l)(h':Sz n P c m):Sz n P (C+c) (xN l m):=by
 obtain⟨a,b,d⟩:=tH h.pm h'.pm;exact⟨a,b,by rw[d];exact h.fb.add h'.fb⟩
end He
namespace Am
theorem Em{α β:Type}(f:α->β)(x:List Int×α):∀l:List (List Int×α),zF (x.1,f x.2) (l.map λe=>(e.1,f e.2))=(zF x l).map λe=>(e.1,f e.2)
 | []=>rfl
 | y::l=>by
  rw[bC];unfold zF;by_cases h:HT.lexLt y.1 x.1=true
  ·rw[aM h,aM h,bC,Em]
  ·rw[aJ h,aJ h];rfl
theorem wN{α β:Type}(f:α->β):∀l:List (List Int×α),lZ (l.map λe=>(e.1,f e.2))=(lZ l).map λe=>(e.1,f e.2)
 | []=>rfl
 | x::l=>by
  rw[bC];show zF _ (lZ _)=_;rw[wN f l];exact Em f x (lZ l)
end Am
namespace Su
open Am Po PySem L2
theorem Kf{es:Es}{n:Nat}{src:Ic}{ex:Ex}(hs:src τ S=.ok (kN n (es.map ent).length) S)(hx:jw S n=some (es.map ent))(f:En->A)
  (step:∀e∈es,∀T,lG S T->∃T',ex (.tup (e.1.map .int)::.ref e.2.1::lB cap τ) T=.ok (f e) T'/\lG T T') (hl:es.length<=16777216) :
  ∃S',kP (none::none::cap) src WG vK ex τ S=.ok (.ref S'.length) (S'++[.lst (es.map f)])/\lG S S':=by
 have hk:(es.map ent).length=es.length:=aK ..;obtain⟨ys,S',h1,k1,rfl⟩:=DX (s:=kN n (es.map ent).length) (g:=WG) (e:=ex) (T:=λτ'=>∃y z,τ'=y::z::lB cap τ) (λi acc T=>lG S T/\acc=(es.take i).map f)
  (λi acc τ' T hi ⟨y,z,hy⟩ hP=>by
   have hi:i<(es.map ent).length:=hi;obtain⟨kT,rfl⟩:=hP;subst hy;have he:es[i]?=some es[i]:=aF (by lia);obtain⟨T',e1,e4⟩:=step es[i] (aX he) T kT;refine⟨ent es[i],.tup (es[i].1.map .int)::.ref es[i].2.1::lB cap τ,T,_,T',?_,rfl,⟨_,_,rfl⟩,e1,kT.trans e4,?_⟩
   ·show(jw T n).bind _=_;rw[kT.lst _ _ (λz=>z) hx,d8,aP,he];rfl
   ·rw[c8,he,bO];rfl) (λacc T hP=>by
   show(match jw T n with
    | some ys=>decide (ys.length<=(es.map ent).length)
    | none=>false)=true
   rw[hP.1.lst _ _ (λz=>z) hx];simp) (es.map ent).length 0 [] (lB (none::none::cap) τ) S rfl ⟨_,_,rfl⟩ ⟨Kp.refl,by rw[fG];rfl⟩
 rw[show(kN n (es.map ent).length).k=es.length from hk,di]at h1;refine⟨S',?_,k1⟩;unfold kP;rw[hs,R.oS];show(mU (kN n (es.map ent).length) WG vK ex (es.map ent).length 0 (lB (none::none::cap) τ) S).rQ _=_;rw[h1,R.kO];exact kL (by rw[aK];exact hl)
theorem E9:∀es:Es,WE (es.map ent)=some (es.map λe=>(e.1,A.ref e.2.1))
 | []=>rfl
 | e::es=>by
  rw[bC];show(match A.ints (e.1.map .int)with
   | some ks=>(WE (es.map ent)).map λrs=>(ks,A.ref e.2.1)::rs
   | _=>none)=_
  rw[ints_map,E9 es];rfl
theorem JQ{S:jx}{n:Nat}{es:Es}(h:jw S n=some (es.map ent))(nd:(es.map Prod.fst).Nodup):BW (.ref n) S=.ok (.ref S.length) (S++[.lst ((lZ es).map ent)]):=by
 show opt (jw S n) _=_;rw[h,j3,E9,j3];have e1:(es.map λe=>(e.1,A.ref e.2.1)).map Prod.fst=es.map Prod.fst:=by rw[bh];rfl
 rw[e1];have e2:=wN (λp:Nat×Pl=>A.ref p.1) es;rw[e2,bh];exact mz nd
theorem NB(es:Es):sm (lZ es)=lZ (sm es):=(wN (λp:Nat×Pl=>p.2) es).symm
theorem Km{D:Es}{r:Nat}{p:Pl}:∃e,fE (oH D o r p) o=some e/\e.2.1=r:=by
 unfold oH;by_cases c:(fE D o).isSome=true
 ·rw[aM c];obtain⟨e,he⟩:=eY.mp c;unfold fE at he ⊢;rw[gW];have eq:((λe:En=>decide (e.1=o)) ∘ λe:En=>if e.1=o then(e.1,r,p)else e)=λe:En=>decide (e.1=o):=by
   funext x
   show decide ((if x.1=o then(x.1,r,p)else x).1=o)=_;by_cases z:x.1=o
   ·rw[aM z]
   ·rw[aJ z]
  rw[eq,he];have:=iG he;have:=bN this;exact⟨_,rfl,by show(if e.1=o then(e.1,r,p)else e).2.1=r;rw[aM this]⟩
 ·rw[aJ c];have c:fE D o=none:=Option.not_isSome_iff_eq_none.mp c;unfold fE at c ⊢;rw[List.find?_append,c];exact⟨(o,r,p),by rw[cH,bq rfl];rfl,rfl⟩
end Su
namespace He
open PySem L2 Am Po
open Fw (Two rg yN)
open Su (l8 Ps cS Gd vS toS adds bx)
theorem Sz.of{n P:Nat}{l:Ps}(h:Cn l)(pm:∀x∈l,x.1.Perm (rg n))(pb:∀e∈l,PB P C e.2):Sz n P C l:=by
 refine⟨h,pm,⟨λo po t=>?_,λo po t ht=>?_⟩⟩
 ·rw[yW h.gd]
  rcases Su.uM (D:=l) (o:=o)with⟨e,h1,_,h3⟩|⟨_,h2⟩
  ·rw[h3];exact Su.Yi (h.gd.ok e h1) (λq hq=>(pb e h1).c q hq) t
  ·rw[h2];exact bI _
 ·rw[yW h.gd]
  rcases Su.uM (D:=l) (o:=o)with⟨e,h1,_,h3⟩|⟨_,h2⟩
  ·rw[h3];have:∀q∈e.2,q.1≠t:=λq hq z=>by have:=(pb e h1).p q hq;rw[z]at this;lia
   clear h3;revert this;generalize e.2=p0;intro this
   induction p0 with
   | nil=>rfl
   | cons q p ih=>
    have z:=this q (aG ..);have i:=ih λx hx=>this x (aI _ hx);show(if q.1=t then q.2 else 0)+cf p t=0;rw[aJ z,i];rfl
  ·rw[h2];rfl
theorem PB.times{P c:Nat}{p q:Pl}(hp:PB P C p)(hq:PB Q c q):(times p q).length<=2 * (P+Q)+1:=by
 refine Ob (c:=p.length * q.length * (C * c)) (Po.qE p q) ⟨λx hx=>?_,λx hx=>?_⟩
 ·have a:=Su.Ok.F8 (Po.qE p q) hx;rw[Su.pG]at a;rw[<- a,<- Po.yp];have:∀l:Pl,Bd (C * c) l->(cf l x.1).natAbs<=l.length * (C * c):=λl=>by
   induction l with
   | nil=>exact λ_=>bI _
   | cons y l ih=>
    intro hb;have i:=ih λz hz=>hb z (aI _ hz);have j:=hb y (aG ..);show((if y.1=x.1 then y.2 else 0)+cf l x.1).natAbs<=(l.length+1) * (C * c);rw[dX];split<;>lia
  exact this _ (Bd.z8 (λz hz=>hp.c z hz) λz hz=>hq.c z hz)
 ·refine ig λz=>(Po.qE p q).nz x hx ?_;rw[<- Su.Ok.F8 (Po.qE p q) hx,Su.pG];have:∀l:Pl,(∀y∈l,y.1.natAbs<=P+Q)->cf l x.1=0:=λl=>by
   induction l with
   | nil=>exact λ_=>rfl
   | cons y l ih=>
    intro hb;have i:=ih λz hz=>hb z (aI _ hz);have j:=hb y (aG ..);show(if y.1=x.1 then y.2 else 0)+cf l x.1=0;rw[i,aJ (λw=>by rw[w]at j;lia)];rfl
  refine this _ λy hy=>?_;unfold z8 at hy;obtain⟨u,hu,hy⟩:=d9.mp hy;obtain⟨v,hv,rfl⟩:=bg.mp hy;have:=hp.p u hu;have:=hq.p v hv;show(u.1+v.1).natAbs<=_;lia
theorem Rc{o:List Int}:((kc 1 (o.length:Int)).filter λk=>decide (o.getD (k-1).toNat 0>o.getD k.toNat 0)).head?=(ff o).map λk:Nat=>(k:Int):=by
 rw[List.head?_filter];unfold kc ff;rw[gW,show((o.length:Int)-1).toNat=o.length-1 by lia,fZ];have:((λk:Int=>decide (o.getD (k-1).toNat 0>o.getD k.toNat 0)) ∘ λk:Nat=>(1:Int)+(k:Int))=λi:Nat=>l8 o (i+1):=by
  funext i
  show decide (o.getD ((1:Int)+(i:Int)-1).toNat 0>o.getD ((1:Int)+(i:Int)).toNat 0)=decide _;rw[show((1:Int)+(i:Int)-1).toNat=i+1-1 by lia,show((1:Int)+(i:Int)).toNat=i+1 by lia]
 rw[this];congr 1
 funext i
 show(1:Int)+(i:Int)=((i+1:Nat):Int);lia
end He
namespace He
open PySem L2 Am Po
open Fw (Two rg yN)
open Su (l8 Ps cS Gd vS toS adds bx)
theorem SN{n:Nat}:∀{w:List Nat}{l:Ps},(∀x∈l,x.1.Perm (rg n))->Va n w->j8 n (cS (Kv w l)) (Xw w (cS l))
 | [],l,_,_=>.refl
 | k::w,l,h,v=>by
  have v1:=v k (aG ..);have v2:Va n w:=λj hj=>v j (aI _ hj);exact(SN (w:=w) (uy v1.1 v1.2 h) v2).trans (qJ v2 (O8 h v1.1 v1.2))
theorem ex_map(f:Int->Int){o:List Int}{k:Nat}(h0:1<=k)(h1:k<o.length):Wd.ex (o.map f) k=(Wd.ex o k).map f:=by
 apply cT;intro p;rw[Wd.nP h0 (by rw[aK];exact h1),aP,aP,aP,aP,Wd.nP h0 h1];split
 ·rfl
 ·split<;>rfl
theorem xY(f:Int->Int):∀{w:List Nat}{o:List Int},(∀k∈w,1<=k/\k<o.length)->Wd.led (o.map f) w=(Wd.led o w).map f
 | [],_,_=>rfl
 | k::w,o,v=>by
  have v1:=v k (aG ..);show Wd.led (Wd.ex (o.map f) k) w=(Wd.led (Wd.ex o k) w).map f;rw[ex_map f v1.1 v1.2];exact xY f λj hj=>by rw[Wd.k_];exact v j (aI _ hj)
theorem yK{n:Nat}:∀{w:List Nat}{l:List Int},l.Perm (rg n)->Va n w->Iv.inv (Wd.led l w)<=Iv.inv l+w.length/\(Iv.inv (Wd.led l w)=Iv.inv l+w.length->Wd.jK l w)
 | [],l,_,_=>⟨aO _,λ_=>trivial⟩
 | k::w,l,p,v=>by
  have v1:=v k (aG ..);have ll:l.length=n:=by rw[p.length_eq,Wd.jI]
  obtain⟨i1,i2⟩:=yK (w:=w) (mY p v1.1 v1.2) λj hj=>v j (aI _ hj);have i1:Iv.inv (Wd.led l (k::w))<=Iv.inv (Wd.ex l k)+w.length:=i1;have i2:Iv.inv (Wd.led l (k::w))=Iv.inv (Wd.ex l k)+w.length->Wd.jK (Wd.ex l k) w:=i2;rw[bz]
  rcases Nat.lt_or_ge 0 0 with z|_
  ·lia
  ·by_cases c:l.getD (k-1) 0<l.getD k 0
   ·have u:=Fw.GD v1.1 (by lia) c;exact⟨by lia,λh=>⟨v1.1,by lia,c,i2 (by lia)⟩⟩
   ·have ne:=nb p v1.1 v1.2;have u:=Fw.nI v1.1 (by lia) (show l.getD k 0<l.getD (k-1) 0 by lia);exact⟨by lia,λh=>absurd h (by lia)⟩
theorem Dz{n:Nat}:∀{w:List Nat}{l:List Int},l.Perm (rg n)->Va n w->(Wd.led l w).Perm (rg n)
 | [],_,p,_=>p
 | k::w,l,p,v=>Dz (w:=w) (mY p (v k (aG ..)).1 (v k (aG ..)).2) λj hj=>v j (aI _ hj)
end He
namespace He
open PySem L2 Am Po
open Fw (Two rg yN)
open Su (l8 Ps cS Gd vS toS adds bx)
theorem Bp{n:Nat}{w:List Nat}(h:Wd.jK (rg n) w):Wd.jK (rg n) w.reverse:=by
 have va:Va n w:=λk hk=>by have:=Wd.jK.valid h k hk;rwa [Wd.jI]at this
 have var:Va n w.reverse:=λk hk=>va k (d_.mp hk);have pr:=Dz (mC n) var;obtain⟨z1,z2⟩:=oN pr;have vz:=sE pr;have vzr:Va n (sw n (Wd.led (rg n) w.reverse)).reverse:=λk hk=>vz k (d_.mp hk);have b1:=Wd.mE (sw n (Wd.led (rg n) w.reverse)).reverse vzr;rw[fY,z2]at b1;have e:=m8 ⟨pr,Dz (mC n) vzr,b1⟩ ⟨pr,Dz (mC n) va,Wd.mE w va⟩;have l1:=(yK (mC n) vzr).1;rw[e,Fw.uR,fB,zk pr]at l1;have l2:=o9 h;have l3:=(yK (mC n) var).1;refine(yK (mC n) var).2 ?_;rw[Fw.uR,fB]at *
 lia
noncomputable def Y (k:Nat)(f:Fn):Fn:=λo t=>X k f o t-dl (f o) t
noncomputable def Yw (w:List Nat)(f:Fn):Fn:=w.foldl (λf k=>Y k f) f
theorem ZW{n k:Nat}{f g:Fn}(h:j8 n f g)(h0:1<=k)(h1:k<n):j8 n (Y k f) (Y k g):=λo p t=>by
 unfold Y;rw[KO h h0 h1 o p t,show f o=g o from funext λt=>h o p t]
theorem xx{n:Nat}:∀{w:List Nat}{f g:Fn},Va n w->j8 n f g->j8 n (Yw w f) (Yw w g)
 | [],_,_,_,h=>h
 | k::w,f,g,v,h=>xx (w:=w) (λj hj=>v j (aI _ hj)) (ZW h (v k (aG ..)).1 (v k (aG ..)).2)
theorem Zt(k:Nat)(f:Fn)(o:List Int)(t:Int):X k (λo t=>dl (f o) t) o t=dl (X k f o) t:=by
 unfold X dl;dsimp only;split<;>lia
theorem Ys(k:Nat)(f g:Fn)(o:List Int)(t:Int):X k (λo t=>f o t-g o t) o t=X k f o t-X k g o t:=by
 unfold X dl;dsimp only;split<;>lia
theorem X_Y{n k:Nat}(h0:1<=k)(h1:k<n)(f:Fn):j8 n (X k (Y k f)) f:=λo p t=>by
 have a:X k (Y k f) o t=X k (X k f) o t-X k (λo t=>dl (f o) t) o t:=Ys k (X k f) (λo t=>dl (f o) t) o t;rw[a,Zd h0 h1 f o p t,Zt];dsimp only;lia
theorem Y_X{n k:Nat}(h0:1<=k)(h1:k<n)(f:Fn):j8 n (Y k (X k f)) f:=λo p t=>by
 show X k (X k f) o t-dl (X k f o) t=_;rw[Zd h0 h1 f o p t];dsimp only;lia
theorem QZ(w:List Nat)(k:Nat)(f:Fn):Yw (w++[k]) f=Y k (Yw w f):=by unfold Yw;rw[cU];rfl
theorem Jk(w:List Nat)(k:Nat)(f:Fn):Xw (w++[k]) f=X k (Xw w f):=by unfold Xw;rw[cU];rfl
theorem XI{n:Nat}:∀{w:List Nat}{f:Fn},Va n w->j8 n (Xw w.reverse (Yw w f)) f
 | [],_,_=>.refl
 | k::w,f,v=>by
  have v1:=v k (aG ..);rw[eV,Jk];exact(KO (XI (w:=w) (f:=Y k f) λj hj=>v j (aI _ hj)) v1.1 v1.2).trans (X_Y v1.1 v1.2 f)
theorem X6{n:Nat}:∀{w:List Nat}{f:Fn},Va n w->j8 n (Yw w (Xw w.reverse f)) f
 | [],_,_=>.refl
 | k::w,f,v=>by
  have v1:=v k (aG ..);have v2:Va n w:=λj hj=>v j (aI _ hj);rw[eV,Jk];show j8 n (Yw w (Y k (X k (Xw w.reverse f)))) f;exact(xx v2 (Y_X v1.1 v1.2 _)).trans (X6 v2)
noncomputable def LB:Pl:=[((-1:Int),(-1:Int)),((1:Int),(1:Int))]
theorem Tp(g:Int->Int)(t:Int):cv LB g t=- dl g t:=by
 show -1 * g (t - -1)+(1 * g (t-1)+0)=-(g (t+1)-g (t-1));rw[show t - -1=t+1 by lia];lia
noncomputable def KN (p:Pl)(l:Ps):Ps:=toS (adds [] (xK p l))
theorem C1(p:Pl)(l:Ps):cS (KN p l)=kD p (cS l):=by
 funext o t
 unfold KN;rw[tR,vU]
theorem C5{n:Nat}{p:Pl}{l:Ps}(pl:∀x∈l,x.1.Perm (rg n)):Cn (KN p l)/\∀x∈KN p l,x.1.Perm (rg n):=
 ⟨.toS (Gd.nil.adds _),Su.sd (P:=λo=>o.Perm (rg n)) (Su.qy (P:=λo=>o.Perm (rg n)) _ (λ_ z=>nomatch z) λx hx=>by
  obtain⟨y,hy,rfl⟩:=bg.mp hx;exact pl y hy)⟩
noncomputable def yb (k:Nat)(l:Ps):Ps:=xN (bx k l) (KN LB l)
theorem HN{n k:Nat}{l:Ps}(h0:1<=k)(h1:k<n)(pl:∀x∈l,x.1.Perm (rg n)):Cn (yb k l)/\(∀x∈yb k l,x.1.Perm (rg n))/\j8 n (cS (yb k l)) (Y k (cS l)):=by
 obtain⟨a,b,c⟩:=tH (uy h0 h1 pl) (C5 (p:=LB) pl).2;refine⟨a,b,λo p t=>?_⟩;show cS (xN (bx k l) (KN LB l)) o t=_;rw[c,C1];show cS (bx k l) o t+cv LB (cS l o) t=X k (cS l) o t-dl (cS l o) t;rw[O8 pl h0 h1 o p t,Tp];lia
noncomputable def Iu (w:List Nat)(l:Ps):Ps:=w.foldl (λl k=>yb k l) l
theorem Pp(w:List Nat)(k:Nat)(l:Ps):Iu (w++[k]) l=yb k (Iu w l):=by unfold Iu;rw[cU];rfl
theorem F2{n:Nat}:∀{w:List Nat}{l:Ps},Va n w->Cn l->(∀x∈l,x.1.Perm (rg n))->Cn (Iu w l)/\(∀x∈Iu w l,x.1.Perm (rg n))/\j8 n (cS (Iu w l)) (Yw w (cS l))
 | [],_,_,c,p=>⟨c,p,.refl⟩
 | k::w,l,v,c,p=>by
  have v1:=v k (aG ..);have v2:Va n w:=λj hj=>v j (aI _ hj);obtain⟨a1,a2,a3⟩:=HN v1.1 v1.2 p;obtain⟨b1,b2,b3⟩:=F2 v2 a1 a2;exact⟨b1,b2,b3.trans (xx v2 a3)⟩
theorem Yg{n:Nat}{w:List Nat}(h:Wd.jK (rg n) w)(h':Wd.jK (rg n) w')(e:Wd.led (rg n) w=Wd.led (rg n) w'){l:Ps}(hc:Cn l)(hl:∀x∈l,x.1.Perm (rg n)):j8 n (Yw w (cS l)) (Yw w' (cS l)):=by
 have va:Va n w:=λk hk=>by have:=Wd.jK.valid h k hk;rwa [Wd.jI]at this
 have va':Va n w':=λk hk=>by have:=Wd.jK.valid h' k hk;rwa [Wd.jI]at this
 have var:Va n w.reverse:=λk hk=>va k (d_.mp hk);have var':Va n w'.reverse:=λk hk=>va' k (d_.mp hk);obtain⟨_,g2,g3⟩:=F2 va' hc hl;have b1:=Wd.mE w va;have b2:=Wd.mE w' va';have er:Wd.led (rg n) w.reverse=Wd.led (rg n) w'.reverse:=by
  have p:=Dz (mC n) va;have c1:=Wd.mE w.reverse var;have c2:=Wd.mE w'.reverse var';rw[fY]at c1 c2;rw[<- e]at c2;exact m8 ⟨p,Dz (mC n) var,c1⟩ ⟨p,Dz (mC n) var',c2⟩
 have s:j8 n (Xw w.reverse (Yw w' (cS l))) (cS l):=by
  refine(qJ var g3.symm).trans ((vY (Bp h) (Bp h') er g2).trans ((qJ var' g3).trans ?_));exact XI va'
 exact(xx va s.symm).trans (X6 va)
noncomputable def bT (n:Nat)(o:List Int):Fn:=Yw (sw n o) (cS (one n))
theorem yR(n:Nat):Cn (one n):=CI _ Bu (by simp)
theorem CQ{n:Nat}{o:List Int}{w:List Nat}(po:o.Perm (rg n))(h:Wd.jK (rg n) w)(e:Wd.led (rg n) w=o):j8 n (bT n o) (Yw w (cS (one n))):=by
 obtain⟨a,b⟩:=oN po;exact Yg a h (b.trans e.symm) (yR n) (rD n)
theorem SA{n k:Nat}{o:List Int}(po:o.Perm (rg n))(h0:1<=k)(h1:k<n)(hf:l8 o k=false):j8 n (bT n (Wd.ex o k)) (Y k (bT n o)):=by
 obtain⟨a1,a2⟩:=oN po;have ne:=nb po h0 h1;have hr:(Wd.led (rg n) (sw n o)).getD (k-1) 0<(Wd.led (rg n) (sw n o)).getD k 0:=by
  rw[a2];have:=cW hf;lia
 have c1:Wd.jK (rg n) (sw n o++[k]):=Wd.jK.snoc a1 h0 (by rw[Wd.jI];exact h1) hr;have c2:Wd.led (rg n) (sw n o++[k])=Wd.ex o k:=by rw[Wd.rG,a2];rfl
 have:=CQ (mY po h0 h1) c1 c2;rw[QZ]at this;exact this
theorem YL{n k:Nat}{o:List Int}(po:o.Perm (rg n))(h0:1<=k)(h1:k<n)(hf:l8 o k=true):j8 n (bT n o) (Y k (bT n (Wd.ex o k))):=by
 have lw:o.length=n:=by rw[po.length_eq,Wd.jI]
 have go:Su.Go n k o:=⟨lw,nb po h0 h1⟩;have:=SA (mY po h0 h1) h0 h1 (by rw[(go.ex h0 h1).2,hf];rfl);rw[Fw.uz h0 (by lia)]at this;exact this
theorem yk(p:Pl)(k:Int):cf (turn p) k=cf p (-k):=by
 have r:∀p:Pl,cf p.reverse k=cf p k:=λp=>by
  induction p with
  | nil=>rfl
  | cons q p ih=>
   rw[eV,Su.wQ,ih];show cf p k+((if q.1=k then q.2 else 0)+0)=(if q.1=k then q.2 else 0)+cf p k;lia
 unfold turn;rw[List.map_reverse,r]
 induction p with
 | nil=>rfl
 | cons q p ih=>
  show(if -q.1=k then q.2 else 0)+cf (p.map _) k=(if q.1=-k then q.2 else 0)+cf p (-k);rw[ih];congr 1;by_cases c:-q.1=k
  ·rw[aM c,aM (by lia)]
  ·rw[aJ c,aJ (by lia)]
theorem xV(p:Pl)(g:Int->Int)(t:Int):cv (turn p) g t=cv p (λs=>g (-s)) (-t):=by
 have e:cv (turn p) g t=cv (p.map λq=>(-q.1,q.2)) g t:=by
  refine wH (λk=>?_) g t;rw[yk]
  induction p with
  | nil=>rfl
  | cons q p ih=>
   show(if q.1=-k then q.2 else 0)+cf p (-k)=(if -q.1=k then q.2 else 0)+cf (p.map _) k;rw[ih];congr 1;by_cases c:-q.1=k
   ·rw[aM c,aM (by lia)]
   ·rw[aJ c,aJ (by lia)]
 rw[e]
 induction p with
 | nil=>rfl
 | cons q p ih=>
  show q.2 * g (t - -q.1)+cv (p.map _) g t=q.2 * g (-(-t-q.1))+cv p _ (-t);have ih:=ih (wH (λk=>by
   rw[yk];clear e ih
   induction p with
   | nil=>rfl
   | cons q p ih=>
    show(if q.1=-k then q.2 else 0)+cf p (-k)=(if -q.1=k then q.2 else 0)+cf (p.map _) k;rw[ih];congr 1;by_cases c:-q.1=k
    ·rw[aM c,aM (by lia)]
    ·rw[aJ c,aJ (by lia)]) g t)
  rw[ih,show -(-t-q.1)=t - -q.1 by lia]
noncomputable def Bt (n:Nat):Ps->Fn
 | []=>λ_ _=>0
 | e::m=>add (kD (turn e.2) (bT n e.1)) (Bt n m)
theorem MR(n:Nat):∀(m:Ps) (o:List Int) (t:Int),Bt n m o t=RG (λu o s=>bT n u o (-s)) m o (-t)
 | [],_,_=>rfl
 | e::m,o,t=>by
  show cv (turn e.2) (bT n e.1 o) t+Bt n m o t=cv e.2 (λs=>bT n e.1 o (-s)) (-t)+RG _ m o (-t);rw[xV,MR n m]
theorem wZ(n:Nat)(h:∀w s,cS m w s=cS m' w s):Bt n m=Bt n m':=by
 funext o t
 rw[MR,MR,OH _ h]
theorem Ce(n:Nat)(a b:Ps):Bt n (a++b)=add (Bt n a) (Bt n b):=by
 induction a with
 | nil=>funext o t;exact(bP _).symm
 | cons e a ih=>
  show add _ (Bt n (a++b))=_;rw[ih]
  funext o t
  exact(e_ _ _ _).symm
theorem uB(p q:Pl)(g:Int->Int)(t:Int):cv (turn (times p q)) g t=cv (turn p) (cv (turn q) g) t:=by
 rw[xV,El,xV];congr 1
 funext s
 rw[xV,Int.neg_neg]
theorem B_(n:Nat)(p:Pl):∀l:Ps,Bt n (xK p l)=kD (turn p) (Bt n l)
 | []=>by funext o t;exact(nR _ t).symm
 | e::l=>by
  funext o t
  show cv (turn (times p e.2)) (bT n e.1 o) t+Bt n (xK p l) o t=cv (turn p) (λt=>cv (turn e.2) (bT n e.1 o) t+Bt n l o t) t;rw[B_ n p l,o6,uB];rfl
theorem VM(k:Nat)(p:Pl)(f:Fn):Y k (kD p f)=kD p (Y k f):=by
 funext o t
 show X k (kD p f) o t-dl (cv p (f o)) t=cv p (λt=>X k f o t-dl (f o) t) t;rw[Fx,<- N6];show cv p (X k f o) t-cv p (dl (f o)) t=_;have:=o6 p (λt=>X k f o t-dl (f o) t) (dl (f o)) t;rw[show(λt=>(λt=>X k f o t-dl (f o) t) t+dl (f o) t)=X k f o from funext λt=>by show X k f o t-dl (f o) t+dl (f o) t=_;lia]at this;lia
theorem Xn(k:Nat)(f g:Fn):Y k (add f g)=add (Y k f) (Y k g):=by
 funext o t
 show X k (add f g) o t-dl (λt=>f o t+g o t) t=(X k f o t-dl (f o) t)+(X k g o t-dl (g o) t);rw[O6];show X k f o t+X k g o t-_=_;unfold dl;dsimp only;lia
theorem Wk(k:Nat):Y k (λ_ _=>0)=λ_ _=>0:=by
 funext o t
 show X k (λ_ _=>0) o t-dl (λ_=>0) t=0;rw[FJ];rfl
theorem NN{n k:Nat}(h0:1<=k)(h1:k<n):∀{m:Ps},(∀x∈m,x.1.Perm (rg n))->j8 n (Bt n (Su.Ke k m)) (Y k (Bt n m))
 | [],_=>by
  show j8 n (λ_ _=>0) (Y k λ_ _=>0);rw[Wk];exact .refl
 | e::m,hm=>by
  have he:=hm e (aG ..);have ih:=NN h0 h1 (m:=m) λx hx=>hm x (aI _ hx);show j8 n (Bt n (((Wd.ex e.1 k,e.2)::(if l8 e.1 k=true then[(e.1,times Su.AF e.2)]else[]))++Su.Ke k m)) (Y k (add (kD (turn e.2) (bT n e.1)) (Bt n m)));rw[Ce,Xn,VM];intro o p t;show Bt n ((Wd.ex e.1 k,e.2)::_) o t+Bt n (Su.Ke k m) o t=kD (turn e.2) (Y k (bT n e.1)) o t+Y k (Bt n m) o t;rw[ih o p t];congr 1
  cases hf:l8 e.1 k with
  | false=>
   show kD (turn e.2) (bT n (Wd.ex e.1 k)) o t+0=_;rw[cC];exact lA _ (SA he h0 h1 hf) o p t
  | true=>
   show kD (turn e.2) (bT n (Wd.ex e.1 k)) o t+(cv (turn (times Su.AF e.2)) (bT n e.1 o) t+0)=_;have d:=YL he h0 h1 hf;have y2:j8 n (Y k (bT n e.1)) λo t=>bT n (Wd.ex e.1 k) o t+- dl (bT n e.1 o) t:=λo p t=>by
    show X k (bT n e.1) o t-dl (bT n e.1 o) t=_;rw[KO d h0 h1 o p t,X_Y h0 h1 _ o p t];dsimp only;lia
   have ta:∀(g:Int->Int) (t:Int),cv (turn Su.AF) g t=- dl g t:=λg t=>by
    show -1 * g (t - -1)+(1 * g (t - - -1)+0)=-(g (t+1)-g (t-1));rw[show t - -1=t+1 by lia,show t - - -1=t-1 by lia];lia
   have e1:cv (turn (times Su.AF e.2)) (bT n e.1 o) t=cv (turn e.2) (λt=>- dl (bT n e.1 o) t) t:=by
    rw[uB,SY];congr 1
    funext s
    exact ta _ s
   rw[cC,e1,lA _ y2 o p t];show _=cv (turn e.2) (λt=>bT n (Wd.ex e.1 k) o t+- dl (bT n e.1 o) t) t;rw[o6];rfl
theorem VW(k:Nat)(m:Ps)(w:List Int)(s:Int):cS (bx k m) w s=cS (Su.Ke k m) w s:=by
 unfold Su.bx;rw[Su.w_ (Su.Gd.nil.adds _),Su.C6];show 0+_=_;rw[bP]
theorem Sq{n k:Nat}(h0:1<=k)(h1:k<n){m:Ps}(hm:∀x∈m,x.1.Perm (rg n)):j8 n (Bt n (bx k m)) (Y k (Bt n m)):=by
 rw[wZ n (VW k m)];exact NN h0 h1 hm
theorem MP{n:Nat}:∀{w:List Nat}{m:Ps},Va n w->(∀x∈m,x.1.Perm (rg n))->j8 n (Bt n (Kv w m)) (Yw w (Bt n m))
 | [],_,_,_=>.refl
 | k::w,m,v,hm=>by
  have v1:=v k (aG ..);have v2:Va n w:=λj hj=>v j (aI _ hj);exact(MP (w:=w) v2 (uy v1.1 v1.2 hm)).trans (xx v2 (Sq v1.1 v1.2 hm))
theorem U8{n:Nat}{l m:Ps}(pl:∀x∈l,x.1.Perm (rg n))(pm:∀x∈m,x.1.Perm (rg n)):Bt n (xN l m)=add (Bt n l) (Bt n m):=by
 rw[<- Ce];refine wZ n λo t=>?_;rw[(tH pl pm).2.2,Su.rW];rfl
theorem UQ(n:Nat)(p:Pl)(l:Ps):Bt n (KN p l)=kD (turn p) (Bt n l):=by
 rw[<- B_];refine wZ n λo t=>?_;rw[C1,vU]
theorem WW{n k:Nat}(h0:1<=k)(h1:k<n){l:Ps}(pl:∀x∈l,x.1.Perm (rg n)):j8 n (Bt n (yb k l)) (X k (Bt n l)):=λo p t=>by
 unfold yb;rw[U8 (uy h0 h1 pl) (C5 (p:=LB) pl).2,UQ];show Bt n (bx k l) o t+cv (turn LB) (Bt n l o) t=_;rw[Sq h0 h1 pl o p t];have:cv (turn LB) (Bt n l o) t=dl (Bt n l o) t:=by
  show 1 * Bt n l o (t - -1)+(-1 * Bt n l o (t - - -1)+0)=Bt n l o (t+1)-Bt n l o (t-1);rw[show t - -1=t+1 by lia,show t - - -1=t-1 by lia];lia
 rw[this];show X k (Bt n l) o t-dl (Bt n l o) t+_=_;lia
theorem Ld{n:Nat}:∀{w:List Nat}{l:Ps},Va n w->Cn l->(∀x∈l,x.1.Perm (rg n))->j8 n (Bt n (Iu w l)) (Xw w (Bt n l))
 | [],_,_,_,_=>.refl
 | k::w,l,v,c,p=>by
  have v1:=v k (aG ..);have v2:Va n w:=λj hj=>v j (aI _ hj);obtain⟨a1,a2,_⟩:=HN v1.1 v1.2 p;exact(Ld v2 a1 a2).trans (qJ v2 (WW v1.1 v1.2 p))
theorem K5(n:Nat):j8 n (Bt n (one n)) (cS (one n)):=λo p t=>by
 show cv (turn [((0:Int),(1:Int))]) (bT n (rg n) o) t+0=_;rw[cC,show turn [((0:Int),(1:Int))]=[((0:Int),(1:Int))]from rfl,BV];exact CQ (w:=[]) (mC n) trivial rfl o p t
noncomputable def tO (n:Nat)(w:List Nat):Ps:=Iu w (one n)
theorem L7{n:Nat}{o:List Int}{w:List Nat}(po:o.Perm (rg n))(h:Wd.jK (rg n) w)(e:Wd.led (rg n) w=o):Cn (tO n w)/\(∀x∈tO n w,x.1.Perm (rg n))/\j8 n (cS (tO n w)) (bT n o):=by
 have va:Va n w:=λk hk=>by have:=Wd.jK.valid h k hk;rwa [Wd.jI]at this
 obtain⟨a,b,c⟩:=F2 va (yR n) (rD n);exact⟨a,b,c.trans (CQ po h e).symm⟩
structure Fwd (n:Nat)(W:List Int->List Nat):Prop where
 r:∀o,o.Perm (rg n)->Wd.jK (rg n) (W o)
 e:∀o,o.Perm (rg n)->Wd.led (rg n) (W o)=o
theorem Fwd.va{n:Nat}{W:List Int->List Nat}(h:Fwd n W){o:List Int}(po:o.Perm (rg n)):Va n (W o):=λk hk=>by have:=Wd.jK.valid (h.r o po) k hk;rwa [Wd.jI]at this
noncomputable def Fd (n:Nat)(W:List Int->List Nat)(m:Ps):Ps:=m.flatMap λe=>xK (turn e.2) (tO n (W e.1))
noncomputable def tu (n:Nat)(W:List Int->List Nat)(m:Ps):Ps:=toS (adds [] (Fd n W m))
theorem UC{n:Nat}{W:List Int->List Nat}(hW:Fwd n W){m:Ps}(pm:∀x∈m,x.1.Perm (rg n)):∀x∈Fd n W m,x.1.Perm (rg n):=λx hx=>by
 obtain⟨e,he,hx⟩:=d9.mp hx;obtain⟨y,hy,rfl⟩:=bg.mp hx;exact(L7 (pm e he) (hW.r _ (pm e he)) (hW.e _ (pm e he))).2.1 y hy
theorem RX{n:Nat}{W:List Int->List Nat}(hW:Fwd n W):∀{m:Ps},(∀x∈m,x.1.Perm (rg n))->j8 n (cS (Fd n W m)) (Bt n m)
 | [],_=>.refl
 | e::m,pm=>λo p t=>by
  have pe:=pm e (aG ..);show cS (xK (turn e.2) (tO n (W e.1))++Fd n W m) o t=cv (turn e.2) (bT n e.1 o) t+Bt n m o t;rw[Su.rW,vU,RX hW (λx hx=>pm x (aI _ hx)) o p t];congr 1;exact lA _ (L7 pe (hW.r _ pe) (hW.e _ pe)).2.2 o p t
theorem yO{n:Nat}{W:List Int->List Nat}(hW:Fwd n W){m:Ps}(pm:∀x∈m,x.1.Perm (rg n)):Cn (tu n W m)/\(∀x∈tu n W m,x.1.Perm (rg n))/\j8 n (cS (tu n W m)) (Bt n m):=
 ⟨.toS (Gd.nil.adds _),Su.sd (P:=λo=>o.Perm (rg n)) (Su.qy (P:=λo=>o.Perm (rg n)) _ (λ_ z=>nomatch z) (UC hW pm)),λo p t=>by
  show cS (toS (adds [] (Fd n W m))) o t=_;rw[tR];exact RX hW pm o p t⟩
theorem YG{n:Nat}{o:List Int}(po:o.Perm (rg n)){w:List Nat}(h:Wd.jK (rg n) w)(e:Wd.led (rg n) w=o):j8 n (Xw w (cS (one n))) (D o d0):=by
 have z:cS (one n)=D (rg n) d0:=by
  have z:cS (one n)=add (D (rg n) (cf [((0:Int),(1:Int))])) (λ_ _=>0):=qT _ _;rw[z]
  funext u s
  show D (rg n) (cf [((0:Int),(1:Int))]) u s+0=_;rw[cC];unfold D;split
  ·rw[<- Ls,BV]
  ·rfl
 rw[z];have:=Oa (g:=d0) (mC n) h
 rwa [e]at this
theorem WU{n:Nat}{W:List Int->List Nat}(hW:Fwd n W){m:Ps}(hc:Cn m)(pm:∀x∈m,x.1.Perm (rg n)):tu n W (tu n W m)=m:=by
 obtain⟨a1,a2,a3⟩:=yO hW pm;obtain⟨b1,b2,b3⟩:=yO hW a2;refine qP b1 hc b2 pm (b3.trans ?_);have e1:Bt n (tu n W m)=Bt n (Fd n W m):=wZ n λo t=>tR _ o t;rw[e1];clear e1 b1 b2 b3 a1 a2 a3 hc
 induction m with
 | nil=>exact .refl
 | cons e m ih=>
  have pe:=pm e (aG ..);have ih:=ih λx hx=>pm x (aI _ hx);intro o p t;rw[qT];show Bt n (xK (turn e.2) (tO n (W e.1))++Fd n W m) o t=D e.1 (cf e.2) o t+cS m o t;rw[Ce];show Bt n (xK (turn e.2) (tO n (W e.1))) o t+Bt n (Fd n W m) o t=_;rw[ih o p t,B_];congr 1;have x1:j8 n (Bt n (tO n (W e.1))) (D e.1 d0):=(Ld (hW.va pe) (yR n) (rD n)).trans ((qJ (hW.va pe) (K5 n)).trans (YG pe (hW.r _ pe) (hW.e _ pe)));rw[lA _ x1 o p t,Q2];show cv (turn (turn e.2)) (D e.1 d0 o) t=cv e.2 (D e.1 d0 o) t;exact wH (λk=>by rw[yk,yk,Int.neg_neg]) _ _
theorem Zr{n k:Nat}{l m:Ps}(h0:1<=k)(h1:k<n)(pl:∀x∈l,x.1.Perm (rg n))(pm:∀x∈m,x.1.Perm (rg n)):j8 n (R n (yb k m) (cS l)) (Y k (R n m (cS l))):=λo p t=>by
 have e1:R n (yb k m) (cS l)=add (R n (bx k m) (cS l)) (R n (KN LB m) (cS l)):=Si (uy h0 h1 pm) (C5 (p:=LB) pm).2 _;have e2:R n (KN LB m) (cS l)=kD LB (R n m (cS l)):=by
  rw[<- Mr];refine AN n (λo t=>?_) _;rw[C1,vU]
 rw[e1,e2];show R n (bx k m) (cS l) o t+cv LB (R n m (cS l) o) t=X k (R n m (cS l)) o t-dl (R n m (cS l) o) t;rw[WM h0 h1 pl pm o p t,Tp];lia
theorem Tq{n:Nat}{l:Ps}(pl:∀x∈l,x.1.Perm (rg n)):∀{w:List Nat}{m:Ps},Va n w->(∀x∈m,x.1.Perm (rg n))->j8 n (R n (Iu w m) (cS l)) (Yw w (R n m (cS l)))
 | [],_,_,_=>.refl
 | k::w,m,v,pm=>by
  have v1:=v k (aG ..);have v2:Va n w:=λj hj=>v j (aI _ hj);exact(Tq pl (w:=w) v2 (HN v1.1 v1.2 pm).2.1).trans (xx v2 (Zr v1.1 v1.2 pl pm))
theorem QF{n:Nat}{W:List Int->List Nat}(hW:Fwd n W){l m:Ps}(hl:Cn l)(hm:Cn m)(pl:∀x∈l,x.1.Perm (rg n))(pm:∀x∈m,x.1.Perm (rg n)):tu n W (prod l m)=prod (tu n W l) (tu n W m):=by
 obtain⟨a1,a2,a3⟩:=yO hW pl;obtain⟨b1,b2,b3⟩:=yO hW pm;obtain⟨c1,c2,c3⟩:=lQ hl hm pl pm;obtain⟨d1,d2,d3⟩:=lQ a1 b1 a2 b2;obtain⟨e1,e2,e3⟩:=yO hW c2;refine qP e1 d1 e2 d2 (e3.trans (j8.trans ?_ d3.symm));have z1:Bt n (prod l m)=Bt n (wm l m):=wZ n (BR c2 (JE hl pl pm) (c3.trans (FI hl pl pm).symm));have z2:R n (tu n W m) (cS (tu n W l))=R n (Fd n W m) (cS (tu n W l)):=AN n (λo t=>tR _ o t) _;rw[z1,z2];clear z1 z2 c1 c2 c3 d1 d2 d3 e1 e2 e3 b1 b2 b3 hm
 induction m with
 | nil=>exact .refl
 | cons e m ih=>
  have pe:=pm e (aG ..);have ih:=ih λx hx=>pm x (aI _ hx);intro o p t;show Bt n (xK e.2 (bo l e.1)++wm l m) o t=R n (xK (turn e.2) (tO n (W e.1))++Fd n W m) (cS (tu n W l)) o t;rw[Ce,Jf];show Bt n (xK e.2 (bo l e.1)) o t+Bt n (wm l m) o t=R n (xK (turn e.2) (tO n (W e.1))) (cS (tu n W l)) o t+R n (Fd n W m) (cS (tu n W l)) o t;rw[ih o p t,B_,Mr];congr 1;obtain⟨f1,f2,f3⟩:=Jg hl pl pe;have va:=hW.va pe;have g1:j8 n (cS (bo l e.1)) (cS (Kv (W e.1) l)):=f3.trans ((vY (oN pe).1 (hW.r _ pe) ((oN pe).2.trans (hW.e _ pe).symm) pl).trans (SN pl va).symm);have g2:Bt n (bo l e.1)=Bt n (Kv (W e.1) l):=wZ n (BR f2 (GG va pl) g1);have g3:j8 n (Bt n (bo l e.1)) (Yw (W e.1) (cS (tu n W l))):=by
   rw[g2];exact(MP va pl).trans (xx va a3.symm)
  have g4:j8 n (R n (tO n (W e.1)) (cS (tu n W l))) (Yw (W e.1) (cS (tu n W l))):=(Tq a2 va (rD n)).trans (xx va (Tw a2));exact lA _ (g3.trans g4.symm) o p t
end He
namespace He
open PySem L2 Am Po
open Fw (Two rg yN Dn)
open Su (l8 Ps cS Gd vS toS adds bx)
theorem T9{n:Nat}{o:List Int}(po:o.Perm (rg n)):Iv.inv (bk o)=Iv.inv o:=by
 obtain⟨a,b⟩:=oN po;have va:=sE po;have var:Va n (sw n o).reverse:=λk hk=>va k (d_.mp hk);have c:=Wd.mE (sw n o).reverse var;rw[fY,b]at c;have e:=m8 ⟨po,Dz (mC n) var,c⟩ (mR po);have l:=o9 (Bp a);rw[e,Fw.uR,fB,zk po]at l;lia
noncomputable def fwd (o:List Int):List Nat:=(Fw.HA _ (bk o) (aO _)).choose
theorem Nc(o:List Int):Dn (bk o) (fwd o):=(Fw.HA _ (bk o) (aO _)).choose_spec
theorem HC{n:Nat}{o:List Int}(po:o.Perm (rg n)):Wd.jK (rg n) (fwd o)/\Wd.led (rg n) (fwd o)=o:=by
 have d:=Nc o;have va:Va n (fwd o):=by
  have:=d.va
  rwa [(nX po).length_eq,Wd.jI]at this
 have e:=(mR po).led d;refine⟨(yK (mC n) va).2 ?_,e⟩;rw[e,Fw.uR,d.len,T9 po,cA]
theorem D8:∀{w:List Nat}{l:List Int}{k:Nat},Wd.jK l (w++[k])->Wd.jK l w/\1<=k/\k<l.length/\(Wd.led l w).getD (k-1) 0<(Wd.led l w).getD k 0
 | [],_,_,h=>⟨trivial,h.1,h.2.1,h.2.2.1⟩
 | j::w,l,k,h=>by
  obtain⟨a,b,c,d⟩:=D8 (w:=w) h.2.2.2;rw[Wd.k_]at c;exact⟨⟨h.1,h.2.1,h.2.2.1,a⟩,b,c,d⟩
theorem zo{n:Nat}{o:List Int}(po:o.Perm (rg n)){k:Nat}(h:(fwd o).getLast?=some k):1<=k/\k<n/\l8 o k=true:=by
 obtain⟨a,b⟩:=HC po;obtain⟨w,hw⟩:=List.getLast?_eq_some_iff.mp h;rw[hw]at a b;obtain⟨_,c,d,e⟩:=D8 a;rw[Wd.rG]at b;have b:Wd.ex (Wd.led (rg n) w) k=o:=b;have lw:(Wd.led (rg n) w).length=n:=by rw[Wd.Cu,Wd.jI]
 rw[Wd.jI]at d;obtain⟨z1,z2⟩:=Su.IG c (show k<(Wd.led (rg n) w).length by lia);refine⟨c,d,bq ?_⟩;rw[<- b,z1,z2];exact e
noncomputable def Y8:Nat->List Int->List Nat
 | 0,_=>[]
 | m+1,o=>match (fwd o).getLast? with
  | none=>[]
  | some k=>Y8 m (Wd.ex o k)++[k]
noncomputable def vw (o:List Int):List Nat:=Y8 (Iv.inv o) o
theorem HU{n:Nat}{o:List Int}(po:o.Perm (rg n))(h:(fwd o).getLast?=none):o=rg n:=by
 have:=List.getLast?_eq_none_iff.mp h;have e:=(HC po).2;rw[this]at e;exact e.symm
theorem Vu(h:(fwd o).getLast?=none):vw o=[]:=by
 unfold vw
 cases Iv.inv o with
 | zero=>rfl
 | succ m=>unfold Y8;rw[h]
theorem H_{n:Nat}{o:List Int}(po:o.Perm (rg n)){k:Nat}(h:(fwd o).getLast?=some k):vw o=vw (Wd.ex o k)++[k]:=by
 obtain⟨a,b,c⟩:=zo po h;have lo:o.length=n:=by rw[po.length_eq,Wd.jI]
 have d:=Fw.nI a (by lia) (show o.getD k 0<o.getD (k-1) 0 by have:=bN c;lia);unfold vw;rw[d]
 conv=>lhs;unfold Y8
 rw[h]
theorem E4{n:Nat}:∀(m:Nat) {o:List Int},Iv.inv o=m->o.Perm (rg n)->Wd.jK (rg n) (vw o)/\Wd.led (rg n) (vw o)=o:=by
 intro m
 induction m with
 | zero=>
  intro o hm po;have e:o=rg n:=Fw.Jx po λk hk=>by
   have:=Fw.nI hk.1 hk.2.1 hk.2.2;lia
  have:vw o=[]:=by unfold vw;rw[hm];rfl
  rw[this,e];exact⟨trivial,rfl⟩
 | succ m ih=>
  intro o hm po
  cases h:(fwd o).getLast? with
  | none=>
   have e:=HU po h;rw[e,Fw.uR]at hm
   cases hm
  | some k=>
   obtain⟨a,b,c⟩:=zo po h;have lo:o.length=n:=by rw[po.length_eq,Wd.jI]
   have cc:=bN c;have d:=Fw.nI a (by lia) (show o.getD k 0<o.getD (k-1) 0 by lia);obtain⟨i1,i2⟩:=ih (o:=Wd.ex o k) (by lia) (mY po a b);rw[H_ po h];obtain⟨z1,z2⟩:=Su.IG a (show k<o.length by lia);refine⟨Wd.jK.snoc i1 a (by rw[Wd.jI];exact b) (by rw[i2,z1,z2];lia),?_⟩;rw[Wd.rG,i2];exact Fw.uz a (by lia)
theorem Cb(n:Nat):Fwd n vw:=⟨λo po=>(E4 _ rfl po).1,λo po=>(E4 _ rfl po).2⟩
noncomputable def tV (n:Nat)(o:List Int):Ps:=tO n (vw o)
theorem Wj{n:Nat}{o:List Int}(po:o.Perm (rg n))(h:(fwd o).getLast?=none):tV n o=[(o,[((0:Int),(1:Int))])]:=by
 unfold tV;rw[Vu h,HU po h];rfl
theorem RN{n:Nat}{o:List Int}(po:o.Perm (rg n)){k:Nat}(h:(fwd o).getLast?=some k):tV n o=yb k (tV n (Wd.ex o k)):=by
 unfold tV;rw[H_ po h];exact Pp _ _ _
theorem FB.Y{n P k:Nat}{f:Fn}(h:FB n P C f)(h0:1<=k)(h1:k<n):FB n (P+1) (5 * C) (Y k f):=by
 have x:=h.X h0 h1;refine⟨λo po t=>?_,λo po t ht=>?_⟩
 ·have a:=x.c o po t;have b:=h.c o po (t+1);have d:=h.c o po (t-1);show(He.X k f o t-(f o (t+1)-f o (t-1))).natAbs<=_;lia
 ·have a:=x.p o po t (by lia);have b:=h.p o po (t+1) (by lia);have d:=h.p o po (t-1) (by lia);show He.X k f o t-(f o (t+1)-f o (t-1))=0;lia
theorem Sz.yb{n P k:Nat}{l:Ps}(h:Sz n P C l)(h0:1<=k)(h1:k<n):Sz n (P+1) (5 * C) (yb k l):=by
 obtain⟨a,b,c⟩:=HN h0 h1 h.pm;exact⟨a,b,(h.fb.Y h0 h1).eq c⟩
theorem Sz.Iu{n:Nat}:∀{w:List Nat}{P C:Nat}{l:Ps},Sz n P C l->Va n w->Sz n (P+w.length) (5 ^ w.length * C) (Iu w l)
 | [],P,C,l,h,_=>by
  show Sz n (P+0) (1 * C) l;rw[add_zero,dZ];exact h
 | k::w,P,C,l,h,v=>by
  have v1:=v k (aG ..);have:=Sz.Iu (h.yb v1.1 v1.2) (w:=w) λj hj=>v j (aI _ hj);show Sz n (P+(w.length+1)) (5 ^ (w.length+1) * C) (He.Iu w (He.yb k l));rw[show P+(w.length+1)=P+1+w.length by lia,Nat.pow_succ,Nat.mul_assoc];exact this
theorem Vf(n:Nat):Sz n 0 1 (one n):=Sz.of (yR n) (rD n) λe he=>by
 rw[aV.mp he];exact⟨λq hq=>by rw[aV.mp hq];decide,λq hq=>by rw[aV.mp hq];decide⟩
theorem Ln{n:Nat}(hn:n<6){o:List Int}(po:o.Perm (rg n)):Sz n 25 (5 ^ 25) (tV n o):=by
 obtain⟨a,b⟩:=E4 _ rfl po;have l:=o9 a;rw[b,Fw.uR]at l;have i:=zd hn po;have:=(Vf n).Iu ((Cb n).va po);refine this.mono (by lia) ?_;rw[Nat.mul_one];exact iD (by decide) (by lia)
theorem PB.turn{c:Nat}{p:Pl}(h:PB Q c p):PB Q c (turn p):=by
 refine⟨λq hq=>?_,λq hq=>?_⟩
 ·obtain⟨x,hx,rfl⟩:=bg.mp hq;exact h.c x (d_.mp hx)
 ·obtain⟨x,hx,rfl⟩:=bg.mp hq;have:=h.p x (d_.mp hx);show(-x.1).natAbs<=Q;lia
theorem DW(p:Pl):(turn p).length=p.length:=by unfold turn;rw[aK,fB]
theorem FB.Bt{n c K:Nat}(hn:n<6):∀{m:Ps},(∀x∈m,x.1.Perm (rg n))->(∀x∈m,PB Q c x.2/\x.2.length<=K)->FB n (25+Q) (m.length * (K * (c * 5 ^ 25))) (Bt n m)
 | [],_,_=>FB.zero ..
 | e::m,hm,hb=>by
  have he:=hm e (aG ..);obtain⟨b1,b2⟩:=hb e (aG ..);have i:=FB.Bt hn (m:=m) (λx hx=>hm x (aI _ hx)) λx hx=>hb x (aI _ hx);have t:=(Ln hn he).fb.eq (L7 he (E4 _ rfl he).1 (E4 _ rfl he).2).2.2.symm;have b:=(t.kD b1.turn).mono (P':=25+Q) (C':=K * (c * 5 ^ 25)) (aO _) (by rw[DW];exact bJ _ b2);have d:=b.add i;show FB n _ ((m.length+1) * _) (He.add _ _);rw[dX,jg (m.length * _)];exact d
theorem Sz.tu{n c:Nat}(hn:n<6)(h:Sz n Q c m):Sz n (25+Q) (120 * ((2 * Q+1) * (c * 5 ^ 25))) (tu n vw m):=by
 obtain⟨a,b,d⟩:=yO (Cb n) h.pm;exact⟨a,b,((FB.Bt hn h.pm λx hx=>h.pb hx).mono (aO _) (bJ _ (h.many hn))).eq d⟩
theorem Sz.KN{n P c:Nat}{l:Ps}(h:Sz n P C l){p:Pl}(b:PB Q c p):Sz n (P+Q) (p.length * (c * C)) (KN p l):=by
 obtain⟨a1,a2⟩:=C5 (p:=p) h.pm;exact⟨a1,a2,by rw[C1];exact h.fb.kD b⟩
theorem UH(n:Nat):tu n vw (one n)=one n:=by
 obtain⟨a,b,c⟩:=yO (Cb n) (rD n);exact qP a (yR n) b (rD n) (c.trans (K5 n))
end He
namespace K91
open PySem L2 Am
noncomputable def top (i:Nat):aE:=PySem.Challenge.pw_undercells_k91_whole_products_and_turnin.main.body.getD i (.Pass ⟨0,0,0,0⟩)
noncomputable abbrev uS:aE:=top 5
noncomputable abbrev uV:List Str:=["thing"]
noncomputable abbrev uU:List Str:=["thing"]
noncomputable def uE:Sm:=
 lK (Fo (j6 (f2 Q7) (jt (ju 0) (jt (eC (.ty "int")) jB))) (UI (j6 (f2 Q7) (jt (ju 0) (jt (eC (.ty "bool")) jB)))))
noncomputable def pO:List A->jx->R A:=lC uV uE
noncomputable abbrev sq:aE:=top 6
noncomputable abbrev s_:List Str:=["one", "other"]
noncomputable abbrev sI:List Str:=["one", "other"]
noncomputable def sZ:Sm:=
 Dh (A8 (jJ (vR true) (j6 (f1 vI) (jt (ju 0) jB)) (j6 (f1 vI) (jt (ju 1) jB))))
 (Zx)
 ur
noncomputable def n_:List A->jx->R A:=lC s_ sZ
noncomputable abbrev FF:aE:=top 7
noncomputable abbrev GA:List Str:=["order", "places", "at", "thing"]
noncomputable abbrev CM:List Str:=["order"]
noncomputable def NF:Ic:=
 QD (ju 0)
noncomputable def Dt:Sm:=
 kg (jJ qp (ju 2) (eC (.int 1))) (Ws (ju 1) (jJ aSub (ju 3) (eC (.int 1))))
noncomputable def Fl:Sm:=
 j0 (kg (jJ xF (vd (jt (eC (.int 0)) jB)) (j6 (f1 vI) (jt (ju 0) jB))) (ku 1))
 (j0 (ly NF (xG 2 (oW (ku 2) (oW (ku 3) xO)))
 Dt)
 (lK (j6 (f1 rF) (jt (ju 1) jB))))
noncomputable def sD:List A->jx->R A:=lC GA Fl
noncomputable abbrev qk:aE:=top 8
noncomputable abbrev qg:List Str:=["n", "thing"]
noncomputable abbrev qh:List Str:=["n", "thing"]
noncomputable def qj:Sm:=
 lK (Fo (eFn pO (jt (ju 1) jB)) (WH Y7 WJ (eC (.int 1)) (ju 1) (ju 0)))
noncomputable def mF:List A->jx->R A:=lC qg qj
noncomputable abbrev mK:aE:=top 9
noncomputable abbrev mS:List Str:=["order", "i", "j", "things"]
noncomputable abbrev mL:List Str:=["order", "i", "j"]
noncomputable def mV:Sm:=
 j0 (kg (j6 (f1 vn) (jt (ju 0) jB)) (ku 3))
 (j0 (kg (qM (jt (jJ uX (ju 3) (jJ aSub (ju 2) (eC (.int 1)))) (jt (jJ uX (ju 3) (jJ aSub (ju 1) (eC (.int 1)))) jB))) (xG 2 (oW (Ws (ju 3) (jJ aSub (ju 1) (eC (.int 1)))) (oW (Ws (ju 3) (jJ aSub (ju 2) (eC (.int 1)))) xO))))
 (lK (j6 (f1 rF) (jt (ju 3) jB))))
noncomputable def kH:List A->jx->R A:=lC mS mV
noncomputable abbrev rZ:aE:=top 10
noncomputable abbrev sO:List Str:=["order", "k"]
noncomputable abbrev kX:List Str:=["order", "k"]
noncomputable def sN:Sm:=
 j0 (Dh (U0 (Ac (eFn mF (jt (j6 (f1 vI) (jt (ju 0) jB)) (jt (ju 1) jB)))))
 (Zx)
 ur)
 (lK (eFn kH (jt (ju 0) (jt (ju 1) (jt (jJ qp (ju 1) (eC (.int 1))) jB)))))
noncomputable def j4:List A->jx->R A:=lC sO sN
noncomputable abbrev BE:aE:=top 11
noncomputable abbrev CT:List Str:=["order"]
noncomputable abbrev tZ:List Str:=["order"]
noncomputable def Ca:Sm:=
 lK (kP [none,some 0] (zz (eC (.int 1)) (j6 (f1 vI) (jt (ju 0) jB))) (ku 0) (A8 (jJ WD (jJ uX (ju 1) (jJ aSub (ju 0) (eC (.int 1)))) (jJ uX (ju 1) (ju 0)))) (ju 0))
noncomputable def ny:List A->jx->R A:=lC CT Ca
noncomputable abbrev oA:aE:=top 14
noncomputable abbrev oJ:List Str:=["numbers"]
noncomputable abbrev mJ:List Str:=["numbers"]
noncomputable def oM:Sm:=
 lK (kP [none,some 0] (nO (j6 (f1 r8) (jt (ju 0) jB))) (ku 0) (A8 (jJ (vR true) (jJ wj (ju 1) (ju 0)) (eC (.int 0)))) (qM (jt (ju 0) (jt (jJ wj (ju 1) (ju 0)) jB))))
noncomputable def kB:List A->jx->R A:=lC oJ oM
noncomputable abbrev FL:aE:=top 15
noncomputable abbrev F4:List Str:=["one", "other", "numbers", "power", "number"]
noncomputable abbrev F1:List Str:=["one", "other"]
noncomputable def uZ:Ic:=
 nO (ju 1)
noncomputable def D6:Sm:=
 kg (jJ qp (Kh xy (ju 2) (jt (ju 3) (jt (eC (.int 0)) jB))) (ju 4)) (FP (ju 2) (ju 3))
noncomputable def FH:Sm:=
 j0 (kg (j6 (f1 Gx) (jt (ju 0) jB)) (ku 2))
 (j0 (ly uZ (xG 2 (oW (ku 3) (oW (ku 4) xO)))
 D6)
 (lK (eFn kB (jt (ju 2) jB))))
noncomputable def zN:List A->jx->R A:=lC F4 FH
noncomputable abbrev Cy:aE:=top 16
noncomputable abbrev BP:List Str:=["one", "other", "numbers", "power", "number", "high", "many"]
noncomputable abbrev tD:List Str:=["one", "other"]
noncomputable def Ko:Ic:=
 nO (ju 1)
noncomputable def Kr:Sm:=
 kg (jJ qp (Kh xy (ju 2) (jt (jJ qp (ju 3) (ju 5)) (jt (eC (.int 0)) jB))) (jJ Ip (ju 4) (ju 6))) (FP (ju 2) (jJ qp (ju 3) (ju 5)))
noncomputable def AB:Ic:=
 nO (ju 0)
noncomputable def Ay:Sm:=
 ly Ko (xG 2 (oW (ku 5) (oW (ku 6) xO)))
 Kr
noncomputable def CZ:Sm:=
 j0 (kg CJ (ku 2))
 (j0 (ly AB (xG 2 (oW (ku 3) (oW (ku 4) xO)))
 Ay)
 (lK (eFn kB (jt (ju 2) jB))))
noncomputable def mj:List A->jx->R A:=lC BP CZ
noncomputable abbrev yL:aE:=top 17
noncomputable abbrev zR:List Str:=["one"]
noncomputable abbrev yM:List Str:=["one"]
noncomputable def zO:Sm:=
 lK (kP [none,none] (W8 (ju 0)) (xG 2 (oW (ku 0) (oW (ku 1) xO))) vK (qM (jt (QC BJ (ju 0)) (jt (ju 1) jB))))
noncomputable def sJ:List A->jx->R A:=lC zR zO
noncomputable abbrev rq:aE:=top 20
noncomputable abbrev q_:List Str:=["found", "order", "poly"]
noncomputable abbrev lg:List Str:=["found", "order", "poly"]
noncomputable def rK:Sm:=
 kg (eFn zN (jt (V_ Ug (ju 0) (jt (ju 1) (jt (vd jB) jB))) (jt (ju 2) jB))) (E2 (ju 0) (ju 1))
noncomputable def jR:List A->jx->R A:=lC q_ rK
noncomputable abbrev yJ:aE:=top 21
noncomputable abbrev yC:List Str:=["found"]
noncomputable abbrev oZ:List Str:=["found"]
noncomputable def zM:Sm:=
 lK (kP [none,some 0] (nO (j6 (f1 wK) (jt (ju 0) jB))) (ku 0) (Ac (jJ vq (ju 1) (ju 0))) (qM (jt (ju 0) (jt (jJ vq (ju 1) (ju 0)) jB))))
noncomputable def kM:List A->jx->R A:=lC yC zM
noncomputable abbrev rX:aE:=top 22
noncomputable abbrev rV:List Str:=["one", "other"]
noncomputable abbrev p6:List Str:=["one", "other"]
noncomputable def r6:Sm:=
 Dh (Qs (Ac (ju 0)) (Ac (ju 1)))
 (o5 (eFn n_ (jt (jJ uX (jJ uX (ju 0) (eC (.int 0))) (eC (.int 0))) (jt (jJ uX (jJ uX (ju 1) (eC (.int 0))) (eC (.int 0))) jB))))
 ur
noncomputable def lV:List A->jx->R A:=lC rV r6
noncomputable abbrev CL:aE:=top 23
noncomputable abbrev B6:List Str:=["one", "other", "found", "order", "poly"]
noncomputable abbrev uY:List Str:=["one", "other"]
noncomputable def tQ:Ic:=
 nO (jJ qp (ju 0) (ju 1))
noncomputable def AZ:Sm:=
 o5 (eFn jR (jt (ju 2) (jt (ju 3) (jt (ju 4) jB))))
noncomputable def BL:Sm:=
 j0 (o5 (eFn lV (jt (ju 0) (jt (ju 1) jB))))
 (j0 (kg ux (ku 2))
 (j0 (ly tQ (xG 2 (oW (ku 3) (oW (ku 4) xO)))
 AZ)
 (lK (eFn kM (jt (ju 2) jB)))))
noncomputable def nU:List A->jx->R A:=lC B6 BL
noncomputable abbrev zG:aE:=top 24
noncomputable abbrev yG:List Str:=["poly", "one", "found", "order", "many"]
noncomputable abbrev vc:List Str:=["poly", "one"]
noncomputable def rf:Ic:=
 nO (ju 1)
noncomputable def rz:Sm:=
 o5 (eFn jR (jt (ju 2) (jt (ju 3) (jt (eFn mj (jt (ju 0) (jt (ju 4) jB))) jB))))
noncomputable def za:Sm:=
 j0 (kg ux (ku 2))
 (j0 (ly rf (xG 2 (oW (ku 3) (oW (ku 4) xO)))
 rz)
 (lK (eFn kM (jt (ju 2) jB))))
noncomputable def qO:List A->jx->R A:=lC yG za
noncomputable abbrev qu:aE:=top 25
noncomputable abbrev qi:List Str:=["one", "k", "found", "order", "poly"]
noncomputable abbrev lI:List Str:=["one", "k"]
noncomputable def mH:Ic:=
 nO (ju 0)
noncomputable def lD:Sm:=
 j0 (o5 (eFn jR (jt (ju 2) (jt (eFn j4 (jt (ju 3) (jt (ju 1) jB))) (jt (ju 4) jB)))))
 (Dh (A8 (jJ (Z5 false) (ju 1) (eFn ny (jt (ju 3) jB))))
 (o5 (eFn jR (jt (ju 2) (jt (ju 3) (jt (eFn mj (jt (j6 (f1 vn) (jt (eC (.frz ([((-1:Int),(1:Int)),((1:Int),(-1:Int))].map kA))) jB)) (jt (ju 4) jB))) jB)))))
 ur)
noncomputable def qe:Sm:=
 j0 (kg ux (ku 2))
 (j0 (ly mH (xG 2 (oW (ku 3) (oW (ku 4) xO)))
 lD)
 (lK (eFn kM (jt (ju 2) jB))))
noncomputable def ki:List A->jx->R A:=lC qi qe
noncomputable abbrev qV:aE:=top 26
noncomputable abbrev pK:List Str:=["one", "order", "known", "ends", "ahead"]
noncomputable abbrev nL:List Str:=["one", "order", "known"]
noncomputable def o8 (Fs:List A->jx->R A):Sm:=
 j0 (Dh (A8 (jJ (J4 true) (ju 1) (ju 2)))
 (j0 (kg (eFn ny (jt (ju 1) jB)) (ku 3))
 (Dh (Ac (ju 3))
 (j0 (kg (eFn Fs (jt (ju 0) (jt (eFn j4 (jt (ju 1) (jt (jJ uX (ju 3) (eC (.int 0))) jB))) (jt (ju 2) jB)))) (ku 4))
 (kg (eFn ki (jt (ju 4) (jt (jJ uX (ju 3) (eC (.int 0))) jB))) (E2 (ju 2) (ju 1))))
 (kg (ju 0) (E2 (ju 2) (ju 1)))))
 ur)
 (lK (jJ vq (ju 2) (ju 1)))
noncomputable def n8:Nat->List A->jx->R A
 | 0=>λ_ _=>.no
 | k+1=>lC pK (o8 (n8 k))
noncomputable def uK:List A->jx->R A:=n8 26
noncomputable abbrev sS:aE:=top 27
noncomputable abbrev sj:List Str:=["one", "other", "found", "known", "order", "poly", "at", "many"]
noncomputable abbrev rT:List Str:=["one", "other"]
noncomputable def qd:Ic:=
 nO (eFn uK (jt (ju 0) (jt (ju 4) (jt (ju 3) jB))))
noncomputable def qq:Sm:=
 o5 (eFn jR (jt (ju 2) (jt (ju 6) (jt (eFn mj (jt (ju 5) (jt (ju 7) jB))) jB))))
noncomputable def nW:Ic:=
 nO (ju 1)
noncomputable def nY:Sm:=
 ly qd (xG 2 (oW (ku 6) (oW (ku 7) xO)))
 qq
noncomputable def sH:Sm:=
 j0 (kg ux (ku 2))
 (j0 (kg ux (ku 3))
 (j0 (ly nW (xG 2 (oW (ku 4) (oW (ku 5) xO)))
 nY)
 (lK (eFn kM (jt (ju 2) jB)))))
noncomputable def mZ:List A->jx->R A:=lC sj sH
noncomputable abbrev rB:aE:=top 28
noncomputable abbrev rm:List Str:=["one"]
noncomputable abbrev qR:List Str:=["one"]
noncomputable def qY:Sm:=
 lK (j6 (f1 BW) (jt (kP [none,none] (nO (ju 0)) (xG 2 (oW (ku 0) (oW (ku 1) xO))) vK (qM (jt (eFn sD (jt (ju 0) jB)) (jt (ju 1) jB)))) jB))
noncomputable def kZ:List A->jx->R A:=lC rm qY
noncomputable abbrev v9:aE:=top 29
noncomputable abbrev tW:List Str:=["one", "other"]
noncomputable abbrev wG:List Str:=["one", "other"]
noncomputable def t7:Sm:=
 j0 (o5 (eFn lV (jt (ju 0) (jt (ju 1) jB))))
 (j0 (Dh (A8 (jJ ZH (j6 (f1 vI) (jt (ju 0) jB)) (j6 (f1 vI) (jt (ju 1) jB))))
 (lK (eFn mZ (jt (ju 0) (jt (ju 1) jB))))
 ur)
 (lK (eFn kZ (jt (eFn mZ (jt (eFn kZ (jt (ju 1) jB)) (jt (eFn kZ (jt (ju 0) jB)) jB))) jB))))
noncomputable def j_:List A->jx->R A:=lC tW t7
noncomputable abbrev rO:aE:=top 31
noncomputable abbrev qW:List Str:=["order", "left", "word", "can_begin"]
noncomputable abbrev oU:List Str:=["order"]
noncomputable def pD:Te:=
 Ac (ju 3)
noncomputable def pJ:Sm:=
 j0 (o5 (YK xQ (ju 2) (jt (jJ uX (ju 3) (eC (.int 0))) jB)))
 (j0 (kg (eFn j4 (jt (ju 1) (jt (jJ uX (ju 3) (eC (.int 0))) jB))) (ku 1))
 (kg (eFn ny (jt (ju 1) jB)) (ku 3)))
noncomputable def qQ:Sm:=
 j0 (kg (eFn sD (jt (ju 0) jB)) (ku 1))
 (j0 (kg (vd jB) (ku 2))
 (j0 (kg (eFn ny (jt (ju 1) jB)) (ku 3))
 (j0 (nv pD
 pJ 1000000)
 (lK (ju 2)))))
noncomputable def mh:List A->jx->R A:=lC qW qQ
noncomputable abbrev nH:aE:=top 33
noncomputable abbrev lU:List Str:=["order", "known", "word", "ahead"]
noncomputable abbrev kW:List Str:=["order", "known"]
noncomputable def lX (Fs:List A->jx->R A):Sm:=
 j0 (Dh (A8 (jJ (J4 true) (ju 0) (ju 1)))
 (j0 (kg (eFn mh (jt (ju 0) jB)) (ku 2))
 (Dh (Ac (ju 2))
 (j0 (kg (eFn Fs (jt (eFn j4 (jt (ju 0) (jt (jJ uX (ju 2) (QC BJ (eC (.int 1)))) jB))) (jt (ju 1) jB))) (ku 3))
 (kg (eFn nU (jt (eFn ki (jt (ju 3) (jt (jJ uX (ju 2) (QC BJ (eC (.int 1)))) jB))) (jt (eFn qO (jt (j6 (f1 vn) (jt (eC (.frz ([((-1:Int),(-1:Int)),((1:Int),(1:Int))].map kA))) jB)) (jt (ju 3) jB))) jB))) (E2 (ju 1) (ju 0))))
 (kg (vd (jt (qM (jt (ju 0) (jt (vd (jt (qM (jt (eC (.int 0)) (jt (eC (.int 1)) jB))) jB)) jB))) jB)) (E2 (ju 1) (ju 0)))))
 ur)
 (lK (jJ vq (ju 1) (ju 0)))
noncomputable def lE:Nat->List A->jx->R A
 | 0=>λ_ _=>.no
 | k+1=>lC lU (lX (lE k))
noncomputable def pC:List A->jx->R A:=lE 26
noncomputable abbrev wu:aE:=top 34
noncomputable abbrev wO:List Str:=["one", "found", "known", "order", "poly", "at", "many"]
noncomputable abbrev vX:List Str:=["one"]
noncomputable def rY:Ic:=
 nO (eFn pC (jt (ju 3) (jt (ju 2) jB)))
noncomputable def r_:Sm:=
 o5 (eFn jR (jt (ju 1) (jt (ju 5) (jt (eFn mj (jt (eFn sJ (jt (ju 4) jB)) (jt (ju 6) jB))) jB))))
noncomputable def p8:Ic:=
 nO (ju 0)
noncomputable def pX:Sm:=
 ly rY (xG 2 (oW (ku 5) (oW (ku 6) xO)))
 r_
noncomputable def wJ:Sm:=
 j0 (kg ux (ku 1))
 (j0 (kg ux (ku 2))
 (j0 (ly p8 (xG 2 (oW (ku 3) (oW (ku 4) xO)))
 pX)
 (lK (eFn kM (jt (ju 1) jB)))))
noncomputable def kQ:List A->jx->R A:=lC wO wJ
noncomputable abbrev uD:aE:=top 36
noncomputable abbrev uL:List Str:=["_law_script", "_law_k"]
noncomputable abbrev uP:List Str:=["_law_script", "_law_k"]
noncomputable def uJ:Sm:=
 j0 (Dh (A8 (jJ WJ (ju 1) (j6 (f1 vI) (jt (ju 0) jB))))
 (lK (jJ uX (ju 0) (ju 1)))
 ur)
 (lK (eC (.int 0)))
noncomputable def mX:List A->jx->R A:=lC uL uJ
noncomputable abbrev wW:aE:=top 37
noncomputable abbrev wC:List Str:=["_law_cell_here", "_law_place", "_law_far"]
noncomputable abbrev wB:List Str:=["_law_cell_here", "_law_place"]
noncomputable def wg:Sm:=
 j0 (kg (j6 (f1 UG) (jt (ju 0) jB)) (ku 2))
 (j0 (Dh (A8 (jJ WJ (ju 2) (jJ Vn (eC (.int 10)) (eC (.int 18)))))
 (kg (eC (.int 0)) (ku 2))
 ur)
 (lK (vd (jt (ju 2) (jt (jJ CD (jJ qp (jJ qp (jJ xF (jJ CD (ju 0) (eC (.int 2147483647))) (eC (.int 69621))) (jJ xF (eC (.int 7919)) (ju 1))) (eC (.int 13))) (eC (.int 2147483647))) jB)))))
noncomputable def m7:List A->jx->R A:=lC wC wg
noncomputable abbrev sG:aE:=top 38
noncomputable abbrev se:List Str:=["_law_bag_here"]
noncomputable abbrev sA:List Str:=["_law_bag_here"]
noncomputable def sQ:Sm:=
 j0 (kg (jJ CD (jJ qp (jJ xF (jJ uX (ju 0) (eC (.int 1))) (eC (.int 48271))) (eC (.int 11))) (eC (.int 2147483647))) (Ws (ju 0) (eC (.int 1))))
 (lK (jJ HG (jJ CD (jJ xF (jJ uX (ju 0) (eC (.int 1))) (eC (.int 16807))) (eC (.int 2147483629))) (eC (.int 8))))
noncomputable def m5:List A->jx->R A:=lC se sQ
noncomputable abbrev sF:aE:=top 39
noncomputable abbrev qa:List Str:=["_law_bag_here", "_law_many", "_law_found", "_law_k"]
noncomputable abbrev oq:List Str:=["_law_bag_here", "_law_many"]
noncomputable def Aj:Ic:=
 vQ (eC (.int 7))
noncomputable def zW:Sm:=
 kg (jJ qp (jJ xF (ju 2) (eC (.int 268435399))) (eFn m5 (jt (ju 0) jB))) (ku 2)
noncomputable def pZ:Sm:=
 j0 (Dh (A8 (jJ WD (jJ uX (ju 0) (eC (.int 0))) (eC (.int 0))))
 (j0 (kg (jJ CD (jJ uX (ju 0) (eC (.int 0))) (ju 1)) (ku 2))
 (j0 (kg (jJ HG (jJ uX (ju 0) (eC (.int 0))) (ju 1)) (Ws (ju 0) (eC (.int 0))))
 (lK (ju 2))))
 ur)
 (j0 (kg (eFn m5 (jt (ju 0) jB)) (ku 2))
 (j0 (Dh (A8 (jJ WD (ju 1) (eC (.int 1000))))
 (ly Aj (ku 3)
 zW)
 ur)
 (lK (jJ CD (ju 2) (ju 1)))))
noncomputable def jT:List A->jx->R A:=lC qa pZ
noncomputable abbrev r9:aE:=top 40
noncomputable abbrev sf:List Str:=["_law_bag_here", "_law_n", "_law_left", "_law_found", "_law_k"]
noncomputable abbrev sU:List Str:=["_law_bag_here", "_law_n"]
noncomputable def Ad:Ic:=
 vQ (ju 1)
noncomputable def uw:Sm:=
 o5 (YK xQ (ju 3) (jt (YK FG (ju 2) (jt (eFn jT (jt (ju 0) (jt (j6 (f1 vI) (jt (ju 2) jB)) jB))) jB)) jB))
noncomputable def sW:Sm:=
 j0 (kg (j6 (f1 vn) (jt (j6 (f2 xX) (jt (eC (.int 1)) (jt (jJ qp (ju 1) (eC (.int 1))) jB))) jB)) (ku 2))
 (j0 (kg (vd jB) (ku 3))
 (j0 (ly Ad (ku 4)
 uw)
 (lK (j6 (f1 rF) (jt (ju 3) jB)))))
noncomputable def n9:List A->jx->R A:=lC sf sW
noncomputable abbrev oG:aE:=top 41
noncomputable abbrev oB:List Str:=["_law_bag_here", "_law_n", "_law_found", "_law_k", "_law_poly", "_law_turn"]
noncomputable abbrev ow:List Str:=["_law_bag_here", "_law_n"]
noncomputable def nj:Ic:=
 vQ (jJ qp (eC (.int 1)) (eFn jT (jt (ju 0) (jt (eC (.int 2)) jB))))
noncomputable def nG:Sm:=
 kg (jJ uX (vd (jt (eC (.int 1)) (jt (QC BJ (eC (.int 1))) (jt (eC (.int 2)) (jt (eC (.int 3)) (jt (QC BJ (eC (.int 2))) (jt (eC (.int 5)) jB))))))) (eFn jT (jt (ju 0) (jt (eC (.int 6)) jB)))) (FP (ju 4) (jJ aSub (eFn jT (jt (ju 0) (jt (eC (.int 9)) jB))) (eC (.int 4))))
noncomputable def pV:Ic:=
 vQ (jJ uX (vd (jt (eC (.int 2)) (jt (eC (.int 1)) (jt (eC (.int 3)) (jt (eC (.int 2)) (jt (eC (.int 0)) jB)))))) (eFn jT (jt (ju 0) (jt (eC (.int 5)) jB))))
noncomputable def p9:Sm:=
 j0 (kg CJ (ku 4))
 (j0 (ly nj (ku 5)
 nG)
 (kg (kP [none,some 4] (nO (j6 (f1 r8) (jt (ju 4) jB))) (ku 0) vK (qM (jt (ju 0) (jt (jJ wj (ju 1) (ju 0)) jB)))) (E2 (ju 2) (eFn n9 (jt (ju 0) (jt (ju 1) jB))))))
noncomputable def oK:Sm:=
 j0 (kg ux (ku 2))
 (j0 (ly pV (ku 3)
 p9)
 (lK (kP [none,some 2] (nO (j6 (f1 wK) (jt (ju 2) jB))) (ku 0) vK (qM (jt (ju 0) (jt (jJ vq (ju 1) (ju 0)) jB))))))
noncomputable def j7:List A->jx->R A:=lC oB oK
noncomputable abbrev OA:aE:=top 42
noncomputable abbrev Ox:List Str:=["_law_script", "_law_bag_here", "_law_n", "_law_one", "_law_other", "_law_third", "_law_both", "_law_plain"]
noncomputable abbrev SO:List Str:=["_law_script"]
noncomputable def LS:Sm:=
 j0 (kg (eFn m7 (jt (eFn mX (jt (ju 0) (jt (eC (.int 0)) jB))) (jt (eC (.int 1)) jB))) (ku 1))
 (j0 (kg (jJ uX (vd (jt (eC (.int 3)) (jt (eC (.int 4)) (jt (eC (.int 3)) (jt (eC (.int 2)) (jt (eC (.int 3)) (jt (eC (.int 1)) jB))))))) (eFn jT (jt (ju 1) (jt (eC (.int 6)) jB)))) (ku 2))
 (j0 (kg (eFn j7 (jt (ju 1) (jt (ju 2) jB))) (ku 3))
 (j0 (kg (eFn j7 (jt (eFn m7 (jt (eFn mX (jt (ju 0) (jt (eC (.int 1)) jB))) (jt (eC (.int 2)) jB))) (jt (ju 2) jB))) (ku 4))
 (j0 (kg (eFn j7 (jt (eFn m7 (jt (eFn mX (jt (ju 0) (jt (eC (.int 2)) jB))) (jt (eC (.int 3)) jB))) (jt (ju 2) jB))) (ku 5))
 (j0 (kg (eFn j_ (jt (ju 3) (jt (ju 4) jB))) (ku 6))
 (j0 (Dh (Y9 (A8 (jJ (vR true) (eFn kQ (jt (ju 6) jB)) (eFn j_ (jt (eFn kQ (jt (ju 3) jB)) (jt (eFn kQ (jt (ju 4) jB)) jB))))) (A8 (jJ (vR true) (eFn kQ (jt (eFn kQ (jt (ju 3) jB)) jB)) (ju 3))))
 (lK (eC (.bl false)))
 ur)
 (j0 (Dh (A8 (jJ (vR true) (eFn j_ (jt (ju 6) (jt (ju 5) jB))) (eFn j_ (jt (ju 3) (jt (eFn j_ (jt (ju 4) (jt (ju 5) jB))) jB)))))
 (lK (eC (.bl false)))
 ur)
 (j0 (Dh (A8 (jJ (vR true) (eFn j_ (jt (ju 3) (jt (eFn nU (jt (ju 4) (jt (ju 5) jB))) jB))) (eFn nU (jt (ju 6) (jt (eFn j_ (jt (ju 3) (jt (ju 5) jB))) jB)))))
 (lK (eC (.bl false)))
 ur)
 (j0 (kg (vd (jt (qM (jt (j6 (f1 rF) (jt (j6 (f2 xX) (jt (eC (.int 1)) (jt (jJ qp (ju 2) (eC (.int 1))) jB))) jB)) (jt (vd (jt (qM (jt (eC (.int 0)) (jt (eC (.int 1)) jB))) jB)) jB))) jB)) (ku 7))
 (lK (Fo (jJ (vR false) (eFn j_ (jt (ju 3) (jt (ju 7) jB))) (ju 3)) (Fo (jJ (vR false) (eFn j_ (jt (ju 7) (jt (ju 3) jB))) (ju 3)) (jJ (vR false) (eFn kQ (jt (ju 7) jB)) (ju 7))))))))))))))
noncomputable def Bb:List A->jx->R A:=lC Ox LS
section
variable {P:aj}{w:ah}{K:au}{mg:Str->Option af}{base:aq}{f:ak}{fd:FuncData}
theorem Ew:FnScope uV uU (jH uS):=uF rfl rfl rfl (by decide +kernel)
theorem EN(F:Fun K "is_whole" "is_whole" uS f fd)(aaJ:mg "isinstance" = none)(aaM:mg "bool" = none)(aaN:mg "int" = none):FnOk P w K mg base pQ 1 f fd uU (qv K 1 pO):=uI (m:=uE) F Ew λcdv B outer s H E hr=>
 jC (jZ (C_ (kj SQ aaJ uA (jv (jq 0) (jv (TN aaN Vz) jF))) (FT (VT (kj SQ aaJ uA (jv (jq 0) (jv (TN aaM Ru) jF)))))))
theorem Cs:FnScope s_ sI (jH sq):=uF rfl rfl rfl (by decide +kernel)
theorem Cw(F:Fun K "need_pair" "need_pair" sq f fd)(aab:mg "len" = none):FnOk P w K mg base pQ 1 f fd sI (qv K 2 n_):=uI (m:=sZ) F Cs λcdv B outer s H E hr=>
 jC (oO (mO (KQ hr.units) (kj vM aab rC (jv (jq 0) jF)) (kj vM aab rC (jv (jq 1) jF)))
 (jC (Tv))
 lN)
theorem ya:FnScope GA CM (jH FF):=uF rfl rfl rfl (by decide +kernel)
theorem Rb(F:Fun K "back" "back" FF f fd)(aab:mg "len" = none)(aaO:mg "enumerate" = none)(aat:mg "tuple" = none):FnOk P w K mg base pQ 1 f fd CM (qv K 1 sD):=uI (m:=Fl) F ya λcdv B outer s H E hr=>
 jy (jY (i:=1) ya.nd (jV Bj (oE (jv jA jF)) (kj vM aab rC (jv (jq 0) jF))))
 (jy (mQ bZ rfl (Vp aaO (jq 0)) (nB rfl (jP (jO (i:=2) ya.nd) (jP (jO (i:=3) ya.nd) lO)))
 (jC (nM (jV p5 (jq 2) jA) (yP (jq 1) (jV zJ (jq 3) jA)))))
 (jC (jZ (lY (xR rfl) aat u_ (jv (jq 1) jF)))))
theorem yw:FnScope qg qh (jH qk):=uF rfl rfl rfl (by decide +kernel)
theorem zA(F:Fun K "is_exchange" "is_exchange" qk f fd)(aaP:mq P w K mg base 1 "is_whole" uU pO):FnOk P w K mg base pQ 2 f fd qh (qv K 2 mF):=uI (m:=qj) F yw λcdv B outer s H E hr=>
 jC (jZ (C_ (xE aaP hr (jq 1)) (FT (YN Z0 (Wi hr.units) jA (jq 1) (jq 0)))))
theorem oQ:FnScope mS mL (jH mK):=uF rfl rfl rfl (by decide +kernel)
theorem um(F:Fun K "exchanged_places" "exchanged_places" mK f fd)(aap:mg "list" = none)(aat:mg "tuple" = none):FnOk P w K mg base pQ 1 f fd mL (qv K 3 kH):=uI (m:=mV) F oQ λcdv B outer s H E hr=>
 jy (jY (i:=3) oQ.nd (lY (CG rfl) aap xS (jv (jq 0) jF)))
 (jy (nM (pF (jv (lR (jq 3) (jV zJ (jq 2) jA)) (jv (lR (jq 3) (jV zJ (jq 1) jA)) jF))) (nB rfl (jP (yP (jq 3) (jV zJ (jq 1) jA)) (jP (yP (jq 3) (jV zJ (jq 2) jA)) lO))))
 (jC (jZ (lY (xR rfl) aat u_ (jv (jq 3) jF)))))
theorem BF:FnScope sO kX (jH rZ):=uF rfl rfl rfl (by decide +kernel)
theorem C7(F:Fun K "exchanged" "exchanged" rZ f fd)(aab:mg "len" = none)(aaQ:mq P w K mg base 2 "is_exchange" qh mF)(aaR:mq P w K mg base 1 "exchanged_places" mL kH):FnOk P w K mg base pQ 3 f fd kX (qv K 2 j4):=uI (m:=sN) F BF λcdv B outer s H E hr=>
 jy (oO (Ud (uG (qN aaQ hr (kj vM aab rC (jv (jq 0) jF)) (jq 1))))
 (jC (Tv))
 lN)
 (jC (jZ (RW aaR hr (jq 0) (jq 1) (jV p5 (jq 1) jA))))
theorem Oz:FnScope CT tZ (jH BE):=uF rfl rfl rfl (by decide +kernel)
theorem N3(F:Fun K "falls" "falls" BE f fd)(aaf:mg "range" = none)(aab:mg "len" = none):FnOk P w K mg base pQ 1 f fd tZ (qv K 1 ny):=uI (m:=Ca) F Oz λcdv B outer s H E hr=>
 jC (jZ (rE (N:=["k", "order"]) (cap:=[none,some 0]) rfl (zy ["order"] rfl (by decide +kernel) (by decide +kernel) (by decide +kernel) (by decide +kernel) (by decide +kernel) (eX.mpr ⟨by first|exact Or.inl rfl|exact Or.inr rfl,(λ_ h=>nomatch h)⟩) ⟨rfl,by decide +kernel,trivial⟩) (Kz aaf jA (kj vM aab rC (jv (jq 0) jF))) (λ_ _ _ _=>jO (i:=0) (show(["k", "order"]:List Str).Nodup by decide +kernel) rfl (Or.inl rfl) (.inr rfl)) (λ_ _ _ _=>BY (mO (VV hr.units) (lR (jq 1) (jV zJ (jq 0) jA)) (lR (jq 1) (jq 0)))) (λ_ _ _ _=>jq 0)))
theorem wR:FnScope oJ mJ (jH oA):=uF rfl rfl rfl (by decide +kernel)
theorem wo(F:Fun K "as_polynomial" "as_polynomial" oA f fd)(aar:mg "sorted" = none):FnOk P w K mg base pQ 1 f fd mJ (qv K 1 kB):=uI (m:=oM) F wR λcdv B outer s H E hr=>
 jC (jZ (rE (N:=["power", "numbers"]) (cap:=[none,some 0]) rfl (zy ["numbers"] rfl (by decide +kernel) (by decide +kernel) (by decide +kernel) (by decide +kernel) (by decide +kernel) (eX.mpr ⟨by first|exact Or.inl rfl|exact Or.inr rfl,(λ_ h=>nomatch h)⟩) ⟨rfl,by decide +kernel,trivial⟩) (mW (kj (IT rfl) aar qD (jv (jq 0) jF))) (λ_ _ _ _=>jO (i:=0) (show(["power", "numbers"]:List Str).Nodup by decide +kernel) rfl (Or.inl rfl) (.inr rfl)) (λ_ _ _ _=>BY (mO (KQ hr.units) (Fg hr.units (jq 1) (jq 0)) jA)) (λ_ _ _ _=>pF (jv (jq 0) (jv (Fg hr.units (jq 1) (jq 0)) jF)))))
theorem yt:FnScope F4 F1 (jH FL):=uF rfl rfl rfl (by decide +kernel)
theorem RI(F:Fun K "plus" "plus" FL f fd)(aaS:mg "dict" = none)(aaA:mq P w K mg base 1 "as_polynomial" mJ kB):FnOk P w K mg base pQ 2 f fd F1 (qv K 2 zN):=uI (m:=FH) F yt λcdv B outer s H E hr=>
 jy (jY (i:=2) yt.nd (lY (PU rfl) aaS Qj (jv (jq 0) jF)))
 (jy (mQ bZ rfl (mW (jq 1)) (nB rfl (jP (jO (i:=3) yt.nd) (jP (jO (i:=4) yt.nd) lO)))
 (jC (nM (jV p5 (Oi dm ie (Pg hr.units) (jq 2) (jv (jq 3) (jv jA jF))) (jq 4)) (Ct hr.units (jq 2) (jq 3)))))
 (jC (jZ (xE aaA hr (jq 2)))))
theorem qx:FnScope BP tD (jH Cy):=uF rfl rfl rfl (by decide +kernel)
theorem LQ(F:Fun K "times" "times" Cy f fd)(aaA:mq P w K mg base 1 "as_polynomial" mJ kB):FnOk P w K mg base pQ 2 f fd tD (qv K 2 mj):=uI (m:=CZ) F qx λcdv B outer s H E hr=>
 jy (jY (i:=2) qx.nd EG)
 (jy (mQ bZ rfl (mW (jq 0)) (nB rfl (jP (jO (i:=3) qx.nd) (jP (jO (i:=4) qx.nd) lO)))
 (jC (mQ bZ rfl (mW (jq 1)) (nB rfl (jP (jO (i:=5) qx.nd) (jP (jO (i:=6) qx.nd) lO)))
 (jC (nM (jV p5 (Oi dm ie (Pg hr.units) (jq 2) (jv (jV p5 (jq 3) (jq 5)) (jv jA jF))) (jV VH (jq 4) (jq 6))) (Ct hr.units (jq 2) (jV p5 (jq 3) (jq 5))))))))
 (jC (jZ (xE aaA hr (jq 2)))))
theorem KS:FnScope zR yM (jH yL):=uF rfl rfl rfl (by decide +kernel)
theorem Ks(F:Fun K "turned" "turned" yL f fd)(aaT:mg "reversed" = none):FnOk P w K mg base pQ 1 f fd yM (qv K 1 sJ):=uI (m:=zO) F KS λcdv B outer s H E hr=>
 jC (jZ (rE (N:=["power", "number"]) (cap:=[none,none]) rfl (zy [] rfl (by decide +kernel) (by decide +kernel) (by decide +kernel) (by decide +kernel) (by decide +kernel) (λ_ h=>nomatch h) trivial) (Wx aaT (jq 0)) (λ_ _ _ _=>nB rfl (jP (jO (i:=0) (show(["power", "number"]:List Str).Nodup by decide +kernel) rfl (Or.inl rfl) (.inr rfl)) (jP (jO (i:=1) (show(["power", "number"]:List Str).Nodup by decide +kernel) rfl (Or.inl rfl) (.inr rfl)) lO))) (λ_ _ _ _=>yi) (λ_ _ _ _=>pF (jv (zl (jq 0)) (jv (jq 1) jF)))))
theorem Ag:FnScope q_ lg (jH rq):=uF rfl rfl rfl (by decide +kernel)
theorem Ah(F:Fun K "put_before" "put_before" rq f fd)(aaU:mq P w K mg base 2 "plus" F1 zN):FnOk P w K mg base pQ 3 f fd lg (qv K 3 jR):=uI (m:=rK) F Ag λcdv B outer s H E hr=>
 jC (nM (qN aaU hr (Vh dm ie (W0 hr.units) (jq 0) (jv (jq 1) (jv (oE jF) jF))) (jq 2)) (ug hr.units (jq 0) (jq 1)))
theorem J1:FnScope yC oZ (jH yJ):=uF rfl rfl rfl (by decide +kernel)
theorem JK(F:Fun K "as_sum" "as_sum" yJ f fd)(aar:mg "sorted" = none):FnOk P w K mg base pQ 1 f fd oZ (qv K 1 kM):=uI (m:=zM) F J1 λcdv B outer s H E hr=>
 jC (jZ (rE (N:=["order", "found"]) (cap:=[none,some 0]) rfl (zy ["found"] rfl (by decide +kernel) (by decide +kernel) (by decide +kernel) (by decide +kernel) (by decide +kernel) (eX.mpr ⟨by first|exact Or.inl rfl|exact Or.inr rfl,(λ_ h=>nomatch h)⟩) ⟨rfl,by decide +kernel,trivial⟩) (mW (kj (Hz rfl) aar qD (jv (jq 0) jF))) (λ_ _ _ _=>jO (i:=0) (show(["order", "found"]:List Str).Nodup by decide +kernel) rfl (Or.inl rfl) (.inr rfl)) (λ_ _ _ _=>BY (uG (zh hr.units (jq 1) (jq 0)))) (λ_ _ _ _=>pF (jv (jq 0) (jv (zh hr.units (jq 1) (jq 0)) jF)))))
theorem Cq:FnScope rV p6 (jH rX):=uF rfl rfl rfl (by decide +kernel)
theorem CC(F:Fun K "need_like" "need_like" rX f fd)(aaV:mq P w K mg base 1 "need_pair" sI n_):FnOk P w K mg base pQ 2 f fd p6 (qv K 2 lV):=uI (m:=r6) F Cq λcdv B outer s H E hr=>
 jC (oO (AW.at (Vj (uG (jq 0)) (P_ (uG (jq 1)))))
 (jC (nk (qN aaV hr (lR (lR (jq 0) jA) jA) (lR (lR (jq 1) jA) jA))))
 lN)
theorem vt:FnScope B6 uY (jH CL):=uF rfl rfl rfl (by decide +kernel)
theorem Lq(F:Fun K "added" "added" CL f fd)(aaB:mq P w K mg base 2 "need_like" p6 lV)(aam:mq P w K mg base 3 "put_before" lg jR)(aaq:mq P w K mg base 1 "as_sum" oZ kM):FnOk P w K mg base pQ 4 f fd uY (qv K 2 nU):=uI (m:=BL) F vt λcdv B outer s H E hr=>
 jy (nk (qN aaB hr (jq 0) (jq 1)))
 (jy (jY (i:=2) vt.nd p_)
 (jy (mQ bZ rfl (mW (jV p5 (jq 0) (jq 1))) (nB rfl (jP (jO (i:=3) vt.nd) (jP (jO (i:=4) vt.nd) lO)))
 (jC (nk (RW aam hr (jq 2) (jq 3) (jq 4)))))
 (jC (jZ (xE aaq hr (jq 2))))))
theorem tB:FnScope yG vc (jH zG):=uF rfl rfl rfl (by decide +kernel)
theorem JV(F:Fun K "scaled" "scaled" zG f fd)(aam:mq P w K mg base 3 "put_before" lg jR)(aau:mq P w K mg base 2 "times" tD mj)(aaq:mq P w K mg base 1 "as_sum" oZ kM):FnOk P w K mg base pQ 4 f fd vc (qv K 2 qO):=uI (m:=za) F tB λcdv B outer s H E hr=>
 jy (jY (i:=2) tB.nd p_)
 (jy (mQ bZ rfl (mW (jq 1)) (nB rfl (jP (jO (i:=3) tB.nd) (jP (jO (i:=4) tB.nd) lO)))
 (jC (nk (RW aam hr (jq 2) (jq 3) (qN aau hr (jq 0) (jq 4))))))
 (jC (jZ (xE aaq hr (jq 2)))))
theorem nE:FnScope qi lI (jH qu):=uF rfl rfl rfl (by decide +kernel)
theorem zu(F:Fun K "by_exchange" "by_exchange" qu f fd)(aap:mg "list" = none)(h_AT_A_FALL:∃a,mg "AT_A_FALL" = some (.ref a)/\PD K a=some [((-1:Int),(1:Int)),((1:Int),(-1:Int))])(aam:mq P w K mg base 3 "put_before" lg jR)(aac:mq P w K mg base 3 "exchanged" kX j4)(aas:mq P w K mg base 1 "falls" tZ ny)(aau:mq P w K mg base 2 "times" tD mj)(aaq:mq P w K mg base 1 "as_sum" oZ kM):FnOk P w K mg base pQ 4 f fd lI (qv K 2 ki):=uI (m:=qe) F nE λcdv B outer s H E hr=>
 jy (jY (i:=2) nE.nd p_)
 (jy (mQ bZ rfl (mW (jq 0)) (nB rfl (jP (jO (i:=3) nE.nd) (jP (jO (i:=4) nE.nd) lO)))
 (jy (nk (RW aam hr (jq 2) (qN aac hr (jq 3) (jq 1)) (jq 4)))
 (jC (oO (mO (Zq hr.units) (jq 1) (xE aas hr (jq 3)))
 (jC (nk (RW aam hr (jq 2) (jq 3) (qN aau hr (lY (CG rfl) aap xS (jv (E1 h_AT_A_FALL.choose_spec.1 h_AT_A_FALL.choose_spec.2) jF)) (jq 4)))))
 lN))))
 (jC (jZ (xE aaq hr (jq 2)))))
theorem sR:FnScope pK nL (jH qV):=uF rfl rfl rfl (by decide +kernel)
theorem DQ{Fs:List A->jx->R A}(F:Fun K "by_order" "by_order" qV f fd)(aas:mq P w K mg base 1 "falls" tZ ny)(aac:mq P w K mg base 3 "exchanged" kX j4)(aav:mq P w K mg base 4 "by_exchange" lI ki)(aaW:mq P w K mg base (5+kr) "by_order" nL Fs):FnOk P w K mg base pQ (5+kr+1) f fd nL (qv K 3 (lC pK (o8 Fs))):=uI (m:=o8 Fs) F sR λcdv B outer s H E hr=>
 jy (oO (mO (Dj hr.units) (jq 1) (jq 2))
 (jy (jY (i:=3) sR.nd (qA aas (hr.mono (by lia)) (jv (jq 1) jF) (jS l_)))
 (jC (oO (uG (jq 3))
 (jy (jY (i:=4) sR.nd (qA aaW (hr.mono (by lia)) (jv (jq 0) (jv (qA aac (hr.mono (by lia)) (jv (jq 1) (jv (lR (jq 3) jA) jF)) (jS (jS l_))) (jv (jq 2) jF))) (jS (jS (jS l_)))))
 (jC (nM (qA aav (hr.mono (by lia)) (jv (jq 4) (jv (lR (jq 3) jA) jF)) (jS (jS l_))) (ug hr.units (jq 2) (jq 1)))))
 (jC (nM (jq 0) (ug hr.units (jq 2) (jq 1)))))))
 lN)
 (jC (jZ (zh hr.units (jq 2) (jq 1))))
theorem u9(F:Fun K "by_order" "by_order" qV f fd)(aas:mq P w K mg base 1 "falls" tZ ny)(aac:mq P w K mg base 3 "exchanged" kX j4)(aav:mq P w K mg base 4 "by_exchange" lI ki)(hm:mg "by_order" = some (.ref f))(hk:PySem.W.keepIn K (.ref f)=true)(hb:Binds K fd nL []):∀kr,FnOk P w K mg base pQ (5+kr) f fd nL (qv K 3 (n8 kr))
 | 0=>Mv rfl
 | kr+1=>DQ F aas aac aav ⟨f,fd,u9 F aas aac aav hm hk hb kr,hm,hk,hb⟩
theorem lz:FnScope sj rT (jH sS):=uF rfl rfl rfl (by decide +kernel)
theorem B9(F:Fun K "by_orders" "by_orders" sS f fd)(aaX:mq P w K mg base 31 "by_order" nL uK)(aam:mq P w K mg base 3 "put_before" lg jR)(aau:mq P w K mg base 2 "times" tD mj)(aaq:mq P w K mg base 1 "as_sum" oZ kM):FnOk P w K mg base pQ 32 f fd rT (qv K 2 mZ):=uI (m:=sH) F lz λcdv B outer s H E hr=>
 jy (jY (i:=2) lz.nd p_)
 (jy (jY (i:=3) lz.nd p_)
 (jy (mQ bZ rfl (mW (jq 1)) (nB rfl (jP (jO (i:=4) lz.nd) (jP (jO (i:=5) lz.nd) lO)))
 (jC (mQ bZ rfl (mW (RW aaX hr (jq 0) (jq 4) (jq 3))) (nB rfl (jP (jO (i:=6) lz.nd) (jP (jO (i:=7) lz.nd) lO)))
 (jC (nk (RW aam hr (jq 2) (jq 6) (qN aau hr (jq 5) (jq 7))))))))
 (jC (jZ (xE aaq hr (jq 2))))))
theorem z9:FnScope rm qR (jH rB):=uF rfl rfl rfl (by decide +kernel)
theorem z0(F:Fun K "with_backs" "with_backs" rB f fd)(aar:mg "sorted" = none)(aaC:mq P w K mg base 1 "back" CM sD):FnOk P w K mg base pQ 2 f fd qR (qv K 1 kZ):=uI (m:=qY) F z9 λcdv B outer s H E hr=>
 jC (jZ (kj (LC hr.units) aar qD (jv (rE (N:=["order", "poly"]) (cap:=[none,none]) rfl (zy [] rfl (by decide +kernel) (by decide +kernel) (by decide +kernel) (by decide +kernel) (by decide +kernel) (λ_ h=>nomatch h) trivial) (mW (jq 0)) (λ_ _ _ _=>nB rfl (jP (jO (i:=0) (show(["order", "poly"]:List Str).Nodup by decide +kernel) rfl (Or.inl rfl) (.inr rfl)) (jP (jO (i:=1) (show(["order", "poly"]:List Str).Nodup by decide +kernel) rfl (Or.inl rfl) (.inr rfl)) lO))) (λ_ _ _ _=>yi) (λ_ _ _ _=>pF (jv (xE aaC hr (jq 0)) (jv (jq 1) jF)))) jF)))
theorem F5:FnScope tW wG (jH v9):=uF rfl rfl rfl (by decide +kernel)
theorem Gb(F:Fun K "product" "product" v9 f fd)(aab:mg "len" = none)(aaB:mq P w K mg base 2 "need_like" p6 lV)(aaK:mq P w K mg base 32 "by_orders" rT mZ)(aaF:mq P w K mg base 2 "with_backs" qR kZ):FnOk P w K mg base pQ 33 f fd wG (qv K 2 j_):=uI (m:=t7) F F5 λcdv B outer s H E hr=>
 jy (nk (qN aaB hr (jq 0) (jq 1)))
 (jy (oO (mO aag (kj vM aab rC (jv (jq 0) jF)) (kj vM aab rC (jv (jq 1) jF)))
 (jC (jZ (qN aaK hr (jq 0) (jq 1))))
 lN)
 (jC (jZ (xE aaF hr (qN aaK hr (xE aaF hr (jq 1)) (xE aaF hr (jq 0)))))))
theorem lJ:FnScope qW oU (jH rO):=uF rfl rfl rfl (by decide +kernel)
theorem zZ(F:Fun K "first_word" "first_word" rO f fd)(aaC:mq P w K mg base 1 "back" CM sD)(aas:mq P w K mg base 1 "falls" tZ ny)(aac:mq P w K mg base 3 "exchanged" kX j4):FnOk P w K mg base pQ 4 f fd oU (qv K 1 mh):=uI (m:=qQ) F lJ λcdv B outer s H E hr=>
 jy (jY (i:=1) lJ.nd (xE aaC hr (jq 0)))
 (jy (jY (i:=2) lJ.nd (oE jF))
 (jy (jY (i:=3) lJ.nd (xE aas hr (jq 1)))
 (jy (MN 1000000 bZ (uG (jq 3))
 (jy (nk (M6 PySem.F.slot_list_append PySem.F.type_list_append DL (jq 2) (jv (lR (jq 3) jA) jF)))
 (jy (jY (i:=1) lJ.nd (qN aac hr (jq 1) (lR (jq 3) jA)))
 (jC (jY (i:=3) lJ.nd (xE aas hr (jq 1)))))))
 (jC (jZ (jq 2))))))
theorem oF:FnScope lU kW (jH nH):=uF rfl rfl rfl (by decide +kernel)
theorem xJ{Fs:List A->jx->R A}(F:Fun K "turned_order" "turned_order" nH f fd)(aap:mg "list" = none)(h_LESS_BACK:∃a,mg "LESS_BACK" = some (.ref a)/\PD K a=some [((-1:Int),(-1:Int)),((1:Int),(1:Int))])(aaD:mq P w K mg base 4 "first_word" oU mh)(aac:mq P w K mg base 3 "exchanged" kX j4)(aay:mq P w K mg base 4 "added" uY nU)(aaE:mq P w K mg base 4 "scaled" vc qO)(aav:mq P w K mg base 4 "by_exchange" lI ki)(aaW:mq P w K mg base (5+kr) "turned_order" kW Fs):FnOk P w K mg base pQ (5+kr+1) f fd kW (qv K 2 (lC lU (lX Fs))):=uI (m:=lX Fs) F oF λcdv B outer s H E hr=>
 jy (oO (mO (Dj hr.units) (jq 0) (jq 1))
 (jy (jY (i:=2) oF.nd (qA aaD (hr.mono (by lia)) (jv (jq 0) jF) (jS l_)))
 (jC (oO (uG (jq 2))
 (jy (jY (i:=3) oF.nd (qA aaW (hr.mono (by lia)) (jv (qA aac (hr.mono (by lia)) (jv (jq 0) (jv (lR (jq 2) (zl jA)) jF)) (jS (jS l_))) (jv (jq 1) jF)) (jS (jS l_))))
 (jC (nM (qA aay (hr.mono (by lia)) (jv (qA aav (hr.mono (by lia)) (jv (jq 3) (jv (lR (jq 2) (zl jA)) jF)) (jS (jS l_))) (jv (qA aaE (hr.mono (by lia)) (jv (lY (CG rfl) aap xS (jv (E1 h_LESS_BACK.choose_spec.1 h_LESS_BACK.choose_spec.2) jF)) (jv (jq 3) jF)) (jS (jS l_))) jF)) (jS (jS l_))) (ug hr.units (jq 1) (jq 0)))))
 (jC (nM (oE (jv (pF (jv (jq 0) (jv (oE (jv (pF (jv jA (jv jA jF))) jF)) jF))) jF)) (ug hr.units (jq 1) (jq 0)))))))
 lN)
 (jC (jZ (zh hr.units (jq 1) (jq 0))))
theorem qz(F:Fun K "turned_order" "turned_order" nH f fd)(aap:mg "list" = none)(h_LESS_BACK:∃a,mg "LESS_BACK" = some (.ref a)/\PD K a=some [((-1:Int),(-1:Int)),((1:Int),(1:Int))])(aaD:mq P w K mg base 4 "first_word" oU mh)(aac:mq P w K mg base 3 "exchanged" kX j4)(aay:mq P w K mg base 4 "added" uY nU)(aaE:mq P w K mg base 4 "scaled" vc qO)(aav:mq P w K mg base 4 "by_exchange" lI ki)(hm:mg "turned_order" = some (.ref f))(hk:PySem.W.keepIn K (.ref f)=true)(hb:Binds K fd kW []):∀kr,FnOk P w K mg base pQ (5+kr) f fd kW (qv K 2 (lE kr))
 | 0=>Mv rfl
 | kr+1=>xJ F aap h_LESS_BACK aaD aac aay aaE aav ⟨f,fd,qz F aap h_LESS_BACK aaD aac aay aaE aav hm hk hb kr,hm,hk,hb⟩
theorem mT:FnScope wO vX (jH wu):=uF rfl rfl rfl (by decide +kernel)
theorem Gn(F:Fun K "turning" "turning" wu f fd)(aaY:mq P w K mg base 31 "turned_order" kW pC)(aam:mq P w K mg base 3 "put_before" lg jR)(aau:mq P w K mg base 2 "times" tD mj)(aaZ:mq P w K mg base 1 "turned" yM sJ)(aaq:mq P w K mg base 1 "as_sum" oZ kM):FnOk P w K mg base pQ 32 f fd vX (qv K 1 kQ):=uI (m:=wJ) F mT λcdv B outer s H E hr=>
 jy (jY (i:=1) mT.nd p_)
 (jy (jY (i:=2) mT.nd p_)
 (jy (mQ bZ rfl (mW (jq 0)) (nB rfl (jP (jO (i:=3) mT.nd) (jP (jO (i:=4) mT.nd) lO)))
 (jC (mQ bZ rfl (mW (qN aaY hr (jq 3) (jq 2))) (nB rfl (jP (jO (i:=5) mT.nd) (jP (jO (i:=6) mT.nd) lO)))
 (jC (nk (RW aam hr (jq 1) (jq 5) (qN aau hr (xE aaZ hr (jq 4)) (jq 6))))))))
 (jC (jZ (xE aaq hr (jq 1))))))
theorem Dy:FnScope uL uP (jH uD):=uF rfl rfl rfl (by decide +kernel)
theorem DZ(F:Fun K "_law_cell" "_law_cell" uD f fd)(aab:mg "len" = none):FnOk P w K mg base pQ 1 f fd uP (qv K 2 mX):=uI (m:=uJ) F Dy λcdv B outer s H E hr=>
 jy (oO (mO (Wi hr.units) (jq 1) (kj vM aab rC (jv (jq 0) jF)))
 (jC (jZ (lR (jq 0) (jq 1))))
 lN)
 (jC (jZ jA))
theorem uQ:FnScope wC wB (jH wW):=uF rfl rfl rfl (by decide +kernel)
theorem Gz(F:Fun K "_law_bag" "_law_bag" wW f fd)(aa0:mg "abs" = none):FnOk P w K mg base pQ 1 f fd wB (qv K 2 m7):=uI (m:=wg) F uQ λcdv B outer s H E hr=>
 jy (jY (i:=2) uQ.nd (kj Xe aa0 Ul (jv (jq 0) jF)))
 (jy (oO (mO (Wi hr.units) (jq 2) (jV Xx jA jA))
 (jC (jY (i:=2) uQ.nd jA))
 lN)
 (jC (jZ (oE (jv (jq 2) (jv (jV A4 (jV p5 (jV p5 (jV Bj (jV A4 (jq 0) jA) jA) (jV Bj jA (jq 1))) jA) jA) jF))))))
theorem CS:FnScope se sA (jH sG):=uF rfl rfl rfl (by decide +kernel)
theorem Cz(F:Fun K "_law_mixed" "_law_mixed" sG f fd):FnOk P w K mg base pQ 1 f fd sA (qv K 1 m5):=uI (m:=sQ) F CS λcdv B outer s H E hr=>
 jy (nM (jV A4 (jV p5 (jV Bj (lR (jq 0) jA) jA) jA) jA) (yP (jq 0) jA))
 (jC (jZ (jV Le (jV A4 (jV Bj (lR (jq 0) jA) jA) jA) jA)))
theorem nK:FnScope qa oq (jH sF):=uF rfl rfl rfl (by decide +kernel)
theorem Cc(F:Fun K "_law_digit" "_law_digit" sF f fd)(aaf:mg "range" = none)(aaL:mq P w K mg base 1 "_law_mixed" sA m5):FnOk P w K mg base pQ 2 f fd oq (qv K 2 jT):=uI (m:=pZ) F nK λcdv B outer s H E hr=>
 jy (oO (mO (VV hr.units) (lR (jq 0) jA) jA)
 (jy (jY (i:=2) nK.nd (jV A4 (lR (jq 0) jA) (jq 1)))
 (jy (nM (jV Le (lR (jq 0) jA) (jq 1)) (yP (jq 0) jA))
 (jC (jZ (jq 2)))))
 lN)
 (jy (jY (i:=2) nK.nd (xE aaL hr (jq 0)))
 (jy (oO (mO (VV hr.units) (jq 1) jA)
 (jC (mQ bZ rfl (tK aaf jA) (jO (i:=3) nK.nd)
 (jC (jY (i:=2) nK.nd (jV p5 (jV Bj (jq 2) jA) (xE aaL hr (jq 0)))))))
 lN)
 (jC (jZ (jV A4 (jq 2) (jq 1))))))
theorem oV:FnScope sf sU (jH r9):=uF rfl rfl rfl (by decide +kernel)
theorem By(F:Fun K "_law_order" "_law_order" r9 f fd)(aap:mg "list" = none)(aaf:mg "range" = none)(aab:mg "len" = none)(aat:mg "tuple" = none)(aaw:mq P w K mg base 2 "_law_digit" oq jT):FnOk P w K mg base pQ 3 f fd sU (qv K 2 n9):=uI (m:=sW) F oV λcdv B outer s H E hr=>
 jy (jY (i:=2) oV.nd (lY (CG rfl) aap xS (jv (lY DU aaf Ed (jv jA (jv (jV p5 (jq 1) jA) jF))) jF)))
 (jy (jY (i:=3) oV.nd (oE jF))
 (jy (mQ bZ rfl (tK aaf (jq 1)) (jO (i:=4) oV.nd)
 (jC (nk (M6 PySem.F.slot_list_append PySem.F.type_list_append DL (jq 3) (jv (M6 PySem.F.slot_list_pop PySem.F.type_list_pop Rp (jq 2) (jv (qN aaw hr (jq 0) (kj vM aab rC (jv (jq 2) jF))) jF)) jF)))))
 (jC (jZ (lY (xR rfl) aat u_ (jv (jq 3) jF))))))
theorem kR:FnScope oB ow (jH oG):=uF rfl rfl rfl (by decide +kernel)
theorem xh(F:Fun K "_law_drawn_sum" "_law_drawn_sum" oG f fd)(aaf:mg "range" = none)(aar:mg "sorted" = none)(aaw:mq P w K mg base 2 "_law_digit" oq jT)(aa1:mq P w K mg base 3 "_law_order" sU n9):FnOk P w K mg base pQ 4 f fd ow (qv K 2 j7):=uI (m:=oK) F kR λcdv B outer s H E hr=>
 jy (jY (i:=2) kR.nd p_)
 (jy (mQ bZ rfl (tK aaf (lR (oE (jv jA (jv jA (jv jA (jv jA (jv jA jF)))))) (qN aaw hr (jq 0) jA))) (jO (i:=3) kR.nd)
 (jy (jY (i:=4) kR.nd EG)
 (jy (mQ bZ rfl (tK aaf (jV p5 jA (qN aaw hr (jq 0) jA))) (jO (i:=5) kR.nd)
 (jC (nM (lR (oE (jv jA (jv (zl jA) (jv jA (jv jA (jv (zl jA) (jv jA jF))))))) (qN aaw hr (jq 0) jA)) (Ct hr.units (jq 4) (jV zJ (qN aaw hr (jq 0) jA) jA)))))
 (jC (nM (rE (N:=["_law_power", "_law_poly"]) (cap:=[none,some 4]) rfl (zy ["_law_poly"] rfl (by decide +kernel) (by decide +kernel) (by decide +kernel) (by decide +kernel) (by decide +kernel) (eX.mpr ⟨by first|exact Or.inl rfl|exact Or.inr rfl,(λ_ h=>nomatch h)⟩) ⟨rfl,by decide +kernel,trivial⟩) (mW (kj (IT rfl) aar qD (jv (jq 4) jF))) (λ_ _ _ _=>jO (i:=0) (show(["_law_power", "_law_poly"]:List Str).Nodup by decide +kernel) rfl (Or.inl rfl) (.inr rfl)) (λ_ _ _ _=>yi) (λ_ _ _ _=>pF (jv (jq 0) (jv (Fg hr.units (jq 1) (jq 0)) jF)))) (ug hr.units (jq 2) (qN aa1 hr (jq 0) (jq 1))))))))
 (jC (jZ (rE (N:=["_law_order_here", "_law_found"]) (cap:=[none,some 2]) rfl (zy ["_law_found"] rfl (by decide +kernel) (by decide +kernel) (by decide +kernel) (by decide +kernel) (by decide +kernel) (eX.mpr ⟨by first|exact Or.inl rfl|exact Or.inr rfl,(λ_ h=>nomatch h)⟩) ⟨rfl,by decide +kernel,trivial⟩) (mW (kj (Hz rfl) aar qD (jv (jq 2) jF))) (λ_ _ _ _=>jO (i:=0) (show(["_law_order_here", "_law_found"]:List Str).Nodup by decide +kernel) rfl (Or.inl rfl) (.inr rfl)) (λ_ _ _ _=>yi) (λ_ _ _ _=>pF (jv (jq 0) (jv (zh hr.units (jq 1) (jq 0)) jF)))))))
theorem sM:FnScope Ox SO (jH OA):=uF rfl rfl rfl (by decide +kernel)
set_option smartUnfolding false in
theorem VQ(F:Fun K "law" "law" OA f fd)(aat:mg "tuple" = none)(aaf:mg "range" = none)(aaG:mq P w K mg base 1 "_law_bag" wB m7)(aaH:mq P w K mg base 1 "_law_cell" uP mX)(aaw:mq P w K mg base 2 "_law_digit" oq jT)(aaI:mq P w K mg base 4 "_law_drawn_sum" ow j7)(aax:mq P w K mg base 33 "product" wG j_)(aaz:mq P w K mg base 32 "turning" vX kQ)(aay:mq P w K mg base 4 "added" uY nU):FnOk P w K mg base pQ 34 f fd SO (qv K 1 Bb):=uI (m:=LS) F sM λcdv B outer s H E hr=>
 jy (jY (i:=1) sM.nd (qN aaG hr (qN aaH hr (jq 0) jA) jA))
 (jy (jY (i:=2) sM.nd (lR (oE (jv jA (jv jA (jv jA (jv jA (jv jA (jv jA jF))))))) (qN aaw hr (jq 1) jA)))
 (jy (jY (i:=3) sM.nd (qN aaI hr (jq 1) (jq 2)))
 (jy (jY (i:=4) sM.nd (qN aaI hr (qN aaG hr (qN aaH hr (jq 0) jA) jA) (jq 2)))
 (jy (jY (i:=5) sM.nd (qN aaI hr (qN aaG hr (qN aaH hr (jq 0) jA) jA) (jq 2)))
 (jy (jY (i:=6) sM.nd (qN aax hr (jq 3) (jq 4)))
 (jy (oO (AW.at (X5 (mO (KQ hr.units) (xE aaz hr (jq 6)) (qN aax hr (xE aaz hr (jq 3)) (xE aaz hr (jq 4)))) (Wc (mO (KQ hr.units) (xE aaz hr (xE aaz hr (jq 3))) (jq 3)))))
 (jC (jZ K8))
 lN)
 (jy (oO (mO (KQ hr.units) (qN aax hr (jq 6) (jq 5)) (qN aax hr (jq 3) (qN aax hr (jq 4) (jq 5))))
 (jC (jZ K8))
 lN)
 (jy (oO (mO (KQ hr.units) (qN aax hr (jq 3) (qN aay hr (jq 4) (jq 5))) (qN aay hr (jq 6) (qN aax hr (jq 3) (jq 5))))
 (jC (jZ K8))
 lN)
 (jy (jY (i:=7) sM.nd (oE (jv (pF (jv (lY (xR rfl) aat u_ (jv (lY DU aaf Ed (jv jA (jv (jV p5 (jq 2) jA) jF))) jF)) (jv (oE (jv (pF (jv jA (jv jA jF))) jF)) jF))) jF)))
 (jC (jZ (C_ (FA (Vs hr.units) (qN aax hr (jq 3) (jq 7)) (jq 3)) (C_ (FA (Vs hr.units) (qN aax hr (jq 7) (jq 3)) (jq 3)) (FT (FA (Vs hr.units) (xE aaz hr (jq 7)) (jq 7))))))))))))))))
end
end K91
namespace K91
open PySem L2 Am
noncomputable def z_ (S:jx)(b:Nat):Prop:=∃g st:Int,jw S b=some [.int g,.int st]/\0<=g/\0<=st/\st<4294967296
theorem z_.kp{c:Nat->Prop}(h:z_ S b)(k:Kp c S S')(hb:¬c b):z_ S' b:=by
 obtain⟨g,st,e,q⟩:=h;exact⟨g,st,k.lst b _ hb e,q⟩
theorem Cj{ns:List Int}{k:Int}(h0:0<=k):∃c,mX [.frz (ns.map .int),.int k] S=.ok (.int c) S:=by
 unfold mX uJ uL;simp only[j9,bools,l6,Nat.reduceAdd,Nat.reduceSub,aK];by_cases hk:k<(ns.length:Int)
 ·have hn:k.toNat<ns.length:=by lia
  have ha:rP (ns.map A.int) k=some (.int ns[k.toNat]):=Cp (k:=k.toNat) (by lia) (aF hn);rw[bq hk];simp only[j9,bools,ha];exact⟨_,rfl⟩
 ·rw[bw hk];simp only[j9,bools];exact⟨_,rfl⟩
theorem Cf{S:jx}{c k:Int}(h0:0<=k)(h1:k<=100):∃S',m7 [.int c,.int k] S=.ok (.ref S.length) S'/\z_ S' S.length/\lG S S':=by
 have e3:Vn (.int 10) (.int 18)=λS=>R.ok (.int 1000000000000000000) S:=by
  funext S;exact mz ⟨by decide,by decide,by decide⟩
 have m1:∀x:Int,CD (.int x) (.int 2147483647)=λS=>R.ok (.int (x % 2147483647)) S:=λx=>by funext S;exact Ea (by decide)
 have m2:∀x:Int,xF (.int x) (.int 69621)=λS=>R.ok (.int (x * 69621)) S:=λx=>by funext S;exact mul_r (by decide) (by decide)
 have m3:∀x:Int,xF (.int 7919) (.int x)=λS=>R.ok (.int (7919 * x)) S:=λx=>by funext S;exact O4 (by decide) (by decide)
 have s0:∀x:Int,0<=x % 2147483647:=λx=>iH _ (by decide);have s1:∀x:Int,x % 2147483647<4294967296:=λx=>by have:=gC x (show(0:Int)<2147483647 by decide);lia
 have hA:0<=(if c<0 then -c else c):=by split<;>lia
 unfold m7 wg wC;simp only[j9,bools,l6,Nat.reduceAdd,Nat.reduceSub,e3,m1,m2,m3];by_cases hk:(if c<0 then -c else c)<1000000000000000000
 ·rw[bq hk];simp only[j9,bools,e3,m1,m2,m3];exact⟨_,rfl,⟨_,_,jM,Int.le_refl 0,s0 _,s1 _⟩,Kp.refl.lay⟩
 ·rw[bw hk];simp only[j9,bools,e3,m1,m2,m3];exact⟨_,rfl,⟨_,_,jM,hA,s0 _,s1 _⟩,Kp.refl.lay⟩
theorem Lx{S:jx}{g st:Int}(hl:jw S b=some [.int g,.int st])(hs:0<=st)(hs2:st<4294967296):∃d st',m5 [.ref b] S=.ok (.int d) (S.set b (.lst [.int g,.int st']))/\0<=st'/\st'<4294967296:=by
 have hb:=ni hl;have i1:A7 2 1=some 1:=zc rfl (by decide);have e1:0<=(st * 48271+11) % 2147483647:=iH _ (by decide);have e2:(st * 48271+11) % 2147483647<2147483647:=gC _ (by decide);refine⟨(st * 48271+11) % 2147483647 * 16807 % 2147483629 / 8,(st * 48271+11) % 2147483647,?_,e1,by lia⟩;unfold m5 sQ se;rw[vC];simp[hl,AO,Nt,i1,O4 (show -18446744073709551616<st by lia) (by lia),Ea (show(0:Int)<2147483647 by decide),pT hb,L_ (show(0:Int)<8 by decide) (by decide),O4 (show -18446744073709551616<(st * 48271+11) % 2147483647 by lia) (by lia),Ea (show(0:Int)<2147483629 by decide)]
theorem digit{m:Int}(h:z_ S b)(h1:1<=m)(h2:m<=1000):∃d S',jT [.ref b,.int m] S=.ok (.int d) S'/\0<=d/\d<m/\z_ S' b/\Kp (·=b) S S':=by
 obtain⟨g,st,hl,hg,hs,hs2⟩:=h;have hb:=ni hl;have i0:A7 2 0=some 0:=zc rfl (by decide);have fin:∀d g' st':Int,0<=d->d<m->0<=g'->0<=st'->st'<4294967296->jT [.ref b,.int m] S=.ok (.int d) (S.set b (.lst [.int g',.int st']))->∃d S',jT [.ref b,.int m] S=.ok (.int d) S'/\0<=d/\d<m/\z_ S' b/\Kp (·=b) S S':=
  λd g' st' a1 a2 a3 a4 a5 e=>⟨d,_,e,a1,a2,⟨g',st',pT hb,a3,a4,a5⟩,Kp.refl.set (.inl rfl)⟩
 by_cases hg0:0<g
 ·refine fin (g % m) (g / m) st (iH _ (by lia)) (gC _ (by lia)) (Int.ediv_nonneg hg (by lia)) hs hs2 ?_;unfold jT pZ qa;rw[vC];simp[hl,AO,Nt,hg0,Ea (show 0<m by lia),L_ (show 0<m by lia) (show m<1073741824 by lia),i0]
 ·obtain⟨d,st',e1,s0,s1⟩:=Lx hl hs hs2;refine fin (d % m) g st' (iH _ (by lia)) (gC _ (by lia)) hg s0 s1 ?_;unfold jT pZ qa;rw[vC];simp[hl,AO,Nt,hg0,Ea (show 0<m by lia),e1,show ¬(1000<m)by lia]
theorem zj:∀(l:List Int) (j:Nat) (h:j<l.length),(l[j]::l.eraseIdx j).Perm l
 | x::l,0,_=>eF _
 | x::l,j+1,h=>(List.Perm.swap x _ _).trans (List.Perm.cons x (zj l j (gU h)))
theorem JH{ls fs:List Int}{j:Nat}(h:j<ls.length):((fs++[ls[j]])++ls.eraseIdx j).Perm (fs++ls):=by
 rw[b9];refine List.Perm.append_left fs ?_;show(ls[j]::ls.eraseIdx j).Perm ls;exact zj ls j h
theorem OV{d:Int}{n:Nat}(h0:0<=d)(h:d.toNat<n):seqIndex? d n=some d.toNat:=by
 unfold seqIndex?;simp;lia
theorem Bc{α β:Type}(f:α->β):∀(l:List α) (k:Nat),(l.map f).eraseIdx k=(l.eraseIdx k).map f
 | [],_=>rfl
 | _::_,0=>rfl
 | x::l,k+1=>dg (f x::·) (Bc f l k)
theorem N1{n:Int}(h:z_ S b)(h1:1<=n)(h2:n<=20):∃(xs:List Int) (S':jx),n9 [.ref b,.int n] S=.ok (.tup (xs.map .int)) S'/\xs.Perm (kc 1 (n+1))/\z_ S' b/\Kp (·=b) S S':=by
 have hbS:b<S.length:=by obtain⟨_,_,e,_⟩:=h;exact ni e
 unfold n9 sW sf;simp only[j9,bools,l6,Nat.reduceAdd,Nat.reduceSub,KJ (DR (show(-1000000:Int)<=1 by decide) (by decide) (show -1000000<=n+1 by lia) (by lia) (by lia)),aR];refine BB (lo:=0) (hi:=n) (S1:=S++[.lst ((kc 1 (n+1)).map .int)]++[.lst []]) (yT (by simp only[j9,bools]) (zE (by lia) (by lia)))
  (λi τ S1=>∃(x4:A) (ls fs:List Int),τ=[.ref b,.int n,.ref S.length,.ref (S.length+1),x4]/\jw S1 S.length=some (ls.map .int)/\jw S1 (S.length+1)=some (fs.map .int)/\(ls.length:Int)+i=n/\(fs++ls).Perm (kc 1 (n+1))/\z_ S1 b/\Kp (·=b) S S1)
  (λr=>∃(xs:List Int) (S':jx),RS.end (RS.seq r _)=.ok (.tup (xs.map .int)) S'/\xs.Perm (kc 1 (n+1))/\z_ S' b/\Kp (·=b) S S') ?_ ?_ ?_
 ·refine⟨.unb,kc 1 (n+1),[],rfl,ko jM,?_,by rw[o_];lia,eF _,h.kp (c:=λ_=>False) (Kp.refl.lay.lay) (λz=>z),Kp.refl.lay.lay⟩;have:jw (S++[.lst ((kc 1 (n+1)).map .int)]++[.lst []]) (S++[O.lst ((kc 1 (n+1)).map .int)]).length=some []:=jM;simpa using this
 ·rintro i τ S1 hi ⟨x4,ls,fs,rfl,hL,hF,hn,hp,hb,hk⟩;left;obtain⟨d,S2,e2,d0,d1,hb2,hk2⟩:=digit (m:=(ls.length:Int)) hb (by lia) (by lia);have hL2:=hk2.lst S.length _ (by lia) hL;have hF2:=hk2.lst (S.length+1) _ (by lia) hF;have hd:d.toNat<ls.length:=by lia
  have lF:=ni hF2;have lL:=ni hL2;have hfl:fs.length<=20:=by
   have:=hp.length_eq;rw[aR,o_]at this;lia
  have hsq:seqIndex? d ls.length=some d.toNat:=OV d0 hd;have hF3:jw (S2.set S.length (.lst ((ls.map A.int).eraseIdx d.toNat))) (S.length+1)=some (fs.map .int):=by rw[pN (by lia)];exact hF2
  unfold uw;simp only[j9,bools,hL,hF,aK,e2,hL2,FG,mz (show -(2 ^ 63:Int)<=d/\d<2 ^ 63 by lia),hsq,aP,aF hd,dP,hF3,xD (show fs.length<16777216 by lia)];refine⟨_,_,rfl,_,ls.eraseIdx d.toNat,fs++[ls[d.toNat]],rfl,?_,?_,?_,(JH hd).trans hp,?_,?_⟩
  ·rw[pN (by lia),pT lL,Bc]
  ·rw[pT (by rw[bY];exact lF),bO];rfl
  ·rw[List.length_eraseIdx_of_lt hd];lia
  ·obtain⟨g,st,e,q⟩:=hb2;exact⟨g,st,by rw[pN (by lia),pN (by lia)];exact e,q⟩
  ·exact((hk.trans hk2).set (.inr (aO _))).set (.inr (by lia))
 ·rintro τ S1 ⟨x4,ls,fs,rfl,hL,hF,hn,hp,hb,hk⟩;have:ls=[]:=dM.mp (by lia);subst this;exact⟨fs,S1,by simp only[j9,bools,hF],by simpa using hp,hb,hk⟩
open Po (Pl Ok Bd)
open Po (Pl Ok Bd)
theorem LP{S:jx}{D:Pl}(hd:kC S d=some (Po.iv D))(hl:D.length<=16777216):∃S',kB [.ref d] S=.ok (.ref (S.length+1)) S'/\jw S' (S.length+1)=some (Po.pl (Po.Ib D))/\lG S S':=by
 obtain⟨S',e,h1,h2⟩:=Ww hd hl;refine⟨S',?_,h1,h2⟩;unfold kB oM oJ;simp only[j9,bools,l6,Nat.reduceAdd,Nat.reduceSub];rw[show kP [none,some 0] _ _ _ _ _ _=_ from e];rfl
theorem QJ{S:jx}{n:Nat}{a b:Pl}(hn:jw S n=some (Po.pl a))(hm:jw S m=some (Po.pl b))(ha:Ok a)(hl:a.length+b.length<16777216) :
  ∃(L:Nat) (S':jx),zN [.ref n,.ref m] S=.ok (.ref L) S'/\jw S' L=some (Po.pl (Po.oh a b))/\S.length<=L/\lG S S':=by
 have hd:kC (S++[.pP (Po.iv a)]) S.length=some (Po.iv a):=GJ;obtain⟨y3,y4,T,e,hD,kp⟩:=Rm (S:=S++[.pP (Po.iv a)]) (S1:=S++[.pP (Po.iv a)]) (x0:=.ref n) (x1:=.ref m) (x3:=.unb) (x4:=.unb) (src:=uZ) (l:=b) (show uZ _ _=_ from mP (by simp only[j9,bools]) (ko hm)) (ko hm) hd hl;have ln:=Po.o4 b a;obtain⟨S',e2,h1,h2⟩:=LP hD (by lia);have k1:lG S T:=(Kp.refl.lay (o:=.pP (Po.iv a))).old kp λq hq _ z=>by lia
 refine⟨T.length+1,S',?_,by rw[h1,<- Po.Ri ha];rfl,by have:=k1.len;lia,k1.trans h2⟩;unfold zN FH F4;simp only[j9,bools,l6,Nat.reduceAdd,Nat.reduceSub,J0,hn,Po.RV,Po.Rf,Po.Q3 ha];rw[show ly uZ _ D6 _ _=_ from e];simp only[j9,bools,e2]
theorem vV(f:Int×Int->A)(hf:∀p τ S,PC (f p) τ S=PC (Po.pA p) τ S){S:jx}{n:Nat}{a b:Pl}(hn:jw S n=some (a.map f))(hm:jw S m=some (Po.pl b))(hl:a.length * b.length<16777216)(ha:∀p∈a,p.2.natAbs<big)(hb:∀p∈b,p.2.natAbs<big) :
  ∃(L:Nat) (S':jx),mj [.ref n,.ref m] S=.ok (.ref L) S'/\jw S' L=some (Po.pl (Po.times a b))/\S.length<=L/\lG S S':=by
 have hd:kC (S++[.pP []]) S.length=some []:=GJ;obtain⟨y3,y4,y5,y6,T,e,hD,kp⟩:=Gy f hf (S:=S++[.pP []]) (x3:=.unb) (x4:=.unb) (x5:=.unb) (x6:=.unb) (ko hn) (ko hm) hd hl ha hb;have ln:=Po.o4 (Po.z8 a b) [];rw[Po.yp,bX,cA]at ln;obtain⟨S',e2,h1,h2⟩:=LP hD (by lia);have k1:lG S T:=(Kp.refl.lay (o:=.pP [])).old kp λq hq _ z=>by lia
 refine⟨T.length+1,S',?_,h1,by have:=k1.len;lia,k1.trans h2⟩;unfold mj CZ BP;simp only[j9,bools,l6,Nat.reduceAdd,Nat.reduceSub,AX];rw[show ly AB _ Ay _ _=_ from e];simp only[j9,bools,e2]
theorem qE{S:jx}{n:Nat}{a b:Pl}(hn:jw S n=some (Po.pl a))(hm:jw S m=some (Po.pl b))(hl:a.length * b.length<16777216)(ha:∀p∈a,p.2.natAbs<big)(hb:∀p∈b,p.2.natAbs<big) :
  ∃(L:Nat) (S':jx),mj [.ref n,.ref m] S=.ok (.ref L) S'/\jw S' L=some (Po.pl (Po.times a b))/\S.length<=L/\lG S S':=vV Po.pA (λ_ _ _=>rfl) hn hm hl ha hb
theorem JX{S:jx}{n:Nat}{a:Pl}(hn:jw S n=some (Po.pl a))(hl:a.length<=16777216) :
  sJ [.ref n] S=.ok (.ref S.length) (S++[.lst (Po.pl (Po.turn a))]):=by
 have cc:=MV (l:=a) (n:=n) (cap:=[]) (src:=W8 (ju 0)) (e:=qM (jt (QC BJ (ju 0)) (jt (ju 1) (jB)))) (τ:=[.ref n]) (S:=S) (S1:=S) (WB (by simp only[j9,bools]) hn) hn (λp=>Po.pA (-p.1,p.2)) (λp=>by
  simp only[j9,bools];exact vZ (show 2<=16777216 by decide)) hl
 unfold sJ zO zR;simp only[j9,bools,l6,Nat.reduceAdd,Nat.reduceSub];rw[show kP [none,none] _ _ _ _ _ _=_ from cc];unfold Po.pl Po.turn;rw[bh];rfl
end K91
namespace K91
open PySem L2 Am
open Po (Pl Ok Bd)
open Su (Es At Vl)
theorem Wq{S:jx}{r:Nat}{D:Es}{o:List Int}{p:Pl}{k:Nat}(hd:jQ S d=some (D.map Su.kv))(hA:At S D)(hv:Vl k b D)(hr:jw S r=some (Po.pl p))(hl:D.length<16777216)(hk:k+p.length<16777216) :
  ∃(L:Nat) (S':jx),jR [.ref d,.tup (o.map .int),.ref r] S=.ok .non S'/\jQ S' d=some ((Su.oH D o L (Po.oh (Su.vS (Su.sm D) o) p)).map Su.kv)/\At S' (Su.oH D o L (Po.oh (Su.vS (Su.sm D) o) p))/\S.length<=L/\Kp (·=d) S S':=by
 obtain⟨x,ex,hx⟩:=Su.get_or (o:=o) hd hA;have vo:=hv.v o;obtain⟨L,S2,e2,h1,h2,k2⟩:=QJ hx (ko (o:=.lst []) hr) vo.1 (by lia);have kS:lG S S2:=(Kp.refl.lay).trans k2;have hd2:=kS.dct _ _ (λz=>z) hd;have hd1:jQ (S++[.lst []]) d=some (D.map Su.kv):=Su.vg hd;refine⟨L,S2.set d (.dct ((Su.oH D o L (Po.oh (Su.vS (Su.sm D) o) p)).map Su.kv)),?_,Su.B7 (Su.v_ hd2),?_,by simp at h2;lia,kS.of0.BN (.inl rfl)⟩
 ·unfold jR rK q_;have n0:newL [] S=.ok (.ref S.length) (S++[.lst []]):=kL (show 0<=16777216 by decide);simp only[j9,bools,l6,Nat.reduceAdd,Nat.reduceSub,Su.Rv,Su.Qv,hd,dP,n0,Su.P1,hd1,ex,e2,Su.tY,Su.zg,hd2,xD (show(D.map Su.kv).length<16777216 by rw[aK];exact hl),Su.Gv (p:=Po.oh (Su.vS (Su.sm D) o) p)]
 ·refine(Su.At.put (hA.wI kS) h1).kp (Kp.refl.BN (.inl rfl)) λe he z=>?_
  rcases Su.qZ he with y|y
  ·exact Su.nN hd (hA e y) z
  ·rw[y]at z;exact Su.nN hd2 h1 z
theorem zH{S:jx}{D:Es}(hd:jQ S d=some (D.map Su.kv))(hA:At S D)(hne:∀e∈D,e.1≠[])(hl:D.length<=16777216) :
  ∃(n:Nat) (S':jx),kM [.ref d] S=.ok (.ref n) S'/\jw S' n=some ((Su.qL D λp=>!p.isEmpty).map Su.ent)/\At S' (Su.qL D λp=>!p.isEmpty)/\S.length<n/\lG S S':=by
 have n0:=Su.Ec hd hne;obtain⟨n,S',e,h1,h2,h3,h4⟩:=Su.EK (cap:=[some 0]) (τ:=[.ref d]) (src:=nO (j6 (f1 wK) (jt (ju 0) (jB)))) (t:=Ac (jJ vq (ju 1) (ju 0))) (e:=qM (jt (ju 0) (jt (jJ vq (ju 1) (ju 0)) (jB)))) hd hA (mP (by simp only[j9,bools,n0]) jM) (λp=>!p.isEmpty)
  (λo r q T hT hk hr=>⟨T,by
   have tr:A.Sj (.ref r) T=some (!q.isEmpty):=by
    show(jw T r).map _=_;rw[hr]
    cases q<;>rfl
   simp only[j9,bools,Su.zf,Su.tF,hT,hk,tr],Kp.refl⟩)
  (λo r T hT hk=>by
   simp only[j9,bools,Su.zf,Su.tF,hT,hk];exact vZ (show 2<=16777216 by decide)) hl
 refine⟨n,S',?_,h1,h2,h3,h4⟩;unfold kM zM yC;simp only[j9,bools,l6,Nat.reduceAdd,Nat.reduceSub,e]
theorem qG:Su.Br jR:=λh1 h2 h3 h4 h5 h6=>Wq h1 h2 h3 h4 h5 h6
theorem yE:Su.Kc mj:=λh1 h2 h3 h4 h5=>qE h1 h2 h3 h4 h5
open Po (Pl Ok Bd)
open Su (Es At Vl)
structure Sm (S:jx)(n:Nat)(es:Es):Prop where
 l:jw S n=some (es.map Su.ent)
 a:At S es
theorem Sm.kp{n:Nat}(h:Sm S n es)(k:lG S S'):Sm S' n es:=⟨k.lst _ _ (λz=>z) h.l,h.a.wI k⟩
theorem C9{a b:List Int}(h:a.length=b.length):n_ [.tup (a.map .int),.tup (b.map .int)] S=.ok .non S:=by
 unfold n_ sZ s_;have:((a.length:Int) == (b.length:Int))=true:=by rw[h];exact bK _
 simp only[j9,rR,bools,l6,Nat.reduceAdd,Nat.reduceSub,aK,this,cP]
theorem AU{n:Nat}{xs:List A}(h:jw S n=some xs):A.Sj (.ref n) S=some (!xs.isEmpty):=by
 show(jw S n).map _=_;rw[h];rfl
theorem vD{n N:Nat}{es fs:Es}(h:Sm S n es)(h':Sm S m fs)(h1:∀e∈es,e.1.length=N)(h2:∀e∈fs,e.1.length=N):lV [.ref n,.ref m] S=.ok .non S:=by
 unfold lV r6 rV;simp only[j9,rR,bools,l6,Nat.reduceAdd,Nat.reduceSub,AU h.l,AU h'.l]
 cases es with
 | nil=>simp only[j9,rR,bools,f6,iw,cP]
 | cons e es=>cases fs with
  | nil=>simp only[j9,rR,bools,f6,iw,cP,bC,i9,c_,AU h'.l]
  | cons f fs=>
   have q:=C9 (S:=S) ((h1 e (aG ..)).trans (h2 f (aG ..)).symm);have hl:=h.l;have hl':=h'.l;rw[bC]at hl hl';simp only[j9,rR,bools,bC,i9,c_,AU hl',hl,hl',AO,Su.ent,q]
noncomputable abbrev wd (w:List Nat):List A:=w.map λk:Nat=>A.int (k:Int)
theorem ZP{l:List Int}{k:Nat}{i:Int}(h:i=k)(hk:k<l.length):rP (l.map A.int) i=some (.int (l.getD k 0)):=Cp h (by rw[aL,aF hk];rfl)
theorem Q8{l:List Int}{k:Nat}:((l.map A.int).set (k-1) (.int (l.getD k 0))).set k (.int (l.getD (k-1) 0))=(Wd.ex l k).map A.int:=by
 unfold Wd.ex;rw[iN,iN]
theorem Ze{f g:A->A->jx->R A}{ca cb cc:Ex}{a c:A}(h1:ca τ S=.ok a S)(h2:cb τ S=.ok b S)(h3:f a b S=.ok (.bl true) S)(h4:cc τ S=.ok c S):WH f g ca cb cc τ S=g b c S:=by
 unfold WH;rw[h1,R.oS,h2,R.oS,h3,R.oS];unfold kCh;show(cc τ S).bind _=_;rw[h4];rfl
theorem UN{i:Int}:pO [.int i] S=.ok (.bl true) S:=by
 unfold pO uE uV;simp only[j9,bools,l6,Nat.reduceAdd,Nat.reduceSub,show KD .int "int" = some true from rfl,show KD .int "bool" = some false from rfl,c_]
theorem Zw{n k:Int}(h1:1<=k)(h2:k<n):mF [.int n,.int k] S=.ok (.bl true) S:=by
 unfold mF qj qg;have c:WH Y7 WJ (eC (.int 1)) (ju 1) (ju 0) [.int n,.int k] S=.ok (.bl true) S:=by
  rw[Ze (a:=.int 1) (b:=.int k) (c:=.int n) rfl rfl (by simp only[j9,bq h1]) rfl];simp only[j9,bq h2]
 simp only[j9,bools,l6,Nat.reduceAdd,Nat.reduceSub,UN,c]
theorem yj{xs:List Int}{k:Nat}(h1:1<=k)(h2:k<xs.length)(hl:xs.length<=1000):∃S',j4 [.tup (xs.map .int),.int k] S=.ok (.tup ((Wd.ex xs k).map .int)) S'/\lG S S':=by
 have e1:=Zw (S:=S) (n:=(xs.length:Int)) (k:=(k:Int)) (by lia) (by lia);have a1:rP (xs.map A.int) (k:Int)=some (.int (xs.getD k 0)):=ZP rfl (by lia);have a2:rP (xs.map A.int) ((k:Int)-1)=some (.int (xs.getD (k-1) 0)):=ZP (k:=k-1) (by lia) (by lia);have x1:A7 xs.length ((k:Int)-1)=some (k-1):=zc (by lia) (by lia);have x2:A7 xs.length (k:Int)=some k:=zc rfl (by lia);have hL:jw (S++[O.lst (xs.map .int)]) S.length=some (xs.map .int):=jM;have lS:∀ys,jw ((S++[O.lst (xs.map .int)]).set S.length (.lst ys)) S.length=some ys:=λys=>pT (by simp);have e2:kH [.tup (xs.map .int),.int k,.int ((k:Int)+1)] S=.ok (.tup ((Wd.ex xs k).map .int)) (((S++[O.lst (xs.map .int)]).set S.length (.lst ((xs.map A.int).set (k-1) (.int (xs.getD k 0))))).set S.length (.lst ((Wd.ex xs k).map .int))):=by
  unfold kH mV mS;simp only[j9,bools,l6,Nat.reduceAdd,Nat.reduceSub,hL,show(k:Int)+1-1=k by lia,a1,a2,mz (show 2<=sizeLine by decide),mz (show 2=2 from rfl),aK,x1,lS,bY,x2,Q8];rw[pT (by simp)];simp only[j9,bools]
 unfold j4 sN sO;simp only[j9,rR,bools,l6,Nat.reduceAdd,Nat.reduceSub,aK,e1,cP,e2];exact⟨_,rfl,((Kp.refl.lay).set (.inr (aO _))).set (.inr (aO _))⟩
theorem ixG{xs:List Int}{i:Int}(h1:0<=i)(h2:i<xs.length):rP (xs.map A.int) i=some (.int (xs.getD i.toNat 0)):=ZP (k:=i.toNat) (by lia) (by lia)
noncomputable def fl (xs:List Int)(n:Nat):List Int:=(kc 1 (n:Int)).filter λk=>decide (xs.getD (k-1).toNat 0>xs.getD k.toNat 0)
theorem ve{S:jx}{n:Nat}{xs:List Int}(hlen:xs.length=n)(h2:n<=20):ny [.tup (xs.map .int)] S=.ok (.ref S.length) (S++[.lst ((fl xs n).map .int)]):=by
 have ec:=ML (lo:=1) (hi:=(n:Int)) (cap:=[some 0]) (src:=zz (eC (.int 1)) (j6 (f1 vI) (jt (ju 0) (jB)))) (t:=A8 (jJ WD (jJ uX (ju 1) (jJ aSub (ju 0) (eC (.int 1)))) (jJ uX (ju 1) (ju 0)))) (e:=ju 0) (τ:=[.tup (xs.map .int)]) (S:=S) (S1:=S)
  (K6 (S1:=S) (by simp only[j9,bools]) (by simp only[j9,bools,aK,hlen]) (zE (by lia) (by lia)) (zE (by lia) (by lia)))
  (λk=>decide (xs.getD (k-1).toNat 0>xs.getD k.toNat 0)) (λk=>.int k) (λk h1 h2=>by
   have x1:rP (xs.map A.int) (k-1)=some (.int (xs.getD (k-1).toNat 0)):=ixG (by lia) (by lia);have x2:rP (xs.map A.int) k=some (.int (xs.getD k.toNat 0)):=ixG (by lia) (by lia);simp only[j9,bools,x1,x2]) (λk _ _ _=>by simp only[j9,bools]) (by lia)
 unfold ny Ca CT;simp only[j9,bools,l6,Nat.reduceAdd,Nat.reduceSub,ec];rfl
theorem IP{t:Int}:∀(p:List Int),Xd S (.int t) (p.map .int)=some (decide (t∈p))
 | []=>rfl
 | x::p=>by
  show(qU S 12 (.int x) (.int t)).bind (λa=>(Xd S (.int t) (p.map .int)).map λb=>a || b)=_;rw[IP p];show some ((x == t) || decide (t∈p))=_;by_cases c:x=t
  ·subst c;rw[bK,bq (show x∈x::p from aG ..)];rfl
  ·rw[fj.mpr c];congr 1;rw[gp,je];constructor
   ·exact λz=>aI _ z
   ·intro z
    rcases bB.mp z with z|z
    ·exact absurd z.symm c
    ·exact z
open Po (Pl Ok Bd)
open Su (Es At Vl AF)
theorem PF{o:List Int}{N k:Nat}(hl:o.length=N)(h1:1<=k)(h2:k<N):decide ((k:Int)∈fl o N)=Su.l8 o k:=by
 unfold fl Su.l8;rw[je,cF,nq,iZ,show((k:Int)-1).toNat=k-1 by lia,c7];constructor
 ·exact λh=>h.2
 ·exact λh=>⟨⟨by lia,by lia⟩,h⟩
theorem Hs{S:jx}{n N k:Nat}{es:Es}(h:Sm S n es)(h1:∀e∈es,e.1.length=N/\2 * e.2.2.length<=j/\∀p∈e.2.2,p.2.natAbs<big)(k1:1<=k)(k2:k<N)(hN:N<=20)(hl:(2 * es.length+2) * j<16777216)(hl':es.length<=100000) :
  ∃(L:Nat) (S':jx) (rs:Es),ki [.ref n,.int k] S=.ok (.ref L) S'/\Sm S' L rs/\Su.sm rs=Su.bx k (Su.sm es)/\(∀e∈rs,Ok e.2.2/\e.2.2≠[]/\e.2.2.length<=2 * es.length * j/\S.length<=e.2.1/\e.2.1<L)/\Su.Ap rs/\rs.length<=2 * es.length/\S.length<=L/\lG S S':=by
 have k0:lG S (S++[.dct []]):=Kp.refl.lay;obtain⟨y3,y4,xs,D,T,hz,e1,f,kp⟩:=Su.vO (w:=2) (j:=j) (b:=S.length) (i0:=0) (S:=S++[.dct []]) (S1:=S++[.dct []]) (d:=S.length) (n:=n) (es:=es) (src:=mH) (c:=lD) (g:=xG 2 (oW (ku 3) (oW (ku 4) (xO)))) (λy z _=>[.ref n,.int k,.ref S.length,y,z]) (λ_=>True) (Su.gX k) (λ_ _ _ _ _=>rfl) (x3:=.unb) (x4:=.unb) (xs0:=[]) trivial
  (show mH _ _=_ from mP (by simp only[j9,bools]) (ko h.l)) (ko h.l) (Su.Fil.new Su.nu) λi e T Q D xs hi he _ kT f=>by
   obtain⟨b1,b2,b3⟩:=h1 e he;have tl:=kT.len;have hm:2 * i+2<=2 * es.length:=by lia
   have hm2:(2 * i+2) * j<=(2 * es.length) * j:=bJ _ hm;have hm3:(2 * es.length+2) * j=2 * es.length * j+2 * j:=by rw[Nat.add_mul]
   have hm4:(2 * i+2) * j=(2 * i+1) * j+j:=dX _ _;have hm5:(2 * i+1) * j=2 * i * j+j:=dX _ _;rw[aR]at tl;obtain⟨T0,e0,kq⟩:=yj (S:=T) (xs:=e.1) (k:=k) k1 (by lia) (by lia);have aT:=((h.a.wI k0).De kT Su.nu).wI kq;have f0:=f.wI kq;have qtl:=kq.len;rw[cA]at f0;have ne1:Wd.ex e.1 k≠[]:=λz=>by have:=Wd.k_ e.1 k;rw[z]at this;simp at this;lia
   obtain⟨D1,T1,e1,f1,k1'⟩:=f0.add qG (o:=Wd.ex e.1 k) (aT e he) (by lia) ne1 (by lia) (by lia) (by lia);have k1l:=k1'.len;have fo:=ve (S:=T1) (xs:=e.1) (n:=N) b1 hN;have in1:Z5 false (.int k) (.ref T1.length) (T1++[.lst ((fl e.1 N).map .int)])=.ok (.bl (Su.l8 e.1 k)) (T1++[.lst ((fl e.1 N).map .int)]):=by
    show opt (jw _ _) _=_;rw[jM,j3,IP,PF b1 k1 k2];rfl
   have kE:lG T1 (T1++[.lst ((fl e.1 N).map .int)]):=Kp.refl.lay;obtain⟨U,hU⟩:∃U,U=T1++[O.lst ((fl e.1 N).map .int)]:=⟨_,rfl⟩;rw[<- hU]at in1 kE fo;have fU:=f1.wI kE;have kTU:Kp (·=S.length) T U:=(kq.of0.trans k1').trans kE.of0
   cases hf:Su.l8 e.1 k with
   | false=>
    refine⟨D1,U,[],trivial,?_,?_,kTU⟩
    ·rw[hf]at in1;unfold lD;simp only[j9,rR,bools,e0,e1,fo,in1]
    ·rw[cA];unfold Su.gX;rw[hf,aJ (by simp)];exact fU.mono (by lia)
   | true=>
    have aU:=(aT.De k1' f0.dd).wI kE;have n0:jw (U++[.lst (AF.map kA)]) U.length=some (AF.map kA):=jM;obtain⟨L,T2,e2,l1,l2,k2'⟩:=vV kA (λ_ _ _=>rfl) n0 (ko (o:=.lst (AF.map kA)) (aU e he)) (show 2 * e.2.2.length<16777216 by lia) (λp hp=>by
     rw[tM]
     rcases bB.mp hp with z|z
     ·rw[z];exact show 1<2 ^ 4096 by decide +kernel
     ·rw[aV.mp z];exact show 1<2 ^ 4096 by decide +kernel) b3
    have kU2:lG U T2:=(Kp.refl.lay).trans k2';have tl2:=kU2.len;have tle:=kE.len;obtain⟨D2,T3,e3,f3,k3'⟩:=(fU.wI kU2).add qG (o:=e.1) l1 (bH (Su.An _ _) (show 2 * e.2.2.length<=j from b2)) (λz=>by rw[z]at b1;simp at b1;lia) (by lia) (by lia) (by lia);refine⟨D2,T3,[],trivial,?_,?_,(kTU.trans kU2.of0).trans k3'⟩
    ·rw[hf]at in1;unfold lD;simp only[j9,rR,bools,e0,e1,fo,in1];rw[show[((-1:Int),(1:Int)),((1:Int),(-1:Int))].map kA=AF.map kA from rfl];simp only[j9,rR,bools,e2,e3]
    ·rw[cA];unfold Su.gX;rw[hf,aM rfl];exact f3
 have kT:lG S T:=k0.old kp λq hq _ z=>by lia
 have fl:=f.ll;rw[cA]at fl;obtain⟨L,S',e2,r1,r2,r3,r4⟩:=zH f.dd f.aa f.kk (by lia);have tl:=kT.len;have fs:=f.ss;rw[Su.HV]at fs;refine⟨L,S',_,?_,⟨r1,r2⟩,by rw[Su.tX,fs];rfl,λe he=>?_,f.pw.out _,?_,by lia,kT.trans r4⟩
 ·unfold ki qe qi;simp only[j9,rR,bools,l6,Nat.reduceAdd,Nat.reduceSub,Su.qw];rw[show ly mH _ lD _ _=_ from e1];simp only[j9,rR,bools,e2]
 ·obtain⟨m1,m2⟩:=Su.tU he;obtain⟨v1,v2,v3⟩:=f.vv e m1;have lt:=ni (f.aa e m1);rw[cA]at v2;exact⟨v1,λz=>(by rw[z]at m2;cases m2),v2,v3,by lia⟩
 ·unfold Su.qL;rw[aK];refine bH (dw _ _) ?_;rw[(jU _).length_eq,aK];exact fl
end K91
namespace K91
open PySem L2 Am
open Po (Pl Ok Bd)
open Su (Es At Vl AF)
open He (Sz)
open Fw (rg)
theorem Sm.De{n:Nat}(h:Sm S n es)(k:Kp (·=d) S S')(hd:jQ S d=some kvs):Sm S' n es:=⟨k.lst _ _ (λz=>Su.nN hd h.l z.symm) h.l,h.a.De k hd⟩
theorem nh{N:Nat}{o:List Int}(h:o.Perm (rg N)):o.length=N:=by rw[h.length_eq,Wd.jI]
theorem kG{es:Es}{l:Su.Ps}(h:Su.sm es=l){e:Su.En}(he:e∈es):(e.1,e.2.2)∈l:=by rw[<- h];exact bg.mpr ⟨e,he,rfl⟩
structure Kn (N:Nat)(Φ:List Int->Su.Ps)(T:jx)(d:Nat)(K:Es):Prop where
 dd:jQ T d=some (K.map Su.kv)
 gd:Su.Gd (Su.sm K)
 pm:∀e∈K,e.1.Perm (rg N)
 at_:∀e∈K,∃es:Es,Sm T e.2.1 es/\Su.sm es=Φ e.1
theorem Kn.wI{N:Nat}{Φ:List Int->Su.Ps}{K:Es}(h:Kn N Φ T d K)(k:lG T T'):Kn N Φ T' d K:=⟨k.dct _ _ (λz=>z) h.dd,h.gd,h.pm,λe he=>by obtain⟨es,a,b⟩:=h.at_ e he;exact⟨es,a.kp k,b⟩⟩
theorem Kn.De{N f:Nat}{Φ:List Int->Su.Ps}{K:Es}(h:Kn N Φ T d K)(k:Kp (·=f) T T')(hf:jQ T f=some kvs)(ne:d≠f):Kn N Φ T' d K:=⟨k.dct _ _ ne h.dd,h.gd,h.pm,λe he=>by obtain⟨es,a,b⟩:=h.at_ e he;exact⟨es,a.De k hf,b⟩⟩
theorem Kn.many{N:Nat}{Φ:List Int->Su.Ps}{K:Es}(hN:N<6)(h:Kn N Φ T d K):K.length<=120:=by
 have:=He.many hN h.gd.nd λo ho=>by
  obtain⟨e,he,rfl⟩:=bg.mp ho;obtain⟨f,hf,rfl⟩:=bg.mp he;exact h.pm f hf
 rwa [aK,Su.ng]at this
theorem Ui:Ok []:=⟨List.Pairwise.nil,λ_ z=>nomatch z⟩
theorem Kn.put{N r:Nat}{Φ:List Int->Su.Ps}{K:Es}{o:List Int}(hN:N<6)(h:Kn N Φ T d K)(po:o.Perm (rg N))(hr:Sm T r es)(he:Su.sm es=Φ o) :
  ∃T' K',EV (.ref d) (.tup (o.map .int)) (.ref r) T=.ok () T'/\Kn N Φ T' d K'/\vq (.ref d) (.tup (o.map .int)) T'=.ok (.ref r) T'/\Sm T' r es/\Kp (·=d) T T':=by
 have k:Kp (·=d) T (T.set d (.dct ((Su.oH K o r []).map Su.kv))):=Kp.refl.BN (.inl rfl);have dd:jQ (T.set d (.dct ((Su.oH K o r []).map Su.kv))) d=some ((Su.oH K o r []).map Su.kv):=Su.B7 (Su.v_ h.dd);obtain⟨e,e1,e2⟩:=Su.Km (D:=K) (o:=o) (r:=r) (p:=[]);have hm:=h.many hN;refine⟨_,Su.oH K o r [],?_,⟨dd,?_,λe he=>?_,λe he'=>?_⟩,?_,hr.De k h.dd,k⟩
 ·rw[Su.zg,h.dd,j3,Su.Gv (p:=[])];exact xD (show(K.map Su.kv).length<16777216 by rw[aK];lia)
 ·rw[Su.GC];exact h.gd.put Ui
 ·rcases Su.qZ he with z|z
  ·exact h.pm e z
  ·rw[z];exact po
 ·rcases Su.qZ he' with z|z
  ·obtain⟨fs,a,b⟩:=h.at_ e z;exact⟨fs,a.De k h.dd,b⟩
  ·rw[z];exact⟨es,hr.De k h.dd,he⟩
 ·rw[Su.tF,dd,j3,Su.pW,e1,dP,j3,e2]
theorem Mi{o:List Int}:J4 true (.tup (o.map .int)) (.ref d) S=opt (jQ S d) λkvs=>.ok (.bl (!(kF kvs o).isSome)) S:=by
 show opt (jQ S d) (λkvs=>opt (A.ints (o.map .int)) λns=>_)=_;rw[ints_map];rfl
theorem DO{N P n:Nat}{l:Su.Ps}(hN:N<6)(hz:Sz N P C l)(hP:P<=1000)(hC:3 ^ 25 * C<big)(hs:Su.sm es=l):∀(f:Nat) {S:jx}{K:Es}{o:List Int},Iv.inv o<f->o.Perm (rg N)->Sm S n es->Kn N (He.bo l) S d K ->
  ∃(r:Nat) (S':jx) (K' rs:Es),n8 f [.ref n,.tup (o.map .int),.ref d] S=.ok (.ref r) S'/\Kn N (He.bo l) S' d K'/\Sm S' r rs/\Su.sm rs=He.bo l o/\Kp (·=d) S S'
 | 0,S,K,o,hf,_,_,_=>absurd hf (eS _)
 | f+1,S,K,o,hf,po,h,hK=>by
  have lo:=nh po;show ∃(r:Nat) (S':jx) (K' rs:Es),lC pK (o8 (n8 f)) [.ref n,.tup (o.map .int),.ref d] S=.ok (.ref r) S'/\_;have i1:J4 true (.tup (o.map .int)) (.ref d) S=.ok (.bl (!(kF (K.map Su.kv) o).isSome)) S:=by rw[Mi,hK.dd,j3]
  unfold o8 pK
  cases hL:Su.fE K o with
  | some e=>
   obtain⟨m1,rfl⟩:=Su.qt hL;obtain⟨rs,r1,r2⟩:=hK.at_ e m1;have lk:kF (K.map Su.kv) e.1=some (.ref e.2.1):=by rw[Su.pW,hL];rfl
   have x1:vq (.ref d) (.tup (e.1.map .int)) S=.ok (.ref e.2.1) S:=by rw[Su.tF,hK.dd,j3,lk,j3]
   rw[lk]at i1;refine⟨e.2.1,S,K,rs,?_,hK,r1,r2,Kp.refl⟩;simp only[j9,rR,bools,l6,Nat.reduceAdd,Nat.reduceSub,i1,iT,cP,x1]
  | none=>
   have lk:kF (K.map Su.kv) o=none:=by rw[Su.pW,hL];rfl
   rw[lk]at i1;have fo:=ve (S:=S) (xs:=o) (n:=N) lo (by lia);have hh:(fl o N).head?=(He.ff o).map λk:Nat=>(k:Int):=by
    have:=He.Rc (o:=o);rw[lo]at this;exact this
   obtain⟨S1,hS1⟩:∃S1,S1=S++[O.lst ((fl o N).map .int)]:=⟨_,rfl⟩;have k1:lG S S1:=by rw[hS1];exact Kp.refl.lay
   have l1:jw S1 S.length=some ((fl o N).map .int):=by rw[hS1];exact jM
   rw[<- hS1]at fo;have tr:=AU l1
   cases hf1:He.ff o with
   | none=>
    have fe:fl o N=[]:=by
     rw[hf1]at hh;exact List.head?_eq_none_iff.mp hh
    obtain⟨T',K',e1,n1,x1,s1,kp⟩:=(hK.wI k1).put hN po (h.kp k1) (by rw[hs];exact(He.E5 hf1).symm);refine⟨n,T',K',es,?_,n1,s1,by rw[hs];exact(He.E5 hf1).symm,k1.of0.trans kp⟩;rw[fe]at tr;simp only[j9,rR,bools,l6,Nat.reduceAdd,Nat.reduceSub,i1,gD,c_,fo,tr,f6,iw,cP,Su.tY,e1,x1]
   | some k=>
    obtain⟨f1,f2,f3⟩:=He.B4 hf1;obtain⟨t,ft⟩:∃t,fl o N=(k:Int)::t:=by
     rw[hf1]at hh;exact List.head?_eq_some_iff.mp hh
    rw[ft]at tr l1;have hd:=Fw.nI f1 f2 (by have:=bN f3;lia);obtain⟨S2,x2,k2⟩:=yj (S:=S1) (xs:=o) (k:=k) f1 f2 (by lia);have k12:=k1.trans k2;have pe:=He.mY po f1 (by lia);obtain⟨r3,S3,K3,rs3,x3,n3,s3,q3,k3⟩:=DO hN hz hP hC hs f (by lia) pe (h.kp k12) (hK.wI k12);have z3:Sz N (P+25) (3 ^ 25 * C) (Su.sm rs3):=by rw[q3];exact hz.bo hN pe
    have m3:=z3.many hN;rw[Su.ng]at m3;obtain⟨L,S4,rs4,x4,s4,q4,_,_,_,_,k4⟩:=Hs (j:=2 * (2 * (P+25)+1)) s3 (k:=k) (N:=N) (λe he=>by
     have b:=z3.pb (kG rfl he);exact⟨nh (z3.pm _ (kG rfl he)),by have:=b.2;show 2 * e.2.2.length<=_;exact Nat.mul_le_mul_left _ this,λp hp=>cL (b.1.c p hp) hC⟩) f1 (by lia) (by lia) (by
      have:(2 * rs3.length+2) * (2 * (2 * (P+25)+1))<=242 * (2 * (2 * (P+25)+1)):=bJ _ (by lia);lia) (by lia)
    have q4':Su.sm rs4=He.bo l o:=by rw[q4,q3];exact(He.Qi hf1).symm
    obtain⟨T',K',e1,n1,x1,s1,kp⟩:=(n3.wI k4).put hN po s4 q4';refine⟨L,T',K',rs4,?_,n1,s1,q4',((k12.of0.trans k3).trans k4.of0).trans kp⟩;have l3:jw S2 S.length=some (((k:Int)::t).map .int):=k2.lst _ _ (λz=>z) l1;have l4:jw S3 S.length=some (((k:Int)::t).map .int):=k3.lst _ _ (λz=>Su.nN (hK.wI k12).dd l3 z.symm) l3;simp only[j9,rR,bools,l6,Nat.reduceAdd,Nat.reduceSub,i1,gD,c_,fo,tr,bC,i9,cP];rw[bC]at l1 l3 l4;simp only[j9,rR,bools,l1,AO,x2,x3,l4,x4,Su.tY,e1,x1]
end K91
namespace K91
open PySem L2 Am
theorem p7{xs:List Int}{n:Nat}(px:xs.Perm (kc 1 ((n:Int)+1))):xs.length=n:=by have:=Nj px (by lia);lia
theorem Fj{xs:List Int}{n:Int}(px:xs.Perm (kc 1 (n+1))):xs.Nodup:=px.nodup_iff.mpr (pB _ _)
theorem Jb{xs:List Int}{n:Nat}(px:xs.Perm (kc 1 ((n:Int)+1)))(h2:n<=1000):∃(ys:List Int) (S':jx),sD [.tup (xs.map .int)] S=.ok (.tup (ys.map .int)) S'/\Bl.oz xs ys/\ys.Perm (kc 1 ((n:Int)+1))/\lG S S':=by
 have lx:=p7 px;unfold sD Fl GA;simp only[j9,bools,l6,Nat.reduceAdd,Nat.reduceSub,aK,lx];rw[XM (k:=n) jM (by lia)];simp only[j9,bools];have hlen:(S++[O.lst [.int 0]]).length=S.length+1:=by simp
 rw[hlen];refine Vi (xs:=xs.map .int) (S1:=S++[O.lst [.int 0]]++[O.lst (List.replicate n (.int 0))]) (Wu (by simp only[j9,bools]))
  (λt τ S'=>∃(a2 a3:A) (ps:List Int),τ=[.tup (xs.map .int),.ref (S.length+1),a2,a3]/\jw S' (S.length+1)=some (ps.map .int)/\ps.length=n/\(∀(p:Nat) (h:p<xs.length),p<t->ps[(xs[p]-1).toNat]?=some ((p:Int)+1))/\lG S S')
  (λr=>∃(ys:List Int) (S':jx),RS.end (RS.seq r _)=.ok (.tup (ys.map .int)) S'/\Bl.oz xs ys/\ys.Perm (kc 1 ((n:Int)+1))/\lG S S') ⟨.unb,.unb,List.replicate n 0,rfl,?_,by simp,λ_ _ h=>absurd h (eS _),Kp.refl.lay.lay⟩ ?_ ?_
 ·rw[List.map_replicate,<- hlen];exact jM
 ·rintro t x τ S' hx ⟨a2,a3,ps,rfl,hL,hl,hps,hk⟩;rw[aP]at hx;obtain⟨v,hv,rfl⟩:=aY.mp hx;obtain⟨ht,ev⟩:=aN.mp hv;have mv:=EI px (aX hv);refine⟨_,_,by simp only[j9,bools,mz (show([_,_]:List A).length=2 from rfl)];rfl,.inl ?_⟩;have hi:A7 ps.length (v-1)=some (v-1).toNat:=zc (by lia) (by lia);have lL:=ni hL;unfold Dt;simp only[j9,bools,hL,aK,hi];refine⟨_,_,rfl,_,_,ps.set (v-1).toNat ((t:Int)+1),rfl,?_,by rw[bY];exact hl,λp hp hpt=>?_,hk.set (.inr (by lia))⟩
  ·rw[pT lL,iN]
  ·by_cases e:p=t
   ·subst e;rw[ev,bV (by lia)]
   ·have ne:(xs[p]-1).toNat≠(v-1).toNat:=λz=>by
     have mp:=EI px (dz hp);have:xs[p]=xs[t]:=by rw[ev];lia
     exact e ((dc (Fj px)).mp this)
    rw[cu (c6 ne)];exact hps p hp (by lia)
 ·rintro τ S' ⟨a2,a3,ps,rfl,hL,hl,hps,hk⟩;rw[aK]at hps;refine⟨ps,S',by simp only[j9,bools,hL],⟨by lia,λp h=>hps p h h⟩,?_,hk⟩;refine(xr (pB _ _) (λv hv=>?_) (by rw[o_];lia)).symm;have:=nq.mp hv;have hp:(v-1).toNat<xs.length:=by lia
  have:=aX (hps (v-1).toNat hp hp)
  rwa [show(((v-1).toNat:Nat):Int)+1=v by lia]at this
open Po (Pl Ok Bd)
open Su (Es At Vl AF)
open He (Sz)
open Fw (rg)
structure Nw (b L:Nat)(rs:Es):Prop where
 ap:Su.Ap rs
 nw:∀e∈rs,b<=e.2.1/\e.2.1<L
theorem Aw{S:jx}{N P c n:Nat}{fs:Es}(hN:N<6)(h0:1<=N)(h:Sm S n es)(h':Sm S m fs)(hz:Sz N P C (Su.sm es))(hz':Sz N Q c (Su.sm fs))(hP:P+Q<=500)(hC:3 ^ 25 * C<big)(hc:c<big) :
  ∃(L:Nat) (S':jx) (rs:Es),mZ [.ref n,.ref m] S=.ok (.ref L) S'/\Sm S' L rs/\Su.sm rs=He.RH (Su.sm es) (Su.sm fs)/\Nw S.length L rs/\S.length<=L/\lG S S':=by
 obtain⟨S1,hS1⟩:∃S1,S1=S++[O.dct []]++[O.dct []]:=⟨_,rfl⟩;have k0:lG S S1:=by rw[hS1];exact Kp.refl.lay.lay
 have d0:jQ S1 S.length=some []:=by rw[hS1];exact Su.vg Su.nu
 have d1:jQ S1 (S.length+1)=some []:=by
  have:=Su.nu (S:=S++[O.dct []]) (xs:=[]);rw[aR,bR]at this;rw[hS1];exact this
 have len1:S1.length=S.length+2:=by rw[hS1];simp
 obtain⟨j,hj⟩:∃j,j=2 * (P+25+Q)+1:=⟨_,rfl⟩;have lf:=hz'.many hN;rw[Su.ng]at lf;have hle:(fs.map Su.ent).length=fs.length:=aK ..;have key:∃(y4 y5 y6 y7:A) (D K:Es) (T:jx) (i:Nat),ly nW (xG 2 (oW (ku 4) (oW (ku 5) (xO)))) nY [.ref n,.ref m,.ref S.length,.ref (S.length+1),.unb,.unb,.unb,.unb] S1=.nx [.ref n,.ref m,.ref S.length,.ref (S.length+1),y4,y5,y6,y7] T/\i<=120 * fs.length/\Su.Fil T S.length S.length i j (Su.adds [] (He.wm (Su.sm es) (Su.sm fs))) D/\lG S T:=by
  refine rJ (n:=m) (xs:=fs.map Su.ent) (S1:=S1) (show nW _ _=_ from mP (by simp only[j9,bools]) (k0.lst _ _ (λz=>z) h'.l))
   (λt τ T=>(∃y4 y5 y6 y7:A,τ=[.ref n,.ref m,.ref S.length,.ref (S.length+1),y4,y5,y6,y7])/\(∃(i:Nat) (D:Es),i<=120 * t/\Su.Fil T S.length S.length i j (Su.adds [] (He.wm (Su.sm es) (Su.sm (fs.take t)))) D)/\(∃K,Kn N (He.bo (Su.sm es)) T (S.length+1) K)/\lG S T)
   (λr=>∃(y4 y5 y6 y7:A) (D K:Es) (T:jx) (i:Nat),r=.nx [.ref n,.ref m,.ref S.length,.ref (S.length+1),y4,y5,y6,y7] T/\i<=120 * fs.length/\Su.Fil T S.length S.length i j (Su.adds [] (He.wm (Su.sm es) (Su.sm fs))) D/\lG S T)
   ⟨⟨_,_,_,_,rfl⟩,⟨0,[],aO _,Su.Fil.new d0⟩,⟨[],d1,Su.Gd.nil,(λ_ z=>nomatch z),λ_ z=>nomatch z⟩,k0⟩ (λt τ T hh=>hh.2.2.2.lst _ _ (λz=>z) h'.l) ?_ ?_
  ·rintro t z τ T hz1 ⟨⟨y4,y5,y6,y7,rfl⟩,⟨i,D,hi,fT⟩,⟨K,hK⟩,kT⟩;rw[aP]at hz1;obtain⟨e,he,rfl⟩:=aY.mp hz1;have htl:=(aN.mp he).1;have me:=aX he;have pe:=hz'.pm _ (kG rfl me);have be:=hz'.pb (kG rfl me);refine⟨[.ref n,.ref m,.ref S.length,.ref (S.length+1),.tup (e.1.map .int),.ref e.2.1,y6,y7],T,rfl,.inl ?_⟩;obtain⟨r,T1,K1,rs,x1,n1,s1,q1,k1⟩:=DO hN hz (by lia) hC rfl 26 (by have:=He.zd hN pe;lia) pe (h.kp kT) hK;have z1:Sz N (P+25) (3 ^ 25 * C) (Su.sm rs):=by rw[q1];exact hz.bo hN pe
   have m1:=z1.many hN;rw[Su.ng]at m1;have f1:Su.Fil T1 S.length S.length i j (Su.adds [] (He.wm (Su.sm es) (Su.sm (fs.take t)))) D:=⟨k1.dct _ _ (by lia) fT.dd,fT.aa.De k1 hK.dd,fT.ss,fT.vv,fT.kk,fT.ll,fT.pw⟩;have p1:jw T1 e.2.1=some (Po.pl e.2.2):=k1.lst _ _ (λz=>Su.nN hK.dd ((h'.kp kT).a e me) z.symm) ((h'.kp kT).a e me);have tl:=kT.len;have tl1:=k1.len;have len2:S.length+2<=T.length:=by have:=Su.v_ hK.dd;lia
   obtain⟨z6,z7,_,D2,T2,_,x2,f2,k2⟩:=Su.vO (w:=1) (j:=j) (b:=S.length) (i0:=i) (S:=T) (S1:=T1) (d:=S.length) (n:=r) (es:=rs) (src:=qd) (c:=qq) (g:=xG 2 (oW (ku 6) (oW (ku 7) (xO)))) (λy z _=>[.ref n,.ref m,.ref S.length,.ref (S.length+1),.tup (e.1.map .int),.ref e.2.1,y,z]) (λ_=>True) (λx Q=>Su.wY Q x.1 (Po.times e.2.2 x.2.2)) (λ_ _ _ _ _=>rfl) (x3:=y6) (x4:=y7) (xs0:=[]) trivial
    (show qd _ _=_ from mP (by
     have x1':uK [.ref n,.tup (e.1.map .int),.ref (S.length+1)] T=.ok (.ref r) T1:=x1;simp only[j9,rR,bools,x1']) s1.l) s1.l f1 λa x U Q1 D' xs ha hx _ kU f=>by
     have ul:=kU.len;have b1:=z1.pb (kG rfl hx);rw[dZ]at f;rw[dZ];have ai:i+a<14400:=by lia
     have hm1:(i+a) * j<=14400 * j:=bJ _ (by lia);obtain⟨L,U1,e1,l1,l2,k1'⟩:=yE (kU.lst _ _ (λz=>Su.nN f1.dd p1 z.symm) p1) ((s1.a.De kU f1.dd) x hx) (by
      have a1:=be.2;have a2:=b1.2;have a3:(2 * Q+1) * (2 * (P+25)+1)<=1001 * 1051:=dH (by lia) (by lia);exact cL (bH (dH a1 a2) a3) (by decide)) (λp hp=>cL (be.1.c p hp) hc) λp hp=>cL (b1.1.c p hp) hC
     have k1l:=k1'.len;have tl':(Po.times e.2.2 x.2.2).length<=j:=by
      have:=He.PB.times be.1 b1.1;rw[hj];refine bH this ?_;lia
     obtain⟨D3,U2,e2,f',k'⟩:=(f.wI k1').add qG (o:=x.1) l1 tl' (λz=>by
      have:=nh (z1.pm _ (kG rfl hx));rw[show((x.1,x.2.2):List Int×Pl).1=x.1 from rfl,z]at this;simp at this;lia) (by lia) (by lia) (by lia)
     exact⟨D3,U2,[],trivial,by unfold qq;simp only[j9,rR,bools,e1,e2],f',k1'.of0.trans k'⟩
   have kT2:lG S T2:=(kT.old k1 λq hq _ z=>by lia).old k2 λq hq _ z=>by lia
   refine⟨[.ref n,.ref m,.ref S.length,.ref (S.length+1),.tup (e.1.map .int),.ref e.2.1,z6,z7],T2,?_,⟨_,_,_,_,rfl⟩,⟨i+1 * rs.length,D2,by lia,?_⟩,⟨K1,n1.De k2 f1.dd (by lia)⟩,kT2⟩
   ·unfold nY;exact x2
   ·rw[Su.wU]at f2;rw[c8,he,Su.Ge];unfold He.wm at f2 ⊢;rw[iJ,Su.yY];have:List.flatMap (λe=>He.xK e.2 (He.bo (Su.sm es) e.1)) (Su.sm (some e).toList)=(Su.sm rs).map λx=>(x.1,Po.times e.2.2 x.2):=by
     show He.xK e.2.2 (He.bo (Su.sm es) e.1)++[]=_;rw[ck,q1];rfl
    rw[this];exact f2
  ·rintro τ T ⟨⟨y4,y5,y6,y7,rfl⟩,⟨i,D,hi,fT⟩,⟨K,hK⟩,kT⟩;rw[hle]at hi;rw[hle,di]at fT;exact⟨y4,y5,y6,y7,D,K,T,i,rfl,hi,fT,kT⟩
 obtain⟨y4,y5,y6,y7,D,K,T,i,e1,hi,f,kT⟩:=key;have fl:=f.ll;obtain⟨L,S',e2,r1,r2,r3,r4⟩:=zH f.dd f.aa f.kk (by lia);have tl:=kT.len;refine⟨L,S',_,?_,⟨r1,r2⟩,by rw[Su.tX,f.ss];rfl,⟨f.pw.out _,λe he=>?_⟩,by lia,kT.trans r4⟩
 ·unfold mZ sH sj;simp only[j9,rR,bools,l6,Nat.reduceAdd,Nat.reduceSub,Su.qw,aR,bR];rw[<- hS1,show ly nW _ nY _ _=_ from e1];simp only[j9,rR,bools,e2]
 ·obtain⟨m1,m2⟩:=Su.tU he;obtain⟨v1,v2,v3⟩:=f.vv e m1;have lt:=ni (f.aa e m1);exact⟨v3,by lia⟩
theorem Nd{S:jx}{N P n:Nat}(hN:N<6)(h:Sm S n es)(hz:Sz N P C (Su.sm es)) :
  ∃(L:Nat) (S':jx) (rs:Es),kZ [.ref n] S=.ok (.ref L) S'/\Sm S' L rs/\Su.sm rs=He.Gh (Su.sm es)/\(∀b,Nw b n es->Nw b L rs)/\S.length<=L/\lG S S':=by
 have lf:=hz.many hN;rw[Su.ng]at lf;have pm:∀e∈es,e.1.Perm (rg N):=λe he=>hz.pm _ (kG rfl he);have g2:∀x y:A,gd (([x,y]:List A).length<=sizeLine)=λr:Am.R A=>r:=λx y=>by funext r;exact vZ (show 2<=16777216 by decide)
 obtain⟨S1,e1,k1⟩:=Su.Kf (es:=es) (n:=n) (cap:=[]) (src:=nO (ju 0)) (ex:=qM (jt (eFn sD (jt (ju 0) (jB))) (jt (ju 1) (jB)))) (τ:=[.ref n]) (S:=S) (mP (by simp only[j9,bools]) h.l) h.l (λe=>Su.ent (He.bk e.1,e.2)) (λe he T kT=>by
  obtain⟨ys,T',b1,b2,b3,b4⟩:=Jb (S:=T) (pm e he) (by lia);have:ys=He.bk e.1:=He.m8 ⟨pm e he,b3,b2⟩ (He.mR (pm e he));subst this;exact⟨T',by simp only[j9,bools,b1,g2];rfl,b4⟩) (by lia)
 obtain⟨es',he'⟩:∃es',es'=es.map λe:Su.En=>(He.bk e.1,e.2):=⟨_,rfl⟩;have l1:jw (S1++[.lst (es.map λe=>Su.ent (He.bk e.1,e.2))]) S1.length=some (es'.map Su.ent):=by rw[jM,he',bh];rfl
 have nd:(es'.map Prod.fst).Nodup:=by
  have:=He.yD (n:=N) (ks:=es.map Prod.fst) (λo ho=>by obtain⟨e,he,rfl⟩:=bg.mp ho;exact pm e he) (by
   have:=hz.cn.gd.nd;unfold Su.sm at this
   rwa [bh]at this)
  rw[he',bh];rw[bh]at this;exact this
 have x1:=Su.JQ l1 nd;have k2:lG S (S1++[O.lst (es.map λe=>Su.ent (He.bk e.1,e.2))]++[O.lst ((Am.lZ es').map Su.ent)]):=k1.lay.lay;have perm:=Am.o7 es';have hm:∀e∈Am.lZ es',∃f∈es,e=(He.bk f.1,f.2):=λe he=>by
  have:=perm.mem_iff.mp he;rw[he']at this;obtain⟨f,hf,rfl⟩:=bg.mp this;exact⟨f,hf,rfl⟩
 refine⟨_,_,Am.lZ es',?_,⟨jM,λe he=>?_⟩,?_,λb hb=>⟨?_,λe he=>?_⟩,?_,k2⟩
 ·unfold kZ qY rm;simp only[j9,bools,l6,Nat.reduceAdd,Nat.reduceSub,e1,x1]
 ·obtain⟨f,hf,rfl⟩:=hm e he;exact(h.a.wI k2) f hf
 ·rw[Su.NB,he'];show Am.lZ (Su.sm (es.map λe:Su.En=>(He.bk e.1,e.2)))=Am.lZ (He.wb (Su.sm es));congr 1;unfold Su.sm He.wb;rw[bh,bh];rfl
 ·have a1:Su.Ap es':=by
   rw[he'];unfold Su.Ap;rw[cB];refine gv (λ{e f} he hf z=>⟨λw=>z.1 ?_,z.2⟩) hb.ap;have:=dg He.bk w
   rwa [He.rS (pm e he),He.rS (pm f hf)]at this
  exact(perm.pairwise_iff (λ{a b} z=>⟨z.1.symm,z.2.symm⟩)).mpr a1
 ·obtain⟨f,hf,rfl⟩:=hm e he;have:=hb.nw f hf;have ll:=ni (h.a f hf);have kl:=k1.len;refine⟨this.1,?_⟩;rw[aR];show f.2.1<_;lia
 ·have kl:=k1.len;rw[aR];lia
theorem lQ{S:jx}{N P c n:Nat}{fs:Es}(hN:N<6)(h0:1<=N)(h:Sm S n es)(h':Sm S m fs)(hz:Sz N P C (Su.sm es))(hz':Sz N Q c (Su.sm fs))(hP:P+Q<=500)(hC:3 ^ 25 * C<big)(hc:3 ^ 25 * c<big) :
  ∃(L:Nat) (S':jx) (rs:Es),j_ [.ref n,.ref m] S=.ok (.ref L) S'/\Sm S' L rs/\Su.sm rs=He.prod (Su.sm es) (Su.sm fs)/\Nw S.length L rs/\S.length<=L/\lG S S':=by
 have nl:=vD h h' (λe he=>nh (hz.pm _ (kG rfl he))) (λe he=>nh (hz'.pm _ (kG rfl he)));by_cases c1:(Su.sm fs).length<=(Su.sm es).length
 ·obtain⟨L,S',rs,e1,s1,q1,w1,l1,k1⟩:=Aw hN h0 h h' hz hz' hP hC (by lia);refine⟨L,S',rs,?_,s1,by rw[q1];unfold He.prod;rw[aM c1],w1,l1,k1⟩;rw[Su.ng,Su.ng]at c1;unfold j_ t7 tW;simp only[j9,rR,bools,l6,Nat.reduceAdd,Nat.reduceSub,nl,h.l,h'.l,aK,bq (show(fs.length:Int)<=(es.length:Int)by lia),e1]
 ·obtain⟨L1,S1,r1,e1,s1,q1,_,l1,k1⟩:=Nd hN h' hz';obtain⟨L2,S2,r2,e2,s2,q2,_,l2,k2⟩:=Nd hN (h.kp k1) hz;obtain⟨L3,S3,r3,e3,s3,q3,w3,l3,k3⟩:=Aw hN h0 (s1.kp k2) s2 (by rw[q1];exact hz'.Gh) (by rw[q2];exact hz.Gh) (by lia) hc (by lia);have z3:Sz N (Q+25+P) (120 * ((2 * P+1) * (C * (3 ^ 25 * c)))) (Su.sm r3):=by
   rw[q3,q1,q2];exact Sz.RH hN hz'.Gh hz.Gh
  obtain⟨L4,S4,r4,e4,s4,q4,w4,l4,k4⟩:=Nd hN s3 z3;refine⟨L4,S4,r4,?_,s4,by rw[q4,q3,q1,q2];unfold He.prod;rw[aJ c1],?_,?_,((k1.trans k2).trans k3).trans k4⟩
  ·rw[Su.ng,Su.ng]at c1;unfold j_ t7 tW;simp only[j9,rR,bools,l6,Nat.reduceAdd,Nat.reduceSub,nl,h.l,h'.l,aK,bw (show ¬(fs.length:Int)<=(es.length:Int)by lia),e1,e2,e3,e4]
  ·have:=w4 _ w3;have:=k1.len;have:=k2.len;exact⟨(w4 _ w3).ap,λe he=>⟨by have:=((w4 _ w3).nw e he).1;lia,((w4 _ w3).nw e he).2⟩⟩
  ·have:=k1.len;have:=k2.len;have:=k3.len;lia
end K91
namespace K91
open PySem L2 Am
open Po (Pl Ok Bd)
theorem HS{k:Nat}:∀l:Pl,qf (qU S (k+2)) (Po.pl l) (Po.pl l)=some true
 | []=>rfl
 | p::l=>by
  have e:qU S (k+2) (Po.pA p) (Po.pA p)=some true:=by
   show qf (qU S (k+1)) (([p.1,p.2]:List Int).map .int) (([p.1,p.2]:List Int).map .int)=_;rw[vW,bq rfl]
  show(qU S (k+2) (Po.pA p) (Po.pA p)).bind _=_;rw[e];show Option.map _ (qf (qU S (k+2)) (Po.pl l) (Po.pl l))=_;rw[HS l];rfl
open Po (Pl Ok Bd)
open Su (Es At Vl)
theorem D4{k:Nat}:∀{es fs:Es},At S es->At S fs->Su.sm es=Su.sm fs->qf (qU S (k+4)) (es.map Su.ent) (fs.map Su.ent)=some true
 | [],[],_,_,_=>rfl
 | [],f::fs,_,_,h=>nomatch h
 | e::es,[],_,_,h=>nomatch h
 | e::es,f::fs,h1,h2,h3=>by
  obtain⟨h4,h5⟩:=List.cons.inj h3;have h4:(e.1,e.2.2)=(f.1,f.2.2):=h4;obtain⟨e1,e2⟩:=Prod.mk.inj h4;have a1:=h1 e (aG ..);have a2:=h2 f (aG ..);rw[<- e2]at a2;have q1:qU S (k+3) (.tup (e.1.map .int)) (.tup (f.1.map .int))=some true:=by
   rw[<- e1];show qf (qU S (k+2)) _ _=_;rw[vW,bq rfl]
  have q2:qU S (k+3) (.ref e.2.1) (.ref f.2.1)=some true:=by
   show(jw S e.2.1).bind (λxs=>(jw S f.2.1).bind λys=>qf (qU S (k+2)) xs ys)=_;rw[a1,a2];exact HS (k:=k) _
  have q:qU S (k+4) (Su.ent e) (Su.ent f)=some true:=by
   show qf (qU S (k+3)) [.tup (e.1.map .int),.ref e.2.1] [.tup (f.1.map .int),.ref f.2.1]=_;show(qU S (k+3) _ _).bind (λp=>((qU S (k+3) _ _).bind λq=>(qf (qU S (k+3)) [] []).map λr=>q && r).map λq=>p && q)=_;rw[q1,q2];rfl
  show(qU S (k+4) (Su.ent e) (Su.ent f)).bind _=_;rw[q];show Option.map _ (qf (qU S (k+4)) (es.map Su.ent) (fs.map Su.ent))=_;rw[D4 (λx hx=>h1 x (aI _ hx)) (λx hx=>h2 x (aI _ hx)) h5];rfl
theorem VP{n:Nat}{fs:Es}(h:Sm S n es)(h':Sm S m fs)(e:Su.sm es=Su.sm fs):qU S 12 (.ref n) (.ref m)=some true:=by
 show(jw S n).bind (λxs=>(jw S m).bind λys=>qf (qU S 11) xs ys)=_;rw[h.l,h'.l];exact D4 (k:=7) h.a h'.a e
open Po (Pl Ok Bd)
open Su (Es At Vl)
open He (Sz)
theorem K7{S:jx}{n N P c:Nat}{fs:Es}(hN:N<6)(h0:1<=N)(h:Sm S n es)(h':Sm S m fs)(hz:Sz N P C (Su.sm es))(hz':Sz N P c (Su.sm fs))(hP:P<=10000) :
  ∃(L:Nat) (S':jx) (rs:Es),nU [.ref n,.ref m] S=.ok (.ref L) S'/\Sm S' L rs/\Su.sm rs=He.xN (Su.sm es) (Su.sm fs)/\Nw S.length L rs/\S.length<=L/\lG S S':=by
 have nl:=vD h h' (λe he=>nh (hz.pm _ (kG rfl he))) (λe he=>nh (hz'.pm _ (kG rfl he)));have m1:=hz.many hN;have m2:=hz'.many hN;rw[Su.ng]at m1 m2;have hle:(es++fs).length=es.length+fs.length:=aR ..;have n1:jw (S++[.dct []]) n=some (es.map Su.ent):=ko h.l;have n2:jw (S++[.dct []]) m=some (fs.map Su.ent):=ko h'.l;have ad:=XR n1 n2 (by rw[aK,aK];lia);rw[<- bO]at ad;have k0:lG S (S++[.dct []]++[.lst ((es++fs).map Su.ent)]):=Kp.refl.lay.lay;have hj:∀e∈es++fs,e.2.2.length<=2 * P+1/\e.1≠[]:=λe he=>by
  have:e.1.length=N/\e.2.2.length<=2 * P+1:=(bD.mp he).elim (λz=>⟨nh (hz.pm _ (kG rfl z)),(hz.pb (kG rfl z)).2⟩) λz=>⟨nh (hz'.pm _ (kG rfl z)),(hz'.pb (kG rfl z)).2⟩;exact⟨this.2,λz=>by rw[z]at this;have:=this.1;simp at this;lia⟩
 obtain⟨j,hj'⟩:∃j,j=2 * P+1:=⟨_,rfl⟩;rw[<- hj']at hj;have hb:(0+(es++fs).length) * j+j<16777216:=by
  have:(0+(es++fs).length) * j<=240 * j:=bJ _ (by lia);lia
 obtain⟨y3,y4,D,T,e1,f,kp⟩:=Su.Rr qG (j:=j) (b:=S.length) (i0:=0) (S:=S++[.dct []]) (S1:=S++[.dct []]++[.lst ((es++fs).map Su.ent)]) (d:=S.length) (x0:=.ref n) (x1:=.ref m) (x3:=.unb) (x4:=.unb) (xs:=[]) (src:=tQ) (es:=es++fs)
  (show tQ _ _=_ from mP (by simp only[j9,bools,ad]) jM) jM ((h.a.app h'.a).wI k0) (Su.Fil.new (Su.vg Su.nu)) k0.len hj hb (by lia)
 have kT:lG S T:=k0.old kp λq hq _ z=>by lia
 have fl:=f.ll;obtain⟨L,S',e2,r1,r2,r3,r4⟩:=zH f.dd f.aa f.kk (by lia);have tl:=kT.len;refine⟨L,S',_,?_,⟨r1,r2⟩,by rw[Su.tX,f.ss,Su.Ge];rfl,⟨f.pw.out _,λe he=>?_⟩,by lia,kT.trans r4⟩
 ·unfold nU BL B6;simp only[j9,rR,bools,l6,Nat.reduceAdd,Nat.reduceSub,nl,Su.qw];rw[show ly tQ _ AZ _ _=_ from e1];simp only[j9,rR,bools,e2]
 ·obtain⟨m1,m2⟩:=Su.tU he;obtain⟨v1,v2,v3⟩:=f.vv e m1;have lt:=ni (f.aa e m1);exact⟨v3,by lia⟩
noncomputable def Sn (N P C:Nat)(S:jx)(n:Nat)(l:Su.Ps):Prop:=Sz N P C l/\∃es,Sm S n es/\Su.sm es=l
theorem Sn.kp{N P n:Nat}{l:Su.Ps}(h:Sn N P C S n l)(k:lG S S'):Sn N P C S' n l:=by
 obtain⟨a,es,b,c⟩:=h;exact⟨a,es,b.kp k,c⟩
theorem Sn.eq{N P n:Nat}{l k:Su.Ps}(h:Sn N P C S n l)(h':Sn N P' C' S m k)(e:l=k):qU S 12 (.ref n) (.ref m)=some true:=by
 obtain⟨_,es,b,c⟩:=h;obtain⟨_,fs,b',c'⟩:=h';exact VP b b' (by rw[c,c',e])
theorem Sn.prod{N P c n:Nat}{l k:Su.Ps}(h:Sn N P C S n l)(h':Sn N Q c S m k)(hN:N<6)(h0:1<=N)(hP:P+Q<=500)(hC:3 ^ 25 * C<big)(hc:3 ^ 25 * c<big) :
  ∃(L:Nat) (S':jx),j_ [.ref n,.ref m] S=.ok (.ref L) S'/\Sn N (P+25+Q) (120 * ((2 * Q+1) * (c * (3 ^ 25 * C)))) S' L (He.prod l k)/\lG S S':=by
 obtain⟨a,es,b,rfl⟩:=h;obtain⟨a',fs,b',rfl⟩:=h';obtain⟨L,S',rs,e1,s1,q1,_,_,k1⟩:=lQ hN h0 b b' a a' hP hC hc;exact⟨L,S',e1,⟨a.prod hN a',rs,s1,q1⟩,k1⟩
theorem Sn.add{N P c n:Nat}{l k:Su.Ps}(h:Sn N P C S n l)(h':Sn N P c S m k)(hN:N<6)(h0:1<=N)(hP:P<=10000) :
  ∃(L:Nat) (S':jx),nU [.ref n,.ref m] S=.ok (.ref L) S'/\Sn N P (C+c) S' L (He.xN l k)/\lG S S':=by
 obtain⟨a,es,b,rfl⟩:=h;obtain⟨a',fs,b',rfl⟩:=h';obtain⟨L,S',rs,e1,s1,q1,_,_,k1⟩:=K7 hN h0 b b' a a' hP;exact⟨L,S',e1,⟨a.sum a',rs,s1,q1⟩,k1⟩
end K91
namespace K91
open PySem L2 Am
open Fw (yN Dn Two Va rg)
theorem Fq{l:List Int}{n:Nat}(hl:l.length=n){x:Int}:x∈fl l n ↔ ∃k:Nat,x=k/\yN l k:=by
 unfold fl;rw[cF,nq,iZ];constructor
 ·rintro⟨⟨h1,h2⟩,h3⟩;refine⟨x.toNat,by lia,by lia,by lia,?_⟩;rw[show(x-1).toNat=x.toNat-1 by lia]at h3;exact h3
 ·rintro⟨k,rfl,h1,h2,h3⟩;refine⟨⟨by lia,by lia⟩,?_⟩;rw[show((k:Int)-1).toNat=k-1 by lia,c7];exact h3
theorem P4{l:List Int}{n:Nat}(hl:l.length=n)(h:∀k,¬yN l k):fl l n=[]:=by
 rw[List.eq_nil_iff_forall_not_mem];intro x hx;obtain⟨k,_,hk⟩:=(Fq hl).mp hx;exact h k hk
theorem Qp{l:List Int}{n k:Nat}(hl:l.length=n)(hk:yN l k)(hm:∀j,yN l j->k<=j):∃t,fl l n=(k:Int)::t:=by
 have hin:(k:Int)∈fl l n:=(Fq hl).mpr ⟨k,rfl,hk⟩;have pw:(fl l n).Pairwise (·<=·):=(BI 1 (n:Int)).sublist List.filter_sublist;have hmem:∀x∈fl l n,(k:Int)<=x:=λx hx=>by
  obtain⟨j,rfl,hj⟩:=(Fq hl).mp hx;have:=hm j hj;lia
 cases e:fl l n with
 | nil=>rw[e]at hin;cases hin
 | cons y t=>
  rw[e]at hin pw hmem;have h1:=hmem y (aG ..);have:y=(k:Int):=by
   rcases bB.mp hin with z|z
   ·exact z.symm
   ·have:=(bM.mp pw).1 _ z;lia
  exact⟨t,by rw[this]⟩
theorem Xh{n:Nat}{xs:List A}(h:jw S n=some xs):A.Sj (.ref n) S=some (!xs.isEmpty):=by
 show(jw S n).map _=_;rw[h];rfl
theorem Rt(w:List Nat)(k:Nat):wd w++[A.int (k:Int)]=wd (w++[k]):=by unfold wd;rw[bO];rfl
theorem Yt{S:jx}{o:List Int}{n:Nat}(px:o.Perm (kc 1 ((n:Int)+1)))(h2:n<=20)(hu:Bl.oz o u)(hk:Dn u ks) :
  ∃(W:Nat) (S':jx),mh [.tup (o.map .int)] S=.ok (.ref W) S'/\jw S' W=some (wd ks)/\S.length<=W/\lG S S':=by
 obtain⟨ys,S1,e1,hb,py,k1⟩:=Jb (S:=S) px (show n<=1000 by lia);have eyu:ys=u:=by
  have l1:=hb.1;have l2:=hu.1;apply cT;intro q;by_cases hq:q<u.length
  ·have lo:=p7 px;obtain⟨p,hp,ep⟩:∃p,∃h:p<o.length,o[p]=(q:Int)+1:=by
    have:(q:Int)+1∈o:=px.mem_iff.mpr (nq.mpr ⟨by lia,by lia⟩);obtain⟨p,hp,ep⟩:=List.getElem_of_mem this;exact⟨p,hp,ep⟩
   have a1:=hb.2 p hp;have a2:=hu.2 p hp;rw[ep,show((q:Int)+1-1).toNat=q by lia]at a1 a2;rw[a1,a2]
  ·rw[bS (by lia),bS (by lia)]
 subst eyu;have lu:=p7 py;have hks:ks.length<=400:=by
  rw[hk.len];have:=Iv.FD ys;rw[lu]at this;exact bH this (dH h2 h2)
 have f0:=ve (S:=S1++[.lst []]) (xs:=ys) lu h2;have l1:(S1++[O.lst []]).length=S1.length+1:=by simp
 have key:=zQ (t:=pD) (c:=pJ)
  (λτ T=>∃(C:Nat) (l:List Int) (done rest:List Nat),τ=[.tup (o.map .int),.tup (l.map .int),.ref S1.length,.ref C]/\ks=done++rest/\Dn l rest/\l.Perm (kc 1 ((n:Int)+1))/\jw T S1.length=some (wd done)/\jw T C=some ((fl l n).map .int)/\C≠S1.length/\lG S1 T)
  (λτ T=>ks.length-((jw T S1.length).getD []).length)
  (λr=>∃(W:Nat) (S':jx),RS.end (RS.seq r (lK (ju 2)))=.ok (.ref W) S'/\jw S' W=some (wd ks)/\S.length<=W/\lG S S') ?_ 1000000
 ·unfold mh qQ qW;simp only[j9,rR,bools,l6,Nat.reduceAdd,Nat.reduceSub,e1,f0];refine key _ _ ⟨(S1++[O.lst []]).length,ys,[],ks,rfl,rfl,hk,py,ko jM,jM,by lia,Kp.refl.lay.lay⟩ (by lia)
 ·rintro τ T ⟨C,l,done,rest,rfl,hd,hdn,pl,hW,hC,hne,kp⟩;have ll:=p7 pl;unfold pD;simp only[j9,bools,Xh hC]
  cases rest with
  | nil=>
   left;rw[P4 ll hdn];rw[ck]at hd;refine⟨T,rfl,S1.length,T,?_,by rw[hd];exact hW,k1.len,k1.trans kp⟩;simp only[j9,bools]
  | cons k rest=>
   right;obtain⟨t,ht⟩:=Qp ll hdn.1.1 hdn.1.2;rw[ht]at hC;rw[ht];refine⟨T,rfl,.inl ?_⟩;have hk1:=hdn.1.1;have a0:rP ((((k:Int)::t).map A.int)) 0=some (.int k):=AO;have hdl:done.length<ks.length:=by rw[hd,aR,bz];lia
   have lW:=ni hW;have hC':jw (T.set S1.length (.lst (wd (done++[k])))) C=some (((k:Int)::t).map .int):=by rw[pN (c6 hne)];exact hC
   obtain⟨T2,e2,kp2⟩:=yj (S:=T.set S1.length (.lst (wd (done++[k])))) (xs:=l) (k:=k) hk1.1 hk1.2.1 (by lia);have hx:(Wd.ex l k).length=n:=by rw[Wd.k_];exact ll
   have f1:=ve (S:=T2) (xs:=Wd.ex l k) hx h2;unfold pJ;simp only[j9,rR,bools,hC,a0,hW,xD (show(wd done).length<16777216 by rw[aK];lia),Rt,hC',e2,f1];have hW2:jw (T2++[O.lst ((fl (Wd.ex l k) n).map A.int)]) S1.length=some (wd (done++[k])):=ko (kp2.lst _ _ (λz=>z) (pT lW));have lt2:T.length<=T2.length:=by have:=kp2.len;rwa [bY]at this
   refine⟨_,_,rfl,⟨T2.length,Wd.ex l k,done++[k],rest,rfl,by rw[hd,b9];rfl,hdn.2,Fw.mY pl hk1.1 hk1.2.1,hW2,jM,by lia,((kp.set (.inr (aO _))).trans kp2).lay⟩,?_⟩;simp only[hW2,hW,ir];simp only[aK,aR,bz,bX];lia
open Po (Pl Ok Bd)
open Su (Es At Vl AF)
open He (Sz PB)
open Fw (rg)
theorem Ry{S:jx}{n N P c:Nat}{q:Pl}(f:Int×Int->A)(hf:∀p τ S,PC (f p) τ S=PC (Po.pA p) τ S)(hN:N<6)(h0:1<=N)(h:Sm S n es)(hz:Sz N P C (Su.sm es))(hq:jw S m=some (q.map f))(pq:PB Q c q)(lq:q.length<=2)(hP:P<=1000)(hC:C<big)(hc:c<big) :
  ∃(L:Nat) (S':jx) (rs:Es),qO [.ref m,.ref n] S=.ok (.ref L) S'/\Sm S' L rs/\Su.sm rs=He.KN q (Su.sm es)/\S.length<=L/\lG S S':=by
 have k0:lG S (S++[.dct []]):=Kp.refl.lay;have m1:=hz.many hN;rw[Su.ng]at m1;obtain⟨j,hj⟩:∃j,j=2 * (2 * P+1):=⟨_,rfl⟩;obtain⟨y3,y4,_,D,T,_,e1,fD,kp⟩:=Su.vO (w:=1) (j:=j) (b:=S.length) (i0:=0) (S:=S++[.dct []]) (S1:=S++[.dct []]) (d:=S.length) (n:=n) (es:=es) (src:=rf) (c:=rz) (g:=xG 2 (oW (ku 3) (oW (ku 4) xO))) (λy z _=>[.ref m,.ref n,.ref S.length,y,z]) (λ_=>True) (λe Q=>Su.wY Q e.1 (Po.times q e.2.2)) (λ_ _ _ _ _=>rfl) (x3:=.unb) (x4:=.unb) (xs0:=[]) trivial
  (show rf _ _=_ from mP (by simp only[j9,bools]) (ko h.l)) (ko h.l) (Su.Fil.new Su.nu) λi e T Q1 D xs hi he _ kT fT=>by
   have b:=hz.pb (kG rfl he);have tl:=kT.len;rw[aR]at tl;rw[cA,dZ]at fT;rw[cA,dZ];have hm1:i * j<=120 * j:=bJ _ (by lia);have lb:e.2.2.length<=2 * P+1:=b.2;have ll:q.length * e.2.2.length<=j:=by rw[hj];exact dH lq lb
   obtain⟨L,T1,x1,l1,l2,k1⟩:=vV f hf (kT.lst _ _ (λz=>Su.nN (Su.nu (S:=S) (xs:=[])) (ko (o:=.dct []) hq) z.symm) (ko hq)) (((h.a.wI k0).De kT Su.nu) e he) (by lia) (λp hp=>cL (pq.c p hp) hc) λp hp=>cL (b.1.c p hp) hC;have k1l:=k1.len;obtain⟨D',T',x2,f',k'⟩:=(fT.wI k1).add qG (o:=e.1) l1 (bH (Su.An _ _) ll) (λz=>by
    have:=nh (hz.pm _ (kG rfl he));rw[show((e.1,e.2.2):List Int×Pl).1=e.1 from rfl,z]at this;simp at this;lia) (by lia) (by lia) (by lia)
   exact⟨D',T',[],trivial,by unfold rz;simp only[j9,bools,x1,x2],f',k1.of0.trans k'⟩
 rw[cA,dZ,Su.wU]at fD;have kT:lG S T:=k0.old kp λq hq _ z=>by lia
 have fl:=fD.ll;obtain⟨L,S',e2,r1,r2,r3,r4⟩:=zH fD.dd fD.aa fD.kk (by lia);have tl:=kT.len;refine⟨L,S',_,?_,⟨r1,r2⟩,by rw[Su.tX,fD.ss];rfl,by lia,kT.trans r4⟩;unfold qO za yG;simp only[j9,bools,l6,Nat.reduceAdd,Nat.reduceSub,Su.qw];rw[show ly rf _ rz _ _=_ from e1];simp only[j9,bools,e2]
theorem QX{w:List Nat}{k:Nat}(h:w.getLast?=some k):rP (wd w) (-1)=some (.int k):=by
 obtain⟨u,rfl⟩:=List.getLast?_eq_some_iff.mp h;unfold wd;rw[bO];have e:A7 (u.map (λk:Nat=>A.int (k:Int))++[A.int (k:Int)]).length (-1)=some u.length:=by
  unfold A7;rw[aR,aK,bR,aJ (by lia),aM (by lia)];congr 1;lia
 show(A7 _ (-1)).bind _=_;rw[show List.map (λk:Nat=>A.int (k:Int)) [k]=[A.int (k:Int)]from rfl,e,d8,fS (by rw[aK];exact aO _),aK,iM];rfl
theorem II{N:Nat}(hN:N<6)(h0:1<=N):∀(f:Nat) {S:jx}{K:Es}{o:List Int},Iv.inv o<f->o.Perm (rg N)->Kn N (He.tV N) S d K ->
  ∃(r:Nat) (S':jx) (K' rs:Es),lE f [.tup (o.map .int),.ref d] S=.ok (.ref r) S'/\Kn N (He.tV N) S' d K'/\Sm S' r rs/\Su.sm rs=He.tV N o/\Kp (·=d) S S'
 | 0,S,K,o,hf,_,_=>absurd hf (eS _)
 | f+1,S,K,o,hf,po,hK=>by
  have lo:=nh po;show ∃(r:Nat) (S':jx) (K' rs:Es),lC lU (lX (lE f)) [.tup (o.map .int),.ref d] S=.ok (.ref r) S'/\_;have i1:J4 true (.tup (o.map .int)) (.ref d) S=.ok (.bl (!(kF (K.map Su.kv) o).isSome)) S:=by rw[Mi,hK.dd,j3]
  unfold lX lU
  cases hL:Su.fE K o with
  | some e=>
   obtain⟨m1,rfl⟩:=Su.qt hL;obtain⟨rs,r1,r2⟩:=hK.at_ e m1;have lk:kF (K.map Su.kv) e.1=some (.ref e.2.1):=by rw[Su.pW,hL];rfl
   have x1:vq (.ref d) (.tup (e.1.map .int)) S=.ok (.ref e.2.1) S:=by rw[Su.tF,hK.dd,j3,lk,j3]
   rw[lk]at i1;refine⟨e.2.1,S,K,rs,?_,hK,r1,r2,Kp.refl⟩;simp only[j9,rR,bools,l6,Nat.reduceAdd,Nat.reduceSub,i1,iT,cP,x1]
  | none=>
   have lk:kF (K.map Su.kv) o=none:=by rw[Su.pW,hL];rfl
   rw[lk]at i1;obtain⟨W,S1,e1,l1,_,k1⟩:=Yt (S:=S) po (by lia) (He.mR po).ou (He.Nc o);have tr:=AU l1
   cases hw:(He.fwd o).getLast? with
   | none=>
    have fe:=List.getLast?_eq_none_iff.mp hw;rw[fe]at tr;obtain⟨S2,h2⟩:∃S2,S2=S1++[O.lst [.tup [.int 0,.int 1]]]++[O.lst [.tup [.tup (o.map .int),.ref S1.length]]]:=⟨_,rfl⟩;have k2:lG S1 S2:=by rw[h2];exact Kp.refl.lay.lay
    have s2:Sm S2 (S1.length+1) [(o,S1.length,[((0:Int),(1:Int))])]:=by
     have:=jM (S:=S1++[O.lst [.tup [.int 0,.int 1]]]) (xs:=[.tup [.tup (o.map .int),.ref S1.length]]);rw[aR,bR]at this;rw[h2];exact⟨this,λe he=>by rw[aV.mp he];exact ko jM⟩
    have et:Su.sm [(o,S1.length,[((0:Int),(1:Int))])]=He.tV N o:=(He.Wj po hw).symm;obtain⟨T',K',x2,n2,x3,s3,kp⟩:=(hK.wI (k1.trans k2)).put hN po s2 et;refine⟨S1.length+1,T',K',_,?_,n2,s3,et,(k1.trans k2).of0.trans kp⟩;simp only[j9,rR,bools,l6,Nat.reduceAdd,Nat.reduceSub,i1,gD,c_,e1,tr,f6,iw,cP,mz (show 2<=sizeLine by decide),aR,bR,bz,bX];rw[<- h2];simp only[j9,rR,bools,Su.tY,x2,x3]
   | some k=>
    obtain⟨f1,f2,f3⟩:=He.zo po hw;have ne:((wd (He.fwd o)).isEmpty)=false:=by
     cases hx:He.fwd o with
     | nil=>rw[hx]at hw;cases hw
     | cons=>rfl
    rw[ne]at tr;have a1:=QX hw;have hd:=Fw.nI f1 (show k<o.length by lia) (by have:=bN f3;lia);obtain⟨S2,x2,k2⟩:=yj (S:=S1) (xs:=o) (k:=k) f1 (by lia) (by lia);have k12:=k1.trans k2;have pe:=He.mY po f1 f2;obtain⟨r3,S3,K3,rs3,x3,n3,s3,q3,k3⟩:=II hN h0 f (by lia) pe (hK.wI k12);have z3:Sz N 25 (5 ^ 25) (Su.sm rs3):=by rw[q3];exact He.Ln hN pe
    have B5:5 ^ 25<big:=by rw[tM];exact show 5 ^ 25<2 ^ 4096 by decide +kernel
    have m3:=z3.many hN;rw[Su.ng]at m3;obtain⟨L4,S4,rs4,x4,s4,q4,_,_,_,_,k4⟩:=Hs (j:=2 * (2 * 25+1)) s3 (k:=k) (N:=N) (λe he=>by
     have b:=z3.pb (kG rfl he);exact⟨nh (z3.pm _ (kG rfl he)),by have:=b.2;show 2 * e.2.2.length<=_;exact Nat.mul_le_mul_left _ this,λp hp=>cL (b.1.c p hp) B5⟩) f1 f2 (by lia) (by lia) (by lia)
    have z4:Sz N 26 (3 * 5 ^ 25) (Su.sm rs4):=by rw[q4];exact z3.bx f1 f2
    have k5:lG S4 (S4++[O.lst (He.LB.map kA)]):=Kp.refl.lay;obtain⟨L5,S5,rs5,x5,s5,q5,_,k6⟩:=Ry kA (λ_ _ _=>rfl) (S:=S4++[O.lst (He.LB.map kA)]) (m:=S4.length) (q:=He.LB) (Q:=1) (c:=1) hN h0 ((s3.kp k4).kp k5) z3 jM ⟨λq hq=>by
     rcases bB.mp hq with z|z
     ·rw[z];decide
     ·rw[aV.mp z];decide,λq hq=>by
     rcases bB.mp hq with z|z
     ·rw[z];decide
     ·rw[aV.mp z];decide⟩ (aO 2) (by decide) B5 (by rw[tM];exact show 1<2 ^ 4096 by decide +kernel)
    have z5:Sz N 26 (2 * (1 * 5 ^ 25)) (Su.sm rs5):=by
     rw[q5];exact(z3.KN (Q:=1) (c:=1) (p:=He.LB) ⟨λq hq=>by
      rcases bB.mp hq with z|z
      ·rw[z];decide
      ·rw[aV.mp z];decide,λq hq=>by
      rcases bB.mp hq with z|z
      ·rw[z];decide
      ·rw[aV.mp z];decide⟩)
    obtain⟨L6,S6,rs6,x6,s6,q6,_,_,k7⟩:=K7 hN h0 (s4.kp (k5.trans k6)) s5 z4 z5 (by decide);have q6':Su.sm rs6=He.tV N o:=by rw[q6,q4,q5,q3];exact(He.RN po hw).symm
    obtain⟨T',K',x7,n7,x8,s8,kp⟩:=(n3.wI ((k4.trans (k5.trans k6)).trans k7)).put hN po s6 q6';refine⟨L6,T',K',rs6,?_,n7,s8,q6',((k12.of0.trans k3).trans ((k4.trans (k5.trans k6)).trans k7).of0).trans kp⟩;have l3:jw S2 W=some (wd (He.fwd o)):=k2.lst _ _ (λz=>z) l1;have l4:jw S3 W=some (wd (He.fwd o)):=k3.lst _ _ (λz=>Su.nN (hK.wI k12).dd l3 z.symm) l3;simp only[j9,rR,bools,l6,Nat.reduceAdd,Nat.reduceSub,i1,gD,c_,e1,tr,l1,a1,x2,x3,l4,x4];rw[show[((-1:Int),(-1:Int)),((1:Int),(1:Int))].map kA=He.LB.map kA from rfl];simp only[j9,rR,bools,x5,x6,Su.tY,x7,x8]
end K91
namespace K91
open PySem L2 Am
open Po (Pl Ok Bd)
open Su (Es At Vl AF)
open He (Sz PB)
open Fw (rg)
theorem F0{S:jx}{N c:Nat}{fs:Es}(hN:N<6)(h0:1<=N)(h':Sm S m fs)(hz':Sz N Q c (Su.sm fs))(hP:Q<=500)(hc:c<big) :
  ∃(L:Nat) (S':jx) (rs:Es),kQ [.ref m] S=.ok (.ref L) S'/\Sm S' L rs/\Su.sm rs=He.tu N He.vw (Su.sm fs)/\Nw S.length L rs/\S.length<=L/\lG S S':=by
 have B5:5 ^ 25<big:=by rw[tM];exact show 5 ^ 25<2 ^ 4096 by decide +kernel
 obtain⟨S1,hS1⟩:∃S1,S1=S++[O.dct []]++[O.dct []]:=⟨_,rfl⟩;have k0:lG S S1:=by rw[hS1];exact Kp.refl.lay.lay
 have d0:jQ S1 S.length=some []:=by rw[hS1];exact Su.vg Su.nu
 have d1:jQ S1 (S.length+1)=some []:=by
  have:=Su.nu (S:=S++[O.dct []]) (xs:=[]);rw[aR,bR]at this;rw[hS1];exact this
 obtain⟨j,hj⟩:∃j,j=2 * (25+Q)+1:=⟨_,rfl⟩;have lf:=hz'.many hN;rw[Su.ng]at lf;have hle:(fs.map Su.ent).length=fs.length:=aK ..;have key:∃(y4 y5 y6 y7:A) (D:Es) (T:jx) (i:Nat),ly p8 (xG 2 (oW (ku 3) (oW (ku 4) xO))) pX [.ref m,.ref S.length,.ref (S.length+1),.unb,.unb,.unb,.unb] S1=.nx [.ref m,.ref S.length,.ref (S.length+1),y4,y5,y6,y7] T/\i<=120 * fs.length/\Su.Fil T S.length S.length i j (Su.adds [] (He.Fd N He.vw (Su.sm fs))) D/\lG S T:=by
  refine rJ (n:=m) (xs:=fs.map Su.ent) (S1:=S1) (show p8 _ _=_ from mP (by simp only[j9,bools]) (k0.lst _ _ (λz=>z) h'.l))
   (λt τ T=>(∃y4 y5 y6 y7:A,τ=[.ref m,.ref S.length,.ref (S.length+1),y4,y5,y6,y7])/\(∃(i:Nat) (D:Es),i<=120 * t/\Su.Fil T S.length S.length i j (Su.adds [] (He.Fd N He.vw (Su.sm (fs.take t)))) D)/\(∃K,Kn N (He.tV N) T (S.length+1) K)/\lG S T)
   (λr=>∃(y4 y5 y6 y7:A) (D:Es) (T:jx) (i:Nat),r=.nx [.ref m,.ref S.length,.ref (S.length+1),y4,y5,y6,y7] T/\i<=120 * fs.length/\Su.Fil T S.length S.length i j (Su.adds [] (He.Fd N He.vw (Su.sm fs))) D/\lG S T)
   ⟨⟨_,_,_,_,rfl⟩,⟨0,[],aO _,Su.Fil.new d0⟩,⟨[],d1,Su.Gd.nil,(λ_ z=>nomatch z),λ_ z=>nomatch z⟩,k0⟩ (λt τ T hh=>hh.2.2.2.lst _ _ (λz=>z) h'.l) ?_ ?_
  ·rintro t z τ T hz1 ⟨⟨y4,y5,y6,y7,rfl⟩,⟨i,D,hi,fT⟩,⟨K,hK⟩,kT⟩;rw[aP]at hz1;obtain⟨e,he,rfl⟩:=aY.mp hz1;have htl:=(aN.mp he).1;have me:=aX he;have pe:=hz'.pm _ (kG rfl me);have be:=hz'.pb (kG rfl me);refine⟨[.ref m,.ref S.length,.ref (S.length+1),.tup (e.1.map .int),.ref e.2.1,y6,y7],T,rfl,.inl ?_⟩;obtain⟨r,T1,K1,rs,x1,n1,s1,q1,k1⟩:=II hN h0 26 (by have:=He.zd hN pe;lia) pe hK;have z1:Sz N 25 (5 ^ 25) (Su.sm rs):=by rw[q1];exact He.Ln hN pe
   have m1:=z1.many hN;rw[Su.ng]at m1;have f1:Su.Fil T1 S.length S.length i j (Su.adds [] (He.Fd N He.vw (Su.sm (fs.take t)))) D:=⟨k1.dct _ _ (by lia) fT.dd,fT.aa.De k1 hK.dd,fT.ss,fT.vv,fT.kk,fT.ll,fT.pw⟩;have p1:jw T1 e.2.1=some (Po.pl e.2.2):=k1.lst _ _ (λz=>Su.nN hK.dd ((h'.kp kT).a e me) z.symm) ((h'.kp kT).a e me);have tl:=kT.len;have tl1:=k1.len;have len2:S.length+2<=T.length:=by have:=Su.v_ hK.dd;lia
   have le:e.2.2.length<=2 * Q+1:=be.2;obtain⟨z6,z7,_,D2,T2,_,x2,f2,k2⟩:=Su.vO (w:=1) (j:=j) (b:=S.length) (i0:=i) (S:=T) (S1:=T1) (d:=S.length) (n:=r) (es:=rs) (src:=rY) (c:=r_) (g:=xG 2 (oW (ku 5) (oW (ku 6) xO))) (λy z _=>[.ref m,.ref S.length,.ref (S.length+1),.tup (e.1.map .int),.ref e.2.1,y,z]) (λ_=>True) (λx Q=>Su.wY Q x.1 (Po.times (Po.turn e.2.2) x.2.2)) (λ_ _ _ _ _=>rfl) (x3:=y6) (x4:=y7) (xs0:=[]) trivial
    (show rY _ _=_ from mP (by
     have x1':pC [.tup (e.1.map .int),.ref (S.length+1)] T=.ok (.ref r) T1:=x1;simp only[j9,rR,bools,x1']) s1.l) s1.l f1 λa x U Q1 D' xs ha hx _ kU f=>by
     have ul:=kU.len;have b1:=z1.pb (kG rfl hx);have l1':x.2.2.length<=2 * 25+1:=b1.2;rw[dZ]at f;rw[dZ];have hm1:(i+a) * j<=14400 * j:=bJ _ (by lia);have tn:=JX (S:=U) (kU.lst _ _ (λz=>Su.nN f1.dd p1 z.symm) p1) (show e.2.2.length<=16777216 by lia);have kV:lG U (U++[O.lst (Po.pl (Po.turn e.2.2))]):=Kp.refl.lay;obtain⟨L,U1,e1,l1,l2,k1'⟩:=yE (n:=U.length) (a:=Po.turn e.2.2) jM (kV.lst _ _ (λz=>z) ((s1.a.De kU f1.dd) x hx)) (by
      rw[He.DW];have a3:(2 * Q+1) * (2 * 25+1)<=1001 * 51:=dH (by lia) (by lia);exact cL (bH (dH le l1') a3) (by decide)) (λp hp=>cL (be.1.turn.c p hp) hc) λp hp=>cL (b1.1.c p hp) B5
     have k1l:=k1'.len;have kVl:=kV.len;have tl':(Po.times (Po.turn e.2.2) x.2.2).length<=j:=by
      have:=He.PB.times be.1.turn b1.1;rw[hj];refine bH this ?_;lia
     obtain⟨D3,U2,e2,f',k'⟩:=((f.wI kV).wI k1').add qG (o:=x.1) l1 tl' (λz=>by
      have:=nh (z1.pm _ (kG rfl hx));rw[show((x.1,x.2.2):List Int×Pl).1=x.1 from rfl,z]at this;simp at this;lia) (by lia) (by lia) (by lia)
     exact⟨D3,U2,[],trivial,by unfold r_;simp only[j9,rR,bools,tn,e1,e2],f',(kV.trans k1').of0.trans k'⟩
   have kT2:lG S T2:=(kT.old k1 λq hq _ z=>by lia).old k2 λq hq _ z=>by lia
   refine⟨[.ref m,.ref S.length,.ref (S.length+1),.tup (e.1.map .int),.ref e.2.1,z6,z7],T2,?_,⟨_,_,_,_,rfl⟩,⟨i+1 * rs.length,D2,by lia,?_⟩,⟨K1,n1.De k2 f1.dd (by lia)⟩,kT2⟩
   ·unfold pX;exact x2
   ·rw[Su.wU]at f2;rw[c8,he,Su.Ge];unfold He.Fd at f2 ⊢;rw[iJ,Su.yY];have:List.flatMap (λe=>He.xK (Po.turn e.2) (He.tO N (He.vw e.1))) (Su.sm (some e).toList)=(Su.sm rs).map λx=>(x.1,Po.times (Po.turn e.2.2) x.2):=by
     show He.xK (Po.turn e.2.2) (He.tO N (He.vw e.1))++[]=_;rw[ck,q1];rfl
    rw[this];exact f2
  ·rintro τ T ⟨⟨y4,y5,y6,y7,rfl⟩,⟨i,D,hi,fT⟩,⟨K,hK⟩,kT⟩;rw[hle]at hi;rw[hle,di]at fT;exact⟨y4,y5,y6,y7,D,T,i,rfl,hi,fT,kT⟩
 obtain⟨y4,y5,y6,y7,D,T,i,e1,hi,f,kT⟩:=key;have fl:=f.ll;obtain⟨L,S',e2,r1,r2,r3,r4⟩:=zH f.dd f.aa f.kk (by lia);have tl:=kT.len;refine⟨L,S',_,?_,⟨r1,r2⟩,by rw[Su.tX,f.ss];rfl,⟨f.pw.out _,λe he=>?_⟩,by lia,kT.trans r4⟩
 ·unfold kQ wJ wO;simp only[j9,rR,bools,l6,Nat.reduceAdd,Nat.reduceSub,Su.qw,aR,bR];rw[<- hS1,show ly p8 _ pX _ _=_ from e1];simp only[j9,rR,bools,e2]
 ·obtain⟨m1,m2⟩:=Su.tU he;obtain⟨v1,v2,v3⟩:=f.vv e m1;have lt:=ni (f.aa e m1);exact⟨v3,by lia⟩
theorem Sn.tu{N c:Nat}{k:Su.Ps}(h:Sn N Q c S m k)(hN:N<6)(h0:1<=N)(hP:Q<=500)(hc:c<big) :
  ∃(L:Nat) (S':jx),kQ [.ref m] S=.ok (.ref L) S'/\Sn N (25+Q) (120 * ((2 * Q+1) * (c * 5 ^ 25))) S' L (He.tu N He.vw k)/\lG S S':=by
 obtain⟨a,fs,b,rfl⟩:=h;obtain⟨L,S',rs,e1,s1,q1,_,_,k1⟩:=F0 hN h0 b a hP hc;exact⟨L,S',e1,⟨a.tu hN,rs,s1,q1⟩,k1⟩
end K91
namespace K91
open PySem L2 Am
open Po (Pl Ok Bd)
open Su (Es At Vl)
open He (Sz PB)
open Fw (rg)
noncomputable def HL (D:Pl):Pl:=(sortI (D.map Prod.fst)).map λk=>(k,Po.val D k)
theorem z_.lt'{S:jx}(h:z_ S b):b<S.length:=by obtain⟨_,_,e,_⟩:=h;exact ni e
structure Dp (D:Pl):Prop where
 nd:(D.map Prod.fst).Nodup
 kb:∀p∈D,p.1.natAbs<=4
 vb:∀k∈D.map Prod.fst,Po.val D k≠0/\(Po.val D k).natAbs<=5
theorem Dp.put{D:Pl}{k v:Int}(h:Dp D)(hk:k.natAbs<=4)(hv:v≠0/\v.natAbs<=5):Dp (Po.put D k v):=by
 have mem:∀j,j∈(Po.put D k v).map Prod.fst->j=k\/j∈D.map Prod.fst:=λj hj=>by
  rw[Po.zx]at hj;split at hj
  ·exact .inr hj
  ·rcases bD.mp hj with z|z
   ·exact .inr z
   ·exact .inl (aV.mp z)
 refine⟨Po.MS h.nd,λp hp=>?_,λj hj=>?_⟩
 ·rcases mem p.1 (dW hp)with z|z
  ·rw[z];exact hk
  ·obtain⟨q,hq,e⟩:=bg.mp z;rw[<- e];exact h.kb q hq
 ·rw[Po.Jp];by_cases c:j=k
  ·rw[aM c];exact hv
  ·rw[aJ c]
   rcases mem j hj with z|z
   ·exact absurd z c
   ·exact h.vb j z
theorem Dp.ok{D:Pl}(h:Dp D):Ok (HL D)/\PB 4 5 (HL D)/\(D≠[]->HL D≠[]):=by
 have mk:∀p∈HL D,p.1∈D.map Prod.fst/\p.2=Po.val D p.1:=λp hp=>by
  obtain⟨k,hk,rfl⟩:=bg.mp hp;exact⟨(sortI_perm _).mem_iff.mp hk,rfl⟩
 refine⟨⟨?_,λp hp=>?_⟩,⟨λp hp=>?_,λp hp=>?_⟩,λhD z=>?_⟩
 ·unfold HL;rw[cB];exact Po.GO h.nd
 ·rw[(mk p hp).2];exact(h.vb _ (mk p hp).1).1
 ·rw[(mk p hp).2];exact(h.vb _ (mk p hp).1).2
 ·obtain⟨q,hq,e⟩:=bg.mp (mk p hp).1;rw[<- e];exact h.kb q hq
 ·have:=dg List.length z;unfold HL at this;rw[aK,(sortI_perm _).length_eq,aK]at this;exact hD (dM.mp this)
theorem ZE{d:Int}{xs:List Int}(h0:0<=d)(h1:d<xs.length):∃v:Int,rP (xs.map A.int) d=some (.int v)/\v∈xs:=by
 have hd:d.toNat<xs.length:=by lia
 exact⟨xs[d.toNat],Cp (k:=d.toNat) (by lia) (aF hd),dz hd⟩
theorem Ml{p:Nat}(h:z_ T b)(hp:kC T p=some (Po.iv []))(hbp:p≠b) :
  ∃(D:Pl) (y5:A) (T':jx),ly nj (ku 5) nG [.ref b,a1,a2,a3,.ref p,a5] T=.nx [.ref b,a1,a2,a3,.ref p,y5] T'/\kC T' p=some (Po.iv D)/\Dp D/\D≠[]/\D.length<=2/\z_ T' b/\Kp (λq=>q=b\/q=p) T T':=by
 obtain⟨c,T1,e1,c0,c1,b1,k1⟩:=digit (S:=T) (m:=2) h (by decide) (by decide);refine BB (lo:=0) (hi:=1+c) (S1:=T1) (show nj _ _=_ from yT (by simp only[j9,bools,e1]) (zE (by lia) (by lia)))
  (λi τ U=>∃(D:Pl) (y5:A),τ=[.ref b,a1,a2,a3,.ref p,y5]/\kC U p=some (Po.iv D)/\Dp D/\(1<=i->D≠[])/\D.length<=i/\z_ U b/\Kp (λq=>q=b\/q=p) T U)
  (λr=>∃(D:Pl) (y5:A) (T':jx),r=.nx [.ref b,a1,a2,a3,.ref p,y5] T'/\kC T' p=some (Po.iv D)/\Dp D/\D≠[]/\D.length<=2/\z_ T' b/\Kp (λq=>q=b\/q=p) T T')
  ⟨[],_,rfl,k1.dk _ _ hbp hp,⟨c9,(λ_ z=>nomatch z),λ_ z=>nomatch z⟩,(λz=>absurd z (by decide)),aO _,b1,k1.mono λ_ _ z=>.inl z⟩ ?_ ?_
 ·rintro i τ U hi ⟨D,y5,rfl,hD,dp,hne,hl,bU,kU⟩;left;obtain⟨U1,h1⟩:∃U1,U1=U++[O.lst (([1,-1,2,3,-2,5]:List Int).map .int)]:=⟨_,rfl⟩;have q1:lG U U1:=by rw[h1];exact Kp.refl.lay
  have lb:=bU.lt';obtain⟨d,U2,e2,d0,d1,b2,k2⟩:=digit (S:=U1) (m:=6) (bU.kp q1 λz=>z) (by decide) (by decide);obtain⟨v,hv,mv⟩:=ZE (xs:=[1,-1,2,3,-2,5]) d0 d1;have l2:jw U2 U.length=some (([1,-1,2,3,-2,5]:List Int).map .int):=k2.lst _ _ (by lia) (by rw[h1];exact jM);obtain⟨f,U3,e3,f0,f1,b3,k3⟩:=digit (S:=U2) (m:=9) b2 (by decide) (by decide);have kU3:Kp (·=b) U U3:=(q1.of0.trans k2).trans k3;have dU:kC U3 p=some (Po.iv D):=kU3.dk _ _ hbp hD;have vv:v≠0/\v.natAbs<=5:=by
   have:∀x∈([1,-1,2,3,-2,5]:List Int),x≠0/\x.natAbs<=5:=by decide
   exact this v mv
  refine⟨[.ref b,a1,a2,a3,.ref p,.int (0+(i:Int))],U3.set p (.pP (Po.iv (Po.put D (f-4) v))),?_,Po.put D (f-4) v,_,rfl,FO (LL dU),dp.put (by lia) vv,λ_ z=>?_,?_,?_,?_⟩
  ·unfold nG;simp only[j9,bools];rw[show U++[O.lst [A.int 1,.int (-1),.int 2,.int 3,.int (-2),.int 5]]=U1 from h1.symm];have hv':rP [A.int 1,.int (-1),.int 2,.int 3,.int (-2),.int 5] d=some (.int v):=hv;have l2':jw U2 U.length=some [A.int 1,.int (-1),.int 2,.int 3,.int (-2),.int 5]:=l2;simp only[j9,bools,e2,l2',hv',Co,e3,zp,dU,xD (show(Po.iv D).length<16777216 by rw[Gj];lia),Po.Bs]
  ·have:=dg (List.map Prod.fst) z;rw[Po.zx]at this;split at this
   ·rename_i c;have:=Po.uc.mp c;rw[‹D.map Prod.fst=_›]at this
    cases this
   ·simp at this
  ·have:=Po.GZ (d:=D) (k:=f-4) (v:=v);lia
  ·exact b3.kp (c:=(·=p)) (Kp.refl.BN (.inl rfl)) (c6 hbp)
  ·exact(kU.trans (kU3.mono λ_ _ z=>.inl z)).BN (.inl (.inr rfl))
 ·rintro τ U ⟨D,y5,rfl,hD,dp,hne,hl,bU,kU⟩;exact⟨D,y5,U,rfl,hD,dp,hne (by lia),by lia,bU,kU⟩
theorem BK{N:Nat}(h:z_ S b)(hN:1<=N)(hN':N<=20) :
  ∃(n:Nat) (S':jx) (l:Su.Ps),j7 [.ref b,.int N] S=.ok (.ref n) S'/\Sn N 4 5 S' n l/\z_ S' b/\Kp (·=b) S S':=by
 have hbS:=h.lt';have k0:lG S (S++[.dct []]++[O.lst (([2,1,3,2,0]:List Int).map .int)]):=Kp.refl.lay.lay;obtain⟨S0,h0⟩:∃S0,S0=S++[O.dct []]++[O.lst (([2,1,3,2,0]:List Int).map .int)]:=⟨_,rfl⟩;rw[<- h0]at k0;obtain⟨c,S1,e1,c0,c1,b1,k1⟩:=digit (S:=S0) (m:=5) (h.kp k0 λz=>z) (by decide) (by decide);obtain⟨v,hv,mv⟩:=ZE (xs:=[2,1,3,2,0]) c0 c1;have v3:0<=v/\v<=3:=by
  have:∀x∈([2,1,3,2,0]:List Int),0<=x/\x<=3:=by decide
  exact this v mv
 have l1:jw S1 (S.length+1)=some [A.int 2,.int 1,.int 3,.int 2,.int 0]:=by
  refine k1.lst _ _ (by lia) ?_;have:=jM (S:=S++[O.dct []]) (xs:=([2,1,3,2,0]:List Int).map A.int);rw[aR,bR]at this;rw[h0];exact this
 have hv':rP [A.int 2,.int 1,.int 3,.int 2,.int 0] c=some (.int v):=hv;have d1:jQ S1 S.length=some []:=k1.dct _ _ (by lia) (by rw[h0];exact Su.vg Su.nu);have g2:∀x y:A,gd (([x,y]:List A).length<=sizeLine)=λr:Am.R A=>r:=λx y=>by funext r;exact vZ (show 2<=16777216 by decide)
 unfold j7 oK oB;simp only[j9,bools,l6,Nat.reduceAdd,Nat.reduceSub,Su.qw];refine BB (lo:=0) (hi:=v) (S1:=S1) (show pV _ _=_ from yT (by
   simp only[j9,bools,aR,bR];rw[show S++[O.dct []]++[O.lst [A.int 2,.int 1,.int 3,.int 2,.int 0]]=S0 from h0.symm];simp only[j9,bools,e1,l1,hv']) (zE (by lia) (by lia)))
  (λi τ T=>∃(D:Es) (a3 a4 a5:A),τ=[.ref b,.int N,.ref S.length,a3,a4,a5]/\jQ T S.length=some (D.map Su.kv)/\At T D/\(∀e∈D,e.1.Perm (rg N)/\Ok e.2.2/\PB 4 5 e.2.2/\e.2.2≠[]/\S.length<=e.2.1)/\Su.Gd (Su.sm D)/\D.length<=i/\z_ T b/\Kp (·=b) S T)
  (λr=>∃(n:Nat) (S':jx) (l:Su.Ps),RS.end (RS.seq r _)=.ok (.ref n) S'/\Sn N 4 5 S' n l/\z_ S' b/\Kp (·=b) S S')
  ⟨[],_,_,_,rfl,d1,(λ_ h=>nomatch h),(λ_ h=>nomatch h),Su.Gd.nil,aO _,b1,k0.of0.trans k1⟩ ?_ ?_
 ·rintro i τ T hi ⟨D,a3,a4,a5,rfl,hd,hA,hP,hG,hl,bT,kT⟩;left;have tl:=kT.len;have dl:=Su.v_ hd;have kp:lG T (T++[O.pP []]):=Kp.refl.lay;obtain⟨p,y5,T1,e2,dp,hp,pne,pl,b2,k2⟩:=Ml (T:=T++[O.pP []]) (p:=T.length) (a1:=.int N) (a2:=.ref S.length) (a3:=.int (0+(i:Int))) (a5:=a5) (bT.kp kp λz=>z) GJ (by have:=bT.lt';lia);have kT1:Kp (·=b) T T1:=kp.of0.old k2 λq hq z w=>by lia
  have l2:r8 (.ref T.length) T1=.ok (.ref T1.length) (T1++[.lst ((sortI (p.map Prod.fst)).map .int)]):=by
   rw[AD,dp,j3,Po.Jz]
  have dpk:kC (T1++[.lst ((sortI (p.map Prod.fst)).map .int)]) T.length=some (Po.iv p):=NG dp;have cc:=A3 (xs:=(sortI (p.map Prod.fst)).map A.int) (n:=T1.length) (cap:=[some 4]) (src:=nO (j6 (f1 r8) (jt (ju 4) jB))) (t:=vK) (e:=qM (jt (ju 0) (jt (jJ wj (ju 1) (ju 0)) jB))) (τ:=[.ref b,.int N,.ref S.length,.int (0+(i:Int)),.ref T.length,y5]) (S:=T1) (mP (by simp only[j9,bools,l2]) jM) jM (λ_=>true) (λx=>match x with | .int k=>Po.pA (k,Po.val p k)|_=>.non) (λ_ _=>rfl) (λx hx _=>by
   obtain⟨k,hk,rfl⟩:=bg.mp hx;have hk':=(sortI_perm _).mem_iff.mp hk;simp only[j9,bools,BU,dpk,Po.zV hk',g2];rfl) (by rw[aK,(sortI_perm _).length_eq,aK];lia)
  have ec:(((sortI (p.map Prod.fst)).map A.int).filter λ_=>true).map (λx=>match x with | .int k=>Po.pA (k,Po.val p k)|_=>.non)=Po.pl (HL p):=by
   rw[iK.mpr λ_ _=>rfl];unfold Po.pl HL;rw[bh,bh];rfl
  rw[ec]at cc;obtain⟨T2,h2⟩:∃T2,T2=T1++[O.lst ((sortI (p.map Prod.fst)).map .int)]++[O.lst (Po.pl (HL p))]:=⟨_,rfl⟩;have k3:lG T1 T2:=by rw[h2];exact Kp.refl.lay.lay
  obtain⟨o,T3,e3,po,b3,k4⟩:=N1 (n:=(N:Int)) (b2.kp k3 λz=>z) (by lia) (by lia);have kT3:Kp (·=b) T T3:=(kT1.trans k3.of0).trans k4;obtain⟨r,hr⟩:∃r,r=(T1++[O.lst ((sortI (p.map Prod.fst)).map .int)]).length:=⟨_,rfl⟩;have tl1:=kT1.len;have r1:r=T1.length+1:=by rw[hr,aR];rfl
  have lr:jw T3 r=some (Po.pl (HL p)):=k4.lst _ _ (by have:=bT.lt';lia) (by rw[h2,hr];exact jM);have d3:jQ T3 S.length=some (D.map Su.kv):=kT3.dct _ _ (by lia) hd;have a3':At T3 D:=hA.kp kT3 λe he z=>by have:=(hP e he).2.2.2.2;lia
  have k5:Kp (·=S.length) T3 (T3.set S.length (.dct ((Su.oH D o r (HL p)).map Su.kv))):=Kp.refl.BN (.inl rfl);obtain⟨w1,w2,w3⟩:=hp.ok;refine⟨[.ref b,.int N,.ref S.length,.int (0+(i:Int)),.ref T.length,y5],_,?_,Su.oH D o r (HL p),_,_,_,rfl,Su.B7 (Su.v_ d3),(a3'.put lr).De k5 d3,λe he=>?_,?_,?_,b3.kp k5 (by lia),?_⟩
  ·unfold p9;simp only[j9,bools,AX];rw[e2];simp only[j9,bools];rw[show kP [none,some 4] _ _ _ _ _ _=_ from cc];rw[<- h2,<- hr];simp only[j9,bools,Su.tY,e3,Su.zg,d3,xD (show(D.map Su.kv).length<16777216 by rw[aK];lia),Su.Gv (p:=HL p)]
  ·rcases Su.qZ he with z|z
   ·exact hP e z
   ·rw[z];exact⟨po,w1,w2,w3 pne,by show S.length<=r;lia⟩
  ·rw[Su.GC];exact hG.put w1
  ·have:=Su.BC (D:=D) (o:=o) (r:=r) (p:=HL p);lia
  ·exact(kT.trans kT3).old k5 λq hq _ z=>by lia
 ·rintro τ T ⟨D,a3,a4,a5,rfl,hd,hA,hP,hG,hl,bT,kT⟩;have n0:=Su.Ec hd λe he z=>by have:=nh (hP e he).1;rw[z]at this;simp at this;lia
  obtain⟨n,S',x1,l1,a1,ln,k2⟩:=Su.EK (cap:=[some 2]) (τ:=[.ref b,.int N,.ref S.length,a3,a4,a5]) (src:=nO (j6 (f1 wK) (jt (ju 2) jB))) (t:=vK) (e:=qM (jt (ju 0) (jt (jJ vq (ju 1) (ju 0)) jB))) hd hA (mP (by simp only[j9,bools,n0]) jM) (λ_=>true)
   (λo r q T hT hk hr=>⟨T,rfl,Kp.refl⟩)
   (λo r T hT hk=>by
    simp only[j9,bools,Su.zf,Su.tF,hT,hk];exact vZ (show 2<=16777216 by decide)) (by lia)
  have eo:Su.qL D (λ_=>true)=Su.qL D λp=>!p.isEmpty:=by
   unfold Su.qL;congr 1;refine List.filter_congr λo ho=>?_;obtain⟨e,he⟩:=Su.EJ ((jU _).mem_iff.mp ho);rw[Su.KG,he];have:=(hP e (Su.qt he).1).2.2.2.1;show true=!(e.2.2).isEmpty
   cases z:e.2.2 with
   | nil=>exact absurd z this
   | cons=>rfl
  have hm:∀e∈Su.qL D (λ_=>true),e∈D:=λe he=>(Su.tU he).1;refine⟨n,S',Su.sm (Su.qL D λ_=>true),by simp only[j9,bools,x1],⟨He.Sz.of ?_ (λx hx=>?_) λx hx=>?_,_,⟨l1,a1⟩,rfl⟩,bT.kp k2 λz=>z,kT.trans k2.of0⟩
  ·rw[eo,Su.tX];exact He.Cn.toS hG
  ·obtain⟨e,he,rfl⟩:=bg.mp hx;exact(hP e (hm e he)).1
  ·obtain⟨e,he,rfl⟩:=bg.mp hx;exact(hP e (hm e he)).2.2.1
end K91
namespace K91
open PySem L2 Am
open Po (Pl Ok Bd)
open Su (Es At Vl)
open He (Sz PB)
open Fw (rg)
theorem ZR{N:Nat}(hN:N<=1000)(T:jx):rF (.rng 1 ((N:Int)+1)) T=.ok (.tup ((rg N).map .int)) T:=Gu (DR (show(-1000000:Int)<=1 by decide) (by decide) (show -1000000<=(N:Int)+1 by lia) (by lia) (by lia))
theorem MH{N P n:Nat}{o:List Int}{p:Pl}{r:Nat}(po:o.Perm (rg N))(hp:Ok p)(h0:p≠[])(pb:PB P C p)(hn:jw S n=some [.tup [.tup (o.map .int),.ref r]])(hr:jw S r=some (Po.pl p)):Sn N P C S n [(o,p)]:=
 ⟨He.Sz.of (He.CI o hp h0) (λx hx=>by rw[aV.mp hx];exact po) (λx hx=>by rw[aV.mp hx];exact pb),[(o,r,p)],⟨hn,λe he=>by rw[aV.mp he];exact hr⟩,rfl⟩
theorem Up:PB 60 (10 ^ 20) [((0:Int),(1:Int))]:=⟨λq hq=>by rw[aV.mp hq];decide,λq hq=>by rw[aV.mp hq];decide⟩
theorem Qw{N:Nat}{S:jx}{o:List Int}(po:o.Perm (rg N)):Sn N 60 (10 ^ 20) (S++[O.lst [.tup [.int 0,.int 1]]]++[O.lst [.tup [.tup (o.map .int),.ref S.length]]]) (S.length+1) [(o,[((0:Int),(1:Int))])]:=by
 have:=jM (S:=S++[O.lst [.tup [.int 0,.int 1]]]) (xs:=[.tup [.tup (o.map .int),.ref S.length]]);rw[aR,bR]at this;exact MH po He.Bu (by simp) Up this (ko jM)
theorem rj(h:C<2 ^ 4096):C<big:=by rw[tM];exact h
theorem Wz(ns:List Int)(hl:ns.length<=63):∃S',Bb [.frz (ns.map .int)] []=.ok (.bl true) S':=by
 have B0:3 ^ 25 * 5<big:=rj (by decide +kernel);have B1:3 ^ 25 * (5+5)<big:=rj (by decide +kernel);have B2:3 ^ 25 * (120 * ((2 * 4+1) * (5 * (3 ^ 25 * 5))))<big:=rj (by decide +kernel);have B3:3 ^ 25 * (120 * ((2 * 4+1) * (5 * 5 ^ 25)))<big:=rj (by decide +kernel);have C0:5<big:=rj (by decide +kernel);have C2:120 * ((2 * 4+1) * (5 * (3 ^ 25 * 5)))<big:=rj (by decide +kernel);have C3:120 * ((2 * 4+1) * (5 * 5 ^ 25))<big:=rj (by decide +kernel);have D0:3 ^ 25 * 10 ^ 20<big:=rj (by decide +kernel);have D1:10 ^ 20<big:=rj (by decide +kernel);obtain⟨c0,x0⟩:=Cj (S:=[]) (ns:=ns) (k:=0) (by decide);obtain⟨S1,e1,b1,k1⟩:=Cf (S:=[]) (c:=c0) (k:=1) (by decide) (by decide);obtain⟨S2,h2⟩:∃S2,S2=S1++[O.lst (([3,4,3,2,3,1]:List Int).map .int)]:=⟨_,rfl⟩;have k2:lG S1 S2:=by rw[h2];exact Kp.refl.lay
 have bl:=b1.lt';obtain⟨d,S3,e3,d0,d1,b3,k3⟩:=digit (S:=S2) (m:=6) (b1.kp k2 λz=>z) (by decide) (by decide);obtain⟨v,hv,mv⟩:=ZE (xs:=[3,4,3,2,3,1]) d0 d1;have v4:1<=v/\v<=4:=by
  have:∀x∈([3,4,3,2,3,1]:List Int),1<=x/\x<=4:=by decide
  exact this v mv
 have l3:jw S3 S1.length=some [A.int 3,.int 4,.int 3,.int 2,.int 3,.int 1]:=k3.lst _ _ (by lia) (by rw[h2];exact jM);have hv':rP [A.int 3,.int 4,.int 3,.int 2,.int 3,.int 1] d=some (.int v):=hv;obtain⟨N,hN⟩:∃N:Nat,(N:Int)=v:=⟨v.toNat,by lia⟩;have n6:N<6:=by lia
 have n1:1<=N:=by lia
 obtain⟨na,S4,la,e4,sa,_,_⟩:=BK (N:=N) b3 n1 (by lia);obtain⟨c1,y1⟩:=Cj (S:=S4) (ns:=ns) (k:=1) (by decide);obtain⟨S5,e5,b5,k5⟩:=Cf (S:=S4) (c:=c1) (k:=2) (by decide) (by decide);obtain⟨nb,S6,lb,e6,sb,_,k6⟩:=BK (N:=N) b5 n1 (by lia);have k46:lG S4 S6:=k5.old k6 λq hq _ z=>by lia
 obtain⟨c2,y2⟩:=Cj (S:=S6) (ns:=ns) (k:=2) (by decide);obtain⟨S7,e7,b7,k7⟩:=Cf (S:=S6) (c:=c2) (k:=3) (by decide) (by decide);obtain⟨nc,S8,lc,e8,sc,_,k8⟩:=BK (N:=N) b7 n1 (by lia);have k68:lG S6 S8:=k7.old k8 λq hq _ z=>by lia
 have ta:=sa.kp (k46.trans k68);have tb:=sb.kp k68;have pa:=sa.1.pm;have pb:=sb.1.pm;have pc:=sc.1.pm;have hW:=He.Cb N;obtain⟨L9,S9,e9,s9,k9⟩:=ta.prod tb n6 n1 (by decide) B0 B0;obtain⟨L10,S10,e10,s10,k10⟩:=s9.tu n6 n1 (by decide) C2;have j10:=k9.trans k10;obtain⟨L11,S11,e11,s11,k11⟩:=(ta.kp j10).tu n6 n1 (by decide) C0;have j11:=j10.trans k11;obtain⟨L12,S12,e12,s12,k12⟩:=(tb.kp j11).tu n6 n1 (by decide) C0;have j12:=j11.trans k12;obtain⟨L13,S13,e13,s13,k13⟩:=(s11.kp k12).prod s12 n6 n1 (by decide) B3 B3;have j13:=j12.trans k13;have q1:vR true (.ref L10) (.ref L13) S13=.ok (.bl false) S13:=Bx ((s10.kp ((k11.trans k12).trans k13)).eq s13 (He.QF hW sa.1.cn sb.1.cn pa pb));obtain⟨L14,S14,e14,s14,k14⟩:=(ta.kp j13).tu n6 n1 (by decide) C0;have j14:=j13.trans k14;obtain⟨L15,S15,e15,s15,k15⟩:=s14.tu n6 n1 (by decide) C3;have j15:=j14.trans k15;have q2:vR true (.ref L15) (.ref na) S15=.ok (.bl false) S15:=Bx (s15.eq (ta.kp j15) (He.WU hW sa.1.cn pa));have s9':=s9.kp (((((k10.trans k11).trans k12).trans k13).trans k14).trans k15);obtain⟨L16,S16,e16,s16,k16⟩:=s9'.prod (sc.kp j15) n6 n1 (by decide) B2 B0;have j16:=j15.trans k16;obtain⟨L17,S17,e17,s17,k17⟩:=(tb.kp j16).prod (sc.kp j16) n6 n1 (by decide) B0 B0;have j17:=j16.trans k17;obtain⟨L18,S18,e18,s18,k18⟩:=(ta.kp j17).prod s17 n6 n1 (by decide) B0 B2;have j18:=j17.trans k18;have q3:vR true (.ref L16) (.ref L18) S18=.ok (.bl false) S18:=Bx ((s16.kp (k17.trans k18)).eq s18 (He.grouped sa.1.cn sb.1.cn sc.1.cn pa pb pc));obtain⟨L19,S19,e19,s19,k19⟩:=(tb.kp j18).add (sc.kp j18) n6 n1 (by decide);have j19:=j18.trans k19;obtain⟨L20,S20,e20,s20,k20⟩:=(ta.kp j19).prod s19 n6 n1 (by decide) B0 B1;have j20:=j19.trans k20;obtain⟨L21,S21,e21,s21,k21⟩:=(ta.kp j20).prod (sc.kp j20) n6 n1 (by decide) B0 B0;have j21:=j20.trans k21;have s9'':=s9'.kp (((((k16.trans k17).trans k18).trans k19).trans k20).trans k21);obtain⟨L22,S22,e22,s22,k22⟩:=s9''.add s21 n6 n1 (by decide);have j22:=j21.trans k22;have q4:vR true (.ref L20) (.ref L22) S22=.ok (.bl false) S22:=Bx ((s20.kp (k21.trans k22)).eq s22 (He.K9 sa.1.cn sb.1.cn sc.1.cn pa pb pc));obtain⟨S23,h23⟩:∃S23,S23=S22++[O.lst [.tup [.int 0,.int 1]]]++[O.lst [.tup [.tup ((rg N).map .int),.ref S22.length]]]:=⟨_,rfl⟩;have k23:lG S22 S23:=by rw[h23];exact Kp.refl.lay.lay
 have p23:Sn N 60 (10 ^ 20) S23 (S22.length+1) (He.one N):=by rw[h23];exact Qw (.refl _)
 have j23:=j22.trans k23;obtain⟨L24,S24,e24,s24,k24⟩:=(ta.kp j23).prod p23 n6 n1 (by decide) B0 D0;have j24:=j23.trans k24;have q5:vR false (.ref L24) (.ref na) S24=.ok (.bl true) S24:=FQ (s24.eq (ta.kp j24) (He.My sa.1.cn pa));obtain⟨L25,S25,e25,s25,k25⟩:=(p23.kp k24).prod (ta.kp j24) n6 n1 (by decide) D0 B0;have j25:=j24.trans k25;have q6:vR false (.ref L25) (.ref na) S25=.ok (.bl true) S25:=FQ (s25.eq (ta.kp j25) (He.M0 sa.1.cn pa));obtain⟨L26,S26,e26,s26,k26⟩:=(p23.kp (k24.trans k25)).tu n6 n1 (by decide) D1;have q7:vR false (.ref L26) (.ref (S22.length+1)) S26=.ok (.bl true) S26:=FQ (s26.eq (p23.kp ((k24.trans k25).trans k26)) (He.UH N));refine⟨S26,?_⟩;have e1':m7 [.int c0,.int 1] []=.ok (.ref 0) S1:=e1;have b3':jT [.ref 0,.int 6] S2=.ok (.int d) S3:=e3;have e4':j7 [.ref 0,.int N] S3=.ok (.ref na) S4:=e4;unfold Bb LS Ox;simp only[j9,rR,bools,l6,Nat.reduceAdd,Nat.reduceSub,x0,e1'];rw[show S1++[O.lst [A.int 3,.int 4,.int 3,.int 2,.int 3,.int 1]]=S2 from h2.symm];simp only[j9,rR,bools,b3',l3,hv',<- hN,e4',y1,e5,e6,y2,e7,e8,e9,e10,e11,e12,e13,q1,e14,e15,q2,e16,e17,e18,q3,e19,e20,e21,e22,q4,ZR (show N<=1000 by lia),mz (show 2<=sizeLine by decide),aR,bR,bz,bX,Nat.reduceAdd];rw[<- h23];simp only[j9,rR,bools,e24,q5,e25,q6,e26,q7]
end K91
namespace K91
open PySem L2 Am
theorem all_mk{l:PySem.W.OpenLaw}{w:ah}{K:au}{h:aq}{mg:Str->Option af}{fa:ak}(X:K.In h)(G:h.Ns mainGlobals mg)(hfa:mg "law" = some (.ref fa))
  (a1:Df K "is_whole" uS)
  (a2:Df K "need_pair" sq)
  (a3:Df K "back" FF)
  (a4:Df K "is_exchange" qk)
  (a5:Df K "exchanged_places" mK)
  (a6:Df K "exchanged" rZ)
  (a7:Df K "falls" BE)
  (a8:Df K "as_polynomial" oA)
  (a9:Df K "plus" FL)
  (a10:Df K "times" Cy)
  (a11:Df K "turned" yL)
  (a12:Df K "put_before" rq)
  (a13:Df K "as_sum" yJ)
  (a14:Df K "need_like" rX)
  (a15:Df K "added" CL)
  (a16:Df K "scaled" zG)
  (a17:Df K "by_exchange" qu)
  (a18:Df K "by_order" qV)
  (a19:Df K "by_orders" sS)
  (a20:Df K "with_backs" rB)
  (a21:Df K "product" v9)
  (a22:Df K "first_word" rO)
  (a23:Df K "turned_order" nH)
  (a24:Df K "turning" wu)
  (a25:Df K "_law_cell" uD)
  (a26:Df K "_law_bag" wW)
  (a27:Df K "_law_mixed" sG)
  (a28:Df K "_law_digit" sF)
  (a29:Df K "_law_order" r9)
  (a30:Df K "_law_drawn_sum" oG)
  (a31:Df K "law" OA)
  (aa2:PySem.W.nsIn K mainGlobals "isinstance" = some none)
  (aa3:PySem.W.nsIn K mainGlobals "bool" = some none)
  (aa4:PySem.W.nsIn K mainGlobals "int" = some none)
  (aa5:PySem.W.nsIn K mainGlobals "len" = some none)
  (aa6:PySem.W.nsIn K mainGlobals "enumerate" = some none)
  (aa7:PySem.W.nsIn K mainGlobals "tuple" = some none)
  (aa8:PySem.W.nsIn K mainGlobals "list" = some none)
  (aa9:PySem.W.nsIn K mainGlobals "range" = some none)
  (aa_:PySem.W.nsIn K mainGlobals "sorted" = some none)
  (aba:PySem.W.nsIn K mainGlobals "dict" = some none)
  (abb:PySem.W.nsIn K mainGlobals "reversed" = some none)
  (abc:PySem.W.nsIn K mainGlobals "abs" = some none)
  {a_AT_A_FALL:ak} (abd:PySem.W.nsIn K mainGlobals "AT_A_FALL" = some (some (.ref a_AT_A_FALL))) (kp_AT_A_FALL:PD K a_AT_A_FALL=some [((-1:Int),(1:Int)),((1:Int),(-1:Int))])
  {a_LESS_BACK:ak} (abe:PySem.W.nsIn K mainGlobals "LESS_BACK" = some (some (.ref a_LESS_BACK))) (kp_LESS_BACK:PD K a_LESS_BACK=some [((-1:Int),(-1:Int)),((1:Int),(1:Int))])
  : ∃fd:FuncData,(∀(s:aA) (v:af),BindsTo s fd ⟨[v],[]⟩ [("_law_script",v)])/\∀base:aq,K.In base->base.Ns mainGlobals mg->FnOk l.prog w K mg base pQ 34 fa fd ["_law_script"] (qv K 1 Bb):=by
 obtain⟨f,fd,a,F⟩:=a31;have e:=hfa.symm.trans (jb X G a)
 cases e
 have aaJ:=cg X G aa2;have aaM:=cg X G aa3;have aaN:=cg X G aa4;have aab:=cg X G aa5;have aaO:=cg X G aa6;have aat:=cg X G aa7;have aap:=cg X G aa8;have aaf:=cg X G aa9;have aar:=cg X G aa_;have aaS:=cg X G aba;have aaT:=cg X G abb;have aa0:=cg X G abc;have h_AT_A_FALL:∃a,mg "AT_A_FALL" = some (.ref a)/\PD K a=some [((-1:Int),(1:Int)),((1:Int),(-1:Int))]:=⟨a_AT_A_FALL,jb X G abd,kp_AT_A_FALL⟩;have h_LESS_BACK:∃a,mg "LESS_BACK" = some (.ref a)/\PD K a=some [((-1:Int),(-1:Int)),((1:Int),(1:Int))]:=⟨a_LESS_BACK,jb X G abe,kp_LESS_BACK⟩;refine⟨fd,λs v=>(by obtain⟨_,_,_,_,_,_,_,_,_,rfl,_,_⟩:=F.ex;exact .of_eq rfl),λbase _ _=>?_⟩;have E:En l.prog w K mg base:=⟨h,X,G⟩;have aaP:=a1.kA E (λF=>EN F aaJ aaM aaN) (LM λ_ _ _ _ _ _ _=>rfl);have aaV:=a2.kA E (λF=>Cw F aab) (Dg λ_ _ _ _ _ _ _ _=>rfl);have aaC:=a3.kA E (λF=>Rb F aab aaO aat) (LM λ_ _ _ _ _ _ _=>rfl);have aaQ:=a4.kA E (λF=>zA F aaP) (Dg λ_ _ _ _ _ _ _ _=>rfl);have aaR:=a5.kA E (λF=>um F aap aat) (Zc λ_ _ _ _ _ _ _ _ _=>rfl);have aac:=a6.kA E (λF=>C7 F aab aaQ aaR) (Dg λ_ _ _ _ _ _ _ _=>rfl);have aas:=a7.kA E (λF=>N3 F aaf aab) (LM λ_ _ _ _ _ _ _=>rfl);have aaA:=a8.kA E (λF=>wo F aar) (LM λ_ _ _ _ _ _ _=>rfl);have aaU:=a9.kA E (λF=>RI F aaS aaA) (Dg λ_ _ _ _ _ _ _ _=>rfl);have aau:=a10.kA E (λF=>LQ F aaA) (Dg λ_ _ _ _ _ _ _ _=>rfl);have aaZ:=a11.kA E (λF=>Ks F aaT) (LM λ_ _ _ _ _ _ _=>rfl);have aam:=a12.kA E (λF=>Ah F aaU) (Zc λ_ _ _ _ _ _ _ _ _=>rfl);have aaq:=a13.kA E (λF=>JK F aar) (LM λ_ _ _ _ _ _ _=>rfl);have aaB:=a14.kA E (λF=>CC F aaV) (Dg λ_ _ _ _ _ _ _ _=>rfl);have aay:=a15.kA E (λF=>Lq F aaB aam aaq) (Dg λ_ _ _ _ _ _ _ _=>rfl);have aaE:=a16.kA E (λF=>JV F aam aau aaq) (Dg λ_ _ _ _ _ _ _ _=>rfl);have aav:=a17.kA E (λF=>zu F aap h_AT_A_FALL aam aac aas aau aaq) (Dg λ_ _ _ _ _ _ _ _=>rfl);have aaX:=a18.rA E (λF hm hk hb=>u9 F aas aac aav hm hk hb 26) (Zc λ_ _ _ _ _ _ _ _ _=>rfl);have aaK:=a19.kA E (λF=>B9 F aaX aam aau aaq) (Dg λ_ _ _ _ _ _ _ _=>rfl);have aaF:=a20.kA E (λF=>z0 F aar aaC) (LM λ_ _ _ _ _ _ _=>rfl);have aax:=a21.kA E (λF=>Gb F aab aaB aaK aaF) (Dg λ_ _ _ _ _ _ _ _=>rfl);have aaD:=a22.kA E (λF=>zZ F aaC aas aac) (LM λ_ _ _ _ _ _ _=>rfl);have aaY:=a23.rA E (λF hm hk hb=>qz F aap h_LESS_BACK aaD aac aay aaE aav hm hk hb 26) (Dg λ_ _ _ _ _ _ _ _=>rfl);have aaz:=a24.kA E (λF=>Gn F aaY aam aau aaZ aaq) (LM λ_ _ _ _ _ _ _=>rfl);have aaH:=a25.kA E (λF=>DZ F aab) (Dg λ_ _ _ _ _ _ _ _=>rfl);have aaG:=a26.kA E (λF=>Gz F aa0) (Dg λ_ _ _ _ _ _ _ _=>rfl);have aaL:=a27.kA E (λF=>Cz F) (LM λ_ _ _ _ _ _ _=>rfl);have aaw:=a28.kA E (λF=>Cc F aaf aaL) (Dg λ_ _ _ _ _ _ _ _=>rfl);have aa1:=a29.kA E (λF=>By F aap aaf aab aat aaw) (Dg λ_ _ _ _ _ _ _ _=>rfl);have aaI:=a30.kA E (λF=>xh F aaf aar aaw aa1) (Dg λ_ _ _ _ _ _ _ _=>rfl);exact VQ F aat aaf aaG aaH aaw aaI aax aaz aay
theorem walk{l:PySem.W.OpenLaw}{q:aj}{XP:(Str->Option af)->aq->Prop}{YP:ah->aq->Prop}{d:DefRec}{K:Params->au}(hn:l.most=some 63)(hdf:d.params.defaults=[])
  (hY:∀(w:ah) (h:aq),YP w h->(K w.params).In h)
  (F:∀(w:ah) (mg:Str->Option af) (fa:ak) (h:aq),(K w.params).In h->h.Ns mainGlobals mg->mg d.name=some (.ref fa) ->
   ∃fd:FuncData,(∀(s:aA) (u:af),BindsTo s fd ⟨[u],[]⟩ [("_law_script",u)])/\∀base:aq,(K w.params).In base->base.Ns mainGlobals mg->FnOk l.prog w (K w.params) mg base pQ 34 fa fd ["_law_script"] (qv (K w.params) 1 Bb)) :
  PySem.W.WalkO q loose XP YP l.row.toRowW d [] (λf vs=>PySem.call f vs):=
 L2.QM (n:=63) (k:=34) (x := "_law_script") (CX:=λ_=>pQ) (sp:=λw=>qv (K w.params) 1 Bb) hn (by decide) hdf ⟨rfl,by decide,by decide⟩ hY F (λ_ H a ns hl hO hS=>KY hO hS (Wz ns hl)) λ_ _ _ _ _ z=>z
end K91
open PySem PySem.W PyProof.Rows
namespace PySem.W.Fast
theorem tw8222445251866104054:True:=trivial
theorem tw9988459477699790159:True:=trivial
theorem tw13417836840900542475:True:=trivial
theorem tw4914987553100262256:True:=trivial
theorem tw14459839592733103114:True:=trivial
theorem tw14514485759505094529:True:=trivial
theorem tw1716031442944530389:True:=trivial
theorem tw2998339037598194904:True:=trivial
theorem tw2727641710337744885:True:=trivial
theorem tw6271635247314047583:True:=trivial
theorem tw1206517310596529161:True:=trivial
theorem tw18356897932775623576:True:=trivial
theorem tw4453437848848279127:True:=trivial
theorem tw10501454729943904460:True:=trivial
theorem tw5412828632751872160:True:=trivial
theorem tw17663686967042657722:True:=trivial
theorem tw10541712343848453666:True:=trivial
theorem tw8874742047662372281:True:=trivial
theorem tw4832022791688993998:True:=trivial
theorem tw17239014912285259332:True:=trivial
theorem tw2099984742570812369:True:=trivial
theorem tw17524353882337455700:True:=trivial
theorem tw17415339620113664663:True:=trivial
theorem tw6414834495349243598:True:=trivial
theorem tw5735081742938333402:True:=trivial
theorem tw10815204630807850920:True:=trivial
theorem tw14545223554617359334:True:=trivial
theorem tw11565580377954693037:True:=trivial
theorem tw1502310878422574030:True:=trivial
theorem tw14369464884228460261:True:=trivial
theorem tw7100902294726218844:True:=trivial
theorem tw9468854599996560629:True:=trivial
theorem tw16185896948897785334:True:=trivial
theorem tw3795658671503499065:True:=trivial
theorem tw13757833883762519140:True:=trivial
theorem tw16009243441528834180:True:=trivial
theorem tw17736867919313578649:True:=trivial
theorem tw3003123313264403741:True:=trivial
theorem tw2106152829488174868:True:=trivial
theorem tw17515680059460908381:True:=trivial
theorem tw3110578521172594236:True:=trivial
theorem tw5053580978571854363:True:=trivial
theorem tw14362932818314419126:True:=trivial
theorem tw10728674591370634143:True:=trivial
theorem tw7093447920183712955:True:=trivial
theorem tw4624453281411929305:True:=trivial
theorem tw4970608515966402214:True:=trivial
theorem tw4052355963366531972:True:=trivial
theorem tw10843538575951171577:True:=trivial
theorem tw16589239554467276531:True:=trivial
theorem tw8901976410874873812:True:=trivial
theorem tw9325917989236946304:True:=trivial
theorem tw1043618377555072301:True:=trivial
theorem tw4170045273628961071:True:=trivial
theorem tw9773359178967323194:True:=trivial
theorem tw1755215787126805971:True:=trivial
theorem tw8006097023103069648:True:=trivial
theorem tw4067063976107086796:True:=trivial
theorem tw5712362696368429785:True:=trivial
theorem tw13279275601403034871:True:=trivial
theorem tw16636253654653992020:True:=trivial
theorem tw17528598264594960488:True:=trivial
theorem tw8607616913726602818:True:=trivial
theorem tw3668056856884200218:True:=trivial
theorem tw8892629350701865614:True:=trivial
theorem tw11606822397720330572:True:=trivial
theorem tw3212300568727680430:True:=trivial
theorem tw16824817805946519147:True:=trivial
theorem tw783146821725869307:True:=trivial
theorem tw13880315696585664287:True:=trivial
theorem tw12739547198745782510:True:=trivial
theorem tw14768784906514426429:True:=trivial
theorem tw11863472915471675435:True:=trivial
theorem tw4441951495573620739:True:=trivial
theorem tw6081677577797834686:True:=trivial
theorem tw12136781555804173369:True:=trivial
theorem tw8341694558344657237:True:=trivial
theorem tw2573307117835052122:True:=trivial
theorem tw12926402898296459651:True:=trivial
theorem tw11888686854277886759:True:=trivial
theorem tw6227140160961608929:True:=trivial
theorem tw6219683907714060206:True:=trivial
theorem tw16365992113370926082:True:=trivial
theorem tw4382746736578496791:True:=trivial
theorem tw5752341514143684612:True:=trivial
theorem tw4265777118062926731:True:=trivial
theorem tw16128876288862141222:True:=trivial
theorem tw7569773398306509250:True:=trivial
theorem tw6529205231513980107:True:=trivial
theorem tw11406771918534495523:True:=trivial
theorem tw8622287647847879735:True:=trivial
theorem tw17180755832786173841:True:=trivial
theorem tw6846953468922139810:True:=trivial
theorem tw2150624325694310564:True:=trivial
theorem tw5288258352447181418:True:=trivial
theorem tw10664596806314276592:True:=trivial
theorem tw4531963017721662995:True:=trivial
theorem tw14210486769478805844:True:=trivial
theorem tw16749532963874994970:True:=trivial
theorem tw9118009824419300514:True:=trivial
end PySem.W.Fast
set_option maxRecDepth 100000 in
set_option maxHeartbeats 0 in
theorem PySem.Challenge.cw_undercells_k91_whole_products_and_turnin_holds : PySem.Challenge.rw_undercells_k91_whole_products_and_turnin.Holds := by
 w_on;o_law;k_head;(case hw=>w_witness2)
 k_fill
 refine K91.walk (l:=PySem.Challenge.rw_undercells_k91_whole_products_and_turnin) rfl rfl (fun w h Y=>PySem.W.kIn_of Y) ?F
 case F=>
  intro w mg fa h KX G hmg;refine' K91.all_mk KX G hmg (.of ?_ ?_ ?_ ?_) (.of ?_ ?_ ?_ ?_) (.of ?_ ?_ ?_ ?_) (.of ?_ ?_ ?_ ?_) (.of ?_ ?_ ?_ ?_) (.of ?_ ?_ ?_ ?_) (.of ?_ ?_ ?_ ?_) (.of ?_ ?_ ?_ ?_) (.of ?_ ?_ ?_ ?_) (.of ?_ ?_ ?_ ?_) (.of ?_ ?_ ?_ ?_) (.of ?_ ?_ ?_ ?_) (.of ?_ ?_ ?_ ?_) (.of ?_ ?_ ?_ ?_) (.of ?_ ?_ ?_ ?_) (.of ?_ ?_ ?_ ?_) (.of ?_ ?_ ?_ ?_) (.of ?_ ?_ ?_ ?_) (.of ?_ ?_ ?_ ?_) (.of ?_ ?_ ?_ ?_) (.of ?_ ?_ ?_ ?_) (.of ?_ ?_ ?_ ?_) (.of ?_ ?_ ?_ ?_) (.of ?_ ?_ ?_ ?_) (.of ?_ ?_ ?_ ?_) (.of ?_ ?_ ?_ ?_) (.of ?_ ?_ ?_ ?_) (.of ?_ ?_ ?_ ?_) (.of ?_ ?_ ?_ ?_) (.of ?_ ?_ ?_ ?_) (.of ?_ ?_ ?_ ?_) ?_ ?_ ?_ ?_ ?_ ?_ ?_ ?_ ?_ ?_ ?_ ?_ ?_ ?_ ?_ ?_
  any_goals first|k_is|kernel_rfl
