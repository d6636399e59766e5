import PyProof.Rows.All
import Wide.All
import OpenK.AllK
import Wide.FinOn
import Lean
import PyProof.EqAt
import PyProof.EqKinds
import PyProof.TupleCall
import PySem.Challenge.RW_undercells_k32_whole_backs_and_what_is_b
set_option autoImplicit true
set_option relaxedAutoImplicit true
set_option Elab.async false
set_option linter.all false
set_option maxRecDepth 100000
set_option maxHeartbeats 4000000
def aF:=@List.getElem?_eq_getElem
def aG:=@PySem.wpAny_bind
def aH:=@List.length_map
def aI:=@List.mem_cons_self
def aJ:=@List.getD_eq_getElem?_getD
def aK:=@if_neg
def aL:=@List.mem_cons_of_mem
def aM:=@if_pos
def aN:=@List.getElem?_eq_some_iff
def aO:=@List.length_append
def aP:=@List.mem_singleton
def aQ:=@Nat.le_refl
def aR:=@List.getElem?_map
def aS:=@PySem.Heap.get?_push_of_some
def aV:=@PySem.wpAny_pure
def aW:=@List.mem_of_getElem?
def aX:=@Option.map_eq_some_iff
def aY:=@PyProof.Rows.wpS_bind
def aZ:=@List.length_cons
def a_:=@Option.some.inj
def bf:=@Bool.false_eq_true
def bg:=@List.size_toArray
def bh:=@decide_eq_true
def bq:=@decide_eq_false
def bu:=@List.map_map
def bw:=@PySem.Heap.lt_size
def bz:=@List.mem_map
def bA:=@PyProof.Rows.wpS_pure
def bB:=@List.length_singleton
def bC:=@List.mem_cons
def bD:=@PySem.Heap.get?_push_size
def bE:=@List.map_cons
def bF:=@List.mem_append
def bG:=@Nat.ne_of_lt
def bH:=@List.getElem?_append_left
def bI:=@Bool.false_ne_true
def bJ:=@Nat.le_trans
def bK:=@List.length_nil
def bL:=@Nat.mul_le_mul_right
def bM:=@Nat.zero_le
def bN:=@List.pairwise_cons
def bO:=@beq_self_eq_true
def bP:=@List.map_append
def bQ:=@Nat.lt_of_lt_of_le
def bR:=@of_decide_eq_true
def bU:=@if_false
def bV:=@List.mem_append_right
def bW:=@List.getElem?_eq_none
def bX:=@PySem.PassesOwn.never
def bY:=@List.getElem?_set_self
def bZ:=@List.pairwise_singleton
def b9:=@List.length_set
def b_:=@PySem.W.mg_none_of
def cg:=@Int.zero_add
def cj:=@List.pairwise_append
def ck:=@List.length_take
def cu:=@List.append_assoc
def cA:=@List.length_range
def cB:=@Nat.lt_of_le_of_lt
def cC:=@Option.bind_eq_some_iff
def cE:=@List.getElem?_set_ne
def cF:=@Nat.zero_add
def cG:=@List.pairwise_map
def cH:=@List.take_add_one
def cI:=@PyProof.Rows.wpS_forRange
def cJ:=@List.map_congr_left
def cK:=@List.mem_filter
def cL:=@List.append_nil
def cM:=@List.nodup_cons
def cN:=@List.find?_cons
def cO:=@List.mem_range
def cP:=@List.take_length
def cQ:=@List.foldl_append
def cR:=@PySem.F.slot_dict_keyiterator_next
def cT:=@PySem.W.kia_one
def cU:=@PySem.AutoSeq1.wpAny_loadPart'
def cV:=@PySem.wpAny_call_entry
def cW:=@Bool.not_true
def cX:=@List.filter_cons
def cY:=@if_true
def cZ:=@PySem.wpAny_newObj_type
def c5:=@List.ext_getElem?
def c6:=@Int.add_zero
def c7:=@Ne.symm
def c8:=@List.getElem_map
def c9:=@List.pairwise_iff_getElem
def c_:=@List.drop_eq_getElem_cons
def dc:=@List.replicate_succ
def dg:=@Int.toNat_natCast
def dh:=@Bool.not_false
def di:=@of_decide_eq_false
def dj:=@List.getElem_inj
def dm:=@congrArg
def dw:=@PySem.wpAny_callSpecial?_slot
def dz:=@Option.bind_some
def dB:=@List.mem_reverse
def dD:=@PyProof.Rows.callWith_type1
def dF:=@List.nodup_nil
def dG:=@List.reverse_cons
def dH:=@PySem.F.slot_dict_get
def dI:=@List.length_filter_le
def dJ:=@List.getElem_mem
def dM:=@PySem.wpAny_holding
def dN:=@List.Perm.eq_of_pairwise
def dO:=@List.mem_of_mem_take
def dP:=@List.reverse_reverse
def dQ:=@PySem.wpAny_typeNameOfWhole_keyiter
def dR:=@Nat.mul_le_mul
def dS:=@Nat.one_mul
def dU:=@PySem.wpAny_truthy_bool
def dW:=@List.flatten_cons
def dX:=@Nat.lt_succ_of_lt
def dY:=@List.nodup_append
def dZ:=@Option.map_some
def d8:=@beq_eq_false_iff_ne
def d9:=@Array.length_toList
def d_:=@PyProof.Rows.wpS_mono
def ef:=@List.getElem?_range
def eg:=@Nat.succ_mul
def eB:=@PySem.sizeLine_eq
def eE:=@Option.getD_some
def eF:=@List.all_eq_true
def eG:=@PySem.Heap.size_push
def eK:=@PySem.F.slot_tuple_iterator_next
def eL:=@PySem.Obj.data_mapFields
def eN:=@PySem.wpAny_rule
def eO:=@List.take_zero
def eS:=@List.Perm.refl
def eT:=@List.getElem_range
def eU:=@Array.getElem?_toList
def eV:=@List.getElem?_toArray
def eW:=@PySem.wpAny_passesOwn
def eX:=@List.foldl_cons
def eY:=@Nat.not_lt_zero
def eZ:=@List.getElem?_of_mem
def e_:=@List.mem_of_mem_drop
def fh:=@PyProof.Rows.listItems_at
def fj:=@List.forall_mem_cons
def fm:=@Option.isSome_iff_exists
def fq:=@PySem.wpAny_typeNameOf_keyiter
def fB:=@List.idxOf_lt_length_iff
def fC:=@PySem.mem_of_lookup
def fF:=@PySem.Heap.SameBut.update
def fG:=@List.mem_map_of_mem
def fH:=@List.length_reverse
def fJ:=@Nat.lt_succ_self
def fK:=@List.length_eq_zero_iff
def fL:=@List.length_drop
def fM:=@List.prefix_refl
def fN:=@List.mem_flatMap
def fO:=@PySem.tupleKind_room_in1
def fP:=@PyProof.Rows.wpS_modify
def fQ:=@List.prefix_append
def fR:=@Nat.lt_irrefl
def fS:=@List.any_cons
def fV:=@Int.add_assoc
def fW:=@PySem.Heap.get?_update_self
def fX:=@PySem.builtinLookup_eq_fast
def fY:=@List.set_append_right
def fZ:=@List.mem_append_left
def f6:=@List.getElem?_append_right
def f7:=@List.range_eq_range'
def f9:=@PySem.Around.under_plainId
def f_:=@PySem.isSubtype_type
def gb:=@Option.map_map
def gc:=@Nat.pow_le_pow_right
def gf:=@List.map_nil
def gg:=@List.lookup_cons
def gh:=@List.any_eq_true
def gp:=@PySem.Calls.call_function_entry
def gq:=@List.mem_of_find?_eq_some
def gr:=@PySem.F.args_dict_keyiterator_next_1
def gu:=@List.filter_eq_self
def gv:=@List.getElem?_take_of_lt
def gw:=@PySem.F.args_tuple_add_2
def gz:=@Bool.false_or
def gA:=@PySem.F.entry_dict_keyiterator_next
def gB:=@PySem.F.slot_list_getattribute
def gC:=@List.sum_cons
def gD:=@List.Pairwise.imp_of_mem
def gE:=@PySem.F.slot_list_append
def gF:=@PySem.F.type_list_append
def gG:=@List.forIn_cons
def gH:=@PySem.codeAny_builtin
def gI:=@PySem.wpAny_pyIter_tuple
def gJ:=@List.find?_eq_none
def gK:=@Int.emod_lt_of_pos
def gM:=@Option.isSome_none
def gO:=@PySem.F.entry_tuple_add
def gP:=@PySem.wpAny_field
def gQ:=@PySem.F.args_dict_get_3
def gR:=@PySem.F.slot_tuple_add
def gS:=@List.range_succ_eq_map
def gT:=@List.all_map
def gU:=@PySem.wpAny_typeOf
def gW:=@PySem.wpAny_setField
def gY:=@Option.isSome_map
def gZ:=@PySem.F.entry_dict_get
def g_:=@PyProof.Rows.wpS_get
def h_:=@List.take_succ_eq_append_getElem
def ie:=@PySem.Heap.get?_push_ne
def ig:=@Array.getElem?_eq_none
def ir:=@Nat.lt_of_succ_lt_succ
def iu:=@List.find?_map
def iw:=@Int.mul_zero
def iy:=@List.eraseIdxIfInBounds_toArray
def iz:=@PySem.Obj.isFreed_of_fields
def iA:=@List.take_append_drop
def iB:=@PySem.wpAny_isOneOf_keyiter
def iC:=@PySem.F.type_dict_get
def iD:=@Nat.le_of_not_lt
def iE:=@PySem.Heap.size_update
def iF:=@List.isEmpty_nil
def iG:=@PySem.wpAny_attempt
def iH:=@Nat.add_assoc
def iI:=@PySem.wpAny_of_eq
def iJ:=@PySem.F.slot_list_reversed
def iK:=@Bool.or_eq_false_iff
def iL:=@PySem.wpAny_execs_nil
def iM:=@PySem.typeLookup_type
def iN:=@List.find?_some
def iO:=@Int.emod_nonneg
def iP:=@List.filterMap_cons
def iQ:=@List.flatMap_append
def iR:=@Nat.mul_le_mul_left
def iS:=@PySem.codeAny_mono
def iT:=@Nat.sub_self
def iU:=@List.map_set
def iV:=@PySem.wpAny_mono
def iW:=@PySem.wpAny_Call_Name_kw
def iX:=@List.zip_cons_cons
def iY:=@PySem.call_meets
def iZ:=@PySem.wpAny_seqItems
def i6:=@Option.isSome_some
def i7:=@List.getElem?_drop
def i8:=@List.perm_ext_iff_of_nodup
def i9:=@PySem.wpAny_fieldsOf
def i_:=@List.getElem_idxOf
def ja:=@PySem.Obj.cls_mapFields
def jb:=@decide_eq_true_eq
def jc:=@PySem.wpAny_dictEntries
def jd:=@List.flatMap_cons
def je:=@List.find?_isSome
def jf:=@List.isEmpty_cons
def jg:=@PySem.Paired.length
def jh:=@PySem.wpAny_newList
def ji:=@PySem.W.mg_of
def jj:=@List.zipIdx_cons
def jk:=@List.countP_cons
def jl:=@decide_eq_decide
def jm:=@Nat.le_of_lt
def jn:=@Nat.add_comm
def jo:=@Nat.add_zero
def jq:=@Nat.pow_succ
def jt:=@List.of_mem_zip
def ju:=@List.filter_map
def jv:=@Bool.and_false
def jw:=@Array.size_zip
def jx:=@List.forIn_nil
def jy:=@List.foldl_map
def jz:=@List.map_id
abbrev af:=PySem.Value
abbrev ah:=PySem.World
abbrev aj:=PySem.Program
abbrev ak:=PySem.Addr
abbrev aq:=PySem.Heap
abbrev au:=PySem.W.Frag
abbrev az:=PySem.Around
abbrev aA:=PySem.Shared
abbrev aC:=PySem.Expr
abbrev aE:=PySem.Stmt
theorem anI{a b:Prop}(h:a)(k:b):a/\b:=⟨h,k⟩
open Array (size_map)
open Int (zero_mul)
open List (all_cons)
open Nat (lt_trans ne_of_gt)
namespace L2
open PySem PySem.Spec PyProof.Rows
noncomputable abbrev Key:=Sum Int Str
noncomputable def BI:Key->af->Bool
 | .inl k,v=>Value.isInt k v
 | .inr x,v=>Value.isStrOf x v
noncomputable def aab (w:ah):Key->Int
 | .inl k=>hashInt k
 | .inr x=>hashStr w x
theorem lO:∀{k:Key}{v:af},BI k v=true->(∃i t,k=Sum.inl i/\v=Value.int i t)\/(∃x t,k=Sum.inr x/\v=Value.str x t)
 | .inl i,v,h=>by
  obtain⟨t,e⟩:=Value.isInt_shape (k:=i) (v:=v) h;exact .inl ⟨i,t,rfl,e⟩
 | .inr x,v,h=>by
  obtain⟨t,e⟩:=Value.isStrOf_shape (x:=x) (v:=v) h;exact .inr ⟨x,t,rfl,e⟩
theorem JO(i:Int)(t:Tok):BI (.inl i) (.int i t)=true:=by simp[BI,Value.isInt]
theorem Kr(x:Str)(t:Tok):BI (.inr x) (.str x t)=true:=by simp[BI,Value.isStrOf]
theorem VQ(a b:Int):decide ((Sum.inl a:Key)=Sum.inl b)=(a == b):=by
 by_cases e:a=b
 ·subst e;simp
 ·have h:¬(Sum.inl a:Key)=Sum.inl b:=λq=>e (Sum.inl.inj q);rw[bq h];exact(d8.mpr e).symm
theorem V2(a b:Str):decide ((Sum.inr a:Key)=Sum.inr b)=decide (a=b):=by
 by_cases e:a=b
 ·subst e;simp
 ·have h:¬(Sum.inr a:Key)=Sum.inr b:=λq=>e (Sum.inr.inj q);rw[bq h,bq e]
theorem Vn(a:Int)(b:Str):decide ((Sum.inl a:Key)=Sum.inr b)=false:=bq (λq=>nomatch q)
theorem VB(a:Str)(b:Int):decide ((Sum.inr a:Key)=Sum.inl b)=false:=bq (λq=>nomatch q)
noncomputable def kL (prog:aj)(w:ah):PySem.KeyKind prog w Key where
 is:=BI
 hash:=aab w
 inj:=λv a b ha hb=>by
  rcases lO ha with⟨i,t,rfl,rfl⟩|⟨x,t,rfl,rfl⟩
  ·rcases lO hb with⟨j,u,rfl,e⟩|⟨y,u,rfl,e⟩
   ·injection e with e1 _;rw[e1]
   ·exact nomatch e
  ·rcases lO hb with⟨j,u,rfl,e⟩|⟨y,u,rfl,e⟩
   ·exact nomatch e
   ·injection e with e1 _;rw[e1]
 byValue:=λk v h=>by
  rcases lO h with⟨i,t,rfl,rfl⟩|⟨x,t,rfl,rfl⟩<;>rfl
 pyHash:=λhv h=>by
  rcases lO hv with⟨i,t,rfl,rfl⟩|⟨x,t,rfl,rfl⟩
  ·exact wpAny_pyHash_int h
  ·exact wpAny_pyHash_str h
 eqBool:=λhu hv h=>by
  rcases lO hu with⟨i,t,rfl,rfl⟩|⟨x,t,rfl,rfl⟩
  ·rcases lO hv with⟨j,u,rfl,rfl⟩|⟨y,u,rfl,rfl⟩
   ·rw[VQ]at h;exact wpAny_eqBool_int h
   ·rw[Vn]at h;exact SeqAt.EqAt.int_str i t y u _ _ _ _ h
  ·rcases lO hv with⟨j,u,rfl,rfl⟩|⟨y,u,rfl,rfl⟩
   ·rw[VB]at h;exact SeqAt.EqAt.str_int x t j u _ _ _ _ h
   ·rw[V2]at h;exact wpAny_eqBool_str h
 «strs»:=λk x t v h=>by
  rcases lO h with⟨i,u,rfl,e⟩|⟨y,u,rfl,e⟩
  ·exact nomatch e
  ·injection e with e1 _
   subst e1
   cases v<;>rfl
theorem E_(prog:aj)(w:ah)(i:Int)(t:Tok):(kL prog w).is (.inl i) (.int i t)=true:=JO i t
theorem EF(prog:aj)(w:ah)(x:Str)(t:Tok):(kL prog w).is (.inr x) (.str x t)=true:=Kr x t
inductive V where
 | non|bl (b:Bool)|int (i:Int)|str (x:Str)|byt (b:Array UInt8)|flt (b:UInt64)|ref (a:ak)|ty (n:String)
 deriving DecidableEq
noncomputable def RelV:V->af->Prop
 | .non,u=>u=Value.none
 | .bl b,u=>u=Value.bool b
 | .int i,u=>∃t,u=Value.int i t
 | .str x,u=>∃t,u=Value.str x t
 | .byt b,u=>∃t,u=Value.bytes b t
 | .flt b,u=>∃t,u=Value.float b t
 | .ref a,u=>u=Value.ref a
 | .ty n,u=>u=Value.type n
noncomputable abbrev Vals:List V->List af->Prop:=Paired RelV
theorem Vals.length{xs:List V}{us:List af}(r:Vals xs us):xs.length=us.length:=jg r
theorem Vals.get:∀{xs:List V}{us:List af}{i:Nat}{x:V},Vals xs us->xs[i]?=some x->∃u,us[i]?=some u/\RelV x u
 | _,_,_,_,.nil,e=>by simp at e
 | _,_,0,_,.cons r _,e=>by simp at e;subst e;exact⟨_,rfl,r⟩
 | _,_,i+1,x,.cons _ t,e=>by
  obtain⟨u,h1,h2⟩:=Vals.get (i:=i) (x:=x) t (by simpa using e);exact⟨u,by simpa using h1,h2⟩
theorem Vals.set{x:V}(r:RelV x u):∀{xs:List V}{us:List af}(i:Nat),Vals xs us->Vals (xs.set i x) (us.set i u)
 | _,_,_,.nil=>.nil
 | _,_,0,.cons _ t=>.cons r t
 | _,_,i+1,.cons q t=>.cons q (Vals.set r i t)
theorem Vals.append:∀{xs ys:List V}{us ws:List af},Vals xs us->Vals ys ws->Vals (xs++ys) (us++ws)
 | _,_,_,_,.nil,s=>s
 | _,_,_,_,.cons r t,s=>.cons r (Vals.append t s)
noncomputable def xj:Option V->Option af->Prop
 | some v,some u=>RelV v u
 | none,none=>True
 | _,_=>False
noncomputable def KV {κ:Type}:List (κ×V)->List (κ×af)->Prop:=Paired λ(p:κ×V) (q:κ×af)=>p.1=q.1/\RelV p.2 q.2
noncomputable def kV:Key->V
 | .inl i=>.int i
 | .inr x=>.str x
inductive HO where
 | lst (xs:List V)
 | tup (xs:List V)
 | dK (kvs:List (Key×V))|dT (kvs:List (List Key×V))
 | set (S:Int->Bool) (n:Nat)
 | ins (C dx:ak) (fs:List (Str×V))
 | own (x:ak)
 | xd (fs:List (Str×V))
 | met (f x:ak)
 | rng (lo hi:Int)
 | frz (o:Obj) (u:HO)
 | tbl (ps:Array af)
 | ext (φ:aq->Prop)
noncomputable abbrev Hp:=ak->Option HO
noncomputable def upd (H:Hp)(a:ak)(o:HO):Hp:=λb=>if b=a then some o else H b
theorem lI{H:Hp}{a:ak}:upd H a o a=some o:=by unfold upd;rw[aM rfl]
theorem jP{H:Hp}{a:ak}(h:b≠a):upd H a o b=H b:=by unfold upd;rw[aK h]
theorem W7{H:Hp}{a:ak}(h:H a=some o)(h':H b=some u)(d:o≠u):a≠b:=by
 intro e;subst e;rw[h]at h';exact d (a_ h')
theorem jY{H:Hp}{a:ak}(h:H a=some o)(h':H b=none):a≠b:=by
 intro e;subst e;rw[h]at h';cases h'
noncomputable def qf (h:aq)(a:ak)(items:Array af):Prop:=∃o,h.get? a=some o/\o.cls=.type "tuple" /\ o.dict=none/\∃n,o.data=.seq items n
theorem qf.tup{a:ak}:qf h a items->IsTup h a items:=λ⟨o,e,c,_,n,d⟩=>⟨o,e,c,n,d⟩
theorem qf.new(h:aq)(items:Array af):qf (h.push { cls:=.type "tuple",data:=.seq items }) h.objs.size items:=⟨_,bD _ rfl,rfl,rfl,_,rfl⟩
theorem qf.lt{h:aq}{a:ak}(x:qf h a items):a<h.objs.size:=let⟨_,ho,_⟩:=x;bw ho
section
variable (P:aj) (w:ah)
noncomputable def lU (H:Hp)(h:aq)(a:ak):HO->Prop
 | .lst xs=>xs.length<=sizeLine/\∃(its:List af) (n:Nat),Vals xs its/\h.get? a=some { cls:=.type "list",data:=.seq its.toArray n }
 | .tup xs=>xs.length<=sizeLine/\∃its:List af,Vals xs its/\qf h a its.toArray
 | .dK kvs=>kvs.length<=sizeLine/\(a == sysModules)=false/\∃vs,KV kvs vs/\h.DictOf (kL P w) a vs
 | .dT kvs=>kvs.length<=sizeLine/\(a == sysModules)=false/\∃xs:List (List Key×ak×af),
   Paired (λ(p:List Key×V) (q:List Key×ak×af)=>p.1=q.1/\H q.2.1=some (.tup (p.1.map kV))/\RelV p.2 q.2.2) kvs xs /\
   ∃o es ep,h.get? a=some o/\o.ExactDict/\o.data=.dict es ep/\es.toList=xs.map (entryOfKey (tupleKind (kL P w)))/\(xs.map (·.1)).Nodup
 | .set S n=>h.SetOf (intKind P w) a S n
 | .ins C dx fs=>H dx=some (.own a)/\fs.length<=1000/\dx≠a/\h.get? a=some (PySem.W.instObj C dx) /\
   ∃mA,h.Ns1 dx mA/\(∀f,xj (fs.lookup f) (mA f))/\PySem.Within mA (fs.map (·.1))
 | .own _=>∃o,h.get? a=some o
 | .xd fs=>∃mA,h.Ns1 a mA/\∀f,xj (fs.lookup f) (mA f)
 | .rng lo hi=>∃t u v,h.get? a=some { cls:=.type "range",data:=.fields #[.int lo t,.int hi u,.int 1 v]}
 | .frz o u=>h.get? a=some o/\lU H h a u
 | .tbl ps=>h.get? a=some { cls:=.none,data:=.fields ps }
 | .met f x=>h.get? a=some (PySem.W.methodObj (.ref f) (.ref x))
 | .ext φ=>φ h/\(∃o,h.get? a=some o)/\∀h1 h2:aq,φ h1->(∀o,h1.get? a=some o->h2.get? a=some o)->φ h2
noncomputable def vE (H:Hp)(h:aq):Prop:=∀a o,H a=some o->lU P w H h a o
end
section
variable {P:aj}{w:ah}{H H':Hp}{h h':aq}{a:ak}{o:HO}
theorem lU.lt(x:lU P w H h a o):a<h.objs.size:=by
 cases o with
 | lst xs=>obtain⟨_,_,_,_,e⟩:=x;exact bw e
 | tup xs=>obtain⟨_,_,_,p⟩:=x;exact qf.lt p
 | dK kvs=>obtain⟨_,_,_,_,o,_,_,e,_⟩:=x;exact bw e
 | dT kvs=>obtain⟨_,_,_,_,o,_,_,e,_⟩:=x;exact bw e
 | set S n=>obtain⟨o,_,_,_,e,_⟩:=x;exact bw e
 | ins C dx fs=>obtain⟨_,_,_,e,_⟩:=x;exact bw e
 | own y=>obtain⟨_,e⟩:=x;exact bw e
 | xd fs=>obtain⟨_,⟨_,_,_,e,_⟩,_⟩:=x;exact bw e
 | rng lo hi=>obtain⟨_,_,_,e⟩:=x;exact bw e
 | frz ob u=>obtain⟨e,_⟩:=x;exact bw e
 | tbl ps=>exact bw (show h.get? a=some _ from x)
 | met f y=>exact bw (show h.get? a=some _ from x)
 | ext φ=>obtain⟨_,⟨_,e⟩,_⟩:=x;exact bw e
theorem Paired.WH{α β:Type}{F G:α->β->Prop}:∀{l₁:List α}{l₂:List β},Paired F l₁ l₂->(∀a b,F a b->G a b)->Paired G l₁ l₂
 | _,_,.nil,_=>.nil
 | _,_,.cons r t,f=>.cons (f _ _ r) (Paired.WH t f)
theorem lU.stay(x:lU P w H h a o)(k:∀b u,(b=a\/H b=some (.own a))->h.get? b=some u->h'.get? b=some u)
  (ho:∀b,H b=some (.own a)->H' b=some (.own a)) (ht:∀b xs,H b=some (.tup xs)->H' b=some (.tup xs)):lU P w H' h' a o:=by
 induction o with
 | lst xs=>obtain⟨z,its,n,r,e⟩:=x;exact⟨z,its,n,r,k _ _ (.inl rfl) e⟩
 | tup xs=>obtain⟨z,its,r,ob,e,c⟩:=x;exact⟨z,its,r,ob,k _ _ (.inl rfl) e,c⟩
 | dK kvs=>obtain⟨z,y,vs,r,ob,es,ep,e,c⟩:=x;exact⟨z,y,vs,r,ob,es,ep,k _ _ (.inl rfl) e,c⟩
 | dT kvs=>
  obtain⟨z,y,xs,r,ob,es,ep,e,c⟩:=x;exact⟨z,y,xs,Paired.WH r λp q z=>⟨z.1,ht _ _ z.2.1,z.2.2⟩,ob,es,ep,k _ _ (.inl rfl) e,c⟩
 | set S n=>obtain⟨ob,es,ep,t,e,c⟩:=x;exact⟨ob,es,ep,t,k _ _ (.inl rfl) e,c⟩
 | ins C dx fs=>
  obtain⟨d,z,ne,e,mA,⟨od,es,ep,e2,c⟩,r⟩:=x;exact⟨ho _ d,z,ne,k _ _ (.inl rfl) e,mA,⟨od,es,ep,k _ _ (.inr d) e2,c⟩,r⟩
 | own y=>obtain⟨ob,e⟩:=x;exact⟨ob,k _ _ (.inl rfl) e⟩
 | xd fs=>obtain⟨mA,⟨od,es,ep,e,c⟩,r⟩:=x;exact⟨mA,⟨od,es,ep,k _ _ (.inl rfl) e,c⟩,r⟩
 | rng lo hi=>obtain⟨t,u,v,e⟩:=x;exact⟨t,u,v,k _ _ (.inl rfl) e⟩
 | frz ob u ih=>obtain⟨e,q⟩:=x;exact⟨k _ _ (.inl rfl) e,ih q⟩
 | tbl ps=>
  have e:h.get? a=some { cls:=.none,data:=.fields ps }:=x;show h'.get? a=some { cls:=.none,data:=.fields ps };exact k a _ (.inl rfl) e
 | met f y=>
  have e:h.get? a=some (PySem.W.methodObj (.ref f) (.ref y)):=x;show h'.get? a=some (PySem.W.methodObj (.ref f) (.ref y));exact k a _ (.inl rfl) e
 | ext φ=>obtain⟨p,⟨o,e⟩,st⟩:=x;exact⟨st _ _ p λo q=>k _ _ (.inl rfl) q,⟨o,k _ _ (.inl rfl) e⟩,st⟩
theorem vE.lt(x:vE P w H h)(e:H a=some o):a<h.objs.size:=(x a o e).lt
theorem vE.fresh(x:vE P w H h)(e:h.objs.size<=a):H a=none:=by
 cases q:H a with
 | none=>rfl
 | some u=>exact absurd (bQ (x.lt q) e) (fR _)
theorem vE.kept(x:vE P w H h)(k:∀b u,h.get? b=some u->h'.get? b=some u):vE P w H h':=λa o e=>
 (x a o e).stay (λb u _ q=>k b u q) (λ_ q=>q) λ_ _ q=>q
theorem vE.laid(x:vE P w H h)(k:∀b u,h.get? b=some u->h'.get? b=some u)(hp:h.objs.size<=a)(new:lU P w (upd H a o) h' a o):vE P w (upd H a o) h':=λb u e=>by
 have hn:=x.fresh hp;by_cases hb:b=a
 ·subst hb;rw[lI]at e;cases e;exact new
 ·rw[jP hb]at e;exact(x b u e).stay (λc v _ q=>k c v q) (λc q=>by rw[jP (jY q hn)];exact q) λc xs q=>by rw[jP (jY q hn)];exact q
end
noncomputable def Rd (H:Hp)(a:ak)(u:HO):Prop:=H a=some u\/∃o,H a=some (.frz o u)
theorem Rd.ok{P:aj}{w:ah}{H:Hp}{a:ak}(r:Rd H a u)(x:vE P w H h):lU P w H h a u:=by
 rcases r with r|⟨o,r⟩
 ·exact x a u r
 ·obtain⟨_,q⟩:=x a _ r;exact q
noncomputable def Xr:Option HO->Prop
 | some (.lst _)=>True
 | some (.dK _)=>True
 | some (.dT _)=>True
 | some (.set _ _)=>True
 | some (.ins _ _ _)=>True
 | some (.ext _)=>True
 | _=>False
section
variable {P:aj}{w:ah}{H:Hp}{h h':aq}{x e:ak}{o':HO}
theorem vE.write(ok:vE P w H h)(mu:Xr (H x))(he:e=x\/H e=some (.own x))(k:∀b u,b≠e->h.get? b=some u->h'.get? b=some u)(heo:∃u,h'.get? e=some u)
  (new:lU P w (upd H x o') h' x o'):vE P w (upd H x o') h':=λb u q=>by
 have nown:∀c y,H c=some (.own y)->c≠x:=λc y r z=>by subst z;rw[r]at mu;exact mu
 have ntup:∀c xs,H c=some (.tup xs)->c≠x:=λc xs r z=>by subst z;rw[r]at mu;exact mu
 by_cases hb:b=x
 ·subst hb;rw[lI]at q;cases q;exact new
 ·rw[jP hb]at q;by_cases hbe:b=e
  ·have q':H b=some (.own x):=by
    rcases he with z|z
    ·exact absurd (hbe.trans z) hb
    ·rw[hbe];exact z
   rw[q]at q';cases q';obtain⟨v,hv⟩:=heo;exact⟨v,by rw[hbe];exact hv⟩
  ·refine(ok b u q).stay (λc v hc r=>k c v ?_ r) (λc r=>by rw[jP (nown c b r)];exact r) λc xs r=>by rw[jP (ntup c xs r)];exact r
   rcases hc with rfl|hc
   ·exact hbe
   ·rintro rfl
    rcases he with z|z
    ·exact nown c b hc z
    ·rw[hc]at z;cases z;exact hb rfl
end
structure Un (fs ex:List ak)(H H':Hp)(h h':aq):Prop where
 keep:∀b o,h.get? b=some o->H b=none->b∉fs->b∉ex->h'.get? b=some o
 slot:∀b o,h.get? b=some o->H b=none->b∈fs->b∉ex->∃sl,h'.get? b=some { o with slots:=sl }
 free:∀b o,h.get? b=some o->H b=none->b∉ex->H' b=none
 there:∀b o,h.get? b=some o->b∉ex->∃o',h'.get? b=some o'
 tups:∀b xs,H b=some (.tup xs)->H' b=some (.tup xs)
 frzs:∀b o u,H b=some (.frz o u)->H' b=some (.frz o u)
 tbls:∀b ps,H b=some (.tbl ps)->∃more,H' b=some (.tbl (ps++more))
section
variable {fs ex:List ak}{H H1:Hp}{h h1 h':aq}{a x e:ak}{o:HO}
theorem Un.any(u:Un fs ex H H1 h h1){ob:Obj}(q:h.get? b=some ob)(n:H b=none)(hx:b∉ex):∃sl,h1.get? b=some { ob with slots:=sl }:=by
 by_cases hb:b∈fs
 ·exact u.slot b ob q n hb hx
 ·exact⟨ob.slots,u.keep b ob q n hb hx⟩
theorem Un.kept(k:∀b u,h.get? b=some u->h'.get? b=some u):Un fs ex H H h h':=
 ⟨λb ob q _ _ _=>k b ob q,λb ob q _ _ _=>⟨ob.slots,k b ob q⟩,λ_ _ _ n _=>n,λb ob q _=>⟨ob,k b ob q⟩,λ_ _ q=>q,λ_ _ _ q=>q,λ_ ps q=>⟨#[],by rw[q];simp⟩⟩
theorem Un.refl:Un fs ex H H h h:=Un.kept λ_ _ q=>q
theorem Un.laid(k:∀b u,h.get? b=some u->h'.get? b=some u)(hp:h.objs.size<=a)(hn:H a=none):Un fs ex H (upd H a o) h h' where
 keep:=λb u q _ _ _=>k b u q
 slot:=λb u q _ _ _=>⟨u.slots,k b u q⟩
 free:=λb u q n _=>by rw[jP (bG (bQ (bw q) hp))];exact n
 there:=λb u q _=>⟨u,k b u q⟩
 tups:=λb xs q=>by rw[jP (jY q hn)];exact q
 frzs:=λb u xs q=>by rw[jP (jY q hn)];exact q
 tbls:=λb ps q=>⟨#[],by rw[jP (jY q hn),q];simp⟩
theorem Un.write(mu:Xr (H x))(he:e=x\/H e=some (.own x))(k:∀b u,b≠e->h.get? b=some u->h'.get? b=some u)(heo:∃u,h'.get? e=some u):Un fs ex H (upd H x o) h h':=by
 have hx:∀b,H b=none->b≠x:=λb n z=>by subst z;rw[n]at mu;exact mu
 have hb:∀b,H b=none->b≠e:=λb n z=>by
  subst z
  rcases he with r|r
  ·exact hx b n r
  ·rw[n]at r;cases r
 have hm:∀b u,H b=some u->¬Xr (some u)->b≠x:=λb u q nm z=>by subst z;rw[q]at mu;exact nm mu
 refine⟨λb u q n _ _=>k b u (hb b n) q,λb u q n _ _=>⟨u.slots,k b u (hb b n) q⟩,λb u q n _=>by rw[jP (hx b n)];exact n,λb u q _=>?_,
  λb xs q=>by rw[jP (hm b _ q λz=>z)];exact q,λb u xs q=>by rw[jP (hm b _ q λz=>z)];exact q,λb ps q=>⟨#[],by rw[jP (hm b _ q λz=>z),q];simp⟩⟩
 by_cases hbe:b=e
 ·subst hbe;exact heo
 ·exact⟨u,k b u hbe q⟩
end
noncomputable def Zt (h:aq)(H:Hp):List ak:=(List.range h.objs.size).filter λa=>(H a).isSome
noncomputable def Ct (h:aq)(H:Hp):aq:=PySem.W.hideAll h (Zt h H)
theorem KR(h:aq)(H:Hp):(Ct h H).objs.size=h.objs.size:=PySem.W.hideAll_size _ _
theorem Pg{h:aq}{H:Hp}(e:h.get? b=some o)(n:H b=none):(Ct h H).get? b=some o:=
 PySem.W.hideAll_get _ e λhm=>by
  have q:(H b).isSome=true:=(cK.mp hm).2;rw[n]at q;simp at q
theorem Qa{h:aq}{H:Hp}(e:(Ct h H).get? b=some o):h.get? b=some o/\H b=none:=by
 have e':h.get? b=some o:=PySem.W.of_hideAll (Zt h H) e;refine⟨e',?_⟩
 cases q:H b with
 | none=>rfl
 | some x=>
  have hm:b∈Zt h H:=cK.mpr ⟨cO.mpr (bw e'),by simp[q]⟩;have z:(Ct h H).get? b=none:=PySem.W.hideAll_none (Zt h H) hm;rw[z]at e;cases e
noncomputable def PY (g h:aq)(L:ak):List (ak×Obj):=(List.range h.objs.size).filterMap λa=>if a=L\/(g.get? a).isSome=true then none else(h.get? a).map λo=>(a,o)
noncomputable def rest (g h:aq)(L d:ak):List (ak×Obj):=(PY g h L).filter λp=>decide (p.1≠d)
structure Mod (K:au)(mg:Str->Option af)(base:aq):Prop where
 kin:K.In base
 glob:base.Ns mainGlobals mg
 blt:∃mb,base.Ns builtinsNs mb/\∀x:Str,x ≠ "__name__" -> mb x=bootBuiltins x
 nolimit:base.NoLimit
structure Cx where
 prog:aj
 w:ah
 K:au
 mg:Str->Option af
 base:aq
 A:az
 N:List Str
 s₀:aA
 H₀:Hp
 env:Env
 outer:List Env
 stack:List Env
 ex:List ak
 fn:Str->Bool
 calm:Bool
 pn:List (ak×Obj)
 xe:af->aA->Prop
noncomputable def frs (l:List Env):List ak:=l.filterMap (·.frame)
noncomputable abbrev Cx.fs (X:Cx):List ak:=frs X.outer
noncomputable def X3 (sc:Scope)(x:Str):Prop:=sc.names.lookup x=some .local\/sc.names.lookup x=some .cell\/sc.names.lookup x=some .free
noncomputable def Loc (sc:Scope)(x:Str):Prop:=sc.names.lookup x=some .local\/sc.names.lookup x=some .cell
noncomputable def Look (env:Env)(h:aq)(m:Str->Option af)(x:Str)(u:af):Prop:=
 (env.kindOf x=some .local/\m x=some u)\/((env.kindOf x=some .cell\/env.kindOf x=some .free)/\∃c,env.cells.lookup x=some c/\h.IsCell c (some u))
structure Cx.Ok (X:Cx):Prop where
 mod:Mod X.K X.mg X.base
 kind:X.env.scope.kind=.function
 glob:X.env.globals=mainGlobals
 blt:X.env.builtins=builtinsNs
 above:X.s₀.heap.objs.size<=X.env.locals
 inj:∀x y c,X.env.cells.lookup x=some c->X.env.cells.lookup y=some c->x=y
 has:∀x,(X.env.kindOf x=some .cell\/X.env.kindOf x=some .free)->∃c,X.env.cells.lookup x=some c
 cab:∀x c,X.fn x=true->X.env.cells.lookup x=some c->X.s₀.heap.objs.size<=c
 hd:X.calm=true->X.A.handled=none
 frames:X.A.frames=some X.stack
 stk:X.stack=X.outer\/(X.stack=X.env::X.outer/\X.env.frame=some X.env.locals)
 exf:∀b∈X.ex,b≠X.env.locals/\∀x c,X.env.cells.lookup x=some c->c≠b
 bs:∀b o,X.base.get? b=some o->X.s₀.heap.get? b=some o/\X.H₀ b=none
 bsz:X.base.objs.size<=X.s₀.heap.objs.size
 noex:∀b o,X.base.get? b=some o->b∉X.ex
 exfs:∀b∈X.ex,b∉X.fs
 Ac:X.s₀.heap.FunFrames X.base X.outer
 frf:∀b∈X.fs,X.H₀ b=none
structure Inv (X:Cx)(pins:List (ak×Obj))(σ:List (Option V))(H:Hp)(s:aA):Prop where
 ok:X.Ok
 os:s.os=X.s₀.os
 bare:AllBare s.gens
 base:Un X.fs X.ex X.H₀ H X.s₀.heap s.heap
 loc:∃m,s.heap.Ns X.env.locals m/\∀(i:Nat) (x:Str) (v:V),X.N[i]?=some x->σ[i]?=some (some v)->X3 X.env.scope x->∃u,RelV v u/\Look X.env s.heap m x u
 cell:∀x c,X.env.cells.lookup x=some c->∃v,s.heap.IsCell c v
 free:H X.env.locals=none
 freeC:∀x c,X.env.cells.lookup x=some c->H c=none
 pin:∀p∈X.pn++pins,s.heap.get? p.1=some p.2/\H p.1=none/\p.1≠X.env.locals/\p.1∉X.fs/\∀v,p.2.data≠.cell v
 hok:vE X.prog X.w H s.heap
 len:σ.length=X.N.length
section
variable {X:Cx}{pins:List (ak×Obj)}{σ:List (Option V)}{H H':Hp}{s:aA}{h':aq}
theorem Cx.Ok.Z1(ok:X.Ok)(e:X.base.get? b=some o):b∉X.fs:=λhb=>by
 have:=(ok.Ac.mem hb).1;rw[e]at this;cases this
theorem Inv.bs(I:Inv X pins σ H s):∀b o,X.base.get? b=some o->s.heap.get? b=some o/\H b=none:=λb o e=>
 ⟨I.base.keep b o (I.ok.bs b o e).1 (I.ok.bs b o e).2 (I.ok.Z1 e) (I.ok.noex b o e),I.base.free b o (I.ok.bs b o e).1 (I.ok.bs b o e).2 (I.ok.noex b o e)⟩
theorem Inv.bk(I:Inv X pins σ H s):∀b o,X.base.get? b=some o->s.heap.get? b=some o:=λb o e=>(I.bs b o e).1
theorem Inv.mod(I:Inv X pins σ H s):Mod X.K X.mg X.base:=I.ok.mod
theorem Inv.Di(I:Inv X pins σ H s):X.K.In s.heap:=I.ok.mod.kin.keeps I.bk
theorem Inv.lt(I:Inv X pins σ H s):X.env.locals<s.heap.objs.size:=let⟨_,hn,_⟩:=I.loc;hn.lt
theorem Inv.sz(I:Inv X pins σ H s):X.s₀.heap.objs.size<=s.heap.objs.size:=bJ I.ok.above (jm I.lt)
theorem Inv.aaC(I:Inv X pins σ H s){a:ak}(h:s.heap.objs.size<=a):a∉X.fs:=λhb=>by
 obtain⟨_,o,ho,_⟩:=I.ok.Ac.mem hb;exact absurd (bQ (bw ho) (bJ I.sz h)) (fR _)
theorem Inv.WB(I:Inv X pins σ H s):∀x c,X.env.cells.lookup x=some c->c≠X.env.locals:=λx c e z=>by
 obtain⟨v,o,ho,hd⟩:=I.cell x c e;obtain⟨m,⟨o',es,ep,ho',hd',_⟩,_⟩:=I.loc;rw[z,ho']at ho;cases ho;rw[hd']at hd;cases hd
theorem Inv.Ac(I:Inv X pins σ H s):s.heap.FunFrames X.base X.outer:=by
 have all:∀(l:List Env),(∀b∈frs l,b∈X.fs)->X.s₀.heap.FunFrames X.base l->s.heap.FunFrames X.base l:=by
  intro l
  induction l with
  | nil=>intro _ _;trivial
  | cons env r ih=>
   intro hs hl;obtain⟨hk,⟨L,o,hf,hn,ho,hd⟩,hr⟩:=hl;have hL:L∈X.fs:=hs L (by unfold frs;rw[iP,hf];exact aI);obtain⟨sl,e⟩:=I.base.slot L o ho (I.ok.frf L hL) hL λz=>I.ok.exfs L z hL;exact⟨hk,⟨L,_,hf,hn,e,hd⟩,ih (λb hb=>hs b (by unfold frs;rw[iP,hf];exact aL _ hb)) hr⟩
 exact all X.outer (λ_ hb=>hb) I.ok.Ac
theorem Inv.stack(I:Inv X pins σ H s):s.heap.FunFrames X.base X.stack:=by
 rcases I.ok.stk with e|⟨e,hf⟩
 ·rw[e];exact I.Ac
 ·rw[e];obtain⟨m,hn,_⟩:=I.loc;refine .cons (by rw[I.ok.kind];decide) hf hn ?_ I.Ac;exact Heap.get?_none_of_le (bJ I.ok.bsz I.ok.above)
theorem Inv.FJ(I:Inv X pins σ H s):∀b∈frs X.stack,b∈X.env.locals::X.fs:=λb hb=>by
 rcases I.ok.stk with e|⟨e,hf⟩
 ·rw[e]at hb;exact aL _ hb
 ·rw[e]at hb;unfold frs at hb;rw[iP,hf]at hb;exact hb
theorem Inv.Jb(I:Inv X pins σ H s):∀b∈frs X.stack,H b=none:=λb hb=>by
 rcases bC.mp (I.FJ b hb)with e|hb
 ·rw[e];exact I.free
 ·obtain⟨_,o,ho,_⟩:=I.ok.Ac.mem hb;exact I.base.free b o ho (I.ok.frf b hb) λz=>I.ok.exfs b z hb
theorem Inv.step{g':Array GenState}{t':Nat}{d':Drawn}{ch:List ak}(I:Inv X pins σ H s)
  (hch:∀b∈ch,(b∈X.ex\/X.s₀.heap.objs.size<=b)/\b≠X.env.locals/\(∀x c,X.env.cells.lookup x=some c->c≠b)/\∀p∈X.pn++pins,p.1≠b)
  (keep:∀b o,b≠X.env.locals->b∉X.fs->b∉ch->s.heap.get? b=some o->H b=none->h'.get? b=some o)
  (slot:∀b o,b≠X.env.locals->b∈X.fs->b∉ch->s.heap.get? b=some o->H b=none->∃sl,h'.get? b=some { o with slots:=sl }) (free:∀b o,b∉ch->s.heap.get? b=some o->H b=none->H' b=none)
  (there:∀b o,b∉ch->s.heap.get? b=some o->∃o',h'.get? b=some o')
  (tups:∀b xs,H b=some (.tup xs)->H' b=some (.tup xs)) (frzs:∀b o u,H b=some (.frz o u)->H' b=some (.frz o u)) (tbls:∀b ps,H b=some (.tbl ps)->∃more,H' b=some (.tbl (ps++more)))
  (ns:∀m,s.heap.Ns X.env.locals m->h'.Ns X.env.locals m) (hok:vE X.prog X.w H' h') (hg:AllBare g') :
  Inv X pins σ H' { s with heap:=h',gens:=g',drawn:=d',toks:=t' }:=by
 have neL:∀b o,X.s₀.heap.get? b=some o->b≠X.env.locals:=λb o e=>bG (bQ (bw e) I.ok.above);have neC:∀b o,X.s₀.heap.get? b=some o->b∉X.ex->b∉ch:=λb o e hx hb=>by
  rcases(hch b hb).1 with z|z
  ·exact hx z
  ·exact absurd (bQ (bw e) z) (fR _)
 have cellK:∀x c,X.env.cells.lookup x=some c->∀v,s.heap.IsCell c v->h'.IsCell c v:=λx c e v ⟨o,ho,hd⟩=>by
  have nch:c∉ch:=λz=>(hch c z).2.2.1 x c e rfl;by_cases hc:c∈X.fs
  ·obtain⟨sl,q⟩:=slot c o (I.WB x c e) hc nch ho (I.freeC x c e);exact⟨_,q,hd⟩
  ·exact⟨o,keep c o (I.WB x c e) hc nch ho (I.freeC x c e),hd⟩
 refine⟨I.ok,I.os,hg,⟨λb o e n hb hx=>?_,λb o e n hb hx=>?_,λb o e n hx=>?_,λb o e hx=>?_,λb xs e=>tups b xs (I.base.tups b xs e),λb o xs e=>frzs b o xs (I.base.frzs b o xs e),λb ps e=>?_⟩,?_,λx c e=>?_,?_,λx c e=>?_,λp hp=>?_,hok,I.len⟩
 ·exact keep b o (neL b o e) hb (neC b o e hx) (I.base.keep b o e n hb hx) (I.base.free b o e n hx)
 ·obtain⟨sl,e1⟩:=I.base.slot b o e n hb hx;obtain⟨sl',e2⟩:=slot b _ (neL b o e) hb (neC b o e hx) e1 (I.base.free b o e n hx);exact⟨sl',e2⟩
 ·obtain⟨o',e1⟩:=I.base.there b o e hx;exact free b o' (neC b o e hx) e1 (I.base.free b o e n hx)
 ·obtain⟨o',e1⟩:=I.base.there b o e hx;exact there b o' (neC b o e hx) e1
 ·obtain⟨m1,e1⟩:=I.base.tbls b ps e;obtain⟨m2,e2⟩:=tbls b _ e1;exact⟨m1++m2,by rw[e2,Array.append_assoc]⟩
 ·obtain⟨m,hn,hl⟩:=I.loc;refine⟨m,ns m hn,λi x v e1 e2 e3=>?_⟩;obtain⟨u,r,l⟩:=hl i x v e1 e2 e3;refine⟨u,r,?_⟩
  rcases l with l|⟨k,c,e,z⟩
  ·exact .inl l
  ·exact .inr ⟨k,c,e,cellK x c e _ z⟩
 ·obtain⟨v,z⟩:=I.cell x c e;exact⟨v,cellK x c e v z⟩
 ·obtain⟨m,⟨o,_,_,ho,_⟩,_⟩:=I.loc;exact free _ o (λz=>(hch _ z).2.1 rfl) ho I.free
 ·obtain⟨v,o,ho,hd⟩:=I.cell x c e;exact free c o (λz=>(hch c z).2.2.1 x c e rfl) ho (I.freeC x c e)
 ·obtain⟨e,n,ne,nf,d⟩:=I.pin p hp;have nch:p.1∉ch:=λz=>(hch p.1 z).2.2.2 p hp rfl;exact⟨keep p.1 p.2 ne nf nch e n,free p.1 p.2 nch e n,ne,nf,d⟩
theorem Inv.un{t':Nat}(I:Inv X pins σ H s)(u:Un X.fs [] H H' s.heap h')(hok:vE X.prog X.w H' h'):Inv X pins σ H' { s with heap:=h',toks:=t' }:=by
 obtain⟨m,⟨o,es,ep,ho,r⟩,_⟩:=id I.loc;obtain⟨sl,hL⟩:=u.any ho I.free (by simp);exact I.step (g':=s.gens) (d':=s.drawn) (ch:=[]) (λ_ z=>nomatch z) (λb o _ hb _ e n=>u.keep b o e n hb (by simp)) (λb o _ hb _ e n=>u.slot b o e n hb (by simp)) (λb o _ e n=>u.free b o e n (by simp)) (λb o _ e=>u.there b o e (by simp)) u.tups u.frzs u.tbls (λm' hm=>by
  obtain⟨o',es',ep',ho',r'⟩:=hm;rw[ho]at ho';cases ho';exact⟨_,es',ep',hL,r'⟩) hok I.bare
theorem Inv.call{g':Array GenState}{t':Nat}{d':Drawn}{ch:List ak}(I:Inv X pins σ H s)(u:Un (frs X.stack) ch H H' s.heap h')(hok:vE X.prog X.w H' h')(hg:AllBare g')
  (hch:∀b∈ch,(b∈X.ex\/X.s₀.heap.objs.size<=b)/\b≠X.env.locals/\(∀x c,X.env.cells.lookup x=some c->c≠b)/\∀p∈X.pn++pins,p.1≠b) :
  Inv X pins σ H' { s with heap:=h',gens:=g',drawn:=d',toks:=t' }:=by
 obtain⟨m,⟨o,es,ep,ho,r⟩,_⟩:=id I.loc;obtain⟨sl,hL⟩:=u.any ho I.free λz=>(hch _ z).2.1 rfl;exact I.step (ch:=ch) hch (λb o hL hb hc e n=>u.keep b o e n (λz=>(bC.mp (I.FJ b z)).elim hL hb) hc) (λb o _ _ hc e n=>u.any e n hc) (λb o hc e n=>u.free b o e n hc) (λb o hc e=>u.there b o e hc) u.tups u.frzs u.tbls (λm' hm=>by
  obtain⟨o',es',ep',ho',r'⟩:=hm;rw[ho]at ho';cases ho';exact⟨_,es',ep',hL,r'⟩) hok hg
theorem Inv.turned{t':Nat}{it:ak}(I:Inv X pins σ H s)(k:∀b o,b≠it->s.heap.get? b=some o->h'.get? b=some o)(hn:H it=none)(hL:it≠X.env.locals)
  (h1:it∈X.ex\/X.s₀.heap.objs.size<=it) (h2:∀x c,X.env.cells.lookup x=some c->c≠it) (h3:∀p∈X.pn++pins,p.1≠it):Inv X pins σ H { s with heap:=h',toks:=t' }:=by
 have nit:∀b u,H b=some u->b≠it:=λb u e z=>by rw[z,hn]at e;cases e
 refine I.step (g':=s.gens) (d':=s.drawn) (ch:=[it]) (λb hb=>?_) (λb o _ _ hc e _=>k b o (λz=>hc (by simp[z])) e) (λb o _ _ hc e _=>⟨o.slots,k b o (λz=>hc (by simp[z])) e⟩) (λ_ _ _ _ n=>n)
  (λb o hc e=>⟨o,k b o (λz=>hc (by simp[z])) e⟩) (λ_ _ e=>e) (λ_ _ _ e=>e) (λb ps e=>⟨#[],by rw[e];simp⟩) (λm hm=>?_) (λb u e=>?_) I.bare
 ·have e:b=it:=by simpa using hb
  subst e;exact⟨h1,hL,h2,h3⟩
 ·obtain⟨o,es,ep,ho,r⟩:=hm;exact⟨o,es,ep,k _ o (c7 hL) ho,r⟩
 ·refine(I.hok b u e).stay (λc v hc q=>k c v ?_ q) (λ_ q=>q) λ_ _ q=>q
  rcases hc with z|z
  ·rw[z];exact nit b u e
  ·exact nit c _ z
theorem Inv.tok(I:Inv X pins σ H s)(t:Nat):Inv X pins σ H { s with toks:=t }:=I.un (h':=s.heap) (t':=t) Un.refl I.hok
theorem Inv.kept{t':Nat}(I:Inv X pins σ H s)(k:∀b u,s.heap.get? b=some u->h'.get? b=some u):Inv X pins σ H { s with heap:=h',toks:=t' }:=I.un (Un.kept k) (I.hok.kept k)
theorem Inv.laid{a:ak}{t':Nat}(I:Inv X pins σ H s)(k:∀b u,s.heap.get? b=some u->h'.get? b=some u)(hp:s.heap.objs.size<=a)(new:lU X.prog X.w (upd H a o) h' a o) :
  Inv X pins σ (upd H a o) { s with heap:=h',toks:=t' }:=I.un (Un.laid k hp (I.hok.fresh hp)) (I.hok.laid k hp new)
theorem Inv.write{x e:ak}{t':Nat}(I:Inv X pins σ H s)(mu:Xr (H x))(he:e=x\/H e=some (.own x))(k:∀b u,b≠e->s.heap.get? b=some u->h'.get? b=some u)(heo:∃u,h'.get? e=some u)
  (new:lU X.prog X.w (upd H x o) h' x o):Inv X pins σ (upd H x o) { s with heap:=h',toks:=t' }:=I.un (Un.write mu he k heo) (I.hok.write mu he k heo new)
theorem Inv.GP{pins':List (ak×Obj)}(I:Inv X pins σ H s)(h:∀p∈pins',s.heap.get? p.1=some p.2/\H p.1=none/\p.1≠X.env.locals/\p.1∉X.fs/\∀v,p.2.data≠.cell v):Inv X pins' σ H s:=
 ⟨I.ok,I.os,I.bare,I.base,I.loc,I.cell,I.free,I.freeC,λp hp=>(bF.mp hp).elim (λz=>I.pin p (fZ _ z)) (h p),I.hok,I.len⟩
theorem Dm{N:List Str}(hN:N.Nodup){i j:Nat}{x:Str}(a:N[i]?=some x)(b:N[j]?=some x):i=j:=by
 obtain⟨h1,e1⟩:=aN.mp a;obtain⟨h2,e2⟩:=aN.mp b;exact(dj hN).mp (e1.trans e2.symm)
theorem JL{A:az}{E:af->aA->Prop}{i:Nat}{x:Str}{v:V}{Q:Unit->aA->Prop}(I:Inv X pins σ H s)(hN:X.N.Nodup)(hi:X.N[i]?=some x)(hx:Loc X.env.scope x)(r:RelV v u)
  (h:∀s',Inv X pins (σ.set i (some v)) H s'->(∃a,Heap.SameBut a s.heap s'.heap/\(a=X.env.locals\/X.env.cells.lookup x=some a))->Q () s') (hf:X.fn x=true\/X.env.scope.names.lookup x=some .local:=by first|exact .inl rfl|exact .inr rfl|assumption):wpAny M A (storeName X.env x u) Q E s:=by
 obtain⟨m,hn,hl⟩:=id I.loc;have hcls:(X.env.scope.kind == .class || (X.env.scope.kind == .module && X.env.locals != X.env.globals))=false:=by rw[I.ok.kind];rfl
 have hiσ:i<σ.length:=by rw[I.len];exact(aN.mp hi).1
 have WB:=I.WB;have tracked:∀{a:ak} {h':aq},(∃o,s.heap.get? a=some o/\H a=none)->Heap.SameBut a s.heap h'->vE X.prog X.w H h':=λ{a h'} ha hs b ob e=>by
  obtain⟨_,_,hfree⟩:=ha;refine(I.hok b ob e).stay (λc w' hc q=>(hs.2 c ?_).trans q) (λ_ q=>q) λ_ _ q=>q;rintro rfl
  rcases hc with rfl|hc
  ·rw[hfree]at e;cases e
  ·rw[hfree]at hc;cases hc
 rcases hx with hk|hk
 ·refine wpAny_storeName_local hk hn (λh' hn' hs=>?_) hcls;obtain⟨oL,_,_,hoL,_⟩:=id hn;refine h _ ⟨I.ok,I.os,I.bare,⟨λb o e n hb hx=>?_,λb o e n hb hx=>?_,I.base.free,λb o e hx=>?_,I.base.tups,I.base.frzs,I.base.tbls⟩,⟨_,hn',λj y v' e1 e2 e3=>?_⟩,λy c e=>?_,I.free,I.freeC,λp hp=>?_,tracked ⟨oL,hoL,I.free⟩ hs,by simpa using I.len⟩ ⟨_,hs,.inl rfl⟩
  ·exact(hs.2 b (bG (bQ (bw e) I.ok.above))).trans (I.base.keep b o e n hb hx)
  ·obtain⟨sl,e1⟩:=I.base.slot b o e n hb hx;exact⟨sl,(hs.2 b (bG (bQ (bw e) I.ok.above))).trans e1⟩
  ·obtain⟨o',e1⟩:=I.base.there b o e hx;exact⟨o',(hs.2 b (bG (bQ (bw e) I.ok.above))).trans e1⟩
  ·by_cases hj:j=i
   ·subst hj;rw[hi]at e1;cases e1;rw[bY hiσ]at e2
    cases e2
    exact⟨u,r,.inl ⟨hk,by simp⟩⟩
   ·rw[cE (c7 hj)]at e2;obtain⟨u',r',q⟩:=hl j y v' e1 e2 e3;refine⟨u',r',?_⟩
    rcases q with⟨k,e⟩|⟨k,c,e,z⟩
    ·refine .inl ⟨k,?_⟩;have:y≠x:=λe=>hj (Dm hN e1 (e ▸ hi));simp[this,e]
    ·exact .inr ⟨k,c,e,z.sameBut hs (WB y c e)⟩
  ·obtain⟨w',z⟩:=I.cell y c e;exact⟨w',z.sameBut hs (WB y c e)⟩
  ·obtain⟨e,n,ne,nf,d⟩:=I.pin p hp;exact⟨(hs.2 p.1 ne).trans e,n,ne,nf,d⟩
 ·have hfn:X.fn x=true:=by
   rcases hf with z|z
   ·exact z
   ·rw[z]at hk;cases hk
  obtain⟨c,hc⟩:=I.ok.has x (.inl hk);obtain⟨w',z⟩:=I.cell x c hc;refine wpAny_storeName_cell I.ok.kind hk hc z (λh' hc' hs=>?_);obtain⟨oc,hoc,hocd⟩:=id z;refine h { s with heap:=h' } ⟨I.ok,I.os,I.bare,⟨λb o e n hb hx=>?_,λb o e n hb hx=>?_,I.base.free,λb o e hx=>?_,I.base.tups,I.base.frzs,I.base.tbls⟩,⟨m,hn.sameBut hs (c7 (WB x c hc)),λj y v' e1 e2 e3=>?_⟩,λy c' e=>?_,I.free,I.freeC,λp hp=>?_,tracked ⟨oc,hoc,I.freeC x c hc⟩ hs,by simpa using I.len⟩ ⟨c,hs,.inr hc⟩
  ·exact(hs.2 b (bG (bQ (bw e) (I.ok.cab x c hfn hc)))).trans (I.base.keep b o e n hb hx)
  ·obtain⟨sl,e1⟩:=I.base.slot b o e n hb hx;exact⟨sl,(hs.2 b (bG (bQ (bw e) (I.ok.cab x c hfn hc)))).trans e1⟩
  ·obtain⟨o',e1⟩:=I.base.there b o e hx;exact⟨o',(hs.2 b (bG (bQ (bw e) (I.ok.cab x c hfn hc)))).trans e1⟩
  ·by_cases hj:j=i
   ·subst hj;rw[hi]at e1;cases e1;rw[bY hiσ]at e2
    cases e2
    exact⟨u,r,.inr ⟨.inl hk,c,hc,hc'⟩⟩
   ·rw[cE (c7 hj)]at e2;obtain⟨u',r',q⟩:=hl j y v' e1 e2 e3;refine⟨u',r',?_⟩
    rcases q with q|⟨k,c',e,z'⟩
    ·exact .inl q
    ·refine .inr ⟨k,c',e,z'.sameBut hs ?_⟩;rintro rfl;exact hj (Dm hN e1 (I.ok.inj _ _ _ e hc ▸ hi))
  ·by_cases hcc:c'=c
   ·subst hcc;exact⟨_,hc'⟩
   ·obtain⟨w2,z2⟩:=I.cell y c' e;exact⟨w2,z2.sameBut hs hcc⟩
  ·obtain⟨e,n,ne,nf,d⟩:=I.pin p hp;refine⟨(hs.2 p.1 ?_).trans e,n,ne,nf,d⟩;intro q;rw[q,hoc]at e;have q':oc=p.2:=a_ e;exact d w' (by rw[<- q'];exact hocd)
theorem DT{A:az}{E:af->aA->Prop}{i:Nat}{x:Str}{v:V}{Q:Unit->aA->Prop}(I:Inv X pins σ H s)(hN:X.N.Nodup)(hi:X.N[i]?=some x)(hx:Loc X.env.scope x)(r:RelV v u)
  (h:∀s',Inv X pins (σ.set i (some v)) H s'->Q () s') (hf:X.fn x=true\/X.env.scope.names.lookup x=some .local:=by first|exact .inl rfl|exact .inr rfl|assumption):wpAny M A (storeName X.env x u) Q E s:=
 JL I hN hi hx r (λs' I' _=>h s' I') hf
theorem Inv.YJ{s':aA}{ch:List ak}(I:Inv X pins σ H s)(ho:s'.os=s.os)(u:Un (frs X.stack) ch H H' s.heap s'.heap)(hok:vE X.prog X.w H' s'.heap)(hg:AllBare s'.gens)
  (hch:∀b∈ch,(b∈X.ex\/X.s₀.heap.objs.size<=b)/\b≠X.env.locals/\(∀x c,X.env.cells.lookup x=some c->c≠b)/\∀p∈X.pn++pins,p.1≠b):Inv X pins σ H' s':=by
 obtain⟨h',g',d',t',o'⟩:=s';have e:o'=s.os:=ho;subst e;exact I.call (g':=g') (t':=t') (d':=d') u hok hg hch
end
noncomputable abbrev XK:=af->Option ak->Hp->Prop
noncomputable abbrev St:=List (Option V)
noncomputable abbrev VK:=V->Hp->Prop
noncomputable abbrev TE:=St->Hp->VK->Prop
noncomputable abbrev TT:=St->Hp->(Bool->Hp->Prop)->Prop
noncomputable abbrev TA:=St->Hp->(List V->Hp->Prop)->Prop
structure Ends where
 nx:St->Hp->Prop
 rt:VK
 bk:St->Hp->Prop:=λ_ _=>False
 ct:St->Hp->Prop:=λ_ _=>False
noncomputable abbrev TS:=Ends->St->Hp->Prop
noncomputable def EP (X:Cx)(pins:List (ak×Obj))(σ:St)(Q:VK)(u:af)(s':aA):Prop:=∃v H',Inv X pins σ H' s'/\RelV v u/\Q v H'
noncomputable def TP (X:Cx)(pins:List (ak×Obj))(σ:St)(Q:Bool->Hp->Prop)(b:Bool)(s':aA):Prop:=∃H',Inv X pins σ H' s'/\Q b H'
noncomputable def AP (X:Cx)(pins:List (ak×Obj))(σ:St)(Q:List V->Hp->Prop)(us:List af)(s':aA):Prop:=∃vs H',Inv X pins σ H' s'/\Vals vs us/\Q vs H'
noncomputable def SP (X:Cx)(pins:List (ak×Obj))(D:Ends)(f:Flow)(s':aA):Prop:=
 match f with
 | .next=>∃σ' H',Inv X pins σ' H' s'/\D.nx σ' H'
 | .brk=>∃σ' H',Inv X pins σ' H' s'/\D.bk σ' H'
 | .cont=>∃σ' H',Inv X pins σ' H' s'/\D.ct σ' H'
 | .ret u=>∃v σ' H',Inv X pins σ' H' s'/\RelV v u/\D.rt v H'
noncomputable def PE (X:Cx)(e:aC)(t:TE):Prop:=
 ∀(pins:List (ak×Obj)) (s:aA) (σ:St) (H:Hp) (Q:VK),Inv X pins σ H s->t σ H Q->wpAny (model X.prog X.w) X.A (eval e X.env) (EP X pins σ Q) X.xe s
noncomputable def PT (X:Cx)(e:aC)(t:TT):Prop:=
 ∀(pins:List (ak×Obj)) (s:aA) (σ:St) (H:Hp) (Q:Bool->Hp->Prop),Inv X pins σ H s->t σ H Q->wpAny (model X.prog X.w) X.A (isTrue e X.env (eval e X.env)) (TP X pins σ Q) X.xe s
noncomputable def PW (X:Cx)(e:aC)(t:TT):Prop:=
 ∀(whole:Sem af) (pins:List (ak×Obj)) (s:aA) (σ:St) (H:Hp) (Q:Bool->Hp->Prop),Inv X pins σ H s->t σ H Q->wpAny (model X.prog X.w) X.A (isTrue e X.env whole) (TP X pins σ Q) X.xe s
noncomputable def PA (X:Cx)(es:List aC)(t:TA):Prop:=
 ∀(pos:Pos) (pins:List (ak×Obj)) (s:aA) (σ:St) (H:Hp) (Q:List V->Hp->Prop),Inv X pins σ H s->t σ H Q->wpAny (model X.prog X.w) X.A (spliced (backTo pos (starEach es X.env))) (AP X pins σ Q) X.xe s
noncomputable def PS (X:Cx)(st:aE)(t:TS):Prop:=
 ∀(pins:List (ak×Obj)) (s:aA) (σ:St) (H:Hp) (D:Ends),Inv X pins σ H s->t D σ H->wpAny (model X.prog X.w) X.A (exec st X.env) (SP X pins D) X.xe s
noncomputable def Co (X:Cx)(st:List aE)(t:TS):Prop:=
 ∀(pins:List (ak×Obj)) (s:aA) (σ:St) (H:Hp) (D:Ends),Inv X pins σ H s->t D σ H->wpAny (model X.prog X.w) X.A (execs st X.env) (SP X pins D) X.xe s
theorem nY{α:Type}{t:Sem α}{Q Q':α->aA->Prop}{A:az}{E:af->aA->Prop}(h:wpAny M A t Q E s)(hQ:∀a s,Q a s->Q' a s):wpAny M A t Q' E s:=iV h hQ λ_ _ x=>x
section
variable {X:Cx}
noncomputable def Yq (i:Nat):TE:=λσ H Q=>∃v,σ[i]?=some (some v)/\Q v H
noncomputable def tC (v:V):TE:=λ_ H Q=>Q v H
theorem OJ{i:Nat}{x:Str}(hN:X.N[i]?=some x)(hv:X3 X.env.scope x)(hd:(x == ("__debug__" : Str))=false:=by decide)(hcd:(x == ("__classdict__" : Str))=false:=by decide):PE X (.Name x pos) (Yq i):=by
 intro pins s σ H Q I h;obtain⟨v,e,h⟩:=h;obtain⟨m,hn,hl⟩:=I.loc;obtain⟨u,r,l⟩:=hl i x v hN e hv;have fin:EP X pins σ Q u s:=⟨v,H,I,r,h⟩
 rcases l with⟨hk,hm⟩|⟨hk,c,hc,hcell⟩
 ·exact wpAny_Name (wpAny_loadName_local I.ok.kind hk hn hm fin) hd
 ·rcases hk with hk|hk
  ·exact wpAny_Name (wpAny_loadName_cell I.ok.kind hk hc hcell fin) hd
  ·exact wpAny_Name (wpAny_loadName_free I.ok.kind hk hc hcell fin hcd) hd
theorem UN{i j pos}:PE X (.Constant (.int i) j pos) (tC (.int i)):=λ_ _ _ H _ I h=>wpAny_Constant_int ⟨.int i,H,I.tok _,⟨_,rfl⟩,h⟩
theorem YT{b j pos}:PE X (.Constant (.bool b) j pos) (tC (.bl b)):=λ_ _ _ H _ I h=>Constant_bool ⟨.bl b,H,I,rfl,h⟩
noncomputable def Gl (X:Cx)(x:Str):Prop:=X.env.kindOf x=some .globalImplicit
theorem Jq{E:af->aA->Prop}{H:Hp}{x:Str}{Q:af->aA->Prop}(I:Inv X pins σ H s)(hg:Gl X x)(hm:X.mg x=some u)(h:Q u s)
  (hd:(x == ("__debug__" : Str))=false:=by decide):wpAny (model X.prog X.w) X.A (eval (.Name x pos) X.env) Q E s:=
 Calls.Name_function_global I.ok.kind hg (Calls.loadGlobal_global (by rw[I.ok.glob];exact I.mod.glob.keeps I.bk) hm h) hd
theorem u7{E:af->aA->Prop}{H:Hp}{x:Str}{Q:af->aA->Prop}(I:Inv X pins σ H s)(hg:Gl X x)(hm:X.mg x=none)(hv:bootBuiltins x=some u)(h:Q u s)
  (hn:x ≠ "__name__" := by decide) (hd:(x == ("__debug__" : Str))=false:=by decide):wpAny (model X.prog X.w) X.A (eval (.Name x pos) X.env) Q E s:=by
 obtain⟨mb,h1,h2⟩:=I.mod.blt;exact Calls.Name_function_global I.ok.kind hg (Calls.loadGlobal_builtin (by rw[I.ok.glob];exact I.mod.glob.keeps I.bk) hm (by rw[I.ok.blt];exact h1.keeps I.bk) ((h2 x hn).trans hv) h) hd
theorem Qx{x:Str}{v:V}(hg:Gl X x)(hm:X.mg x=some u)(r:RelV v u)(hd:(x == ("__debug__" : Str))=false:=by decide):PE X (.Name x pos) (tC v):=
 λ_ _ _ H _ I h=>Jq I hg hm ⟨v,H,I,r,h⟩ hd
theorem QC{x:Str}{v:V}(hg:Gl X x)(hm:X.mg x=none)(hv:bootBuiltins x=some u)(r:RelV v u)(hn:x ≠ "__name__" := by decide)(hd:(x == ("__debug__" : Str))=false:=by decide):PE X (.Name x pos) (tC v):=
 λ_ _ _ H _ I h=>u7 I hg hm hv ⟨v,H,I,r,h⟩ hn hd
variable {a b:aC}{ta tb:TE}{pos:Pos}
variable {tA tB':TT}{rest:List aC}
noncomputable def YD (t u:TT):TT:=λσ H Q=>t σ H λc H1=>if c=true then u σ H1 Q else Q false H1
noncomputable def ZT (t:TT):TT:=λσ H Q=>t σ H λc H1=>Q (!c) H1
theorem QY(ha:PT X a tA):PW X (.BoolOp .And [a] pos) tA:=by
 intro wh pins s σ H Q I h;refine isTrue_and (nY (ha pins s σ H Q I h) λc s1 e=>?_)
 cases c with
 | true=>exact isTrue_and_nil e
 | false=>exact e
theorem Vs(ha:PT X a tA)(hb:PW X (.BoolOp .And (b::rest) pos) tB'):PW X (.BoolOp .And (a::b::rest) pos) (YD tA tB'):=by
 intro wh pins s σ H Q I h;refine isTrue_and (nY (ha pins s σ H _ I h) λc s1 ⟨H1,I1,q1⟩=>?_)
 cases c with
 | true=>exact hb wh pins s1 σ H1 Q I1 q1
 | false=>exact⟨H1,I1,q1⟩
theorem V4(ha:PT X a tA):PT X (.UnaryOp .Not a pos) (ZT tA):=by
 intro pins s σ H Q I h;exact isTrue_not (ha pins s σ H (λc H1=>Q (!c) H1) I h)
noncomputable def Xz (ta tb:TE):TE:=λσ H Q=>ta σ H λx H1=>∃c,x=.bl c/\if c=true then tb σ H1 Q else Q (.bl false) H1
noncomputable def Xm (ta:TE):TE:=λσ H Q=>ta σ H λx H1=>∃c,x=.bl c/\Q (.bl (!c)) H1
theorem VI{op}{t:TE}(h:PE X a t):PE X (.BoolOp op [a] pos) t:=λpins s σ H Q I hw=>BoolOp_one (h pins s σ H Q I hw)
theorem Uw(ha:PE X a ta)(hb:PE X (.BoolOp .And (b::rest) pos) tb):PE X (.BoolOp .And (a::b::rest) pos) (Xz ta tb):=by
 intro pins s σ H Q I h;refine BoolOp_and (nY (ha pins s σ H _ I h) λv s1 ⟨x,H1,I1,r1,q1⟩=>?_);obtain⟨c,rfl,q1⟩:=q1
 cases r1
 refine dU ?_
 cases c with
 | true=>exact hb pins s1 σ H1 Q I1 q1
 | false=>exact⟨.bl false,H1,I1,rfl,q1⟩
theorem U_(ha:PE X a ta):PE X (.UnaryOp .Not a pos) (Xm ta):=by
 intro pins s σ H Q I h;refine UnaryOp_ (nY (ha pins s σ H _ I h) λv s1 ⟨x,H1,I1,r1,q1⟩=>?_);obtain⟨c,rfl,q1⟩:=q1
 cases r1
 exact not_of (dU ⟨.bl (!c),H1,I1,rfl,q1⟩)
end
noncomputable def pW (K:au)(H:Hp)(a:ak)(xs:List V):Prop:=
 Rd H a (.lst xs) \/
  ∃(o:Obj) (its:Array af) (n:Nat),K.lookup a=some o/\o.cls=.type "list" /\ o.dict=none/\o.data=.seq its n/\its.size<=sizeLine/\Vals xs its.toList
noncomputable def nq (K:au)(H:Hp)(a:ak)(xs:List V):Prop:=
 Rd H a (.tup xs) \/
  ∃(o:Obj) (its:Array af) (n:Nat),K.lookup a=some o/\o.cls=.type "tuple" /\ o.dict=none/\o.data=.seq its n/\its.size<=sizeLine/\Vals xs its.toList
noncomputable def aaG:af->Option V
 | .none=>some .non
 | .bool b=>some (.bl b)
 | .int i _=>some (.int i)
 | .str x _=>some (.str x)
 | .bytes b _=>some (.byt b)
 | .float b _=>some (.flt b)
 | .ref a=>some (.ref a)
 | .type n=>some (.ty n)
 | _=>none
theorem RelV.abs{x:V}(r:RelV x u):aaG u=some x:=by
 cases x with
 | non=>cases r;rfl
 | bl _=>cases r;rfl
 | int _=>obtain⟨t,rfl⟩:=r;rfl
 | str _=>obtain⟨t,rfl⟩:=r;rfl
 | byt _=>obtain⟨t,rfl⟩:=r;rfl
 | flt _=>obtain⟨t,rfl⟩:=r;rfl
 | ref _=>cases r;rfl
 | ty _=>cases r;rfl
theorem RelV.inj{x:V}(r:RelV x u)(q:RelV y u):x=y:=a_ (r.abs.symm.trans q.abs)
theorem Vals.inj:∀{xs ys:List V}{us:List af},Vals xs us->Vals ys us->xs=ys
 | _,_,_,.nil,.nil=>rfl
 | _,_,_,.cons r t,.cons r' t'=>by rw[r.inj r',Vals.inj t t']
section
variable {X:Cx}{pins:List (ak×Obj)}{σ:St}{H:Hp}{s:aA}{a:ak}{xs ys:List V}
theorem pW.of{K:au}(h:H a=some (.lst xs)):pW K H a xs:=.inl (.inl h)
theorem nq.of{K:au}(h:H a=some (.tup xs)):nq K H a xs:=.inl (.inl h)
theorem Inv.list(I:Inv X pins σ H s)(h:pW X.K H a xs):∃its:List af,Vals xs its/\PlainL s.heap a its.toArray/\xs.length<=sizeLine:=by
 rcases h with h|⟨o,its,n,hk,hc,hd,hs,hz,r⟩
 ·obtain⟨z,its,n,r,e⟩:=h.ok I.hok;exact⟨its,r,⟨_,n,e,rfl,rfl,rfl⟩,z⟩
 ·refine⟨its.toList,r,⟨o,n,I.Di a o hk,hc,hd,by simpa using hs⟩,?_⟩;have e:=r.length;simp only[d9]at e;lia
theorem Inv.tuple(I:Inv X pins σ H s)(h:nq X.K H a xs):∃its:List af,Vals xs its/\IsTup s.heap a its.toArray/\xs.length<=sizeLine:=by
 rcases h with h|⟨o,its,n,hk,hc,_,hs,hz,r⟩
 ·obtain⟨z,its,r,p⟩:=h.ok I.hok;exact⟨its,r,p.tup,z⟩
 ·refine⟨its.toList,r,⟨o,I.Di a o hk,hc,n,by simpa using hs⟩,?_⟩;have e:=r.length;simp only[d9]at e;lia
theorem Inv.DH(I:Inv X pins σ H s)(h:pW X.K H a xs)(h':pW X.K H a ys):xs=ys:=by
 obtain⟨its,r,⟨o,n,e,_,_,d⟩,_⟩:=I.list h;obtain⟨its',r',⟨o',n',e',_,_,d'⟩,_⟩:=I.list h';rw[e]at e';cases e';rw[d]at d'
 injection d' with d1 _
 have:its=its':=by simpa using dm Array.toList d1
 subst this;exact r.inj r'
theorem Inv.xT(I:Inv X pins σ H s)(h:nq X.K H a xs)(h':nq X.K H a ys):xs=ys:=by
 obtain⟨its,r,⟨o,e,_,n,d⟩,_⟩:=I.tuple h;obtain⟨its',r',⟨o',e',_,n',d'⟩,_⟩:=I.tuple h';rw[e]at e';cases e';rw[d]at d'
 injection d' with d1 _
 have:its=its':=by simpa using dm Array.toList d1
 subst this;exact r.inj r'
end
noncomputable abbrev Cx.AH (X:Cx)(E:af->aA->Prop):Cx:={ X with xe:=E }
noncomputable abbrev Cx.X5 (X:Cx):Cx:=X.AH λ_ _=>False
theorem Cx.Ok.AH{X:Cx}(ok:X.Ok)(E:af->aA->Prop):(X.AH E).Ok:=
 ⟨ok.mod,ok.kind,ok.glob,ok.blt,ok.above,ok.inj,ok.has,ok.cab,ok.hd,ok.frames,ok.stk,ok.exf,ok.bs,ok.bsz,ok.noex,ok.exfs,ok.Ac,ok.frf⟩
theorem Cx.Ok.tU{X:Cx}{E:af->aA->Prop}(ok:(X.AH E).Ok):X.Ok:=
 ⟨ok.mod,ok.kind,ok.glob,ok.blt,ok.above,ok.inj,ok.has,ok.cab,ok.hd,ok.frames,ok.stk,ok.exf,ok.bs,ok.bsz,ok.noex,ok.exfs,ok.Ac,ok.frf⟩
section
variable {X:Cx}{pins:List (ak×Obj)}{σ:St}{H:Hp}{s:aA}{E:af->aA->Prop}
theorem Inv.AH(I:Inv X pins σ H s)(E:af->aA->Prop):Inv (X.AH E) pins σ H s:=⟨I.ok.AH E,I.os,I.bare,I.base,I.loc,I.cell,I.free,I.freeC,I.pin,I.hok,I.len⟩
theorem Inv.tU(I:Inv (X.AH E) pins σ H s):Inv X pins σ H s:=⟨I.ok.tU,I.os,I.bare,I.base,I.loc,I.cell,I.free,I.freeC,I.pin,I.hok,I.len⟩
theorem SP.tU{D:Ends}{f:Flow}(h:SP (X.AH E) pins D f s'):SP X pins D f s':=by
 cases f with
 | next=>obtain⟨σ',H',I,q⟩:=h;exact⟨σ',H',I.tU,q⟩
 | brk=>obtain⟨σ',H',I,q⟩:=h;exact⟨σ',H',I.tU,q⟩
 | cont=>obtain⟨σ',H',I,q⟩:=h;exact⟨σ',H',I.tU,q⟩
 | ret u=>obtain⟨v,σ',H',I,r,q⟩:=h;exact⟨v,σ',H',I.tU,r,q⟩
theorem Co.X5{st:List aE}{t:TS}(h:Co X.X5 st t):Co X st t:=λpins s σ H D I hw=>
 iV (h pins s σ H D (I.AH _) hw) (λ_ _ q=>q.tU) λ_ _ z=>False.elim z
end
section
variable {X:Cx}{st:aE}{rest:List aE}{t u:TS}{e:aC}{te:TE}{pos:Pos}
noncomputable def Yg:TS:=λD σ H=>D.nx σ H
noncomputable def X7 (t u:TS):TS:=λD σ H=>t { D with nx:=u D } σ H
theorem Ru:Co X [] Yg:=λ_ _ σ H _ I h=>iL ⟨σ,H,I,h⟩
theorem M4(h1:PS X st t)(h2:Co X rest u):Co X (st::rest) (X7 t u):=by
 intro pins s σ H D I h;refine wpAny_execs_cons (nY (h1 pins s σ H { D with nx:=u D } I h) λf s1 q=>?_)
 cases f with
 | next=>
  obtain⟨σ',H',I',q⟩:=q;exact h2 pins s1 σ' H' D I' q
 | ret v=>exact q
 | brk=>exact q
 | cont=>exact q
theorem RU(h1:PS X st t):Co X [st] t:=by
 intro pins s σ H D I h;refine wpAny_execs_cons (nY (h1 pins s σ H D I h) λf s1 q=>?_)
 cases f with
 | next=>exact iL q
 | ret v=>exact q
 | brk=>exact q
 | cont=>exact q
theorem Inv.quiet{H:Hp}(I:Inv X pins σ H s):interactive X.env=false:=by simp[interactive,I.ok.kind]
noncomputable def Xu (te:TE):TS:=λD σ H=>te σ H λ_ H1=>D.nx σ H1
theorem Rp(he:PE X e te)(hs:swapsWith e none pos.line X.env=pure false:=by rfl):PS X (.Expr e pos) (Xu te):=by
 intro pins s σ H D I h;exact wpAny_Expr_any (nY (he pins s σ H _ I h) λv s1 ⟨x,H1,I1,r1,q1⟩=>⟨σ,H1,I1,q1⟩) I.quiet hs
noncomputable def aap (te:TE):TS:=λD σ H=>te σ H D.rt
theorem WK(he:PE X e te):PS X (.Return (some e) pos) (aap te):=by
 intro pins s σ H D I h;exact wpAny_Return_some (nY (he pins s σ H _ I h) λv s1 ⟨x,H1,I1,r1,q1⟩=>⟨x,σ,H1,I1,r1,q1⟩)
noncomputable def aau (c:TT)(t u:TS):TS:=λD σ H=>c σ H λb H1=>if b=true then t D σ H1 else u D σ H1
theorem XJ{c:aC}{a:List aE}{tc:TT}(hc:PT X c tc)(ha:Co X a t)(hb:Co X b u):PS X (.If c a b pos) (aau tc t u):=by
 intro pins s σ H D I h;refine wpAny_If (nY (hc pins s σ H _ I h) λd s1 ⟨H1,I1,q1⟩=>?_)
 cases d with
 | true=>exact ha pins s1 σ H1 D I1 q1
 | false=>exact hb pins s1 σ H1 D I1 q1
noncomputable def Wb:TS:=λ_ _ _=>False
theorem Mx:PS X st Wb:=λ_ _ _ _ _ _ h=>h.elim
end
noncomputable abbrev TG:=V->St->Hp->(St->Hp->Prop)->Prop
noncomputable abbrev TU:=List V->St->Hp->(St->Hp->Prop)->Prop
noncomputable def PG (X:Cx)(target:aC)(t:TG):Prop:=
 ∀(pins:List (ak×Obj)) (s:aA) (σ:St) (H:Hp) (v:V) (u:af) (Q:St->Hp->Prop),Inv X pins σ H s->RelV v u->t v σ H Q ->
  wpAny (model X.prog X.w) X.A (assign target X.env u) (λ_ s'=>∃σ' H',Inv X pins σ' H' s'/\Q σ' H') X.xe s
noncomputable def X0 (X:Cx)(ts:List aC)(t:TU):Prop:=
 ∀(pins:List (ak×Obj)) (s:aA) (σ:St) (H:Hp) (vs:List V) (us:List af) (Q:St->Hp->Prop),Inv X pins σ H s->Vals vs us->t vs σ H Q ->
  wpAny (model X.prog X.w) X.A (assignInOrder ((assignEach ts X.env).map (·.2)) us) (λ_ s'=>∃σ' H',Inv X pins σ' H' s'/\Q σ' H') X.xe s
noncomputable abbrev JT:=V->V->V->Hp->(Hp->Prop)->Prop
noncomputable def JE (X:Cx)(t:JT):Prop:=
 ∀(pins:List (ak×Obj)) (s:aA) (σ:St) (H:Hp) (o i v:V) (ov iv u:af) (Q:Hp->Prop),Inv X pins σ H s->RelV o ov->RelV i iv->RelV v u->t o i v H Q ->
  wpAny (model X.prog X.w) X.A (setItem ov iv u) (λ_ s'=>∃H',Inv X pins σ H' s'/\Q H') X.xe s
section
variable {X:Cx}{pos:Pos}
noncomputable def SS (i:Nat):TG:=λv σ H Q=>Q (σ.set i (some v)) H
theorem Rl{i:Nat}{x:Str}(hN:X.N.Nodup)(hi:X.N[i]?=some x)(hx:Loc X.env.scope x)(hf:X.fn x=true\/X.env.scope.names.lookup x=some .local:=by first|exact .inl rfl|exact .inr rfl|assumption):PG X (.Name x pos) (SS i):=by
 intro pins s σ H v u Q I r h;exact wpAny_assign_Name (DT I hN hi hx r (λs' I'=>⟨_,H,I',h⟩) hf)
noncomputable def ZU:TU:=λvs σ H Q=>vs=[]/\Q σ H
noncomputable def Yj (t:TG)(u:TU):TU:=λvs σ H Q=>∃v r,vs=v::r/\t v σ H λσ' H'=>u r σ' H' Q
theorem Sa:X0 X [] ZU:=by
 intro pins s σ H vs us Q I r h;obtain⟨e,h⟩:=h;subst e
 cases r
 exact assignInOrder_nil ⟨σ,H,I,h⟩
theorem LP{e:aC}{t:TG}{u:TU}(h1:PG X e t)(h2:X0 X es u)
  (hs:(assignEach (e::es) X.env).map (·.2)=assign e X.env::(assignEach es X.env).map (·.2):=by rfl):X0 X (e::es) (Yj t u):=by
 intro pins s σ H vs us Q I r h;obtain⟨v,vr,e1,h⟩:=h;subst e1
 cases r with
 | cons r rr=>
  rw[hs];refine assignInOrder_cons (nY (h1 pins s σ H _ _ _ I r h) λ_ s1 ⟨σ1,H1,I1,q1⟩=>?_);exact h2 pins s1 σ1 H1 _ _ Q I1 rr q1
noncomputable def ZD (K:au)(n:Nat)(t:TU):TG:=λv σ H Q=>∃a xs,v=.ref a/\nq K H a xs/\xs.length=n/\t xs σ H Q
theorem Vj{k:Nat}{t:TU}{n:Nat}(hc:X.calm=true)(h:X0 X es t)
  (hn:(assignEach es X.env).length=n:=by rfl) (hst:(assignEach es X.env).findIdx? (·.1)=none:=by rfl):PG X (.Tuple es k pos) (ZD X.K n t):=by
 intro pins s σ H v u Q I r hw;obtain⟨a,xs,e1,hq,hl,hw⟩:=hw;subst e1
 cases r
 obtain⟨its,rv,ht,hz⟩:=I.tuple hq;refine assign_Tuple_tuple (I.ok.hd hc) ht (by simp[hn,<- hl,rv.length]) hst λh' hx=>?_;have I1:Inv X pins σ H { s with heap:=h' }:=I.kept (t':=s.toks) λb o e=>hx b o (bG (bw e)) e;exact h pins _ σ H xs _ Q I1 (by simpa using rv) hw
noncomputable def aaI (to ti:TE)(t:JT):TG:=λv σ H Q=>to σ H λo H1=>ti σ H1 λi H2=>t o i v H2 λH3=>Q σ H3
theorem F4{to ti:TE}{t:JT}(ho:PE X o to)(hi:PE X i ti)(hs:JE X t)
  (ha:∀v,assign (.Subscript o i pos) X.env v=(do
   let ov <- holding [v] (eval o X.env)
   let iv <- holding [v,ov] (eval i X.env)
   standAt pos
   holding [v,ov,iv] (setItem ov iv v)
   release [v,ov,iv] []):=by intro _;rfl):PG X (.Subscript o i pos) (aaI to ti t):=by
 intro pins s σ H v u Q I r h;rw[ha];refine aG (dM (nY (ho pins s σ H _ I h) λov s1 ⟨x,H1,I1,r1,q1⟩=>?_));refine aG (dM (nY (hi pins s1 σ H1 _ I1 q1) λiv s2 ⟨y,H2,I2,r2,q2⟩=>?_));refine aG (wpAny_standAt (aG (dM (nY (hs pins s2 σ H2 x y v ov iv u _ I2 r1 r2 r q2) λ_ s3 ⟨H3,I3,q3⟩=>?_))));exact wpAny_release ⟨σ,H3,I3,q3⟩
noncomputable def VP (te:TE)(g:TG):TS:=λD σ H=>te σ H λx H1=>g x σ H1 D.nx
theorem U7{tg e:aC}{te:TE}{g:TG}(he:PE X e te)(hg:PG X tg g)(hs:swapsWithSole [tg] e pos.line X.env=pure false:=by rfl)(hw:swappedStores [tg] e X.env=pure none:=by rfl)
  (h1:(assignEach [tg] X.env).map (·.2)=[assign tg X.env]:=by rfl):PS X (.Assign [tg] e pos) (VP te g):=by
 intro pins s σ H D I h;refine wpAny_Assign_stores (nY (he pins s σ H _ I h) λv s1 ⟨x,H1,I1,r1,q1⟩=>?_) hs hw;rw[h1];exact nY (hg pins s1 σ H1 x v _ I1 r1 q1) λ_ s2 q=>q
theorem VS{i:Nat}{x:Str}{e:aC}{te:TE}(hN:X.N.Nodup)(hi:X.N[i]?=some x)(hx:Loc X.env.scope x)(he:PE X e te)(hs:swapsWith e (some (.Name x pos')) pos.line X.env=pure false:=by rfl)(hf:X.fn x=true\/X.env.scope.names.lookup x=some .local:=by first|exact .inl rfl|exact .inr rfl|assumption) :
  PS X (.Assign [.Name x pos'] e pos) (VP te (SS i)):=by
 intro pins s σ H D I h;refine wpAny_Assign_Name (nY (he pins s σ H _ I h) λv s1 ⟨y,H1,I1,r1,q1⟩=>?_) hs;exact DT I1 hN hi hx r1 (λs2 I2=>⟨_,H1,I2,q1⟩) hf
end
section
variable {X:Cx}{pos:Pos}
noncomputable def Ld (c:TT)(tb:TS):TS:=λD σ H=>∃W:Nat->St->Hp->Prop,(∃m,W m σ H)/\∀m σ H,W m σ H ->
 c σ H λb H1=>if b=true then ∃N:St->Hp->Prop,(∀σ' H',N σ' H'->∃m',m'<m/\W m' σ' H')/\tb { D with nx:=N,ct:=N,bk:=D.nx } σ H1 else D.nx σ H1
theorem Ou{c:aC}{tc:TT}{tb:TS}(hp:PassesOwn (model X.prog X.w) X.A X.env X.xe)(hc:PT X c tc)(hb:Co X body tb):PS X (.While c body [] pos) (Ld tc tb):=by
 intro pins s σ H D I h;obtain⟨W,⟨m0,w0⟩,turn⟩:=h;refine wpAny_While (codeAny_whileLoop (λn s'=>∃σ' H',Inv X pins σ' H' s'/\W n σ' H') ?_ m0 ⟨σ,H,I,w0⟩);rintro n s1 ⟨σ1,H1,I1,w1⟩;refine eW hp (nY (hc pins s1 σ1 H1 _ I1 (turn n σ1 H1 w1)) λb s2 ⟨H2,I2,q2⟩=>?_)
 cases b with
 | true=>
  obtain⟨N,hN,q2⟩:=q2;rw[aM rfl];refine eW hp (nY (hb pins s2 σ1 H2 _ I2 q2) λf s3 q3=>?_)
  cases f with
  | next=>
   obtain⟨σ3,H3,I3,n3⟩:=q3;obtain⟨m',hm,w3⟩:=hN σ3 H3 n3;exact⟨m',hm,σ3,H3,I3,w3⟩
  | cont=>
   obtain⟨σ3,H3,I3,n3⟩:=q3;obtain⟨m',hm,w3⟩:=hN σ3 H3 n3;exact⟨m',hm,σ3,H3,I3,w3⟩
  | brk=>exact q3
  | ret v=>exact q3
 | false=>
  rw[aK bI];exact iL ⟨σ1,H2,I2,q2⟩
end
structure It where
 go:Nat->Hp->Prop
 yld:Nat->Hp->V->Hp->Prop
 stop:Nat->Hp->Prop
noncomputable def xF (X:Cx)(pins:List (ak×Obj))(H:Hp)(b:ak):Prop:=
 H b=none/\b≠X.env.locals/\b∉X.fs/\(b∈X.ex\/X.s₀.heap.objs.size<=b)/\(∀x c,X.env.cells.lookup x=some c->c≠b)/\∀p∈X.pn++pins,p.1≠b
theorem Inv.EU{X:Cx}{H H':Hp}{s:aA}(I:Inv X pins σ H s)(hb:s.heap.objs.size<=b)(hn:H' b=none):xF X pins H' b:=by
 refine⟨hn,ne_of_gt (bQ I.lt hb),I.aaC hb,.inr (bJ I.sz hb),λx c e z=>?_,λp hp z=>?_⟩
 ·obtain⟨v,q⟩:=I.cell x c e;exact absurd (bQ q.lt (by rw[z];exact hb)) (fR _)
 ·exact absurd (bQ (bw (I.pin p hp).1) (by rw[z];exact hb)) (fR _)
structure Turn (P:aj)(w:ah)(K:au)(tg:aC)(J:It)(fp:List ak)(it:ak)(tn:Nat->aq->Prop):Prop where
 mem:it∈fp
 obj:∀i h,tn i h->∀b∈fp,∃o,h.get? b=some o/\∀v,o.data≠.cell v
 keep:∀i h h',tn i h->(∀b∈fp,∀o,h.get? b=some o->h'.get? b=some o)->tn i h'
 item:∀(X:Cx),X.prog=P->X.w=w->X.K=K->X.calm=true->∀(i:Nat) (pins:List (ak×Obj)) (s:aA) (σ:St) (H:Hp) (E:af->aA->Prop),Inv X pins σ H s->(∀b∈fp,xF X pins H b)->tn i s.heap->J.go i H ->
  wpAny (model P w) X.A (pyNext (.ref it)) (λr s1=>∃u,r=some u /\
   wpAny (model P w) X.A (letOwnedTupleGo tg (.ref it) u) (λ_ s2=>∃x H',Inv X pins σ H' s2/\RelV x u/\J.yld i H x H'/\tn (i+1) s2.heap/\∀b∈fp,H' b=none) E s1) E s
 done:∀(X:Cx),X.prog=P->X.w=w->X.K=K->X.calm=true->∀(i:Nat) (pins:List (ak×Obj)) (s:aA) (σ:St) (H:Hp) (E:af->aA->Prop),Inv X pins σ H s->(∀b∈fp,xF X pins H b)->tn i s.heap->J.stop i H ->
  wpAny (model P w) X.A (pyNext (.ref it)) (λr s1=>r=none/\Inv X pins σ H s1) E s
 self:∀(A:az) (i:Nat) (s:aA) (Q:af->aA->Prop) (E:af->aA->Prop),tn i s.heap->Q (.ref it) s->wpAny (model P w) A (pyIter (.ref it)) Q E s
noncomputable abbrev TI:=St->Hp->(It->Hp->Prop)->Prop
noncomputable def PIE (X:Cx)(pins:List (ak×Obj))(σ:St)(tg:aC)(R:It->Hp->Prop)(itv:af)(s2:aA):Prop:=
 ∃(it:ak) (fp:List ak) (tn:Nat->aq->Prop) (J:It) (H':Hp),itv=.ref it/\Inv X pins σ H' s2/\Turn X.prog X.w X.K tg J fp it tn/\tn 0 s2.heap/\(∀b∈fp,xF X pins H' b)/\R J H'
noncomputable def PI (X:Cx)(tg iter:aC)(wi:TI):Prop:=
 ∀(pins:List (ak×Obj)) (s:aA) (σ:St) (H:Hp) (R:It->Hp->Prop),Inv X pins σ H s->wi σ H R ->
  wpAny (model X.prog X.w) X.A (eval iter X.env) (λv s1=>wpAny (model X.prog X.w) X.A (pyIter v) (PIE X pins σ tg R) X.xe s1) X.xe s
theorem DQ{A:az}{E:af->aA->Prop}{s:aA}{o:Obj}{n:String}{Q:Unit->aA->Prop}(ho:s.heap.get? it=some o)(hc:o.cls=.type n)(hd:o.data=.fields vs)
  (hn:["enumerate", "zip", "dict_itemiterator", "dict_reverseitemiterator", "odict_iterator", "itertools.zip_longest", "itertools.pairwise"].contains n=false) (hQ:Q () s):wpAny M A (letOwnedTupleGo tg (.ref it) u) Q E s:=by
 unfold letOwnedTupleGo
 cases tg<;>first
  | exact aV hQ
  | (cases u<;>first
    | exact aV hQ
    | (refine aG (wpAny_load ho ?_)
       rw[hc,hd];show wpAny M A (if (["enumerate", "zip", "dict_itemiterator", "dict_reverseitemiterator", "odict_iterator", "itertools.zip_longest", "itertools.pairwise"].contains n && vs[0]? == some (rawInt _))=true then _ else _) Q E s;rw[aK (by intro h;rw[hn,Bool.false_and]at h;cases h)];exact aV hQ))
noncomputable def Zk (K:au)(a:ak):It:=
 ⟨λi H=>∃xs x,pW K H a xs/\xs[i]?=some x,λi H x H'=>H'=H/\∀xs,pW K H a xs->xs[i]?=some x,λi H=>∃xs,pW K H a xs/\xs.length<=i⟩
noncomputable def ZV (K:au)(a:ak):It:=
 ⟨λi H=>∃xs x,nq K H a xs/\xs[i]?=some x,λi H x H'=>H'=H/\∀xs,nq K H a xs->xs[i]?=some x,λi H=>∃xs,nq K H a xs/\xs.length<=i⟩
noncomputable def XU (lo:Int)(n:Nat):It:=⟨λi _=>i<n,λi H x H'=>H'=H/\x=.int (lo+i),λi _=>n<=i⟩
theorem KY{P:aj}{w:ah}{K:au}(a it:ak):Turn P w K tg (Zk K a) [it] it (λi h=>h.IsListIter it a i) where
 mem:=by simp
 obj:=λi h st b hb=>by
  have e:b=it:=by simpa using hb
  subst e;obtain⟨o,e,c,d⟩:=st;exact⟨o,e,λv z=>by rw[d]at z;cases z⟩
 keep:=λi h h' st k=>st.at λo e=>k it (by simp) o e
 item:=by
  intro X hP hw hK hc i pins s σ H E I hf st hg;subst hP hw hK;obtain⟨xs,x,hq,hx⟩:=hg;obtain⟨its,rv,p,hz⟩:=I.list hq;obtain⟨u,hu,ru⟩:=rv.get hx;obtain⟨f0,f1,f2,f3,f4,f5⟩:=hf it (by simp);refine wpAny_pyNext_list_item st p.isList (x:=u) (by simpa using hu) λh' st' sb=>?_;have I1:Inv X pins σ H { s with heap:=h' }:=I.turned (t':=s.toks) (λb o hb e=>(sb.2 b hb).trans e) f0 f1 f3 f4 f5;obtain⟨o,e,c,d⟩:=id st';exact⟨u,rfl,DQ (s:={ s with heap:=h' }) e c d (by decide) ⟨x,H,I1,ru,⟨rfl,λys hy=>by rw[I.DH hy hq];exact hx⟩,st',λb hb=>(hf b hb).1⟩⟩
 done:=by
  intro X hP hw hK hc i pins s σ H E I hf st hg;subst hP hw hK;obtain⟨xs,hq,hx⟩:=hg;obtain⟨its,rv,p,hz⟩:=I.list hq;obtain⟨f0,f1,f2,f3,f4,f5⟩:=hf it (by simp);have hl:=rv.length;exact wpAny_pyNext_list_end (I.ok.hd hc) st p.isList (by simp;lia) λh' eb=>⟨rfl,I.turned (t':=s.toks) (λb o hb e=>eb b o hb e) f0 f1 f3 f4 f5⟩
 self:=λ_ _ _ _ _ st h=>wpAny_pyIter_listiter st h
theorem Gb{P:aj}{w:ah}{K:au}(a it:ak):Turn P w K tg (ZV K a) [it] it (λi h=>h.IsTupleIter it a i) where
 mem:=by simp
 obj:=λi h st b hb=>by
  have e:b=it:=by simpa using hb
  subst e;obtain⟨o,e,c,d⟩:=st;exact⟨o,e,λv z=>by rw[d]at z;cases z⟩
 keep:=λi h h' st k=>st.at λo e=>k it (by simp) o e
 item:=by
  intro X hP hw hK hc i pins s σ H E I hf st hg;subst hP hw hK;obtain⟨xs,x,hq,hx⟩:=hg;obtain⟨its,rv,p,hz⟩:=I.tuple hq;obtain⟨u,hu,ru⟩:=rv.get hx;obtain⟨f0,f1,f2,f3,f4,f5⟩:=hf it (by simp);refine wpAny_pyNext_tuple_item st (show s.heap.IsTuple a its.toArray from p) (x:=u) (by simpa using hu) λh' st' sb=>?_;have I1:Inv X pins σ H { s with heap:=h' }:=I.turned (t':=s.toks) (λb o hb e=>(sb.2 b hb).trans e) f0 f1 f3 f4 f5;obtain⟨o,e,c,d⟩:=id st';exact⟨u,rfl,DQ (s:={ s with heap:=h' }) e c d (by decide) ⟨x,H,I1,ru,⟨rfl,λys hy=>by rw[I.xT hy hq];exact hx⟩,st',λb hb=>(hf b hb).1⟩⟩
 done:=by
  intro X hP hw hK hc i pins s σ H E I hf st hg;subst hP hw hK;obtain⟨xs,hq,hx⟩:=hg;obtain⟨its,rv,p,hz⟩:=I.tuple hq;obtain⟨f0,f1,f2,f3,f4,f5⟩:=hf it (by simp);have hl:=rv.length;exact wpAny_pyNext_tuple_end (I.ok.hd hc) st (show s.heap.IsTuple a its.toArray from p) (by simp;lia) λh' eb=>⟨rfl,I.turned (t':=s.toks) (λb o hb e=>eb b o hb e) f0 f1 f3 f4 f5⟩
 self:=λ_ _ _ _ _ st h=>wpAny_pyIter_tupleiter st h
theorem Gh{P:aj}{w:ah}{K:au}(it:ak)(lo:Int)(n:Nat):Turn P w K tg (XU lo n) [it] it (λi h=>IsRangeIter h it (lo+(i:Nat) * 1) ((n:Int)-(i:Nat)) 1) where
 mem:=by simp
 obj:=λi h st b hb=>by
  have e:b=it:=by simpa using hb
  subst e;exact⟨_,st,λv z=>by
   have z':Data.fields _=Data.cell v:=z
   cases z'⟩
 keep:=λi h h' st k=>k it (by simp) _ st
 item:=by
  intro X hP hw hK hc i pins s σ H E I hf st hg;subst hP hw hK;obtain⟨f0,f1,f2,f3,f4,f5⟩:=hf it (by simp);have W:=Walks.range (prog:=X.prog) (w:=X.w) (I.ok.hd hc) it lo 1 n;refine W.item i s _ _ hg st λv h' tk hv st' kk=>?_;obtain⟨t,rfl⟩:=hv;have I1:Inv X pins σ H { s with heap:=h',toks:=tk }:=I.turned (λb o hb e=>kk b o (by simpa using hb) e) f0 f1 f3 f4 f5;refine⟨_,rfl,DQ (s:={ s with heap:=h',toks:=tk }) (n := "range_iterator") st' rfl rfl (by decide) ⟨.int (lo+i),H,I1,⟨t,?_⟩,⟨rfl,rfl⟩,st',λb hb=>(hf b hb).1⟩⟩;rw[Int.mul_one]
 done:=by
  intro X hP hw hK hc i pins s σ H E I hf st hg;subst hP hw hK;obtain⟨f0,f1,f2,f3,f4,f5⟩:=hf it (by simp);exact wpAny_pyNext_range_end (I.ok.hd hc) st (by have:n<=i:=hg;lia) λh' eb=>⟨rfl,I.turned (t':=s.toks) (λb o hb e=>eb b o hb e) f0 f1 f3 f4 f5⟩
 self:=λ_ _ _ _ _ st h=>wpAny_pyIter_rangeiter st h
section
variable {X:Cx}{tg:aC}
noncomputable def YR (K:au)(tl:TE):TI:=λσ H R=>tl σ H λx H1=>∃a,x=.ref a/\(∃xs,pW K H1 a xs)/\R (Zk K a) H1
noncomputable def aah (K:au)(tl:TE):TI:=λσ H R=>tl σ H λx H1=>∃a,x=.ref a/\(∃xs,nq K H1 a xs)/\R (ZV K a) H1
theorem Hs{l:aC}{tl:TE}(hl:PE X l tl):PI X tg l (YR X.K tl):=by
 intro pins s σ H R I h;refine nY (hl pins s σ H _ I h) λv s1 ⟨x,H1,I1,r1,q1⟩=>?_;obtain⟨a,e,⟨xs,hq⟩,q⟩:=q1;subst e
 cases r1
 obtain⟨its,rv,p,hz⟩:=I1.list hq;refine wpAny_pyIter_list p.isList ?_;refine⟨s1.heap.objs.size,[s1.heap.objs.size],_,_,H1,rfl,I1.kept (t':=s1.toks) λb o e=>aS _ e,KY a _,⟨_,bD _ rfl,rfl,rfl⟩,λb hb=>?_,q⟩;have e:b=s1.heap.objs.size:=by simpa using hb
 subst e;exact I1.EU (aQ _) (I1.hok.fresh (aQ _))
theorem Ny{l:aC}{tl:TE}(hl:PE X l tl):PI X tg l (aah X.K tl):=by
 intro pins s σ H R I h;refine nY (hl pins s σ H _ I h) λv s1 ⟨x,H1,I1,r1,q1⟩=>?_;obtain⟨a,e,⟨xs,hq⟩,q⟩:=q1;subst e
 cases r1
 obtain⟨its,rv,p,hz⟩:=I1.tuple hq;refine gI (show s1.heap.IsTuple a its.toArray from p) ?_;refine⟨s1.heap.objs.size,[s1.heap.objs.size],_,_,H1,rfl,I1.kept (t':=s1.toks) λb o e=>aS _ e,Gb a _,⟨_,bD _ rfl,rfl,rfl⟩,λb hb=>?_,q⟩;have e:b=s1.heap.objs.size:=by simpa using hb
 subst e;exact I1.EU (aQ _) (I1.hok.fresh (aQ _))
theorem EM{H:Hp}{s:aA}{R:It->Hp->Prop}{E:af->aA->Prop}{lo hi:Int}{t v:Tok}{tk:Nat}(I:Inv X pins σ H s)(h1:-(2 ^ 62)<=lo)(h2:lo<2 ^ 62)(h3:-(2 ^ 62)<=hi)(h4:hi<2 ^ 62)
  (q:R (XU lo (hi-lo).toNat) H):wpAny (model X.prog X.w) X.A (pyIter (.ref s.heap.objs.size)) (PIE X pins σ tg R) E { s with heap:=s.heap.push { cls:=.type "range",data:=.fields #[.int lo t,.int hi u,.int 1 v]},toks:=tk }:=by
 refine wpAny_pyIter_range (IsRange.new ..) (small_one h1 h2 h3 h4) ?_;have I1:Inv X pins σ H { s with heap:=s.heap.push { cls:=.type "range",data:=.fields #[.int lo t,.int hi u,.int 1 v]},toks:=tk }:=I.kept λb o e=>aS _ e;refine⟨(s.heap.push { cls:=.type "range",data:=.fields #[.int lo t,.int hi u,.int 1 v]}).objs.size,[(s.heap.push { cls:=.type "range",data:=.fields #[.int lo t,.int hi u,.int 1 v]}).objs.size],_,_,H,rfl,
  I1.kept (t':=tk) λb o e=>aS _ e,Gh _ lo (hi-lo).toNat,?_,λb hb=>?_,q⟩
 ·have e1:lo+((0:Nat):Int) * 1=lo:=by simp
  have e2:(((hi-lo).toNat:Nat):Int)-((0:Nat):Int)=Builtin.Range.rangeSize lo hi 1:=by rw[rangeSize_one];split<;>lia
  show IsRangeIter _ _ (lo+((0:Nat):Int) * 1) ((((hi-lo).toNat:Nat):Int)-((0:Nat):Int)) 1;rw[e1,e2];exact bD _ rfl
 ·have e:b=(s.heap.push { cls:=.type "range",data:=.fields #[.int lo t,.int hi u,.int 1 v]}).objs.size:=by simpa using hb
  subst e;exact I1.EU (aQ _) (I1.hok.fresh (aQ _))
noncomputable def zf (ta:TA):TI:=λσ H R=>ta σ H λvs H1=>∃j:Int,vs=[.int j]/\-(2 ^ 62)<=j/\j<2 ^ 62/\R (XU 0 j.toNat) H1
noncomputable def zX (ta:TA):TI:=λσ H R=>ta σ H λvs H1=>∃i j:Int,vs=[.int i,.int j]/\(-(2 ^ 62)<=i/\i<2 ^ 62/\-(2 ^ 62)<=j/\j<2 ^ 62)/\R (XU i (j-i).toNat) H1
theorem J8{a:aC}{ta:TA}{p:Pos}(hg:Gl X "range")(hm:X.mg "range" = none)(ha:PA X [a] ta)(hs:starEach [a] X.env=[(false,eval a X.env)]:=by rfl):PI X tg (.Call (.Name "range" p) [a] [] pos) (zf ta):=by
 intro pins s σ H R I h;refine Call_ (u7 I hg hm boot_range (dD (nY (ha pos pins s σ H _ I h) λus s1 ⟨vs,H1,I1,r1,q1⟩=>?_) hs rfl));obtain⟨j,e,q1,q2,q⟩:=q1;subst e
 cases r1 with
 | cons r rr=>
  cases rr
  obtain⟨t,rfl⟩:=r;exact call_range_1 (EM I1 (by lia) (by lia) q1 q2 (by simpa using q))
theorem Km{a b:aC}{ta:TA}{p:Pos}(hg:Gl X "range")(hm:X.mg "range" = none)(ha:PA X [a,b] ta)(hs:starEach [a,b] X.env=[(false,eval a X.env),(false,eval b X.env)]:=by rfl)(hs2:starEach [b] X.env=[(false,eval b X.env)]:=by rfl) :
  PI X tg (.Call (.Name "range" p) [a,b] [] pos) (zX ta):=by
 intro pins s σ H R I h;refine Call_ (u7 I hg hm boot_range (dD (nY (ha pos pins s σ H _ I h) λus s1 ⟨vs,H1,I1,r1,q1⟩=>?_) (by rw[hs,hs2]) (by rw[hs2];rfl)));obtain⟨i,j,e,⟨q1,q2,q3,q4⟩,q⟩:=q1;subst e
 cases r1 with
 | cons r rr=>
  cases rr with
  | cons r' rr=>
   cases rr
   obtain⟨t,rfl⟩:=r;obtain⟨t',rfl⟩:=r';exact call_range_2 (EM I1 q1 q2 q3 q4 q)
noncomputable def ZZ (wi:TI)(g:TG)(tb:TS):TS:=λD σ H=>wi σ H λJ H1=>∃W:Nat->Nat->St->Hp->Prop,(∃m,W 0 m σ H1)/\∀i m σ H,W i m σ H ->
 (J.stop i H/\D.nx σ H)\/(J.go i H/\∃N:St->Hp->Prop,(∀σ' H',N σ' H'->∃m',m'<m/\W (i+1) m' σ' H')/\∀x H',J.yld i H x H'->g x σ H' λσ2 H2=>tb { D with nx:=N,ct:=N,bk:=D.nx } σ2 H2)
noncomputable def zO (fp:List ak)(h:aq):List (ak×Obj):=fp.filterMap λb=>(h.get? b).map λo=>(b,o)
theorem sj{fp:List ak}{h:aq}{b:ak}(hb:b∈fp)(e:h.get? b=some o):(b,o)∈zO fp h:=List.mem_filterMap.mpr ⟨b,hb,by rw[e];rfl⟩
theorem Kf{fp:List ak}{h:aq}{p:ak×Obj}(hp:p∈zO fp h):p.1∈fp/\h.get? p.1=some p.2:=by
 obtain⟨b,hb,e⟩:=List.mem_filterMap.mp hp
 cases q:h.get? b with
 | none=>rw[q]at e;cases e
 | some o=>
  rw[q]at e;have e':(b,o)=p:=a_ e;subst e';exact⟨hb,q⟩
theorem Inv.pinned{H:Hp}{s:aA}{fp:List ak}(I:Inv X pins σ H s)(hf:∀b∈fp,xF X pins H b)(ho:∀b∈fp,∃o,s.heap.get? b=some o/\∀v,o.data≠.cell v):Inv X (pins++zO fp s.heap) σ H s:=
 I.GP λp hp=>(bF.mp hp).elim (λz=>I.pin p (bV _ z)) λz=>by
  obtain⟨hb,e⟩:=Kf z;obtain⟨f0,f1,f2,_⟩:=hf p.1 hb;obtain⟨o,e',d⟩:=ho p.1 hb;rw[e]at e';cases e';exact⟨e,f0,f1,f2,d⟩
theorem Inv.we{pl:List (ak×Obj)}{H:Hp}(I:Inv X (pins++pl) σ H s):Inv X pins σ H s:=I.GP λp hp=>I.pin p (bV _ (fZ _ hp))
theorem WQ{iter:aC}{wi:TI}{g:TG}{tb:TS}(hp:PassesOwn (model X.prog X.w) X.A X.env X.xe)(hc:X.calm=true)(hi:PI X tg iter wi)(hg:PG X tg g)(hb:Co X body tb)
  (hs:∀x,foldedSetIterable iter X.env x=pure x:=by intro _;rfl):PS X (.For tg iter body [] pos) (ZZ wi g tb):=by
 intro pins s σ H D I h;refine wpAny_For (nY (hi pins s σ H _ I h) λv s1 h1=>nY h1 λitv s2 h2=>?_) hs;obtain⟨it,fp,tn,J,H2,e,I2,T,st2,f2,W,⟨m0,w0⟩,turn⟩:=h2;subst e;have stat:∀{H':Hp},(∀b∈fp,H' b=none)->∀b∈fp,xF X pins H' b:=λhn b hb=>⟨hn b hb,(f2 b hb).2⟩;refine codeAny_forLoop_any (λn s'=>∃i σ' H',Inv X pins σ' H' s'/\tn i s'.heap/\(∀b∈fp,H' b=none)/\W i n σ' H') ?_ m0 ⟨0,σ,H2,I2,st2,λb hb=>(f2 b hb).1,w0⟩;rintro n s3 ⟨i,σ3,H3,I3,st3,fr3,w3⟩
 rcases turn i n σ3 H3 w3 with⟨stop,qn⟩|⟨go,N,hN,step⟩
 ·refine eW hp (nY (T.done X rfl rfl rfl hc i pins s3 σ3 H3 X.xe I3 (stat fr3) st3 stop) λr s4 ⟨hr,I4⟩=>?_);subst hr;exact iL ⟨σ3,H3,I4,qn⟩
 ·refine eW hp (nY (T.item X rfl rfl rfl hc i pins s3 σ3 H3 X.xe I3 (stat fr3) st3 go) λr s4 ⟨u,hr,h4⟩=>?_);subst hr;refine eW hp (nY h4 λ_ s5 ⟨x,H5,I5,r5,y5,st5,fr5⟩=>?_);have I5':=I5.pinned (stat fr5) (T.obj _ _ st5);refine eW hp (nY (hg _ s5 σ3 H5 x u _ I5' r5 (step x H5 y5)) λ_ s6 ⟨σ6,H6,I6,q6⟩=>?_);refine eW hp (nY (hb _ s6 σ6 H6 _ I6 q6) λf s7 q7=>?_);have again:∀{σ7:St} {H7:Hp},Inv X (pins++zO fp s5.heap) σ7 H7 s7->N σ7 H7->∃m,m<n/\∃i σ' H',Inv X pins σ' H' s7/\tn i s7.heap/\(∀b∈fp,H' b=none)/\W i m σ' H':=λ{σ7 H7} I7 n7=>by
   obtain⟨m',hm,w7⟩:=hN σ7 H7 n7;refine⟨m',hm,i+1,σ7,H7,I7.we,T.keep _ _ _ st5 λb hb o e=>(I7.pin (b,o) (bV _ (bV _ (sj hb e)))).1,λb hb=>?_,w7⟩;obtain⟨o,e,d⟩:=T.obj _ _ st5 b hb;exact(I7.pin (b,o) (bV _ (bV _ (sj hb e)))).2.1
  cases f with
  | next=>obtain⟨σ7,H7,I7,n7⟩:=q7;exact again I7 n7
  | cont=>obtain⟨σ7,H7,I7,n7⟩:=q7;exact again I7 n7
  | brk=>obtain⟨σ7,H7,I7,q7⟩:=q7;exact⟨σ7,H7,I7.we,q7⟩
  | ret v=>obtain⟨x7,σ7,H7,I7,r7,q7⟩:=q7;exact⟨x7,σ7,H7,I7.we,r7,q7⟩
end
theorem vK{c:TT}{tb:TS}{D:Ends}{H:Hp}(Pv:St->Hp->Prop)(μ:St->Hp->Nat)(h0:Pv σ H)
  (hs:∀σ H,Pv σ H->c σ H λb H1=>if b=true then tb { D with nx:=λσ' H'=>Pv σ' H'/\μ σ' H'<μ σ H,ct:=λσ' H'=>Pv σ' H'/\μ σ' H'<μ σ H,bk:=D.nx } σ H1 else D.nx σ H1)
  (mono:∀σ H Q Q',(∀b H1,Q b H1->Q' b H1)->c σ H Q->c σ H Q'):Ld c tb D σ H:=by
 refine⟨λm σ H=>m=μ σ H/\Pv σ H,⟨_,rfl,h0⟩,?_⟩;rintro m σ H ⟨rfl,p⟩;refine mono σ H _ _ (λb H1 q=>?_) (hs σ H p)
 cases b with
 | true=>exact⟨_,λσ' H' ⟨p',l⟩=>⟨_,l,rfl,p'⟩,q⟩
 | false=>exact q
noncomputable abbrev R2:=V->V->Hp->VK->Prop
noncomputable def o_ (X:Cx)(f:af->af->Sem af)(r:R2):Prop:=
 ∀(pins:List (ak×Obj)) (s:aA) (σ:St) (H:Hp) (x y:V) (v u:af) (Q:VK),Inv X pins σ H s->RelV x v->RelV y u->r x y H Q ->
  wpAny (model X.prog X.w) X.A (f v u) (EP X pins σ Q) X.xe s
noncomputable def Zu (X:Cx)(f:af->Sem af)(r:V->Hp->VK->Prop):Prop:=
 ∀(pins:List (ak×Obj)) (s:aA) (σ:St) (H:Hp) (x:V) (v:af) (Q:VK),Inv X pins σ H s->RelV x v->r x H Q ->
  wpAny (model X.prog X.w) X.A (f v) (EP X pins σ Q) X.xe s
noncomputable def kH (X:Cx)(f:af)(r:List V->Hp->VK->Prop):Prop:=
 ∀(pins:List (ak×Obj)) (s:aA) (σ:St) (H:Hp) (xs:List V) (us:List af) (Q:VK),Inv X pins σ H s->Vals xs us->r xs H Q ->
  wpAny (model X.prog X.w) X.A (call f us) (EP X pins σ Q) X.xe s
noncomputable def ZF (X:Cx)(r:V->Hp->(Bool->Hp->Prop)->Prop):Prop:=
 ∀(pins:List (ak×Obj)) (s:aA) (σ:St) (H:Hp) (x:V) (v:af) (Q:Bool->Hp->Prop),Inv X pins σ H s->RelV x v->r x H Q ->
  wpAny (model X.prog X.w) X.A (truthy v) (TP X pins σ Q) X.xe s
noncomputable def Xj (r:R2)(ta tb:TE):TE:=λσ H Q=>ta σ H λx H1=>tb σ H1 λy H2=>r x y H2 Q
noncomputable def tUn (r:V->Hp->VK->Prop)(ta:TE):TE:=λσ H Q=>ta σ H λx H1=>r x H1 Q
noncomputable def rI (C:Int->Int->Prop)(g:Int->Int->V):R2:=λx y H Q=>∃i j,x=.int i/\y=.int j/\C i j/\Q (g i j) H
noncomputable def Sl (g:Int->Int->V):R2:=λx y H Q=>∃i j,x=.int i/\y=.int j/\Q (g i j) H
noncomputable def rU (g:Int->V):V->Hp->VK->Prop:=λx H Q=>∃i,x=.int i/\Q (g i) H
section
variable {X:Cx}{a b:aC}{ta tb:TE}{pos:Pos}
theorem WJ(ha:PE X a ta)(hb:PE X b tb){H:Hp}{R:V->V->Hp->Prop}(I:Inv X pins σ H s)
  (h:ta σ H λx H1=>tb σ H1 λy H2=>R x y H2) {Q:af->aA->Prop} {f:af->af->Sem af}
  (hf:∀v u s2 x y H2,Inv X pins σ H2 s2->RelV x v->RelV y u->R x y H2->wpAny (model X.prog X.w) X.A (f v u) Q X.xe s2) :
  wpAny (model X.prog X.w) X.A (eval a X.env) (λv s₁=>wpAny (model X.prog X.w) X.A (eval b X.env) (λu s₂=>wpAny (model X.prog X.w) X.A (f v u) Q X.xe s₂) X.xe s₁) X.xe s:=by
 refine nY (ha pins s σ H _ I h) λv s1 ⟨x,H1,I1,r1,q1⟩=>?_;refine nY (hb pins s1 σ H1 _ I1 q1) λu s2 ⟨y,H2,I2,r2,q2⟩=>?_;exact hf v u s2 x y H2 I2 r1 r2 q2
theorem X_{r:R2}(ho:o_ X (binaryOp op) r)(ha:PE X a ta)(hb:PE X b tb):PE X (.BinOp a op b pos) (Xj r ta tb):=by
 intro pins s σ H Q I h;exact wpAny_BinOp (WJ ha hb I h λv u s2 x y H2 I2 rx ry q=>ho pins s2 σ H2 x y v u Q I2 rx ry q)
theorem Yc{r:V->Hp->VK->Prop}(ho:Zu X (unaryOp op) r)(ha:PE X a ta):PE X (.UnaryOp op a pos) (tUn r ta):=by
 intro pins s σ H Q I h;exact UnaryOp_ (nY (ha pins s σ H _ I h) λv s1 ⟨x,H1,I1,r1,q1⟩=>ho pins s1 σ H1 x v Q I1 r1 q1)
theorem Zs{f:af->af->Sem af}{C:Int->Int->Prop}{g:Int->Int->Int}
  (rule:∀(i j:Int) (t u:Tok) (s:aA) (Q:af->aA->Prop) (E:af->aA->Prop),C i j->Q (.int (g i j) s.toks) { s with toks:=s.toks+1 }->wpAny (model X.prog X.w) X.A (f (.int i t) (.int j u)) Q E s) :
  o_ X f (rI C λi j=>.int (g i j)):=by
 intro pins s σ H x y v u Q I rx ry h;obtain⟨i,j,rfl,rfl,hc,q⟩:=h;obtain⟨t,rfl⟩:=rx;obtain⟨t',rfl⟩:=ry;exact rule i j t t' s _ _ hc ⟨.int (g i j),H,I.tok _,⟨_,rfl⟩,q⟩
theorem XW{f:af->af->Sem af}{g:Int->Int->Int}
  (rule:∀(i j:Int) (t u:Tok) (s:aA) (Q:af->aA->Prop) (E:af->aA->Prop),Q (.int (g i j) s.toks) { s with toks:=s.toks+1 }->wpAny (model X.prog X.w) X.A (f (.int i t) (.int j u)) Q E s) :
  o_ X f (Sl λi j=>.int (g i j)):=by
 intro pins s σ H x y v u Q I rx ry h;obtain⟨i,j,rfl,rfl,q⟩:=h;obtain⟨t,rfl⟩:=rx;obtain⟨t',rfl⟩:=ry;exact rule i j t t' s _ _ ⟨.int (g i j),H,I.tok _,⟨_,rfl⟩,q⟩
theorem P6{f:af->af->Sem af}{g:Int->Int->Bool}
  (rule:∀(i j:Int) (t u:Tok) (s:aA) (Q:af->aA->Prop) (E:af->aA->Prop),Q (.bool (g i j)) s->wpAny (model X.prog X.w) X.A (f (.int i t) (.int j u)) Q E s) :
  o_ X f (Sl λi j=>.bl (g i j)):=by
 intro pins s σ H x y v u Q I rx ry h;obtain⟨i,j,rfl,rfl,q⟩:=h;obtain⟨t,rfl⟩:=rx;obtain⟨t',rfl⟩:=ry;exact rule i j t t' s _ _ ⟨.bl (g i j),H,I,rfl,q⟩
noncomputable def ZG (i j:Int):Prop:=0<=j/\j<=1000000/\i.natAbs<2 ^ 64
noncomputable def Sf (i j:Int):Prop:=(-(2 ^ 64)<i/\i<2 ^ 64)\/(-(2 ^ 64)<j/\j<2 ^ 64)
theorem Sf.ok{i j:Int}(h:Sf i j):IntMulOk i j:=by
 rcases h with⟨h1,h2⟩|⟨h1,h2⟩
 ·exact .of_left (intBits_le_64 h1 h2)
 ·exact .of_right (intBits_le_64 h1 h2)
theorem Vm:o_ X (binaryOp .Add) (Sl λi j=>.int (i+j)):=XW λ_ _ _ _ _ _ _ q=>add_int q
theorem Vy:o_ X (binaryOp .Sub) (Sl λi j=>.int (i-j)):=XW λ_ _ _ _ _ _ _ q=>sub_int q
theorem Uz:o_ X (binaryOp .Mult) (rI Sf λi j=>.int (i * j)):=Zs λ_ _ _ _ _ _ _ hc q=>mul_int q hc.ok
theorem Wl:o_ X (binaryOp .Mod) (rI (λ_ j=>0<j) λi j=>.int (i % j)):=Zs λi j _ _ _ _ _ hc q=>by
 have h1:(0:Int)<j:=hc;exact mod_int' (by lia) (by rw[Int.fmod_eq_emod_of_nonneg i (by lia)];exact q)
theorem Wy:o_ X (binaryOp .Pow) (rI ZG λi j=>.int (i ^ j.toNat)):=Zs λ_ _ _ _ _ _ _ hc q=>pow_int_small hc.1 hc.2.1 hc.2.2 q
theorem unI{f:af->Sem af}{g:Int->Int}
  (rule:∀(i:Int) (t:Tok) (s:aA) (Q:af->aA->Prop) (E:af->aA->Prop),Q (.int (g i) s.toks) { s with toks:=s.toks+1 }->wpAny (model X.prog X.w) X.A (f (.int i t)) Q E s) :
  Zu X f (rU λi=>.int (g i)):=by
 intro pins s σ H x v Q I rx h;obtain⟨i,rfl,q⟩:=h;obtain⟨t,rfl⟩:=rx;exact rule i t s _ _ ⟨.int (g i),H,I.tok _,⟨_,rfl⟩,q⟩
theorem WR:Zu X (unaryOp .USub) (rU λi=>.int (-i)):=unI λ_ _ _ _ _ q=>neg_int q
end
section
variable {X:Cx}{a b c:aC}{ta tb tc:TE}{pos:Pos}
theorem Y3:o_ X (compareOp .Lt) (Sl λi j=>.bl (decide (i<j))):=P6 λ_ _ _ _ _ _ _ q=>lt_int q
theorem XH:o_ X (compareOp .LtE) (Sl λi j=>.bl (decide (i<=j))):=P6 λ_ _ _ _ _ _ _ q=>le_int q
theorem XT:o_ X (compareOp .Gt) (Sl λi j=>.bl (decide (j<i))):=P6 λ_ _ _ _ _ _ _ q=>gt_int q
theorem Xo:o_ X (compareOp .GtE) (Sl λi j=>.bl (decide (j<=i))):=P6 λ_ _ _ _ _ _ _ q=>ge_int q
theorem LG(b:aC)(h:op≠.In:=by decide)(h2:op≠.NotIn:=by decide):behindInMarks op b=false:=by
 have e1:(op == CmpOp.In)=false:=by cases op<;>first|rfl|exact absurd rfl h
 have e2:(op == CmpOp.NotIn)=false:=by cases op<;>first|rfl|exact absurd rfl h2
 cases b<;>simp[behindInMarks,e1,e2]
theorem QO{op:CmpOp}{r:R2}(ho:o_ X (compareOp op) r)(ha:PE X a ta)(hb:PE X b tb)(hm:behindInMarks op b=false):PE X (.Compare a [op] [b] pos) (Xj r ta tb):=by
 intro pins s σ H Q I h;exact wpAny_Compare1 (WJ ha hb I h λv u s2 x y H2 I2 rx ry q=>ho pins s2 σ H2 x y v u Q I2 rx ry q) hm
noncomputable def YN (t:TE):TT:=λσ H Q=>t σ H λx H'=>∃k,x=.bl k/\Q k H'
theorem Ry{op:CmpOp}{r:R2}(ho:o_ X (compareOp op) r)(ha:PE X a ta)(hb:PE X b tb)(hm:behindInMarks op b=false):PT X (.Compare a [op] [b] pos) (YN (Xj r ta tb)):=by
 intro pins s σ H Q I h;refine wpAny_isTrue_Compare1 (nY (ha pins s σ H _ I h) λv s1 ⟨x,H1,I1,r1,q1⟩=>nY (hb pins s1 σ H1 _ I1 q1) λu s2 ⟨y,H2,I2,r2,q2⟩=>
  nY (ho pins s2 σ H2 x y v u _ I2 r1 r2 q2) λc s3 ⟨z,H3,I3,r3,k,e,q3⟩=>?_) hm
 subst e
 cases r3
 exact dU ⟨H3,I3,q3⟩
noncomputable def Le (r r':R2)(ta tb tc:TE):TE:=λσ H Q=>ta σ H λx H1=>tb σ H1 λy H2=>r x y H2 λz H3=>∃k,z=.bl k /\
 (if k=true then tc σ H3 λw' H4=>r' y w' H4 Q else Q (.bl false) H3)
theorem Ot{r r':R2}(ho:o_ X (compareOp op) r)(ho':o_ X (compareOp op') r')(ha:PE X a ta)(hb:PE X b tb)(hc:PE X c tc)
  (hm:lastMarks [op,op'] [b,c]=false:=by with_unfolding_all rfl):PE X (.Compare a [op,op'] [b,c] pos) (Le r r' ta tb tc):=by
 intro pins s σ H Q I h;refine Compare_chain (nY (ha pins s σ H _ I h) λv s1 ⟨x,H1,I1,r1,q1⟩=>chain_link (nY (hb pins s1 σ H1 _ I1 q1) λu s2 ⟨y,H2,I2,r2,q2⟩=>
  nY (ho pins s2 σ H2 x y v u _ I2 r1 r2 q2) λd s3 ⟨z,H3,I3,r3,k,e,q3⟩=>?_)) hm
 subst e
 cases r3
 refine dU ?_
 cases k with
 | false=>exact ite_ff ⟨.bl false,H3,I3,rfl,q3⟩
 | true=>exact ite_tt (chain_last (nY (hc pins s3 σ H3 _ I3 q3) λw' s4 ⟨z',H4,I4,r4,q4⟩=>ho' pins s4 σ H4 y z' u w' Q I4 r2 r4 q4))
noncomputable def VE (K:au)(x:V)(H:Hp)(k:Bool):Prop:=
 match x with
 | .non=>k=false
 | .bl b=>k=b
 | .int i=>k=(i != 0)
 | .str y=>y.length<=sizeLine/\k=((y.length:Int) != 0)
 | .byt y=>y.size<=sizeLine/\k=((y.size:Int) != 0)
 | .ref p=>(∃xs,pW K H p xs/\k=!xs.isEmpty)\/(∃xs,nq K H p xs/\k=!xs.isEmpty)\/∃kvs,H p=some (.dK kvs)/\k=!kvs.isEmpty
 | _=>False
theorem Gi{κ:Type}{kvs:List (κ×V)}{vs:List (κ×af)}(r:KV kvs vs):(!vs.isEmpty)=!kvs.isEmpty:=by
 cases r<;>rfl
theorem Av{xs:List V}{its:List af}(r:Vals xs its):(!its.toArray.isEmpty)=!xs.isEmpty:=by
 cases r<;>simp
theorem wL:(sizeLine:Nat)<2 ^ 63:=by rw[eB];decide
theorem Wg:ZF X (λx H Q=>∃k,VE X.K x H k/\Q k H):=by
 intro pins s σ H x v Q I rx h;obtain⟨k,e,q⟩:=h;have hl:=wL;have hs:sizeLine=16777216:=eB
 cases x with
 | non=>
  cases rx
  have e':k=false:=e;subst e';exact truthy_none ⟨H,I,q⟩
 | bl b=>
  cases rx
  have e':k=b:=e;subst e';exact dU ⟨H,I,q⟩
 | int i=>
  obtain⟨t,rfl⟩:=rx;have e':k=(i != 0):=e;subst e';exact PySem.P.truthy_int ⟨H,I,q⟩
 | str y=>
  obtain⟨t,rfl⟩:=rx;obtain⟨hy,e'⟩:y.length<=sizeLine/\k=((y.length:Int) != 0):=e;subst e';exact PySem.P.truthy_str (by lia) ⟨H,I.tok _,q⟩
 | byt y=>
  obtain⟨t,rfl⟩:=rx;obtain⟨hy,e'⟩:y.size<=sizeLine/\k=((y.size:Int) != 0):=e;subst e';exact PySem.W.truthy_bytes (by lia) ⟨H,I.tok _,q⟩
 | ref p=>
  cases rx
  have e':(∃xs,pW X.K H p xs/\k=!xs.isEmpty)\/(∃xs,nq X.K H p xs/\k=!xs.isEmpty)\/∃kvs,H p=some (.dK kvs)/\k=!kvs.isEmpty:=e
  rcases e' with⟨xs,hx,e'⟩|⟨xs,hx,e'⟩|⟨kvs,hx,e'⟩
  ·subst e';obtain⟨its,r,pl,hz⟩:=I.list hx;have hlen:=r.length;exact wpAny_truthy_list pl.isList (by simp only[bg];lia) ⟨H,I.tok _,by rw[Av r];exact q⟩
  ·subst e';obtain⟨its,r,pl,hz⟩:=I.tuple hx;have hlen:=r.length;exact truthy_tuple pl (by simp only[bg];lia) ⟨H,I.tok _,by rw[Av r];exact q⟩
  ·subst e';obtain⟨hz,hS,vs,r,m⟩:kvs.length<=sizeLine/\(p == sysModules)=false/\∃vs,KV kvs vs/\s.heap.DictOf (kL X.prog X.w) p vs:=I.hok p _ hx;have hlen:kvs.length=vs.length:=jg r;exact wpAny_truthy_dict hS m (by lia) ⟨H,I.tok _,by rw[Gi r];exact q⟩
 | _=>exact(show False from e).elim
theorem Lp(ha:PE X a ta)(he:∀whole,isTrue a X.env whole=(do let v <- whole;standAt a.pos;holding [v] (truthy v))) :
  PT X a (λσ H Q=>ta σ H λx H'=>∃k,VE X.K x H' k/\Q k H'):=by
 intro pins s σ H Q I h;exact isTrue_plain (nY (ha pins s σ H _ I h) λv s1 ⟨x,H1,I1,r1,q1⟩=>Wg pins s1 σ H1 x v Q I1 r1 q1) (he _)
theorem Gk:o_ X (binaryOp .Add) (λx y H Q=>∃i j,x=.str i/\y=.str j/\i.length+j.length<=sizeLine/\Q (.str (i++j)) H):=by
 intro pins s σ H x y v u Q I rx ry h;obtain⟨i,j,rfl,rfl,hz,q⟩:=h;obtain⟨t,rfl⟩:=rx;obtain⟨t',rfl⟩:=ry;exact add_str (λt' tk=>⟨.str (i++j),H,I.tok _,⟨_,rfl⟩,q⟩) hz
theorem vals1{x:V}(r:Vals [x] us):∃u,us=[u]/\RelV x u:=by
 cases r with
 | cons r1 r2=>cases r2;exact⟨_,rfl,r1⟩
theorem vals2{x:V}(r:Vals [x,y] us):∃u w',us=[u,w']/\RelV x u/\RelV y w':=by
 cases r with
 | cons r1 r2=>
  cases r2 with
  | cons r3 r4=>cases r4;exact⟨_,_,rfl,r1,r3⟩
theorem KG(hc:X.calm=true):kH X (.builtin "max") (λxs H Q=>∃i j,xs=[.int i,.int j]/\Q (.int (if j>i then j else i)) H):=by
 intro pins s σ H xs us Q I r h;obtain⟨i,j,rfl,q⟩:=h;obtain⟨u,w',rfl,⟨t,rfl⟩,⟨t',rfl⟩⟩:=vals2 r;refine max_two_ints (I.ok.hd hc) λh' tk k=>⟨_,H,I.kept k,?_,q⟩;by_cases hj:j>i
 ·rw[aM hj,aM hj];exact⟨_,rfl⟩
 ·rw[aK hj,aK hj];exact⟨_,rfl⟩
theorem KN(hc:X.calm=true):kH X (.builtin "min") (λxs H Q=>∃i j,xs=[.int i,.int j]/\Q (.int (if j<i then j else i)) H):=by
 intro pins s σ H xs us Q I r h;obtain⟨i,j,rfl,q⟩:=h;obtain⟨u,w',rfl,⟨t,rfl⟩,⟨t',rfl⟩⟩:=vals2 r;refine min_two_ints (I.ok.hd hc) λh' tk k=>⟨_,H,I.kept k,?_,q⟩;by_cases hj:j<i
 ·rw[aM hj,aM hj];exact⟨_,rfl⟩
 ·rw[aK hj,aK hj];exact⟨_,rfl⟩
theorem Bj:kH X (.type "int") (λxs H Q=>(∃i,xs=[.int i]/\Q (.int i) H)\/∃k,xs=[.bl k]/\Q (.int (if k then 1 else 0)) H):=by
 intro pins s σ H xs us Q I r h
 rcases h with⟨i,rfl,q⟩|⟨k,rfl,q⟩
 ·obtain⟨u,rfl,t,rfl⟩:=vals1 r;exact call_int_int ⟨.int i,H,I,⟨_,rfl⟩,q⟩
 ·obtain⟨u,rfl,r1⟩:=vals1 r
  cases r1
  exact call_int_bool ⟨.int (if k then 1 else 0),H,I.tok _,⟨_,rfl⟩,q⟩
noncomputable def Z5 (K:au)(x:V)(H:Hp)(n:Nat):Prop:=
 match x with
 | .str y=>y.length<=sizeLine/\n=y.length
 | .byt y=>y.size<=sizeLine/\n=y.size
 | .ref p=>(∃xs,pW K H p xs/\n=xs.length)\/∃xs,nq K H p xs/\n=xs.length
 | _=>False
theorem N_:kH X (.builtin "len") (λxs H Q=>∃x n,xs=[x]/\Z5 X.K x H n/\Q (.int n) H):=by
 intro pins s σ H xs us Q I r h;obtain⟨x,n,rfl,e,q⟩:=h;obtain⟨u,rfl,rx⟩:=vals1 r;have hl:=wL;have hs:sizeLine=16777216:=eB
 cases x with
 | str y=>
  obtain⟨t,rfl⟩:=rx;obtain⟨hy,e'⟩:y.length<=sizeLine/\n=y.length:=e;subst e';exact len_str (by lia) ⟨.int _,H,I.tok _,⟨_,rfl⟩,q⟩
 | byt y=>
  obtain⟨t,rfl⟩:=rx;obtain⟨hy,e'⟩:y.size<=sizeLine/\n=y.size:=e;subst e';exact PySem.W.len_bytes (by lia) ⟨.int _,H,I.tok _,⟨_,rfl⟩,q⟩
 | ref p=>
  cases rx
  have e':(∃xs,pW X.K H p xs/\n=xs.length)\/∃xs,nq X.K H p xs/\n=xs.length:=e
  rcases e' with⟨xs,hx,e'⟩|⟨xs,hx,e'⟩
  ·subst e';obtain⟨its,r',pl,hz⟩:=I.list hx;have hlen:=r'.length;exact Calls.call_len_list pl.isList (by simp only[bg];lia) ⟨.int xs.length,H,I.tok _,⟨_,by simp only[bg];rw[hlen]⟩,q⟩
  ·subst e';obtain⟨its,r',pl,hz⟩:=I.tuple hx;have hlen:=r'.length;exact len_tuple pl (by simp only[bg];lia) ⟨.int xs.length,H,I.tok _,⟨_,by simp only[bg];rw[hlen]⟩,q⟩
 | _=>exact(show False from e).elim
end
structure ObjM (h:aq)(x dx C:ak)(mA:Str->Option af):Prop where
 obj:h.get? x=some (PySem.W.instObj C dx)
 ns:h.Ns1 dx mA
 ne:dx≠x
theorem JF{h:aq}{mA:Str->Option af}(n:h.Ns1 dx mA):∃od,h.get? dx=some od/\∀name,PySem.W.lookIn name od=some (mA name):=by
 obtain⟨o,es,ep,ho,hd,hk,_,hm⟩:=n;refine⟨o,ho,λname=>?_⟩;have e:=hm name;unfold nsFind findBy at e;rw[<- Array.find?_toList]at e;unfold PySem.W.lookIn;rw[hd];dsimp only;split
 ·rename_i y q;rw[q]at e;exact dm some e
 ·rename_i q;rw[q]at e;have a:es.toList.any (·.refKey)=false:=by
   rw[List.any_eq_false];intro y hy;obtain⟨z,t,hkey⟩:=hk y (Array.mem_toList_iff.mp hy);simp[DictEntry.refKey,hkey]
  have a':¬es.toList.any (·.refKey)=true:=by rw[a];exact bI
  rw[aK a'];exact dm some e
theorem ObjM.look{x:ak}{mA:Str->Option af}(I:ObjM h x dx C mA):∃od,PySem.W.InstAt h x (PySem.W.instObj C dx) C (some od)/\∀name,PySem.W.lookIn name od=some (mA name):=
 let⟨od,ho,hl⟩:=JF I.ns
 ⟨od,⟨I.obj,rfl,rfl,ho⟩,hl⟩
theorem xj.some_of{v:V}(r:xj (some v) o):∃u,o=some u/\RelV v u:=by
 cases o with
 | none=>exact(show False from r).elim
 | some u=>exact⟨u,rfl,r⟩
section
variable {P:aj}{w:ah}{H:Hp}{h:aq}{a C dx:ak}{fs:List (Str×V)}
theorem RP(hok:vE P w H h)(e:H a=some (.ins C dx fs)):∃mA,ObjM h a dx C mA/\(∀f,xj (fs.lookup f) (mA f))/\PySem.Within mA (fs.map (·.1))/\fs.length<=1000/\H dx=some (.own a):=by
 obtain⟨d,z,ne,ob,mA,n,r,q⟩:=(show lU P w H h a (.ins C dx fs)from hok a _ e);exact⟨mA,⟨ob,n,ne⟩,r,q,z,d⟩
end
structure Cls (K:au)(C:ak):Prop where
 pg:PySem.W.plainGet K C Str.empty=true
 hd:PySem.W.hasDictIn K C=true
 po:PySem.W.plainOver K C=true
 sa:PySem.W.findIn K (.ref C) "__setattr__" = some (some (.builtin "object.__setattr__"))
theorem Cls.get{K:au}(c:Cls K C)(f:Str):PySem.W.plainGet K C f=true:=c.pg
structure Con (K:au)(C:ak)(f:Str)(v:V)(u:af):Prop where
 at_:PySem.W.findIn K (.ref C) f=some (some u)
 rel:RelV v u
 get:PySem.W.specialIn K u "__get__" = some none
 cp:PySem.W.copiedNames.contains f=false
structure Meth (K:au)(C:ak)(m:Str)(f:ak):Prop where
 at_:PySem.W.findIn K (.ref C) m=some (some (.ref f))
 fn:PySem.W.isFn K (.ref f)=true
 kp:PySem.W.keepIn K (.ref f)=true
section
variable {X:Cx}{pins:List (ak×Obj)}{σ:St}{H:Hp}{s:aA}{A:az}{E:af->aA->Prop}{Q:af->aA->Prop}{c:af}{b:Bool}
inductive TyOf (K:au) (H:Hp):V->af->Prop where
 | non:TyOf K H .non (.type "NoneType")
 | bl (x:Bool):TyOf K H (.bl x) (.type "bool")
 | int (i:Int):TyOf K H (.int i) (.type "int")
 | str (x:Str):TyOf K H (.str x) (.type "str")
 | flt (x:UInt64):TyOf K H (.flt x) (.type "float")
 | lst {a:ak} {xs:List V} (e:H a=some (.lst xs)):TyOf K H (.ref a) (.type "list")
 | frz {a:ak} {o:Obj} {xs:List V} (e:H a=some (.frz o (.lst xs))):TyOf K H (.ref a) (.type "list")
 | tup {a:ak} {xs:List V} (e:H a=some (.tup xs)):TyOf K H (.ref a) (.type "tuple")
 | dK {a:ak} {kvs:List (Key×V)} (e:H a=some (.dK kvs)):TyOf K H (.ref a) (.type "dict")
 | dT {a:ak} {kvs:List (List Key×V)} (e:H a=some (.dT kvs)):TyOf K H (.ref a) (.type "dict")
 | ins {a C dx:ak} {fs:List (Str×V)} (e:H a=some (.ins C dx fs)) (cl:Cls K C) (ha:PySem.W.findIn K (.ref C) "__class__" = some (some (.builtin "object.__class__")))
   (hn:PySem.W.specialIn K (.builtin "object.__class__") "__get__" = some (some (.builtin "getset_descriptor.__get__"))) (htk:PySem.W.takesIn K (.builtin "object.__class__")=some true)
   (hm:PySem.W.mroIn K C (.type "object")=some true):TyOf K H (.ref a) (.ref C)
theorem JH{x:V}{t:af}(I:Inv X pins σ H s)(rx:RelV x u)(ty:TyOf X.K H x t)(e:PySem.W.kitOne X.K t c=some b)(h:∀tk,Q (.bool b) { s with toks:=tk }) :
  wpAny (model X.prog X.w) A (call (.builtin "isinstance") [u,c]) Q E s:=by
 cases ty with
 | non=>cases(show u=Value.none from rx);exact cT PySem.W.kitx_none I.Di True.intro e (λz=>nomatch z) h
 | bl y=>cases(show u=Value.bool y from rx);exact cT PySem.W.kitx_bool I.Di True.intro e (λz=>nomatch z) h
 | int i=>obtain⟨t,q⟩:=(show ∃t,u=Value.int i t from rx);cases q;exact cT PySem.W.kitx_int I.Di True.intro e (λz=>nomatch z) h
 | str y=>obtain⟨t,q⟩:=(show ∃t,u=Value.str y t from rx);cases q;exact cT PySem.W.kitx_str I.Di True.intro e (λz=>nomatch z) h
 | flt y=>obtain⟨t,q⟩:=(show ∃t,u=Value.float y t from rx);cases q;exact cT PySem.W.kitx_float I.Di True.intro e (λz=>nomatch z) h
 | @lst a xs ea=>
  cases(show u=Value.ref a from rx)
  obtain⟨_,_,n,_,h1⟩:=(show lU X.prog X.w H s.heap a (.lst xs)from I.hok a _ ea);exact cT PySem.W.kitx_list I.Di ⟨_,h1,rfl⟩ e (λz=>nomatch z) h
 | @frz a ob xs ea=>
  cases(show u=Value.ref a from rx)
  obtain⟨_,_,_,n,_,h1⟩:=(show lU X.prog X.w H s.heap a (.frz ob (.lst xs))from I.hok a _ ea);exact cT PySem.W.kitx_list I.Di ⟨_,h1,rfl⟩ e (λz=>nomatch z) h
 | @tup a xs ea=>
  cases(show u=Value.ref a from rx)
  obtain⟨_,_,_,p⟩:=(show lU X.prog X.w H s.heap a (.tup xs)from I.hok a _ ea);obtain⟨o,h1,h2,_⟩:=p;exact cT PySem.W.kitx_tuple I.Di ⟨o,h1,h2⟩ e (λz=>nomatch z) h
 | @dK a kvs ea=>
  cases(show u=Value.ref a from rx)
  obtain⟨_,_,vs,_,p⟩:=(show lU X.prog X.w H s.heap a (.dK kvs)from I.hok a _ ea);obtain⟨o,es,ep,h1,h2,_⟩:=p;exact cT PySem.W.kitx_dict I.Di ⟨o,h1,h2.1⟩ e (λz=>nomatch z) h
 | @dT a kvs ea=>
  cases(show u=Value.ref a from rx)
  obtain⟨_,_,xs,_,o,es,ep,h1,h2,_⟩:=(show lU X.prog X.w H s.heap a (.dT kvs)from I.hok a _ ea);exact cT PySem.W.kitx_dict I.Di ⟨o,h1,h2.1⟩ e (λz=>nomatch z) h
 | @ins a C dx fs ea cl ha hn htk hm=>
  cases(show u=Value.ref a from rx)
  obtain⟨mA,O,_⟩:=RP I.hok ea;obtain⟨od,J,_⟩:=O.look;exact cT (PySem.W.kitx_own (cl.get _) cl.hd ha hn htk hm) I.Di J e (λz=>nomatch z) h
end
structure Room (k:Nat)(A:az):Prop where
 hd:A.handled=none
 dp:A.depth+3 * k+5<recursionLimit
 un:A.units+16 * k+200<cLine
theorem Room.mono{k:Nat}{A:az}(r:Room k A)(h:j<=k):Room j A:=⟨r.hd,by have:=r.dp;lia,by have:=r.un;lia⟩
theorem Room.deeper{k:Nat}{A:az}(r:Room (k+1) A)(env:Env):Room k (A.deeper env):=
 ⟨r.hd,by have:=r.dp;show A.depth+1+3 * k+5<_;lia,by have:=r.un;show A.units+3+16 * k+200<_;lia⟩
theorem Room.depth{k:Nat}{A:az}(r:Room k A):A.depth<recursionLimit:=by have:=r.dp;lia
theorem Room.units{k:Nat}{A:az}(r:Room k A):A.units+64<cLine:=by have:=r.un;lia
noncomputable def aad:TA:=λ_ H Q=>Q [] H
noncomputable def Ye (ta:TE)(tr:TA):TA:=λσ H Q=>ta σ H λx H1=>tr σ H1 λxs H2=>Q (x::xs) H2
section
variable {X:Cx}{e:aC}{es:List aC}{te:TE}{t:TA}{pos:Pos}
theorem zZ:PA X [] aad:=λ_ _ _ _ H Q I h=>Calls.spliced_nil ⟨[],H,I,.nil,h⟩
theorem uy(ha:PE X e te)(hr:PA X es t)(hs:starEach (e::es) X.env=(false,eval e X.env)::starEach es X.env:=by rfl):PA X (e::es) (Ye te t):=by
 intro pos pins s σ H Q I h;rw[hs];show wpAny _ _ (spliced ((false,eval e X.env)::backTo pos (starEach es X.env))) _ _ s;refine Calls.spliced_cons (nY (ha pins s σ H _ I h) λu s1 ⟨x,H1,I1,r1,q1⟩=>?_);exact nY (hr pos pins s1 σ H1 _ I1 q1) λus s2 ⟨xs,H2,I2,r2,q2⟩=>⟨x::xs,H2,I2,.cons r1 r2,q2⟩
noncomputable def Z_ (t:TA):TE:=λσ H Q=>t σ H λxs H1=>xs.length<=sizeLine/\∀p,H1 p=none->Q (.ref p) (upd H1 p (.tup xs))
noncomputable def Z2 (t:TA):TE:=λσ H Q=>t σ H λxs H1=>xs.length<=sizeLine/\∀p,H1 p=none->Q (.ref p) (upd H1 p (.lst xs))
theorem UZ{x1}(h:PA X es t):PE X (.Tuple es x1 pos) (Z_ t):=by
 intro pins s σ H Q I hq;refine wpAny_Tuple_spliced (nY (h pos pins s σ H _ I hq) λus s1 ⟨xs,H1,I1,r,z,q⟩=>⟨by rw[<- r.length];exact z,?_⟩);have hf:H1 s1.heap.objs.size=none:=I1.hok.fresh (aQ _);refine⟨.ref s1.heap.objs.size,upd H1 s1.heap.objs.size (.tup xs),I1.laid (t':=s1.toks) (λb u e=>aS _ e) (aQ _) ?_,rfl,q _ hf⟩;exact⟨z,us,r,⟨_,bD _ rfl,rfl,rfl,_,rfl⟩⟩
theorem Vq(h:PA X es t):PE X (.List es pos) (Z2 t):=by
 intro pins s σ H Q I hq;refine wpAny_List_spliced (nY (h pos pins s σ H _ I hq) λus s1 ⟨xs,H1,I1,r,z,q⟩=>⟨by rw[<- r.length];exact z,?_⟩);have hf:H1 s1.heap.objs.size=none:=I1.hok.fresh (aQ _);refine⟨.ref s1.heap.objs.size,upd H1 s1.heap.objs.size (.lst xs),I1.laid (t':=s1.toks) (λb u e=>aS _ e) (aQ _) ?_,rfl,q _ hf⟩;exact⟨z,us,0,r,bD _ rfl⟩
end
noncomputable abbrev Sp:=List V->Hp->VK->XK->Prop
noncomputable abbrev PM:=List Env->Hp->aA->XK->af->aA->Prop
structure Env0 (P:aj)(w:ah)(K:au)(mg:Str->Option af)(base:aq)(A:az)(outer:List Env)(s:aA)(H:Hp):Prop where
 frames:A.frames=some outer
 mod:Mod K mg base
 bs:∀b o,base.get? b=some o->s.heap.get? b=some o/\H b=none
 bsz:base.objs.size<=s.heap.objs.size
 Ac:s.heap.FunFrames base outer
 frf:∀b∈frs outer,H b=none
 hok:vE P w H s.heap
 bare:AllBare s.gens
noncomputable def CE (outer:List Env)(P:aj)(w:ah)(H:Hp)(s:aA)(Q:VK)(u:af)(s':aA):Prop:=
 ∃v H',s'.os=s.os/\AllBare s'.gens/\Un (frs outer) [] H H' s.heap s'.heap/\vE P w H' s'.heap/\RelV v u/\Q v H'
noncomputable def CR (CX:PM)(outer:List Env)(P:aj)(w:ah)(H:Hp)(s:aA)(Q:VK)(E:XK)(r:Result)(s':aA):Prop:=
 match r with
 | .ok (.ret u)=>CE outer P w H s Q u s'
 | .ok _=>False
 | .error e=>CX outer H s E e s'
structure FnOk (P:aj)(w:ah)(K:au)(mg:Str->Option af)(base:aq)(CX:PM)(k:Nat)(f:ak)(fd:FuncData)(ps:List Str)(sp:Sp):Prop where
 len:∀vs H Q E,sp vs H Q E->vs.length=ps.length
 run:∀(A:az) (outer:List Env) (s:aA) (H:Hp) (args:Args) (us:List af) (vs:List V) (Q:VK) (E:XK),Room k A->Env0 P w K mg base A outer s H->BindsTo s fd args (ps.zip us)->Vals vs us->sp vs H Q E ->
  codeAny (model P w) A (.call (.ref f) args) (CR CX outer P w H s Q E) s
section
variable {X:Cx}{pins:List (ak×Obj)}{σ:St}{H:Hp}{s s':aA}
theorem Inv.aal(I:Inv X pins σ H s):Env0 X.prog X.w X.K X.mg X.base X.A X.stack s H:=
 ⟨I.ok.frames,I.ok.mod,I.bs,bJ I.ok.bsz I.sz,I.stack,I.Jb,I.hok,I.bare⟩
theorem Inv.after{Q:VK}(I:Inv X pins σ H s)(h:CE X.stack X.prog X.w H s Q u s'):EP X pins σ Q u s':=by
 obtain⟨v,H',os,bare,un,hok,r,q⟩:=h;obtain⟨hh,g,d,t,os'⟩:=s';obtain rfl:os'=s.os:=os;exact⟨v,H',I.call (h':=hh) (g':=g) (d':=d) (t':=t) (ch:=[]) un hok bare (λb z=>absurd z (by simp)),r,q⟩
end
noncomputable def Uj (sp:Sp)(dvs:List V)(E:XK)(t:TA):TE:=λσ H Q=>t σ H λvs H1=>sp (vs++dvs) H1 Q E
noncomputable def Binds (K:au)(fd:FuncData)(ps:List Str)(ds:List af):Prop:=
 ∀(s:aA) (us:List af),K.In s.heap->(us++ds).length=ps.length->BindsTo s fd ⟨us,[]⟩ (ps.zip (us++ds))
theorem Binds.all{K:au}{ps:List Str}(h:∀us:List af,us.length=ps.length->bindArgs fd ⟨us,[]⟩=pure (ps.zip us)):Binds K fd ps []:=λs us _ hl=>by
 rw[cL]at hl ⊢;exact .of_eq (h us hl)
noncomputable def Passes (CX:PM)(X:Cx)(E:XK):Prop:=∀(pins:List (ak×Obj)) (σ:St) (H:Hp) (s:aA) (e:af) (s':aA),Inv X pins σ H s->CX X.stack H s E e s'->X.xe e s'
section
variable {X:Cx}{CX:PM}{k:Nat}{f C:ak}{fd:FuncData}{ps:List Str}{sp:Sp}{dvs:List V}{ds:List af}{E:XK}{x:Str}{p pos:Pos}{e:aC}{es:List aC}{t:TA}
theorem Wu{H:Hp}{Q:VK}(F:FnOk X.prog X.w X.K X.mg X.base CX k f fd ps sp)(hr:Room k X.A)(hb:Binds X.K fd ps ds)(hd:Vals dvs ds)(hx:Passes CX X E)
  (I:Inv X pins σ H s) (r:Vals vs us) (h:sp (vs++dvs) H Q E):wpAny (model X.prog X.w) X.A (call (.ref f) us) (EP X pins σ Q) X.xe s:=by
 have r2:Vals (vs++dvs) (us++ds):=r.append hd;have hl:(us++ds).length=ps.length:=by rw[<- r2.length];exact F.len _ _ _ _ h
 refine wpAny_call (iS (F.run X.A X.stack s H ⟨us,[]⟩ (us++ds) (vs++dvs) Q E hr I.aal (hb s us I.Di hl) r2 h) λr s' hq=>?_)
 cases r with
 | error e=>exact hx pins σ H s e s' I hq
 | ok fl=>
  cases fl with
  | ret u=>exact I.after hq
  | next=>exact False.elim hq
  | brk=>exact False.elim hq
  | cont=>exact False.elim hq
theorem QF(F:FnOk X.prog X.w X.K X.mg X.base CX k f fd ps sp)(hr:Room k X.A)(hg:Gl X x)(hm:X.mg x=some (.ref f))(hk:PySem.W.keepIn X.K (.ref f)=true)(hb:Binds X.K fd ps ds)(hd:Vals dvs ds)(hx:Passes CX X E)
  (ha:PA X (e::es) t) (hdb:(x == ("__debug__" : Str))=false:=by decide) (he:starEach (e::es) X.env=(false,eval e X.env)::starEach es X.env:=by rfl) (hpl:(backTo pos (starEach es X.env)).any (·.1)=false:=by rfl) :
  PE X (.Call (.Name x p) (e::es) [] pos) (Uj sp dvs E t):=by
 intro pins s σ H Q I h;refine iW (Jq I hg hm ?_ hdb);refine PySem.W.callWith_K (h₀:=X.base) I.ok.mod.kin hk (nY (ha pos pins s σ H _ I h) λus s1 ⟨vs,H1,I1,r,q⟩=>⟨I1.Di,?_⟩) he hpl;exact Wu F hr hb hd hx I1 r q
structure Mk (K:au)(C f:ak):Prop where
 makes:PySem.W.makesIn K C=true
 init:PySem.W.findIn K (.ref C) "__init__" = some (some (.ref f))
 fn:PySem.W.isFn K (.ref f)=true
 kp:PySem.W.keepIn K (.ref C)=true
end
section
variable {fd:FuncData}{ps ks:List Str}
structure KBinds (K:au)(fd:FuncData)(ps ks:List Str)(g:List af->List af->List af)(gV:List V->List V->List V):Prop where
 to:∀(s:aA) (us ws:List af),K.In s.heap->(g us ws).length=ps.length->BindsTo s fd ⟨us,ks.zip ws⟩ (ps.zip (g us ws))
 rel:∀{vs:List V} {us:List af} {zs:List V} {ws:List af},Vals vs us->Vals zs ws->Vals (gV vs zs) (g us ws)
end
structure FnScope (N P:List Str)(sc:Scope):Prop where
 kind:sc.kind=.function
 co:sc.isCoroutine=false
 gen:sc.isGenerator=false
 nd:N.Nodup
 pre:N.take P.length=P
 par:∀x∈P,sc.names.lookup x=some .local\/sc.names.lookup x=some .cell
 nofree:∀y∈sc.names,y.2≠.free
theorem By{kindOf:Str->Option NameKind}{x:Str}:∀{binds:List (Str×af)}{m:Str->Option af},(∀v,(x,v)∉binds)->bindL kindOf binds m x=m x
 | [],_,_=>rfl
 | (n,v)::r,m,h=>by
  unfold bindL;rw[By λw hw=>h w (aL _ hw)];split
  ·have:x≠n:=by rintro rfl;exact h v aI
   simp[this]
  ·rfl
theorem BG{kindOf:Str->Option NameKind}{x:Str}:∀{binds:List (Str×af)}{m:Str->Option af},(∀v,(x,v)∉binds)->bindC kindOf binds m x=m x
 | [],_,_=>rfl
 | (n,v)::r,m,h=>by
  unfold bindC;rw[BG λw hw=>h w (aL _ hw)];split
  ·rfl
  ·have:x≠n:=by rintro rfl;exact h v aI
   simp[this]
theorem Bq{kindOf:Str->Option NameKind}{x:Str}{v:af}:∀{P:List Str}{vs:List af}{i:Nat}{m:Str->Option af},P.Nodup->P[i]?=some x->vs[i]?=some v->kindOf x=some .local ->
  bindL kindOf (P.zip vs) m x=some v
 | [],_,_,_,_,h,_,_=>by simp at h
 | _::_,[],_,_,_,_,h,_=>by simp at h
 | p::P,w::vs,0,m,nd,h1,h2,hk=>by
  simp at h1 h2;subst h1;subst h2;show bindL kindOf ((p,w)::P.zip vs) m p=_;unfold bindL;rw[By λv hv=>(cM.mp nd).1 (jt hv).1,aM hk];simp
 | p::P,w::vs,i+1,m,nd,h1,h2,hk=>by
  show bindL kindOf ((p,w)::P.zip vs) m x=_;unfold bindL;exact Bq (i:=i) (cM.mp nd).2 (by simpa using h1) (by simpa using h2) hk
theorem A1{kindOf:Str->Option NameKind}{x:Str}{v:af}:∀{P:List Str}{vs:List af}{i:Nat}{m:Str->Option af},P.Nodup->P[i]?=some x->vs[i]?=some v->kindOf x≠some .local ->
  bindC kindOf (P.zip vs) m x=some v
 | [],_,_,_,_,h,_,_=>by simp at h
 | _::_,[],_,_,_,_,h,_=>by simp at h
 | p::P,w::vs,0,m,nd,h1,h2,hk=>by
  simp at h1 h2;subst h1;subst h2;show bindC kindOf ((p,w)::P.zip vs) m p=_;unfold bindC;rw[BG λv hv=>(cM.mp nd).1 (jt hv).1,aK hk];simp
 | p::P,w::vs,i+1,m,nd,h1,h2,hk=>by
  show bindC kindOf ((p,w)::P.zip vs) m x=_;unfold bindC;exact A1 (i:=i) (cM.mp nd).2 (by simpa using h1) (by simpa using h2) hk
noncomputable def start (N:List Str)(vs:List V):St:=vs.map some++List.replicate (N.length-vs.length) none
noncomputable def FO (CX:PM)(P:aj)(w:ah)(K:au)(mg:Str->Option af)(base:aq)(N:List Str)(qual:Str)(scope:Scope)(f:ak)(cd:af)(A:az)(outer:List Env)(s:aA)(H:Hp)(E:XK):Cx where
 prog:=P
 w:=w
 K:=K
 mg:=mg
 base:=base
 A:=A.deeper (envOfC qual scope s.heap.objs.size f cd)
 N:=N
 s₀:=s
 H₀:=H
 env:=envOfC qual scope s.heap.objs.size f cd
 outer:=outer
 stack:=envOfC qual scope s.heap.objs.size f cd::outer
 ex:=[]
 calm:=true
 fn:=λ_=>true
 pn:=[]
 xe:=λe s'=>wpAny (model P w) (A.deeper (envOfC qual scope s.heap.objs.size f cd)) (leaving (envOfC qual scope s.heap.objs.size f cd) e) (λ_ s''=>CX outer H s E e s'') (λe' s''=>CX outer H s E e' s'') s'
theorem EZ{sc:Scope}{n:Nat}{x:Str}(h:sc.names.lookup x=some .cell):∃c,(cellsFrom n sc.names []).lookup x=some c:=by
 have q:=PySem.W.cellsFrom_some sc.names n [] (.inl h);exact fm.mp q
theorem JZ{CX:PM}{P:aj}{w:ah}{K:au}{mg:Str->Option af}{base:aq}{N ps:List Str}{scope:Scope}{f:ak}{A:az}{outer:List Env}{s:aA}{H:Hp}{E:XK}{vs:List V}
  (S:FnScope N ps scope) (hd:A.handled=none) (e0:Env0 P w K mg base A outer s H) (hl:vs.length=ps.length) (r:Vals vs us)
  (x:InCallC s s.heap.objs.size (bindL (envOfC qual scope s.heap.objs.size f cd).kindOf (ps.zip us) λ_=>none) (cellsFrom (s.heap.objs.size+1) scope.names []) (bindC (envOfC qual scope s.heap.objs.size f cd).kindOf (ps.zip us) λ_=>none) s1) :
  Inv (FO CX P w K mg base N qual scope f cd A outer s H E) [] (start N vs) H s1:=by
 have hpl:ps.length<=N.length:=by have:=dm List.length S.pre;rw[ck]at this;lia
 obtain⟨h1,tk,rfl,hk⟩:=x.done;have noA:∀b:ak,b∉(FO CX P w K mg base N qual scope f cd A outer s H E).ex:=λb z=>absurd (show b∈([]:List ak)from z) (by simp);refine⟨⟨e0.mod,S.kind,rfl,rfl,aQ _,λy z c h1 h2=>?_,λy hy=>?_,λy c _ h=>?_,λ_=>hd,Around.frames_deeper e0.frames,.inr ⟨rfl,rfl⟩,λb z=>absurd z (noA b),e0.bs,e0.bsz,λb _ _=>noA b,λb z=>absurd z (noA b),e0.Ac,e0.frf⟩,
  rfl,e0.bare,Un.kept hk,⟨_,x.toInCall.ns,λi y v h1 h2 h3=>?_⟩,λy c h=>⟨_,x.cell y c h⟩,e0.hok.fresh (aQ _),λy c h=>?_,λp hp=>absurd (show p∈([]:List (ak×Obj))from hp) (by simp),e0.hok.kept hk,?_⟩
 ·exact name_of_addr x.apart (fC h1) (fC h2)
 ·have hy:scope.names.lookup y=some .cell\/scope.names.lookup y=some .free:=hy
  rcases hy with hy|hy
  ·exact EZ hy
  ·exact absurd rfl (S.nofree _ (fC hy))
 ·exact jm (x.above y c (fC h))
 ·have hi:i<vs.length:=by
   unfold start at h2;by_cases hi:i<vs.length
   ·exact hi
   ·rw[f6 (by simpa using hi)]at h2;rw[List.getElem?_replicate]at h2;split at h2<;>cases h2
  have ha:vs[i]?=some v:=by
   unfold start at h2;rw[bH (by simpa using hi),aR]at h2
   cases e:vs[i]? with
   | none=>rw[e]at h2;cases h2
   | some a=>rw[e]at h2;cases h2;rfl
  obtain⟨u,hu,rv⟩:=r.get ha;have hp:ps[i]?=some y:=by
   rw[<- S.pre,gv (by lia)];exact h1
  have ndP:ps.Nodup:=by rw[<- S.pre];exact S.nd.sublist (List.take_sublist _ _)
  refine⟨u,rv,?_⟩
  rcases S.par y (aW hp)with k|k
  ·exact .inl ⟨k,Bq ndP hp hu k⟩
  ·obtain⟨c,e⟩:=EZ (n:=s.heap.objs.size+1) k;refine .inr ⟨.inl k,c,e,?_⟩;have q:=x.cell y c e;rw[A1 ndP hp hu (by show scope.names.lookup y≠_;rw[k];decide)]at q;exact q
 ·exact e0.hok.fresh (jm (x.above y c (fC h)))
 ·unfold start;show _=N.length;rw[aO,aH,List.length_replicate];lia
theorem Xk{CX:PM}{P:aj}{w:ah}{K:au}{mg:Str->Option af}{base:aq}{k:Nat}{f:ak}{kV pm ct:af}
  {osl:Array (Option af)} {N ps:List Str} {sp:Sp} (lk:K.lookup f=some ⟨oc,od,.func (PySem.W.fnOf name qual params body scope dV kV doc pm an cdv ct),osl⟩) (hcd:PySem.W.codeIn K cdv qual=true) (S:FnScope N ps scope)
  (len:∀vs H Q E,sp vs H Q E->vs.length=ps.length)
  (hbody:∀(A:az) (outer:List Env) (s:aA) (H:Hp) (vs:List V) (Q:VK) (E:XK),Room k (A.deeper (envOfC qual scope s.heap.objs.size f cdv))->sp vs H Q E ->
   ∃t,Co (FO CX P w K mg base N qual scope f cdv A outer s H E) body t/\t { nx:=λ_ H'=>Q .non H',rt:=Q } (start N vs) H) :
  FnOk P w K mg base CX (k+1) f (PySem.W.fnOf name qual params body scope dV kV doc pm an cdv ct) ps sp:=by
 refine⟨len,λA outer s H args us vs Q E hr e0 hb r hsp=>?_⟩;have hl:=len _ _ _ _ hsp;have KX:K.In s.heap:=e0.mod.kin.keeps λb o e=>(e0.bs b o e).1;have lim:s.heap.NoLimit:=e0.mod.nolimit.keeps λb o e=>(e0.bs b o e).1;have hkind:∀y∈ps.zip us,scope.names.lookup y.1=some .local\/(scope.names.lookup y.1=some .cell/\((cellsFrom (s.heap.objs.size+1) scope.names []).lookup y.1).isSome=true):=λ⟨n,v⟩ hy=>by
  rcases S.par n (jt hy).1 with q|q
  ·exact .inl q
  ·exact .inr ⟨q,PySem.W.cellsFrom_some _ _ _ (.inl q)⟩
 refine codeAny_call_function hr.depth (KX _ _ lk) rfl S.co S.gen rfl (PySem.W.codeRec_of KX hcd) (hb _ _ _ _ ?_);refine wpAny_newFunctionEnv_cells S.kind hkind λenv he s1 x=>?_;subst he;refine⟨lim.keeps x.toInCall.keep,codeAny_func ?_⟩;obtain⟨t,ht,hq⟩:=hbody A outer s H vs Q E (hr.deeper _) hsp;have I:Inv (FO CX P w K mg base N qual scope f cdv A outer s H E) [] (start N vs) H s1:=JZ S hr.hd e0 hl r x;refine iV (ht [] s1 (start N vs) H _ I hq) (λfl s' hs=>?_) λe s' hs=>hs;have fin:∀{σ':St} {H':Hp} {v:V} {u:af},Inv (FO CX P w K mg base N qual scope f cdv A outer s H E) [] σ' H' s'->RelV v u->Q v H'->CE outer P w H s Q u s':=
  λ{σ' H' v u} J rv q=>⟨v,H',J.os,J.bare,J.base,J.hok,rv,q⟩
 cases fl with
 | ret u=>
  obtain⟨v,σ',H',J,rv,q⟩:=hs;exact fin J rv q
 | next=>
  obtain⟨σ',H',J,q⟩:=hs;exact fin (v:=V.non) (u:=Value.none) J rfl q
 | brk=>
  obtain⟨_,_,_,q⟩:=hs;exact False.elim q
 | cont=>
  obtain⟨_,_,_,q⟩:=hs;exact False.elim q
section
variable {X:Cx}{x:Str}{p pos:Pos}{e:aC}{es:List aC}{t:TA}{id T:String}{r:List V->Hp->VK->Prop}
noncomputable def tCB (r:List V->Hp->VK->Prop)(t:TA):TE:=λσ H Q=>t σ H λvs H1=>r vs H1 Q
theorem Ma(hc:kH X (.builtin id) r)(hg:Gl X x)(hm:X.mg x=none)(hv:bootBuiltins x=some (.builtin id))(ha:PA X (e::es) t)(hn:x ≠ "__name__" := by decide)(hdb:(x == ("__debug__" : Str))=false:=by decide)
  (he:starEach (e::es) X.env=(false,eval e X.env)::starEach es X.env:=by rfl) (hpl:(backTo pos (starEach es X.env)).any (·.1)=false:=by rfl):PE X (.Call (.Name x p) (e::es) [] pos) (tCB r t):=by
 intro pins s σ H Q I h;refine iW (u7 I hg hm hv ?_ hn hdb);exact PyProof.Rows.callWith_builtin1 (nY (ha pos pins s σ H _ I h) λus s1 ⟨vs,H1,I1,r1,q1⟩=>hc pins s1 σ H1 vs us Q I1 r1 q1) he hpl
theorem KO(hc:kH X (.type T) r)(hg:Gl X x)(hm:X.mg x=none)(hv:bootBuiltins x=some (.type T))(ha:PA X (e::es) t)(hn:x ≠ "__name__" := by decide)(hdb:(x == ("__debug__" : Str))=false:=by decide)
  (he:starEach (e::es) X.env=(false,eval e X.env)::starEach es X.env:=by rfl) (hpl:(backTo pos (starEach es X.env)).any (·.1)=false:=by rfl):PE X (.Call (.Name x p) (e::es) [] pos) (tCB r t):=by
 intro pins s σ H Q I h;refine iW (u7 I hg hm hv ?_ hn hdb);exact dD (nY (ha pos pins s σ H _ I h) λus s1 ⟨vs,H1,I1,r1,q1⟩=>hc pins s1 σ H1 vs us Q I1 r1 q1) he hpl
end
end L2
namespace HT
open PySem PyProof.Rows
noncomputable def lexLt:List Int->List Int->Bool
 | [],[]=>false
 | [],_::_=>true
 | _::_,[]=>false
 | x::xs,y::ys=>if x=y then lexLt xs ys else decide (x<y)
theorem pY(x y:Int)(xs ys:List Int):lexLt (x::xs) (y::ys)=if x=y then lexLt xs ys else decide (x<y):=rfl
theorem oW:lexLt [] []=false:=rfl
theorem mX(y:Int)(ys:List Int):lexLt [] (y::ys)=true:=rfl
theorem n6(x:Int)(xs:List Int):lexLt (x::xs) []=false:=rfl
theorem Nh(A:az)(s:aA)(a:Int)(t:Tok)(c:Int)(u:Tok):∃e,SeqAt.EqAt A s (.int a t) (.int c u) e/\(e=true ↔ a=c):=
 ⟨(a == c),SeqAt.EqAt.int_int a t c u,by simp⟩
theorem O0(A:az)(s:aA)(a:Int)(t:Tok)(c:Int)(u:Tok)(prog:aj)(w:ah)(E:af->aA->Prop)(Q:af->aA->Prop)(h:Q (.bool (decide (a<c))) s) :
  wpAny (model prog w) A (richCompare .Lt (.int a t) (.int c u)) Q E s:=
 (PyProof.Rows.lt_int h:wpAny (model prog w) A (compareOp .Lt (.int a t) (.int c u)) Q E s)
section
open PySem.SeqAt
open PySem.AutoSeq1 (wpAny_loadPart')
open PySem.MeetsSeq PySem.MeetsSeq2 PySem.MeetsSeq3
theorem AB(l b:ak)(items items2:Array af)(n n2:Nat)(dd dd2:Option ak)(sl sl2:Array (Option af))(ns ms:List Int)(hi:IntsAre items.toList ns)(hj:IntsAre items2.toList ms) :
  Meets (Builtin.«tuple.__lt__» ⟨[.ref l,.ref b],[]⟩)
   (λ_ R s=>s.heap.get? l=some { cls:=.type "tuple",dict:=dd,data:=.seq items n,slots:=sl }/\s.heap.get? b=some { cls:=.type "tuple",dict:=dd2,data:=.seq items2 n2,slots:=sl2 } /\
    R (.ok (.ret (.bool (lexLt ns ms)))) s):=
 .of_wp λprog w A R s h=>by
  obtain⟨hp,g,d,tk,os⟩:=s;obtain⟨hl,hb,h⟩:=h;have f2:=AutoSeq1.sub_tuple_tuple;have z1:items.size=ns.length:=by rw[<- hi.length];simp
  have z2:items2.size=ms.length:=by rw[<- hj.length];simp
  wp_walk using wpAny_loadPart' hl,wpAny_loadPart' hb,wpAny_forIn_list _ (λrest b s'=>b.1=none/\s'=⟨hp,g,d,tk,os⟩/\∃(vs ws:List af) (ns' ms':List Int),rest=vs.zip ws /\
   IntsAre vs ns'/\IntsAre ws ms'/\ns'.length+items2.size=ms'.length+items.size/\R (.ok (.ret (.bool (lexLt ns' ms')))) ⟨hp,g,d,tk,os⟩) _
  case turn=>
   rintro⟨y,x⟩ rest b s' ⟨hb',rfl,vs,ws,ns',ms',hz,hvi,hwi,hlen,hR⟩
   cases hvi with
   | nil=>rw[List.zip_nil_left]at hz;cases hz
   | cons a t hvi'=>
    cases hwi with
    | nil=>rw[List.zip_nil_right]at hz;cases hz
    | cons c u hwi'=>
     rw[iX]at hz
     injection hz with hyx hrest
     injection hyx with hy hx
     subst hy hx;rw[pY]at hR;simp only[aZ]at hlen;obtain⟨e,he,hiff⟩:=Nh A.in1 ⟨hp,g,d,tk,os⟩ a t c u;refine aG (he prog w _ _ ?_)
     cases e with
     | true=>
      rw[aM (hiff.mp rfl)]at hR
      wp_walk
      exact⟨rfl,rfl,_,_,_,_,hrest,hvi',hwi',by lia,hR⟩
     | false=>
      rw[aK (λq=>absurd (hiff.mpr q) bI)]at hR;have hri:=O0 A.in1 ⟨hp,g,d,tk,os⟩ a t c u prog w
      wp_walk using hri
      exact⟨_,rfl,by simpa using hR⟩
  case fin=>
   rintro⟨b1,b2⟩ s' ⟨hb',rfl,vs,ws,ns',ms',hz,hvi,hwi,hlen,hR⟩;simp only at hb';subst hb';have hv:lexLt ns' ms'=decide (items.size<items2.size):=by
    cases hvi with
    | nil=>
     cases hwi with
     | nil=>
      simp only[bK]at hlen;rw[oW];exact(bq (by lia)).symm
     | cons c u hw=>
      simp only[bK,aZ]at hlen;rw[mX];exact(bh (by lia)).symm
    | cons a t hv=>
     cases hwi with
     | nil=>
      simp only[bK,aZ]at hlen;rw[n6];exact(bq (by lia)).symm
     | cons c u hw=>
      rw[iX]at hz
      cases hz
   rw[hv]at hR
   wp_walk
   exact⟨_,rfl,by simpa[Builtin.Tuple.tupleCompareSizes]using hR⟩
  case h=>
   exact⟨rfl,rfl,items.toList,items2.toList,ns,ms,rfl,hi,hj,by lia,h⟩
end
section
variable {prog:aj}{w:ah}{A:az}{E:af->aA->Prop}{s:aA}
theorem Gu{l:ak}{items items2:Array af}{ns:List Int}{Q:af->aA->Prop}(hl:IsTup s.heap l items)(hb:IsTup s.heap b items2)(hi:IntsAre items.toList ns)(hj:IntsAre items2.toList ms)
  (hu:A.units<cLine) (h:Q (.bool (lexLt ns ms)) s):wpAny (model prog w) A (compareOp .Lt (.ref l) (.ref b)) Q E s:=by
 obtain⟨⟨cls,dd,data,sl⟩,ho,hc,n,hd⟩:=id hl;obtain⟨⟨cls2,dd2,data2,sl2⟩,ho2,hc2,n2,hd2⟩:=id hb;simp only at hc hd hc2 hd2;subst hc hd hc2 hd2;exact richCompare_meets_room (op:=.Lt) ⟨_,ho,rfl⟩ ⟨_,ho2,rfl⟩ PySem.F.slot_tuple_lt PySem.F.entry_tuple_lt (PySem.F.args_tuple_lt_2 _ _) (AB l b items items2 n n2 dd dd2 sl sl2 ns ms hi hj)
  ⟨ho,ho2,show Value.bool (lexLt ns ms)≠Value.notImplemented/\Q (.bool (lexLt ns ms)) s from⟨(λx=>nomatch x),h⟩⟩ hu
theorem QI{t:ak}{vs ws:List af}{Q:af->aA->Prop}(ht:IsTup s.heap t vs.toArray)(hb:IsTup s.heap b ws.toArray)(hv:vs≠[])
  (h1:ws=[]->Q (.ref t) s) (h2:ws≠[]->Q (.ref s.heap.objs.size) { s with heap:=s.heap.push { cls:=.type "tuple",data:=.seq (vs++ws).toArray }})
  (hsz:vs.length+ws.length<=sizeLine):wpAny (model prog w) A (binaryOp .Add (.ref t) (.ref b)) Q E s:=by
 obtain⟨⟨cls,dd,data,sl⟩,ho,hc,n,hd⟩:=id ht;obtain⟨⟨cls2,dd2,data2,sl2⟩,ho2,hc2,n2,hd2⟩:=id hb;simp only at hc hd hc2 hd2;subst hc hd hc2 hd2;have e:vs.toArray++ws.toArray=(vs++ws).toArray:=by simp
 by_cases hw:ws=[]
 ·exact concat_meets ⟨_,ho,rfl⟩ ⟨_,ho2,rfl⟩ noFill_tuple_add seq_tuple_add gR gO (gw _ _)
   (tuple_addW1 t b vs.toArray ws.toArray n n2 dd dd2 sl sl2 (by simpa using hv) (by simp[hw])) ⟨ho,ho2,h1 hw⟩
 ·refine concat_meets ⟨_,ho,rfl⟩ ⟨_,ho2,rfl⟩ noFill_tuple_add seq_tuple_add gR gO (gw _ _)
   (tuple_addW2 t b vs.toArray ws.toArray n n2 dd dd2 sl sl2 (by simpa using hv) (by simpa using hw) (by rw[bg,bg];exact hsz)) ⟨ho,ho2,?_⟩
  rw[e];exact h2 hw
noncomputable def X4 (n d:Nat):Option Int->Nat
 | none=>d
 | some v=>if v<0 then(v+(n:Int)).toNat else min v.toNat n
end
end HT
namespace L2
open PySem PySem.Spec PyProof.Rows
noncomputable abbrev TO:=St->Hp->(Option Int->Hp->Prop)->Prop
theorem intsAre_of{ns:List Int}:∀{us:List af},Vals (ns.map V.int) us->IntsAre us ns:=by
 induction ns with
 | nil=>intro us r;rw[gf]at r;cases r;exact .nil
 | cons n ns ih=>
  intro us r;rw[bE]at r
  cases r with
  | cons r1 r2=>
   obtain⟨t,e⟩:=r1;subst e;exact .cons n t (ih r2)
section
variable {X:Cx}{p2:Pos}
noncomputable def Yp (K:au):R2:=λx y H Q=>∃a b xs ys,x=.ref a/\y=.ref b/\nq K H a xs/\nq K H b ys/\xs≠[]/\xs.length+ys.length<=sizeLine /\
 (ys=[]->Q (.ref a) H)/\(ys≠[]->∀p,H p=none->Q (.ref p) (upd H p (.tup (xs++ys))))
theorem Vals.B7(r:Vals xs us):us=[] ↔ xs=[]:=by
 cases r with
 | nil=>simp
 | cons _ _=>simp
theorem Q0:o_ X (binaryOp .Add) (Yp X.K):=by
 intro pins s σ H x y v u Q I rx ry h;obtain⟨a,b,xs,ys,rfl,rfl,ha,hb,hx,hz,q1,q2⟩:=h
 cases rx
 cases ry
 obtain⟨its,r1,p1,_⟩:=I.tuple ha;obtain⟨its2,r2,p2,_⟩:=I.tuple hb;refine HT.QI p1 p2 (λz=>hx (r1.B7.mp z)) (λz=>⟨.ref a,H,I,rfl,q1 (r2.B7.mp z)⟩) (λz=>?_) (by rw[<- r1.length,<- r2.length];exact hz);refine⟨.ref s.heap.objs.size,_,I.laid (t':=s.toks) (o:=.tup (xs++ys)) (λb ob q=>aS _ q) (aQ _) ?_,rfl,q2 (λw=>z (r2.B7.mpr w)) _ (I.hok.fresh (aQ _))⟩;exact⟨by rw[aO];exact hz,_,r1.append r2,qf.new _ _⟩
end
noncomputable def A2 (n:Nat)(i:Int):Option Nat:=if 0<=i then(if i<n then some i.toNat else none)else if -(n:Int)<=i then some (i+n).toNat else none
noncomputable def sd {α:Type}(xs:List α)(i:Int):Option α:=(A2 xs.length i).bind λj=>xs[j]?
theorem Jt{n:Nat}{i:Int}(h:A2 n i=some j):seqIndex? i n=some j/\j<n/\-(n:Int)<=i/\i<n:=by
 unfold A2 at h;by_cases h0:0<=i
 ·rw[aM h0]at h;by_cases h1:i<n
  ·rw[aM h1]at h;have e:i.toNat=j:=a_ h;exact⟨by rw[seqIndex_of h0 h1,e],by lia,by lia,h1⟩
  ·rw[aK h1]at h;cases h
 ·rw[aK h0]at h;by_cases h1:-(n:Int)<=i
  ·rw[aM h1]at h;have e:(i+n).toNat=j:=a_ h;exact⟨by rw[seqIndex_neg (by lia) h1,e],by lia,h1,by lia⟩
  ·rw[aK h1]at h;cases h
theorem BR{α:Type}{xs:List α}{i:Int}{v:α}(h:sd xs i=some v):∃j,seqIndex? i xs.length=some j/\xs[j]?=some v/\j<xs.length/\-(xs.length:Int)<=i/\i<xs.length:=by
 unfold sd at h
 cases e:A2 xs.length i with
 | none=>rw[e]at h;cases h
 | some j=>
  rw[e]at h;obtain⟨h1,h2,h3,h4⟩:=Jt e;exact⟨j,h1,h,h2,h3,h4⟩
theorem Qg{α:Type}{xs:List α}{j:Nat}{v:α}(h:xs[j]?=some v):sd xs (j:Int)=some v:=by
 have hj:j<xs.length:=(aN.mp h).1;have e:A2 xs.length (j:Int)=some j:=by
  unfold A2;rw[aM (by lia),aM (by lia)];simp
 unfold sd;rw[e];exact h
noncomputable def yw (b:aC):Prop:=∀o i,subscripted b false o i=operate [o,i] (getItem o i)
noncomputable def Uq (X:Cx)(r:R2):Prop:=
 ∀(value slice:aC) (pins:List (ak×Obj)) (s:aA) (σ:St) (H:Hp) (x y:V) (v u:af) (Q:VK),Inv X pins σ H s->RelV x v->RelV y u->r x y H Q ->
  subscripted slice false v u=operate [v,u] (getItem v u)->wpAny (model X.prog X.w) X.A (subscriptTail value slice v u) (EP X pins σ Q) X.xe s
noncomputable def TR (X:Cx)(id:String)(r:V->List V->Hp->VK->Prop):Prop:=
 ∀(pins:List (ak×Obj)) (s:aA) (σ:St) (H:Hp) (x:V) (xs:List V) (v:af) (us:List af) (Q:VK),Inv X pins σ H s->RelV x v->Vals xs us->r x xs H Q ->
  wpAny (model X.prog X.w) X.A (call (.builtin id) (v::us)) (EP X pins σ Q) X.xe s
section
variable {X:Cx}{a b:aC}{ta tb:TE}{pos:Pos}
theorem Ph{r:R2}(hr:Uq X r)(ha:PE X a ta)(hb:PE X b tb)(hs:yw b):PE X (.Subscript a b pos) (Xj r ta tb):=by
 intro pins s σ H Q I h;exact Subscript_ (WJ ha hb I h λv u s2 x y H2 I2 rx ry q=>hr a b pins s2 σ H2 x y v u Q I2 rx ry q (hs _ _))
noncomputable def aaA (K:au):R2:=λx y H Q=>∃p xs i v,x=.ref p/\y=.int i/\pW K H p xs/\sd xs i=some v/\Q v H
noncomputable def aav (K:au):R2:=λx y H Q=>∃p xs i v,x=.ref p/\y=.int i/\nq K H p xs/\sd xs i=some v/\Q v H
noncomputable def aaz:R2:=λx y H Q=>∃z i c,x=.str z/\y=.int i/\z.length<=sizeLine/\sd z.cps.toList i=some c/\Q (.str ⟨#[c]⟩) H
theorem G8:Uq X (aaA X.K):=by
 intro value slice pins s σ H x y v u Q I rx ry h hs;obtain⟨p,xs,i,z,rfl,rfl,hq,he,q⟩:=h
 cases rx
 obtain⟨t,rfl⟩:=ry;obtain⟨its,r,pl,hz⟩:=I.list hq;obtain⟨j,h1,h2,h3,h4,h5⟩:=BR he;obtain⟨w,ew,rw'⟩:=r.get h2;have hl:=r.length;have hn:=wL;have fin:EP X pins σ Q w s:=⟨z,H,I,rw',q⟩;by_cases h0:0<=i
 ·have hj:i.toNat=j:=by
   rw[seqIndex_of h0 h5]at h1;exact a_ h1
  exact item_listR pl.isList h0 (by lia) (by rw[hj];simpa using ew) fin hs
 ·have hj:(i+(its.toArray.size:Int)).toNat=j:=by
   rw[seqIndex_neg (by lia) h4]at h1;rw[bg,<- hl];exact a_ h1
  exact subscriptTail_builtinR (x:=w) pl.isList.typeIs slot_list_getitem.lookup
   (wpAny_getItem_list_neg (Q:=λr s'=>r=w/\EP X pins σ Q r s') pl.isList (by lia) (by rw[bg]<;>lia) (by lia) (by rw[hj];simpa using ew) ⟨rfl,fin⟩) hs
theorem U9:Uq X (aav X.K):=by
 intro value slice pins s σ H x y v u Q I rx ry h hs;obtain⟨p,xs,i,z,rfl,rfl,hq,he,q⟩:=h
 cases rx
 obtain⟨t,rfl⟩:=ry;obtain⟨its,r,pl,hz⟩:=I.tuple hq;obtain⟨j,h1,h2,h3,h4,h5⟩:=BR he;obtain⟨w,ew,rw'⟩:=r.get h2;have hl:=r.length;have hn:=wL;have fin:EP X pins σ Q w s:=⟨z,H,I,rw',q⟩;exact subscriptTail_builtinR (x:=w) pl.typeIs slot_tuple_getitem.lookup
  (getItem_tuple (j:=j) (Q:=λr s'=>r=w/\EP X pins σ Q r s') pl (by lia) (by lia) (by rw[bg,<- hl];exact h1) (by simpa using ew) ⟨rfl,fin⟩) hs
theorem VY:Uq X aaz:=by
 intro value slice pins s σ H x y v u Q I rx ry h hs;obtain⟨z,i,c,rfl,rfl,hz,he,q⟩:=h;obtain⟨t,rfl⟩:=rx;obtain⟨t',rfl⟩:=ry;obtain⟨j,h1,h2,h3,h4,h5⟩:=BR he;have hl:z.cps.toList.length=z.length:=by simp[Str.length]
 rw[hl]at h1 h4 h5;have hn:=wL;exact tail_any (typeIs_str s z t) slot_str_getitem.lookup (getItem_str (c:=c) (by
  have e1:decide (i < -(2 ^ 63:Int))=false:=bq (by lia);have e2:decide (i>=2 ^ 63)=false:=bq (by lia);rw[e1,e2,Bool.or_false]) (by rw[h1];simpa using h2) ⟨.str ⟨#[c]⟩,H,I.tok _,⟨_,rfl⟩,q⟩) hs
theorem GK(its:List af)(n j:Nat)(u:af):Obj.mapSeq (·.setIfInBounds j u) { cls:=.type "list",data:=.seq its.toArray n }={ cls:=.type "list",data:=.seq (its.set j u).toArray n }:=by
 simp[Obj.mapSeq]
theorem Inv.lst{H:Hp}{s:aA}{p:ak}{xs:List V}(I:Inv X pins σ H s)(h:H p=some (.lst xs)) :
  ∃(its:List af) (n:Nat),Vals xs its/\s.heap.get? p=some { cls:=.type "list",data:=.seq its.toArray n }/\xs.length<=sizeLine:=by
 obtain⟨z,its,n,r,e⟩:=I.hok p _ h;exact⟨its,n,r,e,z⟩
theorem Inv.Wk{H:Hp}{s:aA}{p:ak}{ys:List V}{its its':List af}{n:Nat}{f:Obj->Obj}(I:Inv X pins σ H s)(h:H p=some (.lst xs))
  (ho:s.heap.get? p=some { cls:=.type "list",data:=.seq its.toArray n }) (hf:f { cls:=.type "list",data:=.seq its.toArray n }={ cls:=.type "list",data:=.seq its'.toArray n' }) (r:Vals ys its') (hz:ys.length<=sizeLine) (t:Nat) :
  Inv X pins σ (upd H p (.lst ys)) { s with heap:=s.heap.update p f,toks:=t }:=by
 have e:(s.heap.update p f).get? p=some { cls:=.type "list",data:=.seq its'.toArray n' }:=by
  rw[fW f ho (by rw[hf]<;>rfl),hf]
 refine I.write (x:=p) (e:=p) (by rw[h];trivial) (.inl rfl) (λb u hb q=>(Heap.get?_update_other _ _ (c7 hb)).trans q) ⟨_,e⟩ ?_;exact⟨hz,its',n',r,e⟩
noncomputable def Xv:V->V->V->Hp->(Hp->Prop)->Prop:=λo i v H Q=>∃p xs k j,o=.ref p/\i=.int k/\H p=some (.lst xs)/\A2 xs.length k=some j/\Q (upd H p (.lst (xs.set j v)))
theorem set_list:JE X Xv:=by
 intro pins s σ H o i v ov iv u Q I ro ri rv h;obtain⟨p,xs,k,j,rfl,rfl,hp,hj,q⟩:=h
 cases ro
 obtain⟨t,rfl⟩:=ri;obtain⟨its,n,r,ho,hz⟩:=I.lst hp;obtain⟨h1,h2,h3,h4⟩:=Jt hj;have hl:=r.length;have hn:=wL;have I':Inv X pins σ (upd H p (.lst (xs.set j v))) { s with heap:=s.heap.update p (Obj.mapSeq (·.setIfInBounds j u))}:=
  I.Wk hp ho (GK its n j u) (r.set rv j) (by rw[b9];exact hz) s.toks
 by_cases h0:0<=k
 ·have hk:k.toNat=j:=by
   rw[seqIndex_of h0 h4]at h1;exact a_ h1
  exact PySem.W.ki_setAt ho h0 (by lia) (by rw[bg,<- hl];exact h4) (by rw[hk];exact⟨_,I',q⟩)
 ·have hk:(k+(its.toArray.size:Int)).toNat=j:=by
   rw[seqIndex_neg (by lia) h3]at h1;rw[bg,<- hl];exact a_ h1
  exact PySem.W.ki_setBack ho (by lia) (by rw[bg,<- hl];exact h3) (by lia) (by rw[hk];exact⟨_,I',q⟩)
noncomputable def zu:V->Bool
 | .non=>true
 | .bl _=>true
 | .int _=>true
 | .str _=>true
 | _=>false
noncomputable def Rq:V->V->Bool
 | .non,.non=>true
 | .bl a,.bl b=>a == b
 | .bl a,.int b=>(if a then 1 else 0) == b
 | .int a,.bl b=>a == (if b then 1 else 0)
 | .int a,.int b=>a == b
 | .str a,.str b=>a == b
 | _,_=>false
theorem Uv{A:az}{x:V}{v:af}(ry:RelV y u)(rx:RelV x v)(fy:zu y=true)(fx:zu x=true):SeqAt.EqAt A s u v (Rq y x):=by
 cases y with
 | non=>
  cases ry
  cases x with
  | non=>cases rx;exact SeqAt.EqAt.same _
  | bl b=>cases rx;exact SeqAt.EqAt.none_bool b
  | int b=>obtain⟨t,rfl⟩:=rx;exact SeqAt.EqAt.none_int b t
  | str b=>obtain⟨t,rfl⟩:=rx;exact SeqAt.EqAt.none_str b t
  | _=>exact absurd (show false=true from fx) bI
 | bl a=>
  cases ry
  cases x with
  | non=>cases rx;exact SeqAt.EqAt.bool_none a
  | bl b=>cases rx;exact SeqAt.EqAt.bool_bool a b
  | int b=>obtain⟨t,rfl⟩:=rx;exact SeqAt.EqAt.bool_int a b t
  | str b=>obtain⟨t,rfl⟩:=rx;exact SeqAt.EqAt.bool_str a b t
  | _=>exact absurd (show false=true from fx) bI
 | int a=>
  obtain⟨t',rfl⟩:=ry
  cases x with
  | non=>cases rx;exact SeqAt.EqAt.int_none a t'
  | bl b=>cases rx;exact SeqAt.EqAt.int_bool a t' b
  | int b=>obtain⟨t,rfl⟩:=rx;exact SeqAt.EqAt.int_int a t' b t
  | str b=>obtain⟨t,rfl⟩:=rx;exact SeqAt.EqAt.int_str a t' b t
  | _=>exact absurd (show false=true from fx) bI
 | str a=>
  obtain⟨t',rfl⟩:=ry
  cases x with
  | non=>cases rx;exact SeqAt.EqAt.str_none a t'
  | bl b=>cases rx;exact SeqAt.EqAt.str_bool a t' b
  | int b=>obtain⟨t,rfl⟩:=rx;exact SeqAt.EqAt.str_int a t' b t
  | str b=>obtain⟨t,rfl⟩:=rx;exact SeqAt.EqAt.str_str a t' b t
  | _=>exact absurd (show false=true from fx) bI
 | _=>exact absurd (show false=true from fy) bI
theorem r9:kH X (.type "list") (λxs H Q=>∃p ys,xs=[.ref p]/\(pW X.K H p ys\/nq X.K H p ys)/\∀l,H l=none->Q (.ref l) (upd H l (.lst ys))):=by
 intro pins s σ H xs us Q I r h;obtain⟨p,ys,rfl,hq,q⟩:=h;obtain⟨u,rfl,rx⟩:=vals1 r
 cases rx
 have fin:∀(its:List af),Vals ys its->ys.length<=sizeLine->∀(h':aq) (c':Nat),(∀b o',s.heap.get? b=some o'->h'.get? b=some o') ->
   h'.get? s.heap.objs.size=some { cls:=.type "list",dict:=none,data:=.seq its.toArray c',slots:=#[]}->EP X pins σ Q (.ref s.heap.objs.size) { s with heap:=h' }:=λits r' hz h' c' kp e=>
  ⟨.ref s.heap.objs.size,_,I.laid (t':=s.toks) kp (aQ _) (show lU X.prog X.w _ h' _ (.lst ys)from⟨hz,its,c',r',e⟩),rfl,q _ (I.hok.fresh (aQ _))⟩
 rcases hq with hq|hq
 ·obtain⟨its,r',pl,hz⟩:=I.list hq;have hlen:=r'.length;obtain⟨o,ho,hc,n,hd⟩:=pl.isList;exact call_list_seq p (.inl rfl) ho hc hd (λh' c' kp e=>fin its r' hz h' c' kp e) (by simp only[bg]<;>lia)
 ·obtain⟨its,r',pl,hz⟩:=I.tuple hq;have hlen:=r'.length;obtain⟨o,ho,hc,n,hd⟩:=pl;exact call_list_seq p (.inr rfl) ho hc hd (λh' c' kp e=>fin its r' hz h' c' kp e) (by simp only[bg]<;>lia)
theorem qT:kH X (.type "tuple") (λxs H Q=>∃p ys,xs=[.ref p]/\((pW X.K H p ys/\∀l,H l=none->Q (.ref l) (upd H l (.tup ys)))\/(nq X.K H p ys/\Q (.ref p) H))):=by
 intro pins s σ H xs us Q I r h;obtain⟨p,ys,rfl,h⟩:=h;obtain⟨u,rfl,rx⟩:=vals1 r
 cases rx
 rcases h with⟨hq,q⟩|⟨hq,q⟩
 ·obtain⟨its,r',pl,hz⟩:=I.list hq;have hlen:=r'.length;refine call_tuple_list pl.isList (λh' kp=>?_) (by simp only[bg]<;>lia);have I1:Inv X pins σ H { s with heap:=h' }:=I.kept (t':=s.toks) kp;have I2:Inv X pins σ (upd H h'.objs.size (.tup ys)) { s with heap:=h'.push { cls:=.type "tuple",data:=.seq its.toArray }}:=
   I1.laid (t':=s.toks) (λb o e=>aS _ e) (aQ _) (show lU X.prog X.w _ _ _ (.tup ys)from⟨hz,its,r',qf.new _ _⟩)
  exact⟨.ref h'.objs.size,_,I2,rfl,q _ (I1.hok.fresh (aQ _))⟩
 ·obtain⟨its,r',pl,hz⟩:=I.tuple hq;exact call_tuple_same pl ⟨.ref p,H,I,rfl,q⟩
noncomputable def XZ (K:au)(T:String)(x:V)(H:Hp):Prop:=match x with
 | .str _=>T = "str"
 | .int _=>T = "int"
 | .ref p=>(T = "list" /\ ∃xs,pW K H p xs)\/(T = "tuple" /\ ∃o,K.lookup p=some o/\o.cls=.type "tuple" /\ o.dict=none) \/
   (T = "dict" /\ ((∃kvs,H p=some (.dK kvs))\/∃kvs,H p=some (.dT kvs)))\/(T = "set" /\ ∃S n,H p=some (.set S n))
 | _=>False
theorem We{H:Hp}{s:aA}{x:V}{v:af}(I:Inv X pins σ H s)(r:RelV x v)(ty:XZ X.K T x H) :
  s.TypeIs v T/\∀a,v=.ref a->∃ob,s.heap.get? a=some ob/\ob.dict=none:=by
 cases x with
 | str z=>
  obtain⟨t,rfl⟩:=r
  cases(show T = "str" from ty)
  exact⟨typeIs_str s z t,λ_ e=>nomatch e⟩
 | int i=>
  obtain⟨t,rfl⟩:=r
  cases(show T = "int" from ty)
  exact⟨typeIs_int s i t,λ_ e=>nomatch e⟩
 | ref p=>
  cases r
  rcases ty with⟨rfl,xs,hq⟩|⟨rfl,o,hk,hc,hd⟩|⟨rfl,hk⟩|⟨rfl,S,n,hk⟩
  ·obtain⟨its,_,pl,_⟩:=I.list hq;refine⟨pl.isList.typeIs,λa e=>?_⟩
   cases e
   obtain⟨o,n,e,c,hd,_⟩:=pl;exact⟨o,e,hd⟩
  ·refine⟨⟨o,I.Di p o hk,hc⟩,λa e=>?_⟩
   cases e
   exact⟨o,I.Di _ o hk,hd⟩
  ·have z:∃o,s.heap.get? p=some o/\o.ExactDict:=by
    rcases hk with⟨kvs,hk⟩|⟨kvs,hk⟩
    ·obtain⟨_,_,_,_,o,_,_,e,ex,_⟩:=I.hok p _ hk;exact⟨o,e,ex⟩
    ·obtain⟨_,_,_,_,o,_,_,e,ex,_⟩:=I.hok p _ hk;exact⟨o,e,ex⟩
   obtain⟨o,e,ex⟩:=z;refine⟨⟨o,e,ex.1⟩,λa e2=>?_⟩
   cases e2
   exact⟨o,e,ex.2.1⟩
  ·obtain⟨o,_,_,_,e,ex,_⟩:=I.hok p _ hk;refine⟨⟨o,e,ex.1⟩,λa e2=>?_⟩
   cases e2
   exact⟨o,e,ex.2.1⟩
 | _=>exact False.elim ty
noncomputable def tBM (K:au)(T:String)(r:V->List V->Hp->VK->Prop)(to:TE)(t:TA):TE:=λσ H Q=>to σ H λx H1=>XZ K T x H1/\t σ H1 λxs H2=>r x xs H2 Q
variable {o e:aC}{es:List aC}{to:TE}{t:TA}{name:Str}{apos cpos:Pos}{T id:String}{r:V->List V->Hp->VK->Prop}
theorem Lx(pa:PlainAttrs T)(slot:Slot T name id)(hty:typeOf (.builtin id)=pure (.type "method_descriptor"))(hm:TR X id r)(ho:PE X o to)(ha:PA X (e::es) t)
  (hbase:attributeBase o name X.env (eval o X.env)=eval o X.env:=by rfl)
  (hfew:((backTo cpos (starEach (e::es) X.env)).all (λx=>!x.1) && (backToKw cpos (keywordEach [] X.env)).all (λx=>x.1.isSome)
   && decide ((e::es).length+([]:List Keyword).length+(if ([]:List Keyword).isEmpty then 0 else 1)<30))=true:=by rfl)
  (hline:(apos.endLine == cpos.line)=true:=by rfl) (hs:starEach (e::es) X.env=(false,eval e X.env)::starEach es X.env:=by rfl) (hplain:(backTo cpos (starEach es X.env)).any (·.1)=false:=by rfl) :
  PE X (.Call (.Attribute o name apos) (e::es) [] cpos) (tBM X.K T r to t):=by
 intro pins s σ H Q I h;refine wpAny_Call_method_late hbase hfew hline rfl (nY (ho pins s σ H _ I h) λv s1 ⟨x,H1,I1,r1,ty,q1⟩=>?_);obtain⟨h1,h2⟩:=We I1 r1 ty;refine⟨T,id,pa,slot,hty,h1,h2,?_⟩;have hA:=ha cpos pins s1 σ H1 _ I1 q1;rw[hs]at hA ⊢;refine Calls.callWith_builtin (by show(false || (backTo cpos (starEach es X.env)).any (·.1))=false;rw[hplain]<;>rfl) (Calls.evalArgs_plain ?_);exact nY hA λus s2 ⟨vs,H2,I2,r2,q2⟩=>hm pins s2 σ H2 x vs v us Q I2 r1 r2 q2
end
noncomputable def Z6 (X:Cx)(id:String)(r:V->List V->Hp->VK->Prop):Prop:=
 ∀(pins:List (ak×Obj)) (s:aA) (σ:St) (H:Hp) (x:V) (xs:List V) (v:af) (us:List af) (Q:VK),Inv X pins σ H s->RelV x v->Vals xs us->r x xs H Q ->
  wpAny (model X.prog X.w) X.A (call (.builtin id) (v::us)) (EP X pins σ Q) X.xe s
theorem Vals.one:∀{x:V}{us:List af},Vals [x] us->∃u,us=[u]/\RelV x u
 | _,_,.cons r .nil=>⟨_,rfl,r⟩
theorem Vals.eraseIdx:∀{xs:List V}{us:List af}(i:Nat),Vals xs us->Vals (xs.eraseIdx i) (us.eraseIdx i)
 | _,_,_,.nil=>.nil
 | _,_,0,.cons _ t=>t
 | _,_,i+1,.cons r t=>.cons r (Vals.eraseIdx i t)
theorem Vals.rep(h:Vals xs us):∀k:Nat,Vals (List.replicate k xs).flatten (List.replicate k us).flatten
 | 0=>.nil
 | k+1=>by
  rw[dc,dc,dW,dW];exact Vals.append h (Vals.rep h k)
theorem A5{α:Type}:∀(l:List α) (i:Nat),(l.eraseIdx i).length<=l.length
 | [],_=>aQ _
 | _::_,0=>Nat.le_succ _
 | _::r,i+1=>Nat.succ_le_succ (A5 r i)
theorem foldl_rep(its:List af):∀(k:Nat) (acc:List af),
  List.foldl (λx1 x2=>x1++x2) acc.toArray (List.replicate k its.toArray)=(acc++(List.replicate k its).flatten).toArray
 | 0,acc=>by simp
 | k+1,acc=>by
  have e:acc.toArray++its.toArray=(acc++its).toArray:=by simp
  have e2:(acc++its)++(List.replicate k its).flatten=acc++(List.replicate (k+1) its).flatten:=by
   rw[dc,dW,cu]
  rw[<- e2,<- foldl_rep its k (acc++its),<- e,dc,eX]
section
variable {X:Cx}{pins:List (ak×Obj)}{σ:St}{H:Hp}{s:aA}{l:ak}{xs ys:List V}
theorem Inv.Za{its its':List af}{n:Nat}{f:Array af->Array af}{t':Nat}(I:Inv X pins σ H s)(hH:H l=some (.lst xs))
  (e:s.heap.get? l=some { cls:=.type "list",data:=.seq its.toArray n }) (hf:f its.toArray=its'.toArray) (hv:Vals ys its') (hz:ys.length<=sizeLine) :
  Inv X pins σ (upd H l (.lst ys)) { s with heap:=s.heap.update l (Obj.mapSeq f),toks:=t' }:=by
 have q:=PySem.IsL.update e f;rw[hf]at q;refine I.write (x:=l) (e:=l) (by rw[hH];exact trivial) (.inl rfl) (λb' u hb hu=>(Heap.get?_update_other s.heap (Obj.mapSeq f) (c7 hb)).trans hu) ⟨_,q⟩ ?_;exact⟨hz,its',_,hv,q⟩
theorem Inv.Vf{its:List af}{t':Nat}(I:Inv X pins σ H s)(hv:Vals ys its)(hz:ys.length<=sizeLine) :
  Inv X pins σ (upd H s.heap.objs.size (.lst ys)) { s with heap:=s.heap.push { cls:=.type "list",data:=.seq its.toArray },toks:=t' }:=
 I.laid (λ_ _ q=>aS _ q) (aQ _) ⟨hz,its,0,hv,bD _ rfl⟩
theorem Inv.fresh(I:Inv X pins σ H s):H s.heap.objs.size=none:=I.hok.fresh (aQ _)
theorem Inv.LY(I:Inv X pins σ H s)(hH:H l=some (.lst xs)):xs.length<=sizeLine/\∃(its:List af) (n:Nat),Vals xs its/\xs.length=its.length/\s.heap.get? l=some { cls:=.type "list",data:=.seq its.toArray n }:=by
 obtain⟨z,its,n,r,e⟩:=I.hok l _ hH;exact⟨z,its,n,r,r.length,e⟩
theorem Lk{n:Nat}(h:n<=sizeLine):Builtin.List.listTooLong n=false:=by
 unfold Builtin.List.listTooLong;exact bq (by lia)
end
section
variable {X:Cx}
noncomputable def Qn:V->List V->Hp->VK->Prop:=λx vs H Q=>∃l xs y,x=.ref l/\vs=[y]/\H l=some (.lst xs)/\xs.length<sizeLine/\Q .non (upd H l (.lst (xs++[y])))
theorem BA:Z6 X "list.append" Qn:=by
 intro pins s σ H x vs v us Q I rx rv h;obtain⟨l,xs,y,rfl,rfl,hH,hz,q⟩:=h
 cases rx
 obtain⟨u,rfl,ru⟩:=rv.one;obtain⟨z,its,n,r,hl,e⟩:=I.LY hH;refine iY F.slot_list_append ⟨_,e,rfl⟩ F.entry_list_append (F.args_list_append_2 _ _) (PySem.list_append l its.toArray n u (by rw[bg];lia)) ⟨e,?_⟩;refine⟨.non,_,I.Za (its':=its++[u]) hH e (by simp) (r.append (.cons ru .nil)) ?_,rfl,q⟩;rw[aO,bB];lia
noncomputable def VT:V->List V->Hp->VK->Prop:=λx vs H Q=>∃l xs i k y,x=.ref l/\vs=[.int i]/\H l=some (.lst xs)/\-(2 ^ 63)<=i/\i<2 ^ 63/\seqIndex? i xs.length=some k/\xs[k]?=some y/\Q y (upd H l (.lst (xs.eraseIdx k)))
theorem N2:Z6 X "list.pop" VT:=by
 intro pins s σ H x vs v us Q I rx rv h;obtain⟨l,xs,i,k,y,rfl,rfl,hH,h1,h2,hk,hy,q⟩:=h
 cases rx
 obtain⟨u,rfl,ru⟩:=rv.one;obtain⟨t,rfl⟩:=ru;obtain⟨z,its,n,r,hl,e⟩:=I.LY hH;obtain⟨w,hw,rw'⟩:=r.get hy;refine iY F.slot_list_pop ⟨_,e,rfl⟩ F.entry_list_pop (F.args_list_pop_2 _ _)
  (MeetsSeq.list_pop_at l its.toArray n i t k w (fitsIndex_both h1 h2) (by rw[bg,<- hl];exact hk) (by rw[<- eU];exact hw) (by rw[bg];lia)) ⟨e,?_⟩
 refine⟨y,_,I.Za (its':=its.eraseIdx k) hH e ?_ (r.eraseIdx k) ?_,rw',q⟩
 ·show its.toArray.eraseIdxIfInBounds k=(its.eraseIdx k).toArray;rw[iy]
 ·have:=A5 xs k;lia
noncomputable def ZK:R2:=λx y H Q=>∃l b xs zs,x=.ref l/\y=.ref b/\H l=some (.lst xs)/\H b=some (.lst zs)/\xs.length+zs.length<=sizeLine/\∀p,H p=none->Q (.ref p) (upd H p (.lst (xs++zs)))
theorem UT:o_ X (binaryOp .Add) ZK:=by
 intro pins s σ H x y v u Q I rx ry h;obtain⟨l,b,xs,zs,rfl,rfl,hH,hB,hz,q⟩:=h
 cases rx
 cases ry
 obtain⟨z,its,n,r,hl,e⟩:=I.LY hH;obtain⟨z2,its2,n2,r2,hl2,e2⟩:=I.LY hB;refine PySem.P.add_list e e2 ?_ (by rw[bg,bg];lia);have ea:its.toArray++its2.toArray=(its++its2).toArray:=by simp
 rw[ea];exact⟨.ref _,_,I.Vf (t':=s.toks) (r.append r2) (by rw[aO];lia),rfl,q _ I.fresh⟩
noncomputable def aar:R2:=λx y H Q=>∃l k xs,x=.ref l/\y=.int k/\H l=some (.lst xs)/\-(2 ^ 63)<=k/\k<2 ^ 63/\xs.length * k.toNat<=sizeLine /\
 ∀p,H p=none->Q (.ref p) (upd H p (.lst (List.replicate k.toNat xs).flatten))
theorem len_rep{α:Type}(xs:List α)(k:Nat):(List.replicate k xs).flatten.length=k * xs.length:=by
 induction k with
 | zero=>simp
 | succ k ih=>rw[dc,dW,aO,ih,eg,jn]
theorem UD:o_ X (binaryOp .Mult) aar:=by
 intro pins s σ H x y v u Q I rx ry h;obtain⟨l,k,xs,rfl,rfl,hH,h1,h2,hz,q⟩:=h
 cases rx
 obtain⟨t,rfl⟩:=ry;obtain⟨z,its,n,r,hl,e⟩:=I.LY hH;have hlen:its.toArray.size * k.toNat<=sizeLine:=by rw[bg,<- hl];exact hz
 have hcap:¬its.toArray.size * k.toNat>(2 ^ 63-1) / 8:=by
  have:(sizeLine:Nat)<=(2 ^ 63-1) / 8:=by decide
  lia
 have hfit:¬(!Builtin.List.listFitsIndex k)=true:=by
  rw[fitsIndex_both h1 h2];exact bI
 have hlong:¬Builtin.List.listTooLong (its.toArray.size * k.toNat)=true:=by
  rw[Lk hlen];exact bI
 have hnew:List.foldl (λx1 x2=>x1++x2) #[] (List.replicate (if its.toArray.isEmpty=true then 0 else k.toNat) its.toArray)=(List.replicate k.toNat its).flatten.toArray:=by
  have f0:∀m:Nat,List.foldl (λx1 x2=>x1++x2) #[] (List.replicate m its.toArray)=(List.replicate m its).flatten.toArray:=λm=>by
   have:=foldl_rep its m [];rw[List.nil_append]at this;exact this
  rw[f0]
  cases its with
  | nil=>simp
  | cons a r'=>rw[aK (by simp)]
 refine wpAny_binaryOp_repeat_ref (T := "list") (U := "int") (by decide) ⟨_,e,rfl⟩ (λs'=>typeIs_int s' k t) noFill_list_mul F.fills_int_mul F.slot_int_rmul repeat_list F.slot_int_index.lookup
  (iY F.slot_int_rmul (typeIs_int s k t) F.entry_int_rmul (F.args_int_rmul_2 _ _) (int___rmul___int_list k t l its.toArray n)
   ⟨e,rfl,⟨_,e,rfl⟩,iY F.slot_list_mul ⟨_,e,rfl⟩ F.entry_list_mul (F.args_list_mul_2 _ _) (AutoListH.list___mul___list_int_3 l its.toArray n k t hfit hcap hlong) ⟨e,?_⟩⟩)
 rw[hnew];exact⟨.ref _,_,I.Vf (t':=s.toks) (r.rep k.toNat) (by rw[len_rep,Nat.mul_comm];exact hz),rfl,q _ I.fresh⟩
end
end L2
namespace Att
open PySem PySem.W PySem.Calls PyProof.Rows
theorem yh{P:Params}:∀(ns:List Int) (vs:List af),WellAll P h vs (ns.map WData.int)->IntsAre vs ns:=by
 intro ns
 induction ns with
 | nil=>
  intro vs w;rw[gf]at w
  cases w
  exact .nil
 | cons n ns ih=>
  intro vs w;rw[bE]at w
  cases w with
  | cons a b=>
   cases a
   exact .cons _ _ (ih _ b)
theorem Kz{l:OpenLaw}{n:Nat}(hn:l.most=some n){P:Params}{h:aq}
  (hpre:l.row.toRowW.claim.pre args=true) (hwl:WellAll P h vals args) :
  ∃a vs ns,vals=[Value.ref a]/\args=[WData.list (ns.map WData.int)]/\h.get? a=some { cls:=.type "list",data:=.seq vs.toArray }/\IntsAre vs ns/\ns.length<=n:=by
 have hsh:WShape.hasAll [] args [.list .int]=true:=(pre_splitW hpre).1;have hc:l.pre.holds [] { args:=args }=true:=(pre_splitW hpre).2;obtain⟨d,r,rfl,h1,h2⟩:=hasAllW_cons hsh;obtain rfl:=hasAllW_nil h2;obtain⟨xs,rfl,h3⟩:=hasW_list h1;obtain⟨ns,rfl⟩:=items_int h3;have hlen:ns.length<=n:=by
  unfold OpenLaw.pre at hc;have h4:(WTm.not (.lt (.lit (.int (n:Int))) (.len (.arg 0)))).holds [] { args:=[.list (ns.map .int)]}=true:=by
   have h4:=(holds_andW hc).1;rw[hn]at h4;exact h4
  have h5:=condW_of h4 (w_not (w_lt w_lit (w_len_list (w_arg rfl))));rw[aH]at h5;refine iD λq=>?_;have q':(n:Int)<((ns.length:Nat):Int):=by lia
  first
   | (rw[bh q']at h5;exact absurd h5 (by decide))
   | (simp at h5;lia)
 cases hwl with
 | cons w1 w2=>
  cases w2
  cases w1 with
  | list ho hall=>exact⟨_,_,ns,rfl,rfl,ho,yh ns _ hall,hlen⟩
theorem J4(l:OpenLaw)(args:List WData):l.row.toRowW.claim.post args (.bool true) args=true:=
 postW_of (r:=l.row.toRowW) (X:=(true == true))
  (show WShape.has [] (.bool true) .bool=true by first|rfl|decide|simp[WShape.has,WShape.arms,WShape.armsAll])
  (show(WTm.eq .res (.lit (.bool true))).value [] { args:=args,res:=some (.bool true),after:=args }=some (.bool (true == true))from w_eq_bool (w_res rfl) w_lit) rfl
theorem DP{l:OpenLaw}{n:Nat}{q:aj}{XP:(Str->Option af)->aq->Prop}{YP:ah->aq->Prop}{d:DefRec}
  (hn:l.most=some n) (hdf:d.params.defaults=[])
  (call:∀(w:ah) (s₀ s₁:aA) (mg mb:Str->Option af) (fa:ak) (o:Obj) (pm cd doc:af) (a:ak) (vs:List af) (ns:List Int),
   Ground q loose [] XP w s₀ mg mb s₁.heap->YP w s₁.heap ->
   s₁.heap.get? fa=some o->o.data=.func (docDef d.name d.params d.body d.scope pm cd doc)->s₁.heap.CodeRec cd d.name->mg d.name=some (.ref fa) ->
   s₁.heap.get? a=some { cls:=.type "list",data:=.seq vs.toArray }->IntsAre vs ns->ns.length<=n->s₁.gens=#[] ->
   codeAny (model l.prog w) callerA (.call (.ref fa) ⟨[.ref a],[]⟩) (λr s'=>r=.ok (.ret (.bool true))/\OldK s₁.heap s'.heap/\s'.os=s₁.os/\AllBare s'.gens) s₁) :
  WalkO q loose XP YP l.row.toRowW d [] (λf vs=>PySem.call f vs):=by
 intro w s₀ s₁ mg mb G Y fa o pm cd doc dV kV ho hd hcd hD hmg hg args vals as hpre hlay hrd hwl hlo;obtain rfl:dV=.none:=Dflts.none hD hdf;obtain rfl:kV=.none:=Dflts.noKw hD;obtain⟨a,vs,ns,rfl,rfl,hobj,hints,hlen⟩:=Kz hn hpre hwl;refine enter_call (iS (call w s₀ s₁ mg mb fa o pm cd doc a vs ns G Y ho (fd_plain hd) hcd hmg hobj hints hlen hg) λr s' hq=>?_);obtain⟨rfl,h2,h3,h4⟩:=hq;exact⟨.inl ⟨.bool true,.bool true,[],rfl,λ_=>rfl,.bool true,J4 l _,λ_=>⟨List.Pairwise.nil,λ_ hm=>(nomatch hm)⟩⟩,h2,h3,h4⟩
end Att
namespace L2
open PySem PySem.Spec PyProof.Rows
theorem uF:∀{vs:List af}{ns:List Int},IntsAre vs ns->Vals (ns.map V.int) vs
 | _,_,.nil=>.nil
 | _,_,.cons n t h=>.cons ⟨t,rfl⟩ (uF h)
noncomputable def Rz (H:Hp):Prop:=∀b,H b=none\/∃o xs,H b=some (.frz o (.lst xs))
theorem Od{P:aj}{w:ah}{K:au}{mg mb:Str->Option af}{CX:PM}{k:Nat}{fa a:ak}{x:Str}{sp:Sp}{s₁:aA}{vs:List af}{ns:List Int}
  (KX:K.In s₁.heap) (hns:s₁.heap.Ns mainGlobals mg) (hb:s₁.heap.Ns builtinsNs mb) (hbb:∀x:Str,x ≠ "__name__" -> mb x=bootBuiltins x) (hlim:s₁.heap.NoLimit) (hg:s₁.gens=#[])
  (ha:s₁.heap.get? a=some { cls:=.type "list",data:=.seq vs.toArray }) (hi:IntsAre vs ns) (hl:ns.length<=sizeLine) (hr:Room k callerA)
  (F:∀base:aq,K.In base->base.Ns mainGlobals mg->FnOk P w K mg base CX k fa fd [x] sp) (hbind:∀(s:aA) (u:af),BindsTo s fd ⟨[u],[]⟩ [(x,u)])
  (hsp:∀H:Hp,Rz H->pW K H a (ns.map V.int)->sp [.ref a] H (λv _=>v=.bl true) λ_ _ _=>False)
  (hCX:∀H e s',CX [] H s₁ (λ_ _ _=>False) e s'->False) :
  codeAny (model P w) callerA (.call (.ref fa) ⟨[.ref a],[]⟩) (λr s'=>r=.ok (.ret (.bool true))/\OldK s₁.heap s'.heap/\s'.os=s₁.os/\AllBare s'.gens) s₁:=by
 have rv:=uF hi;have lenV:=hi.length;have core:∀H:Hp,Rz H->pW K H a (ns.map V.int)->vE P w H s₁.heap->(∀b,H b≠none->b=a)->(H a≠none->K.lookup a=none) ->
   codeAny (model P w) callerA (.call (.ref fa) ⟨[.ref a],[]⟩) (λr s'=>r=.ok (.ret (.bool true))/\OldK s₁.heap s'.heap/\s'.os=s₁.os/\AllBare s'.gens) s₁:=by
  intro H hO hS hok hA hK;have base_of:∀{b:ak} {o:Obj},s₁.heap.get? b=some o->H b=none->(Ct s₁.heap H).get? b=some o:=λe n=>Pg e n;have noA:∀{b:ak} {o:Obj} {es:Array DictEntry} {ep:Nat},s₁.heap.get? b=some o->o.data=.dict es ep->H b=none:=λ{b o es ep} e d=>by
   cases q:H b with
   | none=>rfl
   | some u=>
    have e':b=a:=hA b (by rw[q];simp);subst e';rw[ha]at e;cases e;have d':Data.seq vs.toArray _=Data.dict es ep:=d
    cases d'
  have nsK:∀{b:ak} {m:Str->Option af},s₁.heap.Ns b m->(Ct s₁.heap H).Ns b m:=λ{b m} ⟨o,es,ep,e,d,r⟩=>⟨o,es,ep,base_of e (noA e d),d,r⟩;have hKb:K.In (Ct s₁.heap H):=λb o e=>base_of (KX b o e) (by
   cases q:H b with
   | none=>rfl
   | some u=>
    have e':b=a:=hA b (by rw[q];simp);subst e';rw[hK (by rw[q];simp)]at e;cases e)
  have hM:Mod K mg (Ct s₁.heap H):=⟨hKb,nsK hns,⟨mb,nsK hb,hbb⟩,let⟨mc,h1,h2⟩:=hlim;⟨mc,nsK h1,h2⟩⟩;have e0:Env0 P w K mg (Ct s₁.heap H) callerA [] s₁ H:=⟨rfl,hM,λb o e=>Qa e,Nat.le_of_eq (KR _ _),trivial,λb hb=>absurd (show b∈([]:List ak)from hb) (by simp),hok,.of_eq hg⟩;refine iS ((F _ hKb (nsK hns)).run callerA [] s₁ H ⟨[.ref a],[]⟩ [.ref a] [.ref a] _ _ hr e0 (hbind s₁ (.ref a)) (.cons rfl .nil) (hsp H hO hS)) λr s' h=>?_
  cases r with
  | error e=>exact(hCX H e s' h).elim
  | ok fl=>
   cases fl with
   | next=>exact False.elim h
   | brk=>exact False.elim h
   | cont=>exact False.elim h
   | ret u=>
    obtain⟨v,H',os,bare,un,hok',r',q⟩:=h;have q':v=.bl true:=q;subst q';obtain rfl:u=Value.bool true:=r';refine⟨rfl,OldK.of_keep λb o e=>?_,os,bare⟩
    cases q:H b with
    | none=>exact un.keep b o e q (by intro z;exact absurd (show b∈([]:List ak)from z) (by simp)) (by simp)
    | some u=>
     rcases hO b with z|⟨ob,xs,z⟩
     ·rw[q]at z;cases z
     ·have z2:=un.frzs b ob _ z;obtain⟨e1,_⟩:=hok b _ z;obtain⟨e2,_⟩:=hok' b _ z2;rw[e]at e1;cases e1;exact e2
 cases hk:K.lookup a with
 | some o=>
  have e:=KX a o hk;rw[ha]at e
  cases e
  refine core (λ_=>none) (λ_=>.inl rfl) (.inr ⟨_,vs.toArray,_,hk,rfl,rfl,rfl,by rw[bg,lenV];exact hl,by simpa using rv⟩) (λb u z=>by have z':(none:Option HO)=some u:=z;cases z') (λb z=>absurd rfl z) λz=>absurd rfl z
 | none=>
  refine core (λb=>if b=a then some (.frz { cls:=.type "list",data:=.seq vs.toArray } (.lst (ns.map V.int)))else none) (λb=>?_) (.inl (.inr ⟨{ cls:=.type "list",data:=.seq vs.toArray },aM rfl⟩)) (λb u z=>?_) (λb z=>?_) λ_=>hk
  ·by_cases hb:b=a
   ·exact .inr ⟨_,_,aM hb⟩
   ·exact .inl (aK hb)
  ·by_cases hb:b=a
   ·have z':=(aM hb).symm.trans z
    cases z'
    subst hb;exact⟨ha,by rw[aH];exact hl,vs,_,rv,ha⟩
   ·have z':=(aK hb).symm.trans z
    cases z'
  ·by_cases hb:b=a
   ·exact hb
   ·exact absurd (aK hb) z
theorem RV{l:PySem.W.OpenLaw}{n k:Nat}{q:aj}{XP:(Str->Option af)->aq->Prop}{YP:ah->aq->Prop}{d:DefRec}{K:Params->au}{CX:ah->PM}{sp:ah->Sp}{x:Str}
  (hn:l.most=some n) (hn2:n<=sizeLine) (hdf:d.params.defaults=[]) (hr:Room k callerA)
  (hY:∀(w:ah) (h:aq),YP w h->(K w.params).In h)
  (F:∀(w:ah) (mg:Str->Option af) (fa:ak) (h:aq),(K w.params).In h->h.Ns mainGlobals mg->mg d.name=some (.ref fa) ->
   ∃fd:FuncData,(∀(s:aA) (u:af),BindsTo s fd ⟨[u],[]⟩ [(x,u)]) /\
    ∀base:aq,(K w.params).In base->base.Ns mainGlobals mg->FnOk l.prog w (K w.params) mg base (CX w) k fa fd [x] (sp w))
  (hsp:∀(w:ah) (H:Hp) (a:ak) (ns:List Int),ns.length<=n->Rz H->pW (K w.params) H a (ns.map V.int)->sp w [.ref a] H (λv _=>v=.bl true) λ_ _ _=>False)
  (hCX:∀(w:ah) (H:Hp) (s:aA) (e:af) (s':aA),CX w [] H s (λ_ _ _=>False) e s'->False) :
  PySem.W.WalkO q loose XP YP l.row.toRowW d [] (λf vs=>PySem.call f vs):=by
 refine Att.DP hn hdf λw s₀ s₁ mg mb fa o pm cd doc a vs ns G Y ho hd hcd hmg hobj hints hlen hg=>?_;have KX:=hY w _ Y;obtain⟨fd,hb,hF⟩:=F w mg fa _ KX G.T.g hmg;exact Od KX G.T.g G.T.b G.T.builtins G.T.nolimit hg hobj hints (bJ hlen hn2) hr hF hb (λH hO hS=>hsp w H a ns hlen hO hS) λH e s'=>hCX w H s₁ e s'
noncomputable def uD (s:aE):Arguments:=match s with
 | .FunctionDef _ a _ _ _ _ _ _ _ _=>a
 | _=>{ posonlyargs:=[],args:=[],vararg:=none,kwonlyargs:=[],kw_defaults:=[],kwarg:=none,defaults:=[]}
noncomputable def qG (s:aE):List aE:=match s with
 | .FunctionDef _ _ b _ _ _ _ _ _ _=>b
 | _=>[]
noncomputable def jQ (s:aE):Scope:=match s with
 | .FunctionDef _ _ _ _ _ _ sc _ _ _=>sc
 | _=>{ kind:=.function,names:=[],isGenerator:=false,isCoroutine:=false }
noncomputable abbrev qj:PM:=λ_ _ _ _ _ _=>False
noncomputable abbrev E0:XK:=λ_ _ _=>False
theorem Y4{X:Cx}:Passes qj X E0:=λ_ _ _ _ _ _ _ h=>h.elim
structure Fun (K:au)(x qual:Str)(st:aE)(f:ak)(fd:FuncData):Prop where
 ex:∃(oc:af) (od:Option ak) (kV doc pm:af) (an:Option ak) (cdv ct:af) (osl:Array (Option af)),
  fd=PySem.W.fnOf x qual (uD st) (qG st) (jQ st) .none kV doc pm an cdv ct/\K.lookup f=some ⟨oc,od,.func fd,osl⟩/\PySem.W.codeIn K cdv qual=true
 kp:PySem.W.keepIn K (.ref f)=true
section
variable {P:aj}{w:ah}{K:au}{mg:Str->Option af}{base:aq}
theorem Fun.ok{x:Str}{st:aE}{f:ak}{N ps:List Str}{k:Nat}{sp:Sp}(F:Fun K x qual st f fd)(S:FnScope N ps (jQ st))(len:∀vs H Q E,sp vs H Q E->vs.length=ps.length)
  (hbody:∀(cdv:af) (A:az) (outer:List Env) (s:aA) (H:Hp) (vs:List V) (Q:VK) (E:XK),Room k (A.deeper (envOfC qual (jQ st) s.heap.objs.size f cdv))->sp vs H Q E ->
   ∃t,Co (FO qj P w K mg base N qual (jQ st) f cdv A outer s H E).X5 (qG st) t/\t { nx:=λ_ H'=>Q .non H',rt:=Q } (start N vs) H):FnOk P w K mg base qj (k+1) f fd ps sp:=by
 obtain⟨oc,od,kV,doc,pm,an,cdv,ct,osl,rfl,lk,hcd⟩:=F.ex;refine Xk lk hcd S len λA outer s H vs Q E hr hsp=>?_;obtain⟨t,h,q⟩:=hbody cdv A outer s H vs Q E hr hsp;exact⟨t,h.X5,q⟩
theorem Fun.binds{x:Str}{st:aE}{f:ak}{ps:List Str}(F:Fun K x qual st f fd)
  (h:∀(kV doc pm:af) (an:Option ak) (cdv ct:af) (us:List af),us.length=ps.length->bindArgs (PySem.W.fnOf x qual (uD st) (qG st) (jQ st) .none kV doc pm an cdv ct) ⟨us,[]⟩=pure (ps.zip us)):Binds K fd ps []:=by
 obtain⟨oc,od,kV,doc,pm,an,cdv,ct,osl,rfl,lk,hcd⟩:=F.ex;exact .all (h kV doc pm an cdv ct)
theorem Vr{x:Str}{st:aE}{f:ak}{kV pm ct:af}(l:K.lookup f=some ⟨oc,od,.func (PySem.W.fnOf x qual (uD st) (qG st) (jQ st) .none kV doc pm an cdv ct),osl⟩)
  (c:PySem.W.codeIn K cdv qual=true) (k:PySem.W.keepIn K (.ref f)=true):Fun K x qual st f (PySem.W.fnOf x qual (uD st) (qG st) (jQ st) .none kV doc pm an cdv ct):=⟨⟨oc,od,kV,doc,pm,an,cdv,ct,osl,rfl,l,c⟩,k⟩
end
section
variable {X:Cx}
theorem pv(i:Nat){x:Str}(hN:X.N[i]?=some x:=by rfl)(hv:X3 X.env.scope x:=by first|exact Or.inl rfl|exact Or.inr (Or.inl rfl)|exact Or.inr (Or.inr rfl))(hd:(x == ("__debug__" : Str))=false:=by decide)
  (hcd:(x == ("__classdict__" : Str))=false:=by decide):PE X (.Name x pos) (Yq i):=OJ hN hv hd hcd
end
set_option maxHeartbeats 4000000
noncomputable def Wj (σ:St):Option Nat->Option V
 | some j=>(σ[j]?).getD none
 | none=>none
noncomputable def wk (env:Env):List (Str×NameKind)->List (Str×ak)->List (Str×ak)
 | [],cs=>cs
 | (n,k)::r,cs=>wk env r (if k == .free then(n,(env.cells.lookup n).getD 0)::cs else cs)
theorem GG{scope:Scope}{env:Env}(h:∀y∈scope.names,y.2=.free->∃c,env.cells.lookup y.1=some c):closureFor scope env=pure (wk env scope.names []):=by
 have key:∀(l:List (Str×NameKind)) (cs:List (Str×ak)),(∀y∈l,y.2=.free->∃c,env.cells.lookup y.1=some c) ->
   (forIn l cs (λ(x:Str×NameKind) (r:List (Str×ak))=>(match x with
    | (name,kind)=>if (kind == NameKind.free)=true then(do let c <- cellOf env name;pure (ForInStep.yield ((name,c)::r)))else pure (ForInStep.yield r):Sem (ForInStep (List (Str×ak))))))=(pure (wk env l cs):Sem (List (Str×ak))):=by
  intro l
  induction l with
  | nil=>intro cs _;rfl
  | cons y r ih=>
   intro cs hl;obtain⟨n,k⟩:=y;rw[gG];by_cases hk:k=.free
   ·subst hk;obtain⟨c,hc⟩:=hl (n,.free) aI rfl;have e1:cellOf env n=pure c:=by
     unfold cellOf;rw[hc]
    simp only[bO,cY,e1,pure_bind];rw[ih _ (λz hz=>hl z (aL _ hz))];simp only[wk,bO,cY,hc,eE]
   ·have hb:(k == NameKind.free)=false:=by simpa using hk
    simp only[hb,bf,bU,pure_bind];rw[ih _ (λz hz=>hl z (aL _ hz))];simp only[wk,hb,bf,bU]
 have:=key scope.names [] h;exact(dm (λz=>z >>= λcs=>(pure cs:Sem (List (Str×ak)))) this).trans (pure_bind _ _)
theorem yT:∀{l:List (Str×NameKind)}{x:Str}{k:NameKind},l.lookup x=some k->(x,k)∈l
 | [],_,_,h=>nomatch h
 | (n,k')::r,x,k,h=>by
  rw[gg]at h
  cases hx:x == n with
  | true=>
   rw[hx]at h;have e:x=n:=by simpa using hx
   subst e
   cases h
   exact aI
  | false=>rw[hx]at h;exact aL _ (yT h)
theorem A9{env:Env}{x:Str}{c:ak}:∀{l:List (Str×NameKind)}{cs:List (Str×ak)},(∀y∈l,y.2=.free->∃c,env.cells.lookup y.1=some c)->(wk env l cs).lookup x=some c->env.cells.lookup x=some c\/cs.lookup x=some c
 | [],cs,_,h=>.inr h
 | (n,k)::r,cs,hl,h=>by
  have h':=A9 (l:=r) (λz hz=>hl z (aL _ hz)) h
  rcases h' with h'|h'
  ·exact .inl h'
  ·by_cases hk:k=.free
   ·subst hk;simp only[bO,cY]at h';obtain⟨c',hc⟩:=hl (n,.free) aI rfl;rw[hc,eE,gg]at h'
    cases hx:x == n with
    | true=>
     rw[hx]at h';have e:x=n:=by simpa using hx
     subst e;left;rw[hc];exact h'
    | false=>rw[hx]at h';exact .inr h'
   ·have hb:(k == NameKind.free)=false:=by simpa using hk
    simp only[hb,bf,bU]at h';exact .inr h'
theorem A4{env:Env}{x:Str}:∀{l:List (Str×NameKind)}{cs:List (Str×ak)},(cs.lookup x).isSome=true->((wk env l cs).lookup x).isSome=true
 | [],cs,h=>h
 | (n,k)::r,cs,h=>by
  show((wk env r _).lookup x).isSome=true;refine A4 (l:=r) ?_;by_cases hk:(k == NameKind.free)=true
  ·rw[aM hk,gg]
   cases hx:x == n with
   | true=>rfl
   | false=>exact h
  ·rw[aK hk];exact h
theorem zY{env:Env}{x:Str}:∀{l:List (Str×NameKind)}{cs:List (Str×ak)},(x,NameKind.free)∈l->((wk env l cs).lookup x).isSome=true
 | [],_,h=>nomatch h
 | (n,k)::r,cs,h=>by
  rcases bC.mp h with e|h
  ·cases e
   show((wk env r _).lookup x).isSome=true;refine A4 (l:=r) ?_;rw[aM (by rfl),gg];simp
  ·exact zY (l:=r) h
noncomputable def qm (X:Cx)(scope:Scope)(N:List Str)(C:ak)(s₀:aA)(H₀:Hp)(ex:List ak):Cx where
 prog:=X.prog
 w:=X.w
 K:=X.K
 mg:=X.mg
 base:=X.base
 A:=X.A
 N:=N
 s₀:=s₀
 H₀:=H₀
 env:=compEnvC scope (wk X.env scope.names []) C X.env
 outer:=X.stack
 stack:=X.stack
 ex:=ex
 fn:=λ_=>false
 calm:=X.calm
 pn:=[]
 xe:=λ_ _=>False
structure CpScope (X:Cx)(scope:Scope)(N:List Str)(cap:List (Option Nat)):Prop where
 kind:scope.kind=.function
 nocell:∀y∈scope.names,y.2≠.cell
 nm:∀y∈scope.names,y.2=.local->scope.names.lookup y.1=some .local
 fr:∀y∈scope.names,y.2=.free->X.env.kindOf y.1=some .cell\/X.env.kindOf y.1=some .free
 rl:∀y,((relabel scope X.env).names.lookup y=some .cell\/(relabel scope X.env).names.lookup y=some .free)->(y,NameKind.free)∈scope.names
 len:cap.length=N.length
 nolf:∀x,(x,NameKind.free)∈scope.names->scope.names.lookup x≠some .local
 cp:∀(i j:Nat) (x:Str),N[i]?=some x->cap[i]?=some (some j)->X.N[j]?=some x/\(x,NameKind.free)∈scope.names
theorem V_{X:Cx}{N:List Str}{cap:List (Option Nat)}{H:Hp}{s:aA}{fp:List ak}{h₁:aq}{m:Str->Option af}{tk:Nat}(S:CpScope X scope N cap)(I:Inv X pins σ H s)
  (hf:∀b∈fp,xF X pins H b) (ho:∀b∈fp,∃o,s.heap.get? b=some o) (hn:h₁.Ns s.heap.objs.size m) (hk:∀b o,s.heap.get? b=some o->h₁.get? b=some o) :
  Inv (qm X scope N s.heap.objs.size s H fp) [] (cap.map (Wj σ)) H { s with heap:=h₁,toks:=tk }:=by
 have hfree:∀y∈scope.names,y.2=.free->∃c,X.env.cells.lookup y.1=some c:=λy hy e=>I.ok.has _ (S.fr y hy e);have lk:∀x c,(wk X.env scope.names []).lookup x=some c->X.env.cells.lookup x=some c:=λx c e=>by
  rcases A9 hfree e with z|z
  ·exact z
  ·cases z
 have lt:∀b o,s.heap.get? b=some o->b≠s.heap.objs.size:=λb o e=>bG (bw e);refine⟨⟨I.ok.mod,?_,I.ok.glob,I.ok.blt,aQ _,?_,?_,?_,I.ok.hd,I.ok.frames,.inl rfl,?_,I.bs,bJ I.ok.bsz I.sz,?_,?_,I.stack,I.Jb⟩,rfl,I.bare,Un.kept hk,?_,?_,I.hok.fresh (aQ _),?_,?_,I.hok.kept hk,?_⟩
 ·exact S.kind
 ·intro x y c e1 e2;exact I.ok.inj x y c (lk x c e1) (lk y c e2)
 ·intro x e;have hm:=S.rl x e;have:=zY (env:=X.env) (cs:=[]) hm;exact fm.mp this
 ·intro x c e _;exact absurd e (by simp[qm])
 ·intro b hb;obtain⟨o,e⟩:=ho b hb;refine⟨lt b o e,λx c e2=>(hf b hb).2.2.2.2.1 x c (lk x c e2)⟩
 ·intro b o e hb;obtain⟨_,_,_,h3,_⟩:=hf b hb
  rcases h3 with z|z
  ·exact I.ok.noex b o e z
  ·exact absurd (bQ (bw (I.ok.bs b o e).1) z) (fR _)
 ·intro b hb hz;obtain⟨_,h1,h2,_⟩:=hf b hb
  rcases bC.mp (I.FJ b hz)with z|z
  ·exact h1 z
  ·exact h2 z
 ·refine⟨m,hn,λi x v e1 e2 e3=>?_⟩;rw[aR]at e2
  cases hc:cap[i]? with
  | none=>rw[hc]at e2;cases e2
  | some oj=>
   rw[hc]at e2
   cases oj with
   | none=>cases e2
   | some j=>
    have e2':(σ[j]?).getD none=some v:=a_ e2;obtain⟨hj,hm⟩:=S.cp i j x e1 hc;obtain⟨m0,hn0,hl0⟩:=I.loc;have hσ:σ[j]?=some (some v):=by
     cases h:σ[j]? with
     | none=>rw[h]at e2';cases e2'
     | some z=>rw[h,eE]at e2';rw[e2']
    have hkd:=S.fr (x,.free) hm rfl;have hv:X3 X.env.scope x:=.inr hkd;obtain⟨u,ru,lo⟩:=hl0 j x v hj hσ hv;refine⟨u,ru,?_⟩
    rcases lo with⟨lo,_⟩|⟨_,c,ec,ic⟩
    ·rcases hkd with z|z<;>(rw[z]at lo;cases lo)
    ·have h2:=zY (env:=X.env) (cs:=[]) hm;obtain⟨c',hc'⟩:=fm.mp h2;have:c'=c:=a_ ((lk x c' hc').symm.trans ec);subst this;refine .inr ⟨?_,c',hc',?_⟩
     ·rcases e3 with z|z|z
      ·exfalso;have:(relabel scope X.env).names.lookup x=some .local:=z;have hloc:scope.names.lookup x=some .local:=by
        have hmem:∃k,(x,k)∈(relabel scope X.env).names/\k=.local:=by
         clear hc' h2;have:=yT this;exact⟨_,this,rfl⟩
        obtain⟨k,hk1,rfl⟩:=hmem;obtain⟨⟨n',k'⟩,hm1,hm2⟩:=bz.mp hk1;dsimp only at hm2;split at hm2
        ·cases hm2
        ·cases hm2
         exact S.nm (x,.local) hm1 rfl
       exact False.elim (S.nolf x hm hloc)
      ·exact .inl z
      ·exact .inr z
     ·obtain⟨o,ho',hd⟩:=ic;exact⟨o,hk _ _ ho',hd⟩
 ·intro x c e;obtain⟨v,o,ho',hd⟩:=I.cell x c (lk x c e);exact⟨v,o,hk _ _ ho',hd⟩
 ·intro x c e;exact I.freeC x c (lk x c e)
 ·intro p hp
  cases hp
 ·rw[aH,S.len];rfl
noncomputable def W4 (X:Cx)(ifs:List aC)(t:TT):Prop:=
 ∀(pins:List (ak×Obj)) (s:aA) (σ:St) (H:Hp) (Q:Bool->Hp->Prop),Inv X pins σ H s->t σ H Q ->
  wpAny (model X.prog X.w) X.A (forIn ifs true λc r=>if r=true then do let ok <- isTrue c X.env (eval c X.env);pure (ForInStep.yield ok)else pure (ForInStep.yield r)) (TP X pins σ Q) X.xe s
noncomputable def ZS:TT:=λ_ H Q=>Q true H
theorem Q6{X:Cx}:W4 X [] ZS:=λ_ _ _ H _ I h=>wpAny_tests_nil ⟨H,I,h⟩
theorem QE{X:Cx}{c:aC}{t:TT}(h:PT X c t):W4 X [c] t:=λpins s σ H Q I q=>wpAny_tests_one (h pins s σ H Q I q)
noncomputable def UK (cap:List (Option Nat))(g:TG)(tc:TT)(te:TE)(σ:St)(Q:VK)(J:It)(H1:Hp):Prop:=∀D,H1 D=none ->
 ∃W:Nat->Nat->St->Hp->Prop,(∃m,W 0 m (cap.map (Wj σ)) (upd H1 D (.lst [])))/\∀i m σ' H',W i m σ' H' ->
  (J.stop i H'/\Q (.ref D) H')\/(J.go i H'/\∀x H2,J.yld i H' x H2->g x σ' H2 λσ3 H3=>tc σ3 H3 λb H4=>
   if b=true then te σ3 H4 λy H5=>∃ys,H5 D=some (.lst ys)/\ys.length<sizeLine/\∃m',m'<m/\W (i+1) m' σ3 (upd H5 D (.lst (ys++[y])))
   else ∃m',m'<m/\W (i+1) m' σ3 H4)
noncomputable def Zq (cap:List (Option Nat))(wi:TI)(g:TG)(tc:TT)(te:TE):TE:=λσ H Q=>wi σ H (UK cap g tc te σ Q)
theorem Qf{α:Type}{t:Sem α}{Q Q':α->aA->Prop}{A:az}{E:af->aA->Prop}(h:wpAny M A t Q (λ_ _=>False) s)(hQ:∀a s,Q a s->Q' a s):wpAny M A t Q' E s:=
 iV h hQ λ_ _ f=>f.elim
structure TurnG (ok:Cx->Prop)(P:aj)(w:ah)(K:au)(tg:aC)(J:It)(fp:List ak)(it:ak)(tn:Nat->aq->Prop):Prop where
 obj:∀i h,tn i h->∀b∈fp,∃o,h.get? b=some o/\∀v,o.data≠.cell v
 keep:∀i h h',tn i h->(∀b∈fp,∀o,h.get? b=some o->h'.get? b=some o)->tn i h'
 item:∀(X:Cx),X.prog=P->X.w=w->X.K=K->ok X->∀(i:Nat) (pins:List (ak×Obj)) (s:aA) (σ:St) (H:Hp) (E:af->aA->Prop),Inv X pins σ H s->(∀b∈fp,xF X pins H b)->tn i s.heap->J.go i H ->
  wpAny (model P w) X.A (pyNext (.ref it)) (λr s1=>∃u,r=some u /\
   wpAny (model P w) X.A (letOwnedTupleGo tg (.ref it) u) (λ_ s2=>∃x H',Inv X pins σ H' s2/\RelV x u/\J.yld i H x H'/\tn (i+1) s2.heap/\∀b∈fp,H' b=none) E s1) E s
 done:∀(X:Cx),X.prog=P->X.w=w->X.K=K->ok X->∀(i:Nat) (pins:List (ak×Obj)) (s:aA) (σ:St) (H:Hp) (E:af->aA->Prop),Inv X pins σ H s->(∀b∈fp,xF X pins H b)->tn i s.heap->J.stop i H ->
  wpAny (model P w) X.A (pyNext (.ref it)) (λr s1=>r=none/\Inv X pins σ H s1) E s
 self:∀(A:az) (i:Nat) (s:aA) (Q:af->aA->Prop) (E:af->aA->Prop),tn i s.heap->Q (.ref it) s->wpAny (model P w) A (pyIter (.ref it)) Q E s
noncomputable def aaF (ok:Cx->Prop)(X:Cx)(pins:List (ak×Obj))(σ:St)(tg:aC)(R:It->Hp->Prop)(itv:af)(s2:aA):Prop:=
 ∃(it:ak) (fp:List ak) (tn:Nat->aq->Prop) (J:It) (H':Hp),itv=.ref it/\Inv X pins σ H' s2/\TurnG ok X.prog X.w X.K tg J fp it tn/\tn 0 s2.heap/\(∀b∈fp,xF X pins H' b)/\R J H'
noncomputable def Z9 (ok:Cx->Prop)(X:Cx)(tg iter:aC)(wi:TI):Prop:=
 ∀(pins:List (ak×Obj)) (s:aA) (σ:St) (H:Hp) (R:It->Hp->Prop),Inv X pins σ H s->wi σ H R ->
  wpAny (model X.prog X.w) X.A (eval iter X.env) (λv s1=>wpAny (model X.prog X.w) X.A (pyIter v) (aaF ok X pins σ tg R) X.xe s1) X.xe s
theorem PI.g{X:Cx}{iter:aC}{wi:TI}(h:PI X tg iter wi):Z9 (λY=>Y.calm=true) X tg iter wi:=λpins s σ H R I q=>
 nY (h pins s σ H R I q) λv s1 h1=>nY h1 λitv s2 ⟨it,fp,tn,J,H',e,I',T,a,b,c⟩=>⟨it,fp,tn,J,H',e,I',⟨T.obj,T.keep,T.item,T.done,T.self⟩,a,b,c⟩
theorem RW{ok:Cx->Prop}{X:Cx}{use:Option (af->Sem Unit)}{Q':af->aA->Prop}{iter:aC}{N:List Str}{wi:TI}{g:TG}{tc:TT}{te:TE}(S:CpScope X scope N cap)(hok:∀C s₀ H₀ ex,(∀a o u,X.H₀ a=some (.frz o u)->H₀ a=some (.frz o u))->ok (qm X scope N C s₀ H₀ ex))(hi:Z9 ok X tg iter wi)
  (hg:∀C s₀ H₀ ex,PG (qm X scope N C s₀ H₀ ex) tg g) (ht:∀C s₀ H₀ ex,W4 (qm X scope N C s₀ H₀ ex) ifs tc) (he:∀C s₀ H₀ ex,PE (qm X scope N C s₀ H₀ ex) elt te)
  (hs:∀x,foldedSetIterable iter X.env x=pure x:=by intro _;rfl):∀(pins:List (ak×Obj)) (s:aA) (σ:St) (H:Hp) (Q:VK),Inv X pins σ H s->Zq cap wi g tc te σ H Q ->
  (∀(s6:aA) (C D:ak) (H5:Hp) (m:Str->Option af),s6.heap.Ns C m->xF X pins H5 C->(∀h',Heap.SameBut C s6.heap h'->Inv X pins σ H5 { s6 with heap:=h' })->Q (.ref D) H5->∀v,compPost (model X.prog X.w) X.A X.xe use Q' (.ref D) C (.ok v) s6) ->
  wpAny (model X.prog X.w) X.A (comprehension (.ListComp elt [⟨tg,iter,ifs,0⟩] scope pos) scope X.env (firstIterPos [⟨tg,iter,ifs,0⟩] pos) (newList []) (firstAsync [⟨tg,iter,ifs,0⟩]) (firstIter [⟨tg,iter,ifs,0⟩] X.env) use) Q' X.xe s:=by
 intro pins s σ H Q I h hfin;have hfree:∀y∈scope.names,y.2=.free->∃c,X.env.cells.lookup y.1=some c:=λy hy e=>I.ok.has _ (S.fr y hy e);refine wpAny_comprehension_free (use:=use) rfl hs (GG hfree) S.kind S.nm (nY (hi pins s σ H _ I h) λxv s1 h1=>nY h1 λitv s2 h2=>?_);obtain⟨it,fp,tn,J,H2,rfl,I2,T,st2,f2,h2⟩:=h2;refine cZ (wpAny_newFunctionEnv S.nocell (by intro y hy;simp at hy) (λh₁ hns₁ hsb₁=>?_) S.kind);obtain⟨W,⟨m0,w0⟩,turn⟩:=h2 s2.heap.objs.size I2.fresh;dsimp only at hns₁ hsb₁ ⊢;have I3:Inv X pins σ (upd H2 s2.heap.objs.size (.lst [])) { s2 with heap:=s2.heap.push { cls:=.type "list",data:=.seq ([]:List af).toArray }}:=I2.Vf (t':=s2.toks) (its:=[]) .nil (bM _);have hfp:∀b∈fp,∃o,s2.heap.get? b=some o:=λb hb=>by
  obtain⟨o,e,_⟩:=T.obj 0 _ st2 b hb;exact⟨o,e⟩
 have neD:∀b∈fp,b≠s2.heap.objs.size:=λb hb=>by
  obtain⟨o,e⟩:=hfp b hb;exact bG (bw e)
 have f3:∀b∈fp,xF X pins (upd H2 s2.heap.objs.size (.lst [])) b:=λb hb=>⟨by rw[jP (neD b hb)];exact(f2 b hb).1,(f2 b hb).2⟩;have hDC:s2.heap.objs.size≠(s2.heap.push { cls:=.type "list",data:=.seq ([]:List af).toArray }).objs.size:=by rw[eG];exact bG (fJ _)
 have old:∀b o,(s2.heap.push { cls:=.type "list",data:=.seq ([]:List af).toArray }).get? b=some o->h₁.get? b=some o:=λb o e=>hsb₁.extBut b o (bG (bw e)) (aS _ e);have I4:=V_ (tk:=s2.toks+([]:List (Str×af)).length) (fp:=fp) S I3 f3 (λb hb=>by
  obtain⟨o,e⟩:=hfp b hb;exact⟨o,aS _ e⟩) hns₁ old
 have st4:tn 0 h₁:=T.keep _ _ _ st2 λb hb o e=>old b o (aS _ e);have hc:=hok (s2.heap.push { cls:=.type "list",data:=.seq ([]:List af).toArray }).objs.size { s2 with heap:=s2.heap.push { cls:=.type "list",data:=.seq ([]:List af).toArray }} (upd H2 s2.heap.objs.size (.lst [])) fp λa o u e=>by
  have z:=I2.base.frzs a o u e;rw[jP (λq=>by rw[q,I2.fresh]at z;cases z)];exact z
 have stat:∀{H':Hp},(∀b∈fp,H' b=none)->∀b∈fp,xF (qm X scope N (s2.heap.push { cls:=.type "list",data:=.seq ([]:List af).toArray }).objs.size { s2 with heap:=s2.heap.push { cls:=.type "list",data:=.seq ([]:List af).toArray }} (upd H2 s2.heap.objs.size (.lst [])) fp) [] H' b:=λhn b hb=>by
  have ok:=I4.ok;refine⟨hn b hb,(ok.exf b hb).1,ok.exfs b hb,.inl hb,λx c e=>(ok.exf b hb).2 x c e,λp hp=>nomatch hp⟩
 have loop:∀s4:aA,s4={ s2 with heap:=h₁,toks:=s2.toks+([]:List (Str×af)).length } ->
   codeAny (model X.prog X.w) X.A (.compLoop (.ListComp elt [⟨tg,iter,ifs,0⟩] scope pos) 0 (.ref it) (.ref s2.heap.objs.size) (compEnvC scope (wk X.env scope.names []) (s2.heap.push { cls:=.type "list",data:=.seq ([]:List af).toArray }).objs.size X.env))
    (compPost (model X.prog X.w) X.A X.xe use Q' (.ref s2.heap.objs.size) (s2.heap.push { cls:=.type "list",data:=.seq ([]:List af).toArray }).objs.size) s4:=by
  rintro s4 rfl;refine codeAny_loop rfl (λn s'=>∃i σ' H',Inv (qm X scope N (s2.heap.push { cls:=.type "list",data:=.seq ([]:List af).toArray }).objs.size { s2 with heap:=s2.heap.push { cls:=.type "list",data:=.seq ([]:List af).toArray }} (upd H2 s2.heap.objs.size (.lst [])) fp) [] σ' H' s'/\tn i s'.heap/\(∀b∈fp,H' b=none)/\W i n σ' H') (λn s5 hI=>?_) m0 ⟨0,_,_,I4,st4,λb hb=>(f3 b hb).1,w0⟩;obtain⟨i,σ5,H5,I5,st5,fr5,w5⟩:=hI;show wpAny _ X.A ((compTurn (.ListComp elt [⟨tg,iter,ifs,0⟩] scope pos) 0 (.ref it) (.ref s2.heap.objs.size) (compEnvC scope (wk X.env scope.names []) (s2.heap.push { cls:=.type "list",data:=.seq ([]:List af).toArray }).objs.size X.env)).onRaise (λx=>do noteFrame x _;theTreesLotGoes x)) _ _ s5;refine wpAny_noted ?_;rw[compTurn_list];refine aG (wpAny_standAt (aG ?_))
  rcases turn i n σ5 H5 w5 with⟨stop,q⟩|⟨go,step⟩
  ·refine nY (T.done (qm X scope N (s2.heap.push { cls:=.type "list",data:=.seq ([]:List af).toArray }).objs.size { s2 with heap:=s2.heap.push { cls:=.type "list",data:=.seq ([]:List af).toArray }} (upd H2 s2.heap.objs.size (.lst [])) fp) rfl rfl rfl hc i [] s5 σ5 H5 _ I5 (stat fr5) st5 stop) λr s6 h9=>?_;obtain⟨hr,I6⟩:=h9;subst hr;obtain⟨m6,hn6,_⟩:=I6.loc;refine aV (hfin s6 _ _ H5 m6 hn6 (I3.EU (aQ _) I6.free) (λh' sb=>?_) q _);have u6:=I6.base;have nC:∀b o,(s2.heap.push { cls:=.type "list",data:=.seq ([]:List af).toArray }).get? b=some o->b≠(s2.heap.push { cls:=.type "list",data:=.seq ([]:List af).toArray }).objs.size:=λb o e=>bG (bw e);refine I3.YJ (ch:=fp) I6.os ⟨λb o e n hb hx=>?_,λb o e n hb hx=>?_,λb o e n hx=>?_,λb o e hx=>?_,u6.tups,u6.frzs,u6.tbls⟩ ?_ I6.bare ?_
   ·exact sb.extBut b o (nC b o e) (u6.keep b o e n hb hx)
   ·obtain⟨sl,z⟩:=u6.slot b o e n hb hx;exact⟨sl,sb.extBut b _ (nC b o e) z⟩
   ·exact u6.free b o e n hx
   ·obtain⟨o',z⟩:=u6.there b o e hx;exact⟨o',sb.extBut b _ (nC b o e) z⟩
   ·intro b o e;have hb:∀c v,H5 c=some v->c≠(s2.heap.push { cls:=.type "list",data:=.seq ([]:List af).toArray }).objs.size:=λc v e z=>by
     rw[z]at e;have:=I6.free;rw[show H5 (s2.heap.push { cls:=.type "list",data:=.seq ([]:List af).toArray }).objs.size=none from this]at e
     cases e
    refine(I6.hok b o e).stay (λc v hc q=>sb.extBut c v ?_ q) (λ_ q=>q) λ_ _ q=>q
    rcases hc with z|z
    ·rw[z];exact hb b o e
    ·exact hb c _ z
   ·intro b hb;obtain⟨_,z1,_,z3,z4,z5⟩:=f3 b hb;exact⟨z3,z1,z4,z5⟩
  ·refine nY (T.item (qm X scope N (s2.heap.push { cls:=.type "list",data:=.seq ([]:List af).toArray }).objs.size { s2 with heap:=s2.heap.push { cls:=.type "list",data:=.seq ([]:List af).toArray }} (upd H2 s2.heap.objs.size (.lst [])) fp) rfl rfl rfl hc i [] s5 σ5 H5 _ I5 (stat fr5) st5 go) λr s6 h9=>?_;obtain⟨u,hr,h6⟩:=h9;subst hr;refine aG (nY h6 λ_ s7 ⟨x,H7,I7,r7,y7,st7,fr7⟩=>?_);have I7':=I7.pinned (stat fr7) (T.obj _ _ st7);refine aG (Qf (hg _ _ _ fp _ s7 σ5 H7 x u _ I7' r7 (step x H7 y7)) λ_ s8 ⟨σ8,H8,I8,q8⟩=>?_);refine aG (Qf (ht _ _ _ fp _ s8 σ8 H8 _ I8 q8) λok s9 ⟨H9,I9,q9⟩=>?_);have again:∀{s10:aA} {H10:Hp},Inv (qm X scope N (s2.heap.push { cls:=.type "list",data:=.seq ([]:List af).toArray }).objs.size { s2 with heap:=s2.heap.push { cls:=.type "list",data:=.seq ([]:List af).toArray }} (upd H2 s2.heap.objs.size (.lst [])) fp) ([]++zO fp s7.heap) σ8 H10 s10->(∃m',m'<n/\W (i+1) m' σ8 H10) ->
     ∃m,m<n/\∃i σ' H',Inv (qm X scope N (s2.heap.push { cls:=.type "list",data:=.seq ([]:List af).toArray }).objs.size { s2 with heap:=s2.heap.push { cls:=.type "list",data:=.seq ([]:List af).toArray }} (upd H2 s2.heap.objs.size (.lst [])) fp) [] σ' H' s10/\tn i s10.heap/\(∀b∈fp,H' b=none)/\W i m σ' H':=λ{s10 H10} I10 h9=>by
    obtain⟨m',hm,w10⟩:=h9;refine⟨m',hm,i+1,σ8,H10,I10.we,T.keep _ _ _ st7 λb hb o e=>(I10.pin (b,o) (bV _ (bV _ (sj hb e)))).1,λb hb=>?_,w10⟩;obtain⟨o,e,d⟩:=T.obj _ _ st7 b hb;exact(I10.pin (b,o) (bV _ (bV _ (sj hb e)))).2.1
   cases ok with
   | false=>
    rw[aK bI]at q9;exact aV ⟨rfl,again I9 q9⟩
   | true=>
    rw[aM rfl]at q9;refine aG (aG (Qf (he _ _ _ fp _ s9 σ8 H9 _ I9 q9) λy s10 ⟨v10,H10,I10,r10,ys,hD,hz,w10⟩=>?_));refine aG (Qf (BA _ s10 σ8 H10 (.ref s2.heap.objs.size) [v10] _ [y] (λ_ H'=>H'=upd H10 s2.heap.objs.size (.lst (ys++[v10]))) I10 rfl (.cons r10 .nil) ⟨_,ys,v10,rfl,rfl,hD,hz,rfl⟩) λ_ s11 ⟨_,H11,I11,_,e11⟩=>?_);subst e11;exact aV (aV ⟨rfl,again I11 w10⟩)
 exact codeAny_compStart_list (loop _ rfl) (T.self _ 0 _ _ _ st4 (loop _ rfl))
theorem Vk{ok:Cx->Prop}{X:Cx}{iter:aC}{N:List Str}{wi:TI}{g:TG}{tc:TT}{te:TE}(S:CpScope X scope N cap)(hok:∀C s₀ H₀ ex,(∀a o u,X.H₀ a=some (.frz o u)->H₀ a=some (.frz o u))->ok (qm X scope N C s₀ H₀ ex))(hi:Z9 ok X tg iter wi)
  (hg:∀C s₀ H₀ ex,PG (qm X scope N C s₀ H₀ ex) tg g) (ht:∀C s₀ H₀ ex,W4 (qm X scope N C s₀ H₀ ex) ifs tc) (he:∀C s₀ H₀ ex,PE (qm X scope N C s₀ H₀ ex) elt te)
  (hs:∀x,foldedSetIterable iter X.env x=pure x:=by intro _;rfl):PE X (.ListComp elt [⟨tg,iter,ifs,0⟩] scope pos) (Zq cap wi g tc te):=by
 intro pins s σ H Q I h;rw[eval_ListComp];exact RW (use:=none) (Q':=EP X pins σ Q) S hok hi hg ht he hs pins s σ H Q I h λs6 C D H5 m hn fk inv q v=>⟨m,hn,λh' sb=>⟨.ref D,H5,inv h' sb,rfl,q⟩⟩
theorem Yz{X:Cx}{iter:aC}{N:List Str}{wi:TI}{g:TG}{tc:TT}{te:TE}(hc:X.calm=true)(S:CpScope X scope N cap)(hi:PI X tg iter wi)
  (hg:∀C s₀ H₀ ex,PG (qm X scope N C s₀ H₀ ex) tg g) (ht:∀C s₀ H₀ ex,W4 (qm X scope N C s₀ H₀ ex) ifs tc) (he:∀C s₀ H₀ ex,PE (qm X scope N C s₀ H₀ ex) elt te)
  (hs:∀x,foldedSetIterable iter X.env x=pure x:=by intro _;rfl):PE X (.ListComp elt [⟨tg,iter,ifs,0⟩] scope pos) (Zq cap wi g tc te):=
 Vk S (λ_ _ _ _ _=>hc) hi.g hg ht he hs
section
variable {X:Cx}
noncomputable def PD:List V->List V->Bool
 | [],[]=>true
 | x::xs,y::ys=>Rq x y && PD xs ys
 | _,_=>false
theorem V8{xs ys:List V}:∀(n:Nat),n=xs.length->n=ys.length->(List.range n).all (λj=>match xs[j]?,ys[j]? with|some x,some y=>Rq x y|_,_=>true)=PD xs ys:=by
 intro n
 induction n generalizing xs ys with
 | zero=>
  intro h1 h2
  cases xs with
  | nil=>cases ys with
   | nil=>rfl
   | cons y ys=>cases h2
  | cons x xs=>cases h1
 | succ n ih=>
  intro h1 h2
  cases xs with
  | nil=>cases h1
  | cons x xs=>
   cases ys with
   | nil=>cases h2
   | cons y ys=>
    rw[gS,all_cons,gT];have:=ih (xs:=xs) (ys:=ys) (Nat.succ.inj h1) (Nat.succ.inj h2);show(Rq x y && _)=(Rq x y && PD xs ys);rw[<- this];rfl
theorem Qd{xs ys:List V}(h:xs.length≠ys.length):PD xs ys=false:=by
 induction xs generalizing ys with
 | nil=>cases ys with
  | nil=>exact absurd rfl h
  | cons y ys=>rfl
 | cons x xs ih=>cases ys with
  | nil=>rfl
  | cons y ys=>
   show(Rq x y && PD xs ys)=false;rw[ih (λe=>h (by simp[e])),jv]
theorem EK:∀(ns ms:List Int),PD (ns.map V.int) (ms.map V.int)=decide (ns=ms)
 | [],[]=>rfl
 | [],_::_=>by simp[PD]
 | _::_,[]=>by simp[PD]
 | n::ns,m::ms=>by
  show(Rq (.int n) (.int m) && PD (ns.map V.int) (ms.map V.int))=_;rw[EK ns ms];show((n == m) && decide (ns=ms))=_;by_cases h1:n=m<;>by_cases h2:ns=ms<;>simp[h1,h2]
noncomputable def Zi (xs ys:List V)(j:Nat):Bool:=match xs[j]?,ys[j]? with|some x,some y=>Rq x y|_,_=>true
theorem MU{A:az}{xs ys:List V}{us ws:List af}(rx:Vals xs us)(ry:Vals ys ws)(fx:xs.all zu=true)(fy:ys.all zu=true) :
  ∀j (h1:j<us.toArray.size) (h2:j<ws.toArray.size),SeqAt.EqAt A s us.toArray[j] ws.toArray[j] (Zi xs ys j):=by
 intro j h1 h2;have hx:j<xs.length:=by rw[rx.length];simpa using h1
 have hy:j<ys.length:=by rw[ry.length];simpa using h2
 have e1:xs[j]?=some xs[j]:=aF hx;have e2:ys[j]?=some ys[j]:=aF hy;obtain⟨u,eu,ru⟩:=rx.get e1;obtain⟨w,ew,rw'⟩:=ry.get e2;have fu:zu xs[j]=true:=eF.mp fx _ (dJ hx);have fw:zu ys[j]=true:=eF.mp fy _ (dJ hy);have a1:us.toArray[j]=u:=by
  have:us[j]?=some us.toArray[j]:=by simp at h1;simp[h1]
  rw[eu]at this;exact(a_ this).symm
 have a2:ws.toArray[j]=w:=by
  have:ws[j]?=some ws.toArray[j]:=by simp at h2;simp[h2]
  rw[ew]at this;exact(a_ this).symm
 rw[a1,a2];have e3:Zi xs ys j=Rq xs[j] ys[j]:=by unfold Zi;rw[e1,e2]
 rw[e3];exact Uv ru rw' fu fw
theorem C2:kH X (.type "range") (λxs H Q=>∃i j,xs=[.int i,.int j]/\∀p,H p=none->Q (.ref p) (upd H p (.rng i j))):=by
 intro pins s σ H xs us Q I r h;obtain⟨i,j,rfl,q⟩:=h;obtain⟨u,w',rfl,⟨t,rfl⟩,⟨t',rfl⟩⟩:=vals2 r;refine call_range_2 ⟨.ref s.heap.objs.size,_,I.laid (o:=.rng i j) (λb o e=>aS _ e) (aQ _) ?_,rfl,q _ I.fresh⟩;exact⟨t,t',s.toks,bD _ rfl⟩
noncomputable def kP (i j:Int):List Int:=(List.range (j-i).toNat).map λk:Nat=>i+(k:Int)
theorem qd(i j:Int):(kP i j).length=(j-i).toNat:=by unfold kP;rw[aH,cA]
theorem zy{i:Int}{n:Nat}{acc:Array af}(h:ItemsOf (λk v=>∃t,v=Value.int (i+(k:Int) * 1) t) acc n):Vals (((List.range n).map λk:Nat=>i+(k:Int)).map V.int) acc.toList:=by
 obtain⟨hs,hv⟩:=h;have gen:∀(l:List af) (b:Nat),(∀j v,l[j]?=some v->∃t,v=Value.int (i+((b+j:Nat):Int)) t)->Vals (((List.range' b l.length).map λk:Nat=>i+(k:Int)).map V.int) l:=by
  intro l
  induction l with
  | nil=>intro b _;exact .nil
  | cons v l ih=>
   intro b hb;rw[aZ,List.range'_succ,bE,bE];refine .cons ?_ ?_
   ·obtain⟨t,e⟩:=hb 0 v rfl;exact⟨t,by rw[e];simp⟩
   ·refine ih (b+1) λj w hw=>?_;obtain⟨t,e⟩:=hb (j+1) w hw;exact⟨t,by rw[e,show b+(j+1)=b+1+j by lia]⟩
 have:=gen acc.toList 0 λj v hj=>by
  obtain⟨t,e⟩:=hv j v (by simpa using hj);exact⟨t,by rw[e,cF,Int.mul_one]⟩
 rw[d9,hs,<- f7]at this;exact this
theorem NY{i j:Int}:Builtin.Range.rangeSize i j 1=(((j-i).toNat:Nat):Int):=by rw[rangeSize_one];split<;>lia
theorem AD(hc:X.calm=true):kH X (.type "list") (λxs H Q=>∃p i j,xs=[.ref p]/\H p=some (.rng i j)/\(-(2 ^ 62)<=i/\i<2 ^ 62/\-(2 ^ 62)<=j/\j<2 ^ 62)/\(j-i).toNat<=1000/\∀l,H l=none->Q (.ref l) (upd H l (.lst ((kP i j).map V.int)))):=by
 intro pins s σ H xs us Q I r h;obtain⟨p,i,j,rfl,hp,⟨b1,b2,b3,b4⟩,hn,q⟩:=h;obtain⟨u,rfl,rx⟩:=vals1 r
 cases rx
 obtain⟨t,u',v,e⟩:=I.hok p _ hp;refine call_list_range (n:=(j-i).toNat) (I.ok.hd hc) e (small_one b1 b2 b3 b4) NY (by lia) λh' tk acc' c' hk hS hacc=>?_;refine⟨.ref s.heap.objs.size,_,I.laid (o:=.lst ((kP i j).map V.int)) hk (aQ _) ⟨?_,acc'.toList,c',zy hacc,by rw[hS]⟩,rfl,q _ I.fresh⟩;rw[aH,qd,eB];lia
end
section
variable {X:Cx}
theorem Fg{prog:aj}{w:ah}{A:az}{E:af->aA->Prop}{s:aA}{Q:List af->aA->Prop}{r:ak}{a b c:Int}{t v:Tok}{n:Nat}(hh:A.handled=none)(hr:IsRange s.heap r a b c t u v)(hsmall:Builtin.Range.small a b c=true)
  (hn:Builtin.Range.rangeSize a b c=n) (hlen:n<=2 ^ 24)
  (hQ:∀h' tk (acc':Array af),(∀b o,s.heap.get? b=some o->h'.get? b=some o)->ItemsOf (λi v=>∃t,v=.int (a+i * c) t) acc' n->Q acc'.toList { s with heap:=h',toks:=tk }) :
  wpAny (model prog w) A (collect (.ref r)) Q E s:=by
 unfold collect;refine aG (wpAny_runValue (gH F.entry_proto_collect ?_));rw[f9 F.plain_proto_collect _];show wpAny _ A.in1 (newList [] >>= λl=>again (.builtin "list.__iadd__" ⟨[l,.ref r],[]⟩)) _ _ s;refine aG (cZ ?_);refine aV ⟨plainId_quiet F.plain_list_iadd _,gH F.entry_list_iadd ?_⟩;rw[f9 F.plain_list_iadd _];show wpAny _ A.in1 (Builtin.List.listExtendWith (.ref s.heap.objs.size) (.ref r) (.ref s.heap.objs.size)) _ _ _;have hS:(s.heap.push { cls:=.type "list",data:=.seq ([]:List af).toArray }).get? s.heap.objs.size=some { cls:=.type "list",data:=.seq #[] 0 }:=bD _ rfl;have fin':∀(h':aq) (tk:Nat) (acc':Array af) (c':Nat),(∀b o,b≠s.heap.objs.size->(s.heap.push { cls:=.type "list",data:=.seq ([]:List af).toArray }).get? b=some o->h'.get? b=some o) ->
   h'.get? s.heap.objs.size=some { cls:=.type "list",dict:=none,data:=.seq acc' c',slots:=#[]}->ItemsOf (λi v=>∃t,v=.int (a+i * c) t) acc' n ->
   wpAny (model prog w) A (match Value.ref s.heap.objs.size with
   | Value.ref a=>do
    match (<- load a).data with
     | Data.seq xs _=>pure xs.toList
     | _=>unsupported "internal:collect"
   | _=>unsupported "internal:collect") Q E { s with heap:=h',toks:=tk }:=by
  intro h' tk acc' c' hk hS' hacc;show wpAny _ A (load s.heap.objs.size >>= _) _ _ _;refine aG (wpAny_load hS' ?_);refine aV ?_;exact hQ h' tk acc' (λb o e=>hk b o (bG (bw e)) (aS _ e)) hacc
 refine iV (wpAny_extend_range (A:=A) (R:=λrr s'=>rr=.ok (.ret (.ref s.heap.objs.size))/\∃h' tk acc' c',s'={ s with heap:=h',toks:=tk }/\(∀b o,b≠s.heap.objs.size->(s.heap.push { cls:=.type "list",data:=.seq ([]:List af).toArray }).get? b=some o->h'.get? b=some o) /\
   h'.get? s.heap.objs.size=some { cls:=.type "list",dict:=none,data:=.seq acc' c',slots:=#[]}/\ItemsOf (λi v=>∃t,v=.int (a+i * c) t) acc' n)
  (s:={ s with heap:=s.heap.push { cls:=.type "list",data:=.seq ([]:List af).toArray }}) hh (aS _ hr) hsmall hn hlen s.heap.objs.size (.ref s.heap.objs.size) 0 hS
  (λh' tk acc' c' hk hS' hacc=>⟨rfl,h',tk,acc',c',rfl,hk,hS',hacc⟩)) (λfin s' h=>?_) (λe s' h=>?_)
 ·cases fin with
  | done f=>
   obtain⟨e,h',tk,acc',c',rfl,hk,hS',hacc⟩:=h
   cases e
   exact fin' h' tk acc' c' hk hS' hacc
  | again c'=>exact⟨h.1,iS h.2 λr s'' hr=>by
    obtain⟨rfl,h',tk,acc',c',rfl,hk,hS',hacc⟩:=hr;exact fin' h' tk acc' c' hk hS' hacc⟩
 ·exact absurd h.1 (by simp)
theorem uU(l:ak){a b:Int}{t v:Tok}{n:Nat}(hsmall:Builtin.Range.small a b 1=true)
  (hn:Builtin.Range.rangeSize a b 1=n) (hlen:n<=1000) :
  Meets (Builtin.«tuple.__new__» ⟨[.type "tuple",.ref l],[]⟩)
   (λA R s=>A.handled=none/\IsRange s.heap l a b 1 t u v/\∀(h':aq) (tk:Nat) (acc':Array af),(∀b o',s.heap.get? b=some o'->h'.get? b=some o')->ItemsOf (λi v=>∃t,v=.int (a+i * 1) t) acc' n->R (.ok (.ret (.ref h'.objs.size))) { s with heap:=h'.push { cls:=.type "tuple",data:=.seq acc' },toks:=tk }):=
 .of_wp λprog w A R s h=>by
  obtain⟨hp,g,d,tk,os⟩:=s;obtain⟨hh,ht,h⟩:=h;have hsub:=sub_tuple_self;have hinit:=init_tuple_lookup;have hmh:=madeHere_tuple;have hT:Shared.TypeIs ⟨hp,g,d,tk,os⟩ (.ref l) "range" := ⟨_,ht,rfl⟩;have hh':A.in1.handled=none:=hh
  wp_walk using cU ht,gU hT,Fg (A:=A.in1) hh' ht hsmall hn (by lia)
  intro h' tk' acc' hk hacc;show wpAny _ _ (Builtin.Tuple.tupleExact acc'.toList.toArray >>= λv=>ret v) _ _ _;unfold Builtin.Tuple.tupleExact;have e:acc'.toList.toArray=acc':=by simp
  refine aG (cZ ?_ (by show acc'.toList.toArray.size<=sizeLine;rw[e,hacc.1,eB];lia));refine aV ⟨_,rfl,?_⟩;rw[e];exact h h' tk' acc' hk hacc
theorem zH(hc:X.calm=true):kH X (.type "tuple") (λxs H Q=>∃p i j,xs=[.ref p]/\H p=some (.rng i j)/\(-(2 ^ 62)<=i/\i<2 ^ 62/\-(2 ^ 62)<=j/\j<2 ^ 62)/\(j-i).toNat<=1000/\∀l,H l=none->Q (.ref l) (upd H l (.tup ((kP i j).map V.int)))):=by
 intro pins s σ H xs us Q I r h;obtain⟨p,i,j,rfl,hp,⟨b1,b2,b3,b4⟩,hn,q⟩:=h;obtain⟨u,rfl,rx⟩:=vals1 r
 cases rx
 obtain⟨t,u',v,e⟩:=I.hok p _ hp;refine callType_new F.called_tuple (by decide) (F.typeCall_tuple_1 _) (F.newCall_tuple_1 _) (λobj=>F.args_object_init_2 obj _) F.entry_tuple_new
  (uU (n:=(j-i).toNat) p (small_one b1 b2 b3 b4) NY hn) ⟨I.ok.hd hc,e,λh' tk acc' hk hacc=>⟨⟨_,bD _ rfl,rfl⟩,?_⟩⟩
 have I1:Inv X pins σ H { s with heap:=h',toks:=tk }:=I.kept hk;refine⟨.ref h'.objs.size,_,I1.laid (t':=tk) (o:=.tup ((kP i j).map V.int)) (λb o e=>aS _ e) (aQ _) ⟨?_,acc'.toList,zy hacc,?_⟩,rfl,q _ (I1.hok.fresh (aQ _))⟩
 ·rw[aH,qd,eB];lia
 ·have e:acc'.toList.toArray=acc':=by simp
  rw[e];exact qf.new _ _
theorem Ej{c:String}:kH X (.builtin "isinstance") (λxs H Q=>∃x t b,xs=[x,.ty c]/\TyOf X.K H x t/\PySem.W.kitOne X.K t (.type c)=some b/\Q (.bl b) H):=by
 intro pins s σ H xs us Q I r h;obtain⟨x,t,b,rfl,ty,e,q⟩:=h;obtain⟨u,w',rfl,rx,rc⟩:=vals2 r
 cases rc
 exact JH I rx ty e λtk=>⟨.bl b,H,I.tok tk,rfl,q⟩
noncomputable def VF (K:au):R2:=λx y H Q=>∃a b ys,x=.ref a/\y=.ref b/\nq K H a []/\nq K H b ys/\Q (.ref b) H
theorem Mi:o_ X (binaryOp .Add) (VF X.K):=by
 intro pins s σ H x y v u Q I rx ry h;obtain⟨a,b,ys,rfl,rfl,h1,h2,q⟩:=h
 cases rx
 cases ry
 obtain⟨us,r1,p1,_⟩:=I.tuple h1;obtain⟨ws,r2,p2,_⟩:=I.tuple h2
 cases r1
 obtain⟨⟨cls,dd,data,sl⟩,ho,hc,n,hd⟩:=id p1;obtain⟨⟨cls2,dd2,data2,sl2⟩,ho2,hc2,n2,hd2⟩:=id p2;simp only at hc hd hc2 hd2;subst hc hd hc2 hd2;exact concat_meets ⟨_,ho,rfl⟩ ⟨_,ho2,rfl⟩ noFill_tuple_add seq_tuple_add gR gO (gw _ _)
   (tuple_addW0 a b _ ws.toArray n n2 dd dd2 sl sl2 (by simp)) ⟨ho,ho2,⟨.ref b,H,I,rfl,q⟩⟩
end
theorem pL:bootBuiltins "len" = some (.builtin "len"):=by decide +kernel
theorem VW:bootBuiltins "max" = some (.builtin "max"):=by decide +kernel
theorem WV:bootBuiltins "min" = some (.builtin "min"):=by decide +kernel
theorem rH:bootBuiltins "sorted" = some (.builtin "sorted"):=by decide +kernel
theorem uZ:bootBuiltins "isinstance" = some (.builtin "isinstance"):=by decide +kernel
theorem Cj:bootBuiltins "int" = some (.type "int"):=by decide +kernel
theorem Qk:bootBuiltins "bool" = some (.type "bool"):=by decide +kernel
theorem wA:bootBuiltins "list" = some (.type "list"):=by decide +kernel
theorem tK:bootBuiltins "tuple" = some (.type "tuple"):=by decide +kernel
theorem zG:bootBuiltins "range" = some (.type "range"):=by decide +kernel
structure Blt (mg:Str->Option af):Prop where
 len:mg "len" = none
 abs:mg "abs" = none
 all:mg "all" = none
 any:mg "any" = none
 max:mg "max" = none
 min:mg "min" = none
 sorted:mg "sorted" = none
 isinstance:mg "isinstance" = none
 int:mg "int" = none
 bool:mg "bool" = none
 str:mg "str" = none
 list:mg "list" = none
 tuple:mg "tuple" = none
 range:mg "range" = none
theorem Rg:∀{a b:List Int},a.Perm b->a.Pairwise (·<=·)->b.Pairwise (·<=·)->a=b:=λp ha hb=>
 dN (λx y _ _ h1 h2=>Int.le_antisymm h1 h2) ha hb p
theorem Cr(i j:Int):(kP i j).Pairwise (·<=·):=by
 unfold kP;rw[cG];exact List.pairwise_lt_range.imp λh=>by lia
theorem p9(i j:Int):(kP i j).Nodup:=by
 unfold kP;rw[List.Nodup,cG];exact List.pairwise_lt_range.imp λh=>by lia
theorem oB{i j k:Int}:k∈kP i j ↔ i<=k/\k<j:=by
 unfold kP;rw[bz];constructor
 ·rintro⟨a,ha,rfl⟩;have:=cO.mp ha;lia
 ·rintro⟨h1,h2⟩;exact⟨(k-i).toNat,cO.mpr (by lia),by lia⟩
theorem xV:∀{l m:List Int},l.Nodup->(∀x∈l,x∈m)->m.length<=l.length->l.Perm m
 | [],m,_,_,h=>by
  have:m=[]:=fK.mp (Nat.le_zero.mp h);rw[this]
 | a::l,m,nd,hs,hl=>by
  have ha:a∈m:=hs a aI;have nd':=cM.mp nd;have pm:m.Perm (a::m.erase a):=List.perm_cons_erase ha;have ih:=xV (l:=l) (m:=m.erase a) nd'.2 (λx hx=>by
   have hxa:x≠a:=λe=>nd'.1 (e ▸ hx);exact(List.mem_erase_of_ne hxa).mpr (hs x (aL _ hx))) (by
   rw[List.length_erase_of_mem ha];simp only[aZ]at hl;lia)
  exact(List.Perm.cons a ih).trans pm.symm
noncomputable def Kn (P:aj)(w:ah)(K:au)(mg:Str->Option af)(base:aq)(k:Nat)(x:Str)(ps:List Str)(sp:Sp):Prop:=
 ∃(f:ak) (fd:FuncData),FnOk P w K mg base qj k f fd ps sp/\mg x=some (.ref f)/\PySem.W.keepIn K (.ref f)=true/\Binds K fd ps []
theorem Yy{X:Cx}{k:Nat}{x:Str}{sp:Sp}{e:aC}{t:TA}{p:Pos}(G:Kn X.prog X.w X.K X.mg X.base k x ps sp)(hr:Room k X.A)(ha:PA X (e::es) t)(hg:Gl X x:=by rfl)
  (hdb:(x == ("__debug__" : Str))=false:=by decide) (hs:starEach (e::es) X.env=(false,eval e X.env)::starEach es X.env:=by rfl) (hplain:(backTo pos (starEach es X.env)).any (·.1)=false:=by rfl) :
  PE X (.Call (.Name x p) (e::es) [] pos) (Uj sp [] E0 t):=by
 obtain⟨f,fd,F,hm,hk,hb⟩:=G;exact QF F hr hg hm hk hb .nil Y4 ha hdb hs hplain
noncomputable def z_ (XN fs:List Str):List Str->List (Option Nat)->Prop
 | [],[]=>True
 | _::N,none::c=>z_ XN fs N c
 | x::N,some j::c=>XN[j]?=some x/\x∈fs/\z_ XN fs N c
 | _,_=>False
theorem z_.len{fs:List Str}:∀{N:List Str}{c:List (Option Nat)},z_ XN fs N c->c.length=N.length
 | [],[],_=>rfl
 | _::N,none::c,h=>dm (·+1) (z_.len (N:=N) (c:=c) h)
 | _::N,some j::c,h=>dm (·+1) (z_.len (N:=N) (c:=c) h.2.2)
 | [],_::_,h=>h.elim
 | _::_,[],h=>h.elim
theorem z_.cp{fs:List Str}:∀{N:List Str}{c:List (Option Nat)},z_ XN fs N c->∀(i j:Nat) (x:Str),N[i]?=some x->c[i]?=some (some j)->XN[j]?=some x/\x∈fs
 | [],[],_,i,j,x,h1,_=>by simp at h1
 | y::N,none::c,h,i,j,x,h1,h2=>by
  cases i with
  | zero=>simp at h2
  | succ i=>exact z_.cp (N:=N) (c:=c) h i j x (by simpa using h1) (by simpa using h2)
 | y::N,some k::c,h,i,j,x,h1,h2=>by
  cases i with
  | zero=>
   simp at h1 h2;subst h1 h2;exact⟨h.1,h.2.1⟩
  | succ i=>exact z_.cp (N:=N) (c:=c) h.2.2 i j x (by simpa using h1) (by simpa using h2)
 | [],_::_,h,_,_,_,_,_=>h.elim
 | _::_,[],h,_,_,_,_,_=>h.elim
theorem xW{X:Cx}{scope:Scope}{N:List Str}(fs:List Str)(kind:scope.kind=.function)(nocell:∀y∈scope.names,y.2≠.cell)(nm:∀y∈scope.names,y.2=.local->scope.names.lookup y.1=some .local)
  (nolf:∀y∈scope.names,y.2=.free->scope.names.lookup y.1≠some .local) (hf:∀y∈scope.names,y.2=.free->y.1∈fs) (hfs:∀x∈fs,(x,NameKind.free)∈scope.names) (hk:∀x∈fs,X.env.kindOf x=some .cell\/X.env.kindOf x=some .free) (cp:z_ X.N fs N cap):CpScope X scope N cap where
 kind:=kind
 nocell:=nocell
 nm:=nm
 fr:=λy hy e=>hk _ (hf y hy e)
 rl:=λy h=>by
  have go:∀k,(k=NameKind.cell\/k=NameKind.free)->(relabel scope X.env).names.lookup y=some k->(y,NameKind.free)∈scope.names:=λk hk e=>by
   obtain⟨⟨n',k'⟩,hm1,hm2⟩:=bz.mp (yT e);dsimp only at hm2;split at hm2
   ·rename_i hc
    cases hm2
    have:k'=.free:=by
     simp only[Bool.and_eq_true]at hc;simpa using hc.1.1
    subst this;exact hm1
   ·cases hm2
    rcases hk with rfl|rfl
    ·exact absurd rfl (nocell _ hm1)
    ·exact hm1
  rcases h with h|h
  ·exact go _ (.inl rfl) h
  ·exact go _ (.inr rfl) h
 len:=cp.len
 nolf:=λx hx=>nolf (x,.free) hx rfl
 cp:=λi j x h1 h2=>by
  obtain⟨a,b⟩:=cp.cp i j x h1 h2;exact⟨a,hfs x b⟩
inductive Kd where
 | non|bl|int|str|lst|tup
 deriving DecidableEq
noncomputable def Kd.ty:Kd->af
 | .non=>.type "NoneType" | .bl=>.type "bool" | .int=>.type "int" | .str=>.type "str" | .lst=>.type "list" | .tup=>.type "tuple"
noncomputable def Wn (H:Hp)(x:V):Kd->Prop
 | .non=>x=.non
 | .bl=>∃b,x=.bl b
 | .int=>∃i,x=.int i
 | .str=>∃s,x=.str s
 | .lst=>∃a xs,x=.ref a/\H a=some (.lst xs)
 | .tup=>∃a xs,x=.ref a/\H a=some (.tup xs)
theorem Wn.ZM{K:au}{H:Hp}{x:V}{k:Kd}(h:Wn H x k):TyOf K H x k.ty:=by
 cases k with
 | non=>cases h;exact .non
 | bl=>obtain⟨b,rfl⟩:=h;exact .bl b
 | int=>obtain⟨b,rfl⟩:=h;exact .int b
 | str=>obtain⟨b,rfl⟩:=h;exact .str b
 | lst=>obtain⟨a,xs,rfl,e⟩:=h;exact .lst e
 | tup=>obtain⟨a,xs,rfl,e⟩:=h;exact .tup e
theorem Qp{K:au}(k:Kd):PySem.W.kitOne K k.ty (.type "int")=some (decide (k=.int\/k=.bl)):=by cases k<;>rfl
theorem Pc{K:au}(k:Kd):PySem.W.kitOne K k.ty (.type "bool")=some (decide (k=.bl)):=by cases k<;>rfl
theorem kit_tuple{K:au}(k:Kd):PySem.W.kitOne K k.ty (.type "tuple")=some (decide (k=.tup)):=by cases k<;>rfl
theorem NQ{K:au}(k:Kd):PySem.W.kitOne K k.ty (.type "list")=some (decide (k=.lst)):=by cases k<;>rfl
section
variable {prog:aj}{w:ah}{A:az}{E:af->aA->Prop}{s:aA}
theorem vY{t:ak}{i:Nat}{x:af}{Q:af->aA->Prop}(hit:s.heap.IsTupleIter it t i)
  (ht:s.heap.IsTuple t items) (hx:items[i]?=some x) (hQ:∀h',h'.IsTupleIter it t (i+1)->Heap.SameBut it s.heap h'->Q x { s with heap:=h' }) :
  wpAny (model prog w) A (Builtin.SmallTypes.nextOf (.ref it)) Q E s:=by
 obtain⟨o,ho,hc,hd⟩:=id hit;obtain⟨ol,hol,_,nl,hdl⟩:=ht;unfold Builtin.SmallTypes.nextOf;refine aG (dw (name:=Str.ofString "__next__") hit.typeIs eK
  (cV eK hit.typeIs F.entry_tuple_iterator_next ?_ (F.args_tuple_iterator_next_1 _)))
 show wpAny _ _ (field (.ref it) 0 >>= _) _ _ s;refine aG (gP ho hd (x:=.ref t) rfl ?_);show wpAny _ _ (if (Value.ref t == Value.none)=true then _ else _) _ _ s;rw[aK (show ¬((Value.ref t == Value.none)=true)from bI)];show wpAny _ _ (field (.ref it) 1 >>= _) _ _ s;refine aG (gP ho hd (x:=.int i 0) rfl ?_);show wpAny _ _ (seqItems? (.ref t) >>= _) _ _ s;refine aG (iZ hol hdl ?_);simp only[dg,hx];refine aG (gW ho hd (by simp) (aV ⟨x,rfl,aV (hQ _ ?_ (fF ..))⟩));exact⟨_,fW _ ho (iz (eL hd _)),(ja ..).trans hc,by
  rw[eL hd];simp[rawInt]⟩
theorem xx{t:ak}{i:Nat}{Q:af->aA->Prop}(hh:A.handled=none)
  (hit:s.heap.IsTupleIter it t i) (ht:s.heap.IsTuple t items) (hx:items[i]?=none)
  (hE:∀h' e,Heap.ExtBut it s.heap h'->(∃o,h'.get? e=some o/\o.cls=.type "StopIteration")->E (.ref e) { s with heap:=h' }) :
  wpAny (model prog w) A (Builtin.SmallTypes.nextOf (.ref it)) Q E s:=by
 obtain⟨o,ho,hc,hd⟩:=id hit;obtain⟨ol,hol,_,nl,hdl⟩:=ht;unfold Builtin.SmallTypes.nextOf;refine aG (dw (name:=Str.ofString "__next__") hit.typeIs eK
  (cV eK hit.typeIs F.entry_tuple_iterator_next ?_ (F.args_tuple_iterator_next_1 _)))
 show wpAny _ _ (field (.ref it) 0 >>= _) _ _ s;refine aG (gP ho hd (x:=.ref t) rfl ?_);show wpAny _ _ (if (Value.ref t == Value.none)=true then _ else _) _ _ s;rw[aK (show ¬((Value.ref t == Value.none)=true)from bI)];show wpAny _ _ (field (.ref it) 1 >>= _) _ _ s;refine aG (gP ho hd (x:=.int i 0) rfl ?_);show wpAny _ _ (seqItems? (.ref t) >>= _) _ _ s;refine aG (iZ hol hdl ?_);simp only[dg,hx];refine aG (eN (aG (gW ho hd (by simp) ?_)));show wpAny _ _ (newExc (.type "StopIteration") [] >>= _) _ _ _;refine aG ?_;simp only[newExc,newTuple];refine aG (cZ ?_ (by size_fits));refine aG (m:=firstArgMember _ _) (iI (a:=Value.none) (by first|rfl|(simp only[firstArgMember];rfl)) ?_);refine cZ ?_ (by size_fits);simp only[raiseNew];refine aG (wpAny_handled ?_)
 first|rw[show A.in1.handled=none from hh]|rw[hh]
 refine aG (aV (wpAny_throw ?_));exact hE _ _ (((fF ..).extBut.push _).push _) ⟨_,bD _ rfl,rfl⟩
end
theorem Py{prog:aj}{w:ah}{A:az}(hh:A.handled=none)(it l:ak)(hne:l≠it)(items:Array af) :
  Draws prog w A it [it,l] items.size (λi v=>items[i]?=some v) (λi h=>h.IsTupleIter it l i/\h.IsTuple l items) where
 live:=λ_ _ st=>let⟨o,ho,_⟩:=st.1;⟨o,ho⟩
 frame:=λ_ _ _ st hk=>⟨st.1.at λo e=>hk it (by simp) o e,let⟨o,ho,r⟩:=st.2;⟨o,hk l (by simp) o ho,r⟩⟩
 item:=λi s Q E hi st hQ=>by
  refine vY st.1 st.2 (x:=items[i]) (by simp[hi]) λh' hit' hs'=>?_;exact hQ _ h' s.toks (by simp[hi]) ⟨hit',let⟨o,ho,r⟩:=st.2;⟨o,hs'.extBut l o hne ho,r⟩⟩ hs'
 done:=λs Q E st hE=>xx hh st.1 st.2 (by simp) hE
theorem DL(l:ak)(items:Array af) :
  Meets (Builtin.«enumerate.__new__» ⟨[.type "enumerate",.ref l],[]⟩) (λ_ R s=>s.heap.IsTuple l items /\
   R (.ok (.ret (.ref (s.heap.push { cls:=.type "tuple_iterator",data:=.fields #[.ref l,.int 0 0]}).objs.size)))
    { s with heap:=(s.heap.push { cls:=.type "tuple_iterator",data:=.fields #[.ref l,.int 0 0]}).push { cls:=.type "enumerate",data:=.fields #[.none,.bool false,.ref s.heap.objs.size,rawInt 0,.none,.none]}}):=
 .of_wp λprog w A R s h=>by
  obtain⟨hp,g,d,tk,os⟩:=s;obtain⟨hl,h⟩:=h;have hsub:=sub_enumerate;obtain⟨ol,hol,hcl,nl,hdl⟩:=id hl
  wp_walk using cU hol
  refine wpAny_stack_any λst=>aV ?_;split
  ·rename_i c _ _ _ _ _
   cases(c == Value.type "enumerate")
   ·wp_walk using cU hol,gI hl
    exact⟨_,rfl,h⟩
   ·wp_walk using cU hol,gI hl
    exact⟨_,rfl,h⟩
  ·wp_walk using cU hol,gI hl
   exact⟨_,rfl,h⟩
noncomputable def Ite (K:au)(a:ak):It:=
 ⟨λi H=>∃xs x,nq K H a xs/\xs[i]?=some x,λi H x H'=>∃T,H T=none/\x=.ref T/\∀xs y,nq K H a xs->xs[i]?=some y->H'=upd H T (.tup [.int i,y]),λi H=>∃xs,nq K H a xs/\xs.length=i⟩
theorem FU{P:aj}{w:ah}{K:au}(a e it:ak)(hei:e≠it):Turn P w K (.Tuple elts x1 tpos) (Ite K a) [e,it] e (λi h=>(∃old,IsEnum h e it i old)/\h.IsTupleIter it a i) where
 mem:=by simp
 obj:=λi h st b hb=>by
  obtain⟨⟨old,st1⟩,st2⟩:=st;have hb':b=e\/b=it:=by simpa using hb
  rcases hb' with rfl|rfl
  ·exact⟨_,st1,λv z=>by cases z⟩
  ·obtain⟨o,e,c,d⟩:=st2;exact⟨o,e,λv z=>by rw[d]at z;cases z⟩
 keep:=λi h h' st k=>by
  obtain⟨⟨old,st1⟩,st2⟩:=st;exact⟨⟨old,k e (by simp) _ st1⟩,st2.at λo ho=>k it (by simp) o ho⟩
 item:=by
  intro X hP hw hK hc i pins s σ H E I hf st hg;subst hP hw hK;obtain⟨⟨old,st1⟩,st2⟩:=st;obtain⟨xs,x,hq,hx⟩:=hg;obtain⟨its,rv,p,hz⟩:=I.tuple hq;obtain⟨u,hu,ru⟩:=rv.get hx;have hia:a≠it:=by
   obtain⟨o,ho,hc1,_⟩:=p;obtain⟨o2,ho2,hc2,_⟩:=st2;intro z;rw[z,ho2]at ho
   cases ho
   rw[hc1]at hc2;exact absurd (Value.type.inj hc2) (by decide)
  have hea:e≠a:=by
   obtain⟨o,ho,hc1,_⟩:=p;intro z;rw[<- z,st1]at ho
   cases ho
   exact absurd (Value.type.inj hc1) (by decide)
  have hlt:i<its.toArray.size:=by
   rw[bg];exact(aN.mp hu).1
  refine wpAny_pyNext_enum_itemD (Py (A:=X.A.in1) (I.ok.hd hc) it a hia its.toArray) st1 ⟨st2,p⟩ hlt hei (by simp[hei,hea]) λx' h' tk hP hout hst hT hsz hk=>?_;have ex:x'=u:=by
   have:its.toArray[i]?=some u:=by simpa using hu
   rw[this]at hP;exact(a_ hP).symm
  subst ex;refine⟨_,rfl,wpAny_letOwnedTupleGo_enum hout λh2 he2 hs2=>?_⟩;have fT:H s.heap.objs.size=none:=I.hok.fresh (aQ _);have hel:e<s.heap.objs.size:=bw st1;have hil:it<s.heap.objs.size:=by obtain⟨o,ho,_⟩:=st2;exact bw ho
  have k2:∀b o,b≠e->b≠it->s.heap.get? b=some o->h2.get? b=some o:=λb o h1 h3 q=>hs2.extBut b o h1 (hk b o h1 h3 q);have hT2:h2.get? s.heap.objs.size=some { cls:=.type "tuple",data:=.seq #[.int i tk,x']}:=hs2.extBut _ _ (ne_of_gt hel) hT;obtain⟨e0,e1,e2,e3,e4,e5⟩:=hf e (by simp);obtain⟨i0,i1,i2,i3,i4,i5⟩:=hf it (by simp);have nT:∀b o,s.heap.get? b=some o->b≠s.heap.objs.size:=λb o q=>bG (bw q);have ne_tr:∀c v,H c=some v->c≠e/\c≠it:=λc v q=>⟨(λz=>by rw[z,e0]at q;cases q),(λz=>by rw[z,i0]at q;cases q)⟩;have I2:Inv X pins σ (upd H s.heap.objs.size (.tup [.int i,x])) { s with heap:=h2,toks:=tk+1 }:=by
   refine I.step (g':=s.gens) (d':=s.drawn) (ch:=[e,it]) (λb hb=>?_) (λb o _ _ hch q _=>?_) (λb o _ _ hch q _=>?_) (λb o hch q n=>?_) (λb o hch q=>?_) (λb ys q=>?_) (λb o u' q=>?_) (λb ps q=>?_) (λm hm=>?_) (λb u' q=>?_) I.bare
   ·have hb':b=e\/b=it:=by simpa using hb
    rcases hb' with rfl|rfl
    ·exact⟨e3,e1,e4,e5⟩
    ·exact⟨i3,i1,i4,i5⟩
   ·exact k2 b o (λz=>hch (by simp[z])) (λz=>hch (by simp[z])) q
   ·exact⟨o.slots,k2 b o (λz=>hch (by simp[z])) (λz=>hch (by simp[z])) q⟩
   ·rw[jP (nT b o q)];exact n
   ·exact⟨o,k2 b o (λz=>hch (by simp[z])) (λz=>hch (by simp[z])) q⟩
   ·rw[jP (jY q fT)];exact q
   ·rw[jP (jY q fT)];exact q
   ·exact⟨#[],by rw[jP (jY q fT),q];simp⟩
   ·obtain⟨o,es,ep,ho,r⟩:=hm;exact⟨o,es,ep,k2 _ o (c7 e1) (c7 i1) ho,r⟩
   ·by_cases z:b=s.heap.objs.size
    ·subst z;rw[lI]at q
     cases q
     exact⟨by show 2<=sizeLine;decide,[.int i tk,x'],.cons ⟨tk,rfl⟩ (.cons ru .nil),⟨_,hT2,rfl,rfl,0,rfl⟩⟩
    ·rw[jP z]at q;refine(I.hok b u' q).stay (λc v hc q'=>k2 c v ?_ ?_ q') (λc q'=>?_) λc ys q'=>?_
     ·rcases hc with z|z
      ·rw[z];exact(ne_tr b u' q).1
      ·exact(ne_tr c _ z).1
     ·rcases hc with z|z
      ·rw[z];exact(ne_tr b u' q).2
      ·exact(ne_tr c _ z).2
     ·rw[jP (jY q' fT)];exact q'
     ·rw[jP (jY q' fT)];exact q'
  refine⟨.ref s.heap.objs.size,_,I2,rfl,⟨s.heap.objs.size,fT,rfl,λys y hy hyi=>?_⟩,⟨⟨x',by simpa using he2⟩,?_⟩,λb hb=>?_⟩
  ·rw[I.xT hy hq]at hyi;rw[hx]at hyi
   cases hyi
   rfl
  ·exact hst.1.at λo ho=>hs2.extBut it o (c7 hei) ho
  ·have hb':b=e\/b=it:=by simpa using hb
   rcases hb' with rfl|rfl
   ·rw[jP (bG hel)];exact e0
   ·rw[jP (bG hil)];exact i0
 done:=by
  intro X hP hw hK hc i pins s σ H E I hf st hg;subst hP hw hK;obtain⟨⟨old,st1⟩,st2⟩:=st;obtain⟨xs,hq,hx⟩:=hg;obtain⟨its,rv,p,hz⟩:=I.tuple hq;obtain⟨i0,i1,i2,i3,i4,i5⟩:=hf it (by simp);have hia:a≠it:=by
   obtain⟨o,ho,hc1,_⟩:=p;obtain⟨o2,ho2,hc2,_⟩:=st2;intro z;rw[z,ho2]at ho
   cases ho
   rw[hc1]at hc2;exact absurd (Value.type.inj hc2) (by decide)
  have hl:=rv.length;have ei:its.toArray.size=i:=by rw[bg,<- hl,hx]
  exact wpAny_pyNext_enum_endD (Py (A:=X.A.in1) (I.ok.hd hc) it a hia its.toArray) st1 ⟨by rw[ei];exact st2,p⟩ λh' eb=>⟨rfl,I.turned (t':=s.toks) (λb o hb q=>eb b o hb q) i0 i1 i3 i4 i5⟩
 self:=λ_ _ _ _ _ st h=>let⟨⟨_,st1⟩,_⟩:=st;wpAny_pyIter_enum st1 h
theorem BL:bootBuiltins "enumerate" = some (.type "enumerate"):=by decide +kernel
section
variable {X:Cx}
noncomputable def Xh (K:au)(ta:TA):TI:=λσ H R=>ta σ H λvs H1=>∃a xs,vs=[.ref a]/\nq K H1 a xs/\R (Ite K a) H1
theorem N8{a:aC}{ta:TA}{p:Pos}(hg:Gl X "enumerate")(hm:X.mg "enumerate" = none)(ha:PA X [a] ta)(hs:starEach [a] X.env=[(false,eval a X.env)]:=by rfl):PI X (.Tuple elts x1 tpos) (.Call (.Name "enumerate" p) [a] [] pos) (Xh X.K ta):=by
 intro pins s σ H R I h;refine Call_ (u7 I hg hm BL (dD (nY (ha pos pins s σ H _ I h) λus s1 ⟨vs,H1,I1,r1,q1⟩=>?_) hs rfl));obtain⟨t,xs,e,hq,q⟩:=q1;subst e;obtain⟨u,rfl,rx⟩:=vals1 r1
 cases rx
 obtain⟨its,rv,pt,hz⟩:=I1.tuple hq;refine callType_new F.called_enumerate (by decide) (F.typeCall_enumerate_1 _) (F.newCall_enumerate_1 _) (λobj=>F.args_object_init_2 obj _) F.entry_enumerate_new (DL t its.toArray) ⟨pt,⟨_,bD _ rfl,rfl⟩,?_⟩;have I2:Inv X pins σ H1 { s1 with heap:=s1.heap.push { cls:=.type "tuple_iterator",data:=.fields #[.ref t,.int 0 0]}}:=I1.kept (t':=s1.toks) λb o e=>aS _ e;have I3:Inv X pins σ H1 { s1 with heap:=(s1.heap.push { cls:=.type "tuple_iterator",data:=.fields #[.ref t,.int 0 0]}).push { cls:=.type "enumerate",data:=.fields #[.none,.bool false,.ref s1.heap.objs.size,rawInt 0,.none,.none]}}:=I2.kept (t':=s1.toks) λb o e=>aS _ e;have he:IsEnum ((s1.heap.push { cls:=.type "tuple_iterator",data:=.fields #[.ref t,.int 0 0]}).push { cls:=.type "enumerate",data:=.fields #[.none,.bool false,.ref s1.heap.objs.size,rawInt 0,.none,.none]}) (s1.heap.push { cls:=.type "tuple_iterator",data:=.fields #[.ref t,.int 0 0]}).objs.size s1.heap.objs.size 0 .none:=bD _ rfl;have hit:((s1.heap.push { cls:=.type "tuple_iterator",data:=.fields #[.ref t,.int 0 0]}).push { cls:=.type "enumerate",data:=.fields #[.none,.bool false,.ref s1.heap.objs.size,rawInt 0,.none,.none]}).IsTupleIter s1.heap.objs.size t 0:=⟨_,aS _ (bD _ rfl),rfl,rfl⟩;have hne:(s1.heap.push { cls:=.type "tuple_iterator",data:=.fields #[.ref t,.int 0 0]}).objs.size≠s1.heap.objs.size:=by rw[eG];exact ne_of_gt (fJ _)
 refine wpAny_pyIter_enum he ⟨_,[_,s1.heap.objs.size],_,_,H1,rfl,I3,FU t _ s1.heap.objs.size hne,⟨⟨.none,he⟩,hit⟩,λb hb=>?_,q⟩;have hb':b=(s1.heap.push { cls:=.type "tuple_iterator",data:=.fields #[.ref t,.int 0 0]}).objs.size\/b=s1.heap.objs.size:=by simpa using hb
 rcases hb' with rfl|rfl
 ·exact I1.EU (by rw[eG];exact Nat.le_succ _) (I2.hok.fresh (aQ _))
 ·exact I1.EU (aQ _) (I1.hok.fresh (aQ _))
end
end L2
namespace L2
open PySem PySem.Spec PyProof.Rows
open PySem.SeqAt
open PySem.AutoSeq1 (wpAny_loadPart')
open PySem.MeetsSeq PySem.MeetsSeq2 PySem.MeetsSeq3 PySem.SeqAt
section
variable {X:Cx}
theorem Nm:o_ X (binaryOp .FloorDiv) (rI (λ_ j=>0<j/\j<18446744073709551616) λi j=>.int (i / j)):=Zs λi j _ _ _ _ _ hc q=>by
 have h1:(0:Int)<j:=hc.1;have h2:j<18446744073709551616:=hc.2;refine floordiv_int (by lia) (by rw[Int.fdiv_eq_ediv_of_nonneg i (by lia)];exact q) (.inl (PyProof.noPylong_of_log2 ?_));exact bQ ((Nat.log2_lt (by lia)).mpr (show j.natAbs<2 ^ 64 by lia)) (by decide)
end
end L2
namespace L2
open PySem PySem.Spec PyProof.Rows
noncomputable def ZR (x:Str):It:=⟨λi _=>i<x.cps.size,λi H v H'=>H'=H/\∃c,x.cps[i]?=some c/\v=.str ⟨#[c]⟩,λi _=>i=x.cps.size⟩
theorem MH{P:aj}{w:ah}{K:au}(x:Str)(t:Tok)(it:ak):Turn P w K tg (ZR x) [it] it (λi h=>h.IsStrIter it "str_ascii_iterator" x t i) where
 mem:=by simp
 obj:=λi h st b hb=>by
  have e:b=it:=by simpa using hb
  subst e;obtain⟨o,e,c,d⟩:=st;exact⟨o,e,λv z=>by rw[d]at z;cases z⟩
 keep:=λi h h' st k=>let⟨o,ho,r⟩:=st;⟨o,k it (by simp) o ho,r⟩
 item:=by
  intro X hP hw hK hc i pins s σ H E I hf st hg;subst hP hw hK;obtain⟨f0,f1,f2,f3,f4,f5⟩:=hf it (by simp);have W:=Walks.strAscii (prog:=X.prog) (w:=X.w) (I.ok.hd hc) it x t;refine W.item i s _ _ hg st λv h' tk hv st' kk=>?_;obtain⟨c,u,hcx,rfl⟩:=hv;have I1:Inv X pins σ H { s with heap:=h',toks:=tk }:=I.turned (λb o hb e=>kk b o (by simpa using hb) e) f0 f1 f3 f4 f5;obtain⟨o,e,cc,d⟩:=id st';exact⟨_,rfl,DQ (s:={ s with heap:=h',toks:=tk }) e cc d (by decide) ⟨.str ⟨#[c]⟩,H,I1,⟨u,rfl⟩,⟨rfl,c,hcx,rfl⟩,st',λb hb=>(hf b hb).1⟩⟩
 done:=by
  intro X hP hw hK hc i pins s σ H E I hf st hg;subst hP hw hK;obtain⟨f0,f1,f2,f3,f4,f5⟩:=hf it (by simp);have hg:i=x.cps.size:=hg;subst hg;have W:=Walks.strAscii (prog:=X.prog) (w:=X.w) (I.ok.hd hc) it x t;exact W.done s _ _ st λh' tk kk=>⟨rfl,I.turned (λb o hb e=>kk b o (by simpa using hb) e) f0 f1 f3 f4 f5⟩
 self:=λ_ _ _ _ _ st h=>wpAny_pyIter_striter_ascii st h
section
variable {X:Cx}{tg:aC}
noncomputable def aax (tl:TE):TI:=λσ H R=>tl σ H λx H1=>∃y:Str,x=.str y/\y.cps.all (· < 128)=true/\R (ZR y) H1
theorem WA{l:aC}{tl:TE}(hl:PE X l tl):PI X tg l (aax tl):=by
 intro pins s σ H R I h;refine nY (hl pins s σ H _ I h) λv s1 h9=>?_;obtain⟨x,H1,I1,r1,q1⟩:=h9;obtain⟨y,e,ha,q⟩:=q1;subst e;obtain⟨t,rfl⟩:=r1;refine wpAny_pyIter_ascii ha ?_;refine⟨s1.heap.objs.size,[s1.heap.objs.size],_,_,H1,rfl,I1.kept (t':=s1.toks) λb o e=>aS _ e,MH y t _,⟨_,bD _ rfl,rfl,rfl⟩,λb hb=>?_,q⟩;have e:b=s1.heap.objs.size:=by simpa using hb
 subst e;exact I1.EU (aQ _) (I1.hok.fresh (aQ _))
theorem J6:kH X (.type "int") (λxs H Q=>∃(y:Str) (n:Int),xs=[.str y]/\y.length<=640/\PySem.intText? y=some n/\Q (.int n) H):=by
 intro pins s σ H xs us Q I rv h;obtain⟨y,n,rfl,hl,hn,q⟩:=h;obtain⟨w,rfl,rw'⟩:=vals1 rv;obtain⟨u,rfl⟩:=rw';exact PySem.W.KIN.call_text hn hl ⟨.int n,H,I.tok _,⟨_,rfl⟩,q⟩
end
section
variable {κ:Type}[DecidableEq κ]
noncomputable def qc (kvs:List (κ×V))(k:κ):Option V:=(kvs.find? λkv=>decide (kv.1=k)).map (·.2)
noncomputable def putK (kvs:List (κ×V))(k:κ)(v:V):List (κ×V):=
 if (kvs.any λkv=>decide (kv.1=k))=true then kvs.map (λkv=>if kv.1=k then(kv.1,v)else kv)else kvs++[(k,v)]
theorem sZ{p:κ×V}{r:List (κ×V)}{k:κ}(e:p.1=k):qc (p::r) k=some p.2:=by simp[qc,cN,e]
theorem tY{p:κ×V}{r:List (κ×V)}{k:κ}(e:¬p.1=k):qc (p::r) k=qc r k:=by simp[qc,cN,e]
theorem wo(k:κ):∀kvs:List (κ×V),(kvs.any λkv=>decide (kv.1=k))=(qc kvs k).isSome
 | []=>rfl
 | p::r=>by
  rw[fS];by_cases e:p.1=k
  ·simp only[sZ e,bh e,Bool.true_or,i6]
  ·rw[tY e,bq e,gz];exact wo k r
theorem t6(kvs:List (κ×V))(k:κ)(v:V):(putK kvs k v).length<=kvs.length+1:=by
 unfold putK;split
 ·rw[aH];lia
 ·rw[aO,aZ,bK];lia
theorem xj.xB{o:Option V}{u:Option af}(r:xj o u):o.isSome=u.isSome:=by
 cases o with
 | none=>cases u with
  | none=>rfl
  | some _=>exact(show False from r).elim
 | some _=>cases u with
  | none=>exact(show False from r).elim
  | some _=>rfl
theorem xj.getD{o:Option V}{u:Option af}(r:xj o u)(rd:RelV d d'):RelV (o.getD d) (u.getD d'):=by
 cases o with
 | none=>cases u with
  | none=>exact rd
  | some _=>exact(show False from r).elim
 | some _=>cases u with
  | none=>exact(show False from r).elim
  | some _=>exact r
theorem KV.val(r:KV kvs vs)(k:κ):xj (qc kvs k) (valueAt vs k):=by
 unfold KV at r
 induction r with
 | nil=>exact True.intro
 | @cons p q ps qs h t ih=>
  obtain⟨h1,h2⟩:=h;by_cases e:p.1=k
  ·have e':q.1=k:=h1.symm.trans e;have b:valueAt (q::qs) k=some q.2:=by simp[valueAt,cN,e']
   rw[sZ e,b];exact h2
  ·have e':¬q.1=k:=λz=>e (h1.trans z);have b:valueAt (q::qs) k=valueAt qs k:=by simp[valueAt,cN,e']
   rw[tY e,b];exact ih
theorem KV.any{kvs:List (κ×V)}{vs:List (κ×af)}(r:KV kvs vs)(k:κ):(kvs.any λkv=>decide (kv.1=k))=vs.any λkv=>decide (kv.1=k):=by
 unfold KV at r
 induction r with
 | nil=>rfl
 | cons h t ih=>rw[fS,fS,ih,h.1]
theorem KV.repl{kvs:List (κ×V)}{vs:List (κ×af)}(r:KV kvs vs)(k:κ)(ry:RelV y u) :
  KV (kvs.map λkv=>if kv.1=k then(kv.1,y)else kv) (vs.map λkv=>if kv.1=k then(kv.1,u)else kv):=by
 unfold KV at r ⊢
 induction r with
 | nil=>exact .nil
 | @cons p q ps qs h t ih=>
  rw[bE,bE];refine .cons ?_ ih;obtain⟨h1,h2⟩:=h;by_cases e:p.1=k
  ·rw[aM e,aM (h1.symm.trans e)];exact⟨h1,ry⟩
  ·rw[aK e,aK (λz=>e (h1.trans z))];exact⟨h1,h2⟩
theorem KV.put(r:KV kvs vs)(k:κ)(ry:RelV y u):KV (putK kvs k y) (stored vs k u):=by
 unfold putK stored;rw[r.any k];by_cases e:(vs.any λkv=>decide (kv.1=k))=true
 ·rw[aM e,aM e];exact r.repl k ry
 ·rw[aK e,aK e];exact Paired.snoc r ⟨rfl,ry⟩
theorem KV.length{kvs:List (κ×V)}{vs:List (κ×af)}(r:KV kvs vs):kvs.length=vs.length:=jg r
end
theorem DA{P:aj}{w:ah}{k:Key}(r:RelV (kV k) u):(kL P w).is k u=true:=by
 cases k with
 | inl i=>obtain⟨t,e⟩:=(show ∃t,u=Value.int i t from r);subst e;exact E_ P w i t
 | inr x=>obtain⟨t,e⟩:=(show ∃t,u=Value.str x t from r);subst e;exact EF P w x t
theorem Br{P:aj}{w:ah}:∀{ks:List Key}{us:List af},Vals (ks.map kV) us->ItemsAre (kL P w) ks us
 | [],_,r=>by rw[gf]at r;cases r;exact .nil
 | k::ks,_,r=>by
  rw[bE]at r
  cases r with
  | cons h t=>exact .cons (DA h) (Br t)
noncomputable abbrev KT (H:Hp):List (List Key×V)->List (List Key×ak×af)->Prop:=Paired λp q=>p.1=q.1/\H q.2.1=some (.tup (p.1.map kV))/\RelV p.2 q.2.2
theorem KT.val{H:Hp}(r:KT H kvs xs)(k:List Key):xj (qc kvs k) ((atKey xs k).map (·.2)):=by
 induction r with
 | nil=>exact True.intro
 | @cons p q ps qs h t ih=>
  obtain⟨h1,_,h2⟩:=h;by_cases e:p.1=k
  ·have e':q.1=k:=h1.symm.trans e;have b:atKey (q::qs) k=some q.2:=by simp[atKey,cN,e']
   rw[sZ e,b];exact h2
  ·have e':¬q.1=k:=λz=>e (h1.trans z);have b:atKey (q::qs) k=atKey qs k:=by simp[atKey,cN,e']
   rw[tY e,b];exact ih
theorem KT.repl{H:Hp}{kvs:List (List Key×V)}{xs:List (List Key×ak×af)}(r:KT H kvs xs)(k:List Key)(ry:RelV y u) :
  KT H (kvs.map λkv=>if kv.1=k then(kv.1,y)else kv) (xs.map (putAt k u)):=by
 induction r with
 | nil=>exact .nil
 | @cons p q ps qs h t ih=>
  rw[bE,bE];refine .cons ?_ ih;obtain⟨h1,h2,h3⟩:=h;unfold putAt;by_cases e:p.1=k
  ·rw[aM e,aM (h1.symm.trans e)];exact⟨h1,h2,ry⟩
  ·rw[aK e,aK (λz=>e (h1.trans z))];exact⟨h1,h2,h3⟩
theorem KT.put{H:Hp}(r:KT H kvs xs)(k:List Key)(hb:H b=some (.tup (k.map kV)))(ry:RelV y u) :
  KT H (putK kvs k y) (storedH xs k b u):=by
 have e:(kvs.any λkv=>decide (kv.1=k))=(atKey xs k).isSome:=by
  rw[wo,(r.val k).xB,gY]
 unfold putK storedH;rw[e];by_cases q:(atKey xs k).isSome=true
 ·rw[aM q,aM q];exact r.repl k ry
 ·rw[aK q,aK q];exact Paired.snoc r ⟨rfl,hb,ry⟩
theorem KT.keeps{H H':Hp}(r:KT H kvs xs)(ht:∀b ys,H b=some (.tup ys)->H' b=some (.tup ys)):KT H' kvs xs:=
 Paired.WH r λ_ _ z=>⟨z.1,ht _ _ z.2.1,z.2.2⟩
section
variable {P:aj}{w:ah}{H:Hp}{h:aq}{a:ak}
theorem SI(ok:vE P w H h)(e:Rd H a u):lU P w H h a u:=e.ok ok
theorem E5{kvs:List (Key×V)}(ok:vE P w H h)(e:Rd H a (.dK kvs)):kvs.length<=sizeLine/\(a == sysModules)=false/\∃vs,KV kvs vs/\h.DictOf (kL P w) a vs:=
 show lU P w H h a (.dK kvs)from SI ok e
theorem TV{kvs:List (Key×V)}(ok:vE P w H h)(e:H a=some (.dK kvs)):kvs.length<=sizeLine/\(a == sysModules)=false/\∃vs,KV kvs vs/\h.DictOf (kL P w) a vs:=E5 ok (.inl e)
theorem xJ{ks:List Key}(ok:vE P w H h)(e:H a=some (.tup (ks.map kV))):(tupleKind (kL P w)).is h ks a:=by
 obtain⟨_,its,r,o,h1,h2,_,n,h3⟩:=(show lU P w H h a (.tup (ks.map kV))from ok a _ e);exact⟨o,its.toArray,n,h1,h2,h3,by simpa using Br r⟩
theorem DF{kvs:List (List Key×V)}(ok:vE P w H h)(e:Rd H a (.dT kvs)):kvs.length<=sizeLine/\(a == sysModules)=false /\
  ∃xs,KT H kvs xs/\h.DictOfH (tupleKind (kL P w)) a xs:=by
 obtain⟨z,y,xs,r,o,es,ep,h1,h2,h3,h4,h5⟩:=(show lU P w H h a (.dT kvs)from SI ok e);refine⟨z,y,xs,r,o,es,ep,h1,h2,h3,h4,λx hx=>?_,h5⟩;have all:∀{l:List (List Key×V)} {m:List (List Key×ak×af)},KT H l m->∀x∈m,(tupleKind (kL P w)).is h x.1 x.2.1:=by
  intro l m q
  induction q with
  | nil=>intro x hx;exact nomatch hx
  | @cons p q ps qs hq t ih=>
   intro x hx
   rcases bC.mp hx with e|hx
   ·subst e;exact xJ ok (by rw[<- hq.1];exact hq.2.1)
   ·exact ih x hx
 exact all r x hx
theorem LQ{kvs:List (List Key×V)}(ok:vE P w H h)(e:H a=some (.dT kvs)):kvs.length<=sizeLine/\(a == sysModules)=false /\
  ∃xs,KT H kvs xs/\h.DictOfH (tupleKind (kL P w)) a xs:=DF ok (.inl e)
end
noncomputable def vg (H:Hp)(a:ak)(y:V)(r:Option V):Prop:=
 (∃kvs k,Rd H a (.dK kvs)/\y=kV k/\r=qc kvs k)\/∃kvs k b,Rd H a (.dT kvs)/\y=.ref b/\H b=some (.tup (k.map kV))/\r=qc kvs k
noncomputable def Fe (H:Hp)(a:ak)(y v:V)(H':Hp):Prop:=
 (∃kvs k,H a=some (.dK kvs)/\y=kV k/\kvs.length<sizeLine/\H'=upd H a (.dK (putK kvs k v))) \/
 ∃kvs k b,H a=some (.dT kvs)/\y=.ref b/\H b=some (.tup (k.map kV))/\kvs.length<sizeLine/\H'=upd H a (.dT (putK kvs k v))
theorem vg.k{H:Hp}{a:ak}{k:Key}(e:H a=some (.dK kvs)):vg H a (kV k) (qc kvs k):=.inl ⟨kvs,k,.inl e,rfl,rfl⟩
theorem vg.t{H:Hp}{a:ak}{k:List Key}(e:H a=some (.dT kvs))(eb:H b=some (.tup (k.map kV))):vg H a (.ref b) (qc kvs k):=.inr ⟨kvs,k,b,.inl e,rfl,eb,rfl⟩
theorem Fe.k{H:Hp}{a:ak}{kvs:List (Key×V)}{k:Key}{v:V}(e:H a=some (.dK kvs))(hl:kvs.length<sizeLine):Fe H a (kV k) v (upd H a (.dK (putK kvs k v))):=.inl ⟨kvs,k,e,rfl,hl,rfl⟩
theorem Fe.t{H:Hp}{a:ak}{kvs:List (List Key×V)}{k:List Key}{v:V}(e:H a=some (.dT kvs))(eb:H b=some (.tup (k.map kV)))(hl:kvs.length<sizeLine) :
  Fe H a (.ref b) v (upd H a (.dT (putK kvs k v))):=.inr ⟨kvs,k,b,e,rfl,eb,hl,rfl⟩
section
variable {X:Cx}{pins:List (ak×Obj)}{σ:St}{H:Hp}{s:aA}{a:ak}{y v:V}{u r:af}{o:Option V}{A:az}{E:af->aA->Prop}
theorem Inv.big(I:Inv X pins σ H s):sysModules<s.heap.objs.size:=by
 have h:mainGlobals<s.heap.objs.size:=(I.mod.glob.keeps I.bk).lt;exact lt_trans (by decide) h
theorem JU{Q:af->aA->Prop}(hu:A.units+1<cLine)(I:Inv X pins σ H s)(g:vg H a y (some v))(ry:RelV y u)(h:∀w' s',Inv X pins σ H s'->RelV v w'->Q w' s') :
  wpAny (model X.prog X.w) A (getItem (.ref a) u) Q E s:=by
 rcases g with⟨kvs,k,e,ey,l⟩|⟨kvs,k,b,e,ey,eb,l⟩
 ·subst ey;obtain⟨z,hd,vs,rel,dd⟩:=E5 I.hok e;obtain⟨w',hw,rw'⟩:=xj.some_of (v:=v) (o:=valueAt vs k) (by rw[l];exact rel.val k);exact wpAny_getItem_of (DA ry) dd.mapOf hw (h w' _ (I.tok _) rw')
 ·subst ey
  cases(show u=Value.ref b from ry)
  obtain⟨z,hd,xs,rel,dd⟩:=DF I.hok e;obtain⟨w',hw,rw'⟩:=xj.some_of (v:=v) (o:=(atKey xs k).map (·.2)) (by rw[l];exact rel.val k);obtain⟨p,hp,hp2⟩:=aX.mp hw;refine wpAny_getItem_heap (fO hu) (xJ I.hok eb) dd hp ?_;rw[hp2];exact h w' _ (I.tok _) rw'
theorem Rw{Q:af->aA->Prop}(hu:A.units+1<cLine)(I:Inv X pins σ H s)(g:vg H a y o)(ry:RelV y u)(h:∀s',Inv X pins σ H s'->Q (.bool (!o.isSome)) s') :
  wpAny (model X.prog X.w) A (compareOp .NotIn u (.ref a)) Q E s:=by
 rcases g with⟨kvs,k,e,ey,l⟩|⟨kvs,k,b,e,ey,eb,l⟩
 ·subst ey;obtain⟨z,hd,vs,rel,dd⟩:=E5 I.hok e;refine wpAny_notIn_of (DA ry) hd dd.mapOf ?_;rw[<- (rel.val k).xB,<- l];exact h _ (I.tok _)
 ·subst ey
  cases(show u=Value.ref b from ry)
  obtain⟨z,hd,xs,rel,dd⟩:=DF I.hok e;refine wpAny_notIn_heap (fO hu) (xJ I.hok eb) hd dd ?_;have q:=(rel.val k).xB;rw[gY]at q;rw[<- q,<- l];exact h _ (I.tok _)
theorem GY{h':aq}{t':Nat}{ob:HO}(I:Inv X pins σ H s)(mu:Xr (H a))(hs:Heap.SameBut a s.heap h')(he:∃q,h'.get? a=some q)(new:lU X.prog X.w (upd H a ob) h' a ob) :
  Inv X pins σ (upd H a ob) { s with heap:=h',toks:=t' }:=
 I.write (x:=a) (e:=a) mu (.inl rfl) (λb q hb z=>(hs.2 b hb).trans z) he new
theorem Mq{P:aj}{w:ah}{H':Hp}{h':aq}{kvs:List (Key×V)}(z:kvs.length<=sizeLine)(hd:(a == sysModules)=false)(rel:KV kvs vs)(dd:h'.DictOf (kL P w) a vs) :
  lU P w H' h' a (.dK kvs):=⟨z,hd,vs,rel,dd⟩
theorem JM{H':Hp}{Q:Unit->aA->Prop}(hu:A.units+1<cLine)(I:Inv X pins σ H s)(g:Fe H a y v H')(ry:RelV y u)(rv:RelV v r)(h:∀s',Inv X pins σ H' s'->Q () s') :
  wpAny (model X.prog X.w) A (setItem (.ref a) u r) Q E s:=by
 rcases g with⟨kvs,k,e,ey,l,eH⟩|⟨kvs,k,b,e,ey,eb,l,eH⟩
 ·subst ey eH;obtain⟨z,hd,vs,rel,dd⟩:=TV I.hok e;have hz:vs.length<=sizeLine:=by rw[<- rel.length];exact z
  have hl:(putK kvs k v).length<=sizeLine:=by have:=t6 kvs k v;lia
  refine wpAny_setItem_pairs (hsz:=hz) (DA ry) dd λh' dd' hs=>h _ ?_;have he:∃q,h'.get? a=some q:=let⟨q,_,_,hq,_⟩:=dd';⟨q,hq⟩
  exact GY I (by rw[e];exact True.intro) hs he (Mq hl hd (rel.put k rv) dd')
 ·subst ey eH
  cases(show u=Value.ref b from ry)
  obtain⟨z,hd,xs,rel,dd⟩:=LQ I.hok e;have hz:xs.length<=sizeLine:=by rw[<- jg rel];exact z
  have hl:(putK kvs k v).length<=sizeLine:=by have:=t6 kvs k v;lia
  refine wpAny_setItem_heap (hsz:=hz) (fO hu) (xJ I.hok eb) dd λh' dd' hs=>h _ ?_;obtain⟨q,es,ep,hq,h2,h3,h4,_,h5⟩:=dd';refine GY I (by rw[e];exact True.intro) hs ⟨q,hq⟩ ⟨hl,hd,_,(rel.put k eb rv).keeps λc ys ec=>?_,q,es,ep,hq,h2,h3,h4,h5⟩;rw[jP (W7 ec e (λz=>nomatch z))];exact ec
end
theorem E7{X:Cx}{H:Hp}{s:aA}{a:ak}(I:Inv X pins σ H s)(g:vg H a y o):s.TypeIs (.ref a) "dict" := by
 rcases g with⟨kvs,k,e,_,_⟩|⟨kvs,k,b,e,_,_,_⟩
 ·obtain⟨_,_,vs,_,dd⟩:=E5 I.hok e;exact dd.typeIs
 ·obtain⟨_,_,xs,_,dd⟩:=DF I.hok e;exact dd.typeIs
theorem NB{P:aj}{w:ah}{H:Hp}(h:aq)(hb:sysModules<h.objs.size):lU P w H (h.push { cls:=.type "dict",data:=.dict #[]}) h.objs.size (.dK []):=
 ⟨bM _,d8.mpr (c7 (bG hb)),[],.nil,Heap.DictOf.new h⟩
theorem OQ{P:aj}{w:ah}{H:Hp}(h:aq)(hb:sysModules<h.objs.size):lU P w H (h.push { cls:=.type "dict",data:=.dict #[]}) h.objs.size (.dT []):=
 ⟨bM _,d8.mpr (c7 (bG hb)),[],.nil,_,#[],0,bD _ rfl,⟨rfl,rfl,rfl⟩,rfl,rfl,dF⟩
noncomputable def UI:TE:=λ_ H Q=>∀p,H p=none->Q (.ref p) (upd H p (.dK []))
noncomputable def Uy:TE:=λ_ H Q=>∀p,H p=none->Q (.ref p) (upd H p (.dT []))
section
variable {X:Cx}{pos:Pos}
theorem Lc:PE X (.Dict [] [] pos) UI:=λpins s σ H Q I h=>
 wpAny_Dict_empty ⟨.ref s.heap.objs.size,_,I.laid (a:=s.heap.objs.size) (o:=.dK []) (t':=s.toks) (λ_ _ q=>aS _ q) (aQ _) (NB s.heap I.big),rfl,h _ (I.hok.fresh (aQ _))⟩
theorem Lz:PE X (.Dict [] [] pos) Uy:=λpins s σ H Q I h=>
 wpAny_Dict_empty ⟨.ref s.heap.objs.size,_,I.laid (a:=s.heap.objs.size) (o:=.dT []) (t':=s.toks) (λ_ _ q=>aS _ q) (aQ _) (OQ s.heap I.big),rfl,h _ (I.hok.fresh (aQ _))⟩
end
structure M1 (X:Cx)(o:aC)(m:Str)(apos:Pos)(e:aC)(cpos:Pos):Prop where
 base:attributeBase o m X.env (eval o X.env)=eval o X.env
 few:((backTo cpos (starEach [e] X.env)).all (λx=>!x.1) && (backToKw cpos (keywordEach [] X.env)).all (λx=>x.1.isSome)
  && decide (([e]:List aC).length+([]:List Keyword).length+(if ([]:List Keyword).isEmpty then 0 else 1)<30))=true
 line:(apos.endLine == cpos.line)=true
 trees:backTo cpos (starEach [e] X.env)=[(false,eval e X.env)]
structure M2 (X:Cx)(o:aC)(m:Str)(apos:Pos)(e f:aC)(cpos:Pos):Prop where
 base:attributeBase o m X.env (eval o X.env)=eval o X.env
 few:((backTo cpos (starEach [e,f] X.env)).all (λx=>!x.1) && (backToKw cpos (keywordEach [] X.env)).all (λx=>x.1.isSome)
  && decide (([e,f]:List aC).length+([]:List Keyword).length+(if ([]:List Keyword).isEmpty then 0 else 1)<30))=true
 line:(apos.endLine == cpos.line)=true
 trees:backTo cpos (starEach [e,f] X.env)=[(false,eval e X.env),(false,eval f X.env)]
section
variable {X:Cx}{pins:List (ak×Obj)}{σ:St}{H:Hp}{s:aA}{a:ak}{y d:V}{u r:af}{o:Option V}{A:az}{E:af->aA->Prop}
theorem UC{Q:af->aA->Prop}(hu:A.units+1<cLine)(I:Inv X pins σ H s)(g:vg H a y o)(ry:RelV y u)(rd:RelV d r)(h:∀w' s',Inv X pins σ H s'->RelV (o.getD d) w'->Q w' s') :
  wpAny (model X.prog X.w) A (call (.builtin "dict.get") [.ref a,u,r]) Q E s:=by
 rcases g with⟨kvs,k,e,ey,l⟩|⟨kvs,k,b,e,ey,eb,l⟩
 ·subst ey;obtain⟨z,hd,vs,rel,dd⟩:=E5 I.hok e;refine call_meetsIn dH dd.typeIs gZ (gQ _ _ _) (meets_dict_get_default (kL X.prog X.w) a (DA ry) hd r) ⟨_,dd.mapOf,h _ _ (I.tok _) ?_⟩;rw[l];exact(rel.val k).getD rd
 ·subst ey
  cases(show u=Value.ref b from ry)
  obtain⟨z,hd,xs,rel,dd⟩:=DF I.hok e;refine call_meetsIn dH dd.typeIs gZ (gQ _ _ _) (meetsH_dict_get_default (tupleKind (kL X.prog X.w)) a b hd r) ⟨fO hu,k,xs,xJ I.hok eb,dd,h _ _ (I.tok _) ?_⟩;rw[l];exact(rel.val k).getD rd
end
section
variable {X:Cx}
theorem GX(hu:X.A.units+1<cLine):Uq X (λx y H Q=>∃a v,x=.ref a/\vg H a y (some v)/\Q v H):=by
 intro value slice pins s σ H x y v u Q I rx ry h hs;obtain⟨a,z,rfl,g,q⟩:=h
 cases rx
 have hT:=E7 I g;unfold subscriptTail;refine aG ?_;rw[getitemInPython_of_ne hT.not_modules];refine aG (wpAny_specialOf hT PySem.F.slot_dict_getitem.lookup ?_);have fin:wpAny (model X.prog X.w) X.A (subscripted slice false (.ref a) u) (λr s₃=>wpAny (model X.prog X.w) X.A (letTemporaryGo value (.ref a) r >>= λ_=>pure r) (EP X pins σ Q) X.xe s₃) X.xe s:=by
  rw[hs];exact wpAny_operating (JU hu I g ry λw' s3 I3 rw'=>aG (wpAny_letTemporaryGo (aV ⟨z,H,I3,rw',q⟩)))
 first
  | exact aV (aG fin)
  | exact aG (aV (aG fin))
  | exact aG fin
theorem KJ(hu:X.A.units+1<cLine):o_ X (compareOp .NotIn) (λy x H Q=>∃a o,x=.ref a/\vg H a y o/\Q (.bl (!o.isSome)) H):=by
 intro pins s σ H y x v u Q I ry rx h;obtain⟨a,o,rfl,g,q⟩:=h
 cases rx
 exact Rw hu I g ry λs3 I3=>⟨.bl (!o.isSome),H,I3,rfl,q⟩
theorem set_dict(hu:X.A.units+1<cLine):JE X (λo i v H Q=>∃a H',o=.ref a/\Fe H a i v H'/\Q H'):=by
 intro pins s σ H o i v ov iv u Q I ro ri rv h;obtain⟨a,H',rfl,g,q⟩:=h
 cases ro
 exact JM hu I g ri rv λs4 I4=>⟨H',I4,q⟩
noncomputable def Zb:V->List V->Hp->VK->Prop:=λx vs H Q=>∃a b ks kvs y,x=.ref a/\vs=[.ref b,y]/\H a=some (.dT kvs)/\H b=some (.tup (ks.map kV))/\Q ((qc kvs ks).getD y) H
theorem Rk(hu:X.A.units+1<cLine):Z6 X "dict.get" Zb:=by
 intro pins s σ H x vs v us Q I rx rv h;obtain⟨a,b,ks,kvs,y,rfl,rfl,ea,eb,q⟩:=h
 cases rx
 cases rv with
 | @cons _ u1 _ MY r1 rv=>
  cases rv with
  | @cons _ u2 _ Ew r2 rv=>
   cases rv
   cases r1
   obtain⟨z,hd,xs,rel,dd⟩:=LQ I.hok ea;refine call_meetsIn dH dd.typeIs gZ (gQ _ _ _) (meetsH_dict_get_default (tupleKind (kL X.prog X.w)) a b hd u2) ⟨fO hu,ks,xs,xJ I.hok eb,dd,?_⟩;refine⟨(qc kvs ks).getD y,H,I.tok _,?_,q⟩;have rl:=rel.val ks
   cases e1:qc kvs ks with
   | none=>
    rw[e1]at rl
    cases e2:(atKey xs ks).map (·.2)with
    | none=>exact r2
    | some w'=>rw[e2]at rl;exact rl.elim
   | some w1=>
    rw[e1]at rl
    cases e2:(atKey xs ks).map (·.2)with
    | none=>rw[e2]at rl;exact rl.elim
    | some w'=>rw[e2]at rl;exact rl
end
section
theorem kt_at{H:Hp}:∀{kvs:List (List Key×V)}{xs:List (List Key×ak×af)},KT H kvs xs->kvs.length=xs.length/\∀(i:Nat) (p:List Key×V),kvs[i]?=some p->∃y:List Key×ak×af,xs[i]?=some y/\p.1=y.1/\H y.2.1=some (.tup (p.1.map kV))/\RelV p.2 y.2.2
 | [],[],_=>⟨rfl,λi p h=>by simp at h⟩
 | [],_::_,r=>nomatch r
 | _::_,[],r=>nomatch r
 | a::kvs,b::xs,.cons z r=>by
  obtain⟨l,q⟩:=kt_at r;refine⟨by simp[l],λi p h=>?_⟩
  cases i with
  | zero=>
   have:a=p:=by simpa using h
   subst this;exact⟨b,rfl,z⟩
  | succ i=>exact q i p (by simpa using h)
end
noncomputable def C0 (e:ak)(h:aq):Prop:=∃o vs,h.get? e=some o/\o.data=.fields vs/\vs[2]?=some .none/\o.dict=none
structure Fly (l:List Env)(g:aq)(pn:List (ak×Obj))(H:Hp)(e:ak)(cls:af)(h:aq):Prop where
 ex:∃(B:aq) (a0:af),Heap.FlyingW B l e cls a0 h/\(∀a u,H a=some u->∃o,B.get? a=some o)/\(∀b o,g.get? b=some o->b∉frs l->∃o',B.get? b=some o')/\(∀p∈pn,∃o',B.get? p.1=some o')/\C0 e h
structure Made (X:Cx)(H:Hp)(e:ak)(cls:af)(g:aq)(h:aq):Prop where
 ex:∃(g':aq) (vs:List af),Heap.MadeExcOf g' h e cls vs/\g'.FunFrames X.base X.stack/\(∀a u,H a=some u->∃o,g'.get? a=some o)/\(∀b o,g.get? b=some o->∃o',g'.get? b=some o')/\(∀p∈X.pn,∃o',g'.get? p.1=some o')
noncomputable def WZ (X:Cx)(H:Hp)(e:ak)(cls:af)(s':aA):Prop:=Made X H e cls X.s₀.heap s'.heap\/Fly X.stack X.s₀.heap X.pn H e cls s'.heap
section
noncomputable def EX (X:Cx):XK:=λcls _ H'=>X.ex=[]/\∀pins σ' s' e,Inv X pins σ' H' s'->WZ X H' e cls s'->X.xe (.ref e) s'
end
inductive FParts (X:Cx):List aC->List (Str ⊕ TE)->Prop
 | nil:FParts X [] []
 | txt {x:Str} {j pos} {es:List aC} {ps:List (Str ⊕ TE)} (h:FParts X es ps):FParts X (.Constant (.str x) j pos::es) (.inl x::ps)
 | val {e:aC} {pos:Pos} {t:TE} {es:List aC} {ps:List (Str ⊕ TE)} (he:PE X e t) (h:FParts X es ps):FParts X (.FormattedValue e (-1) none pos::es) (.inr t::ps)
noncomputable def xu:HO:=.ext λ_=>True
structure XO (C:ak)(o:Obj):Prop where
 cls:o.cls=.ref C
 dict:o.dict=none
 ctx:∃vs,o.data=.fields vs/\vs[2]?=some .none
structure Fr0 (X:Cx)(e:ak):Prop where
 no:∀o,X.s₀.heap.get? e≠some o
 tup:∀xs,X.H₀ e≠some (.tup xs)
 frz:∀o u,X.H₀ e≠some (.frz o u)
 tbl:∀ps,X.H₀ e≠some (.tbl ps)
noncomputable def mroIn (K:au)(C:ak):Option (List af):=match K.lookup C with
 | some ⟨.type "type",_,.cls cd,sl⟩=>(match cd.mro,sl.toList with
  | .ref C'::bm,[_,_,_,_,some (.builtin _),_]=>if C'=C/\cd.hasDel=false then some bm else none
  | _,_=>none)
 | _=>none
structure ClsAt (h:aq)(C:ak)(bm:List af):Prop where
 ex:∃nm q N bs hdct sn sub ab col dd k0 k1 k2 k3 k5 newId,h.get? C=some (excClassObj nm q C N bs bm hdct sn sub ab col dd k0 k1 k2 k3 k5 newId)
open PySem.W in
structure XCls (K:au)(C:ak):Prop where
 ga:findIn K (.ref C) "__getattribute__" = some (some (.builtin "BaseException.__getattribute__"))
 gt:findIn K (.ref C) "__getattr__" = some none
 fc:findObj K C none "__class__" = some (.bind (.builtin "getset_descriptor.__get__") (.builtin "object.__class__"))
 ob:PySem.W.mroIn K C (.type "object")=some true
 bs:subIn K (.ref C) (.type "BaseException")=some true
noncomputable def Vt (A:az):az:={ A with handled:=none }
noncomputable def W6 (k:Nat)(A:az):Prop:=Room k (Vt A)
structure Hnd (A:az)(H:Hp)(e:ak)(oe:Obj)(C:ak):Prop where
 hh:A.handled=some (.ref e)
 h0:H e=some (.frz oe xu)
 xo:XO C oe
structure FnOkH (P:aj)(w:ah)(K:au)(mg:Str->Option af)(base:aq)(k:Nat)(f:ak)(fd:FuncData)(ps:List Str)(sp:Sp):Prop where
 len:∀vs H Q E,sp vs H Q E->vs.length=ps.length
 run:∀(A:az) (outer:List Env) (s:aA) (H:Hp) (args:Args) (us:List af) (vs:List V) (Q:VK) (e:ak) (oe:Obj) (C:ak),W6 k A->Hnd A H e oe C->Env0 P w K mg base A outer s H->BindsTo s fd args (ps.zip us)->Vals vs us->sp vs H Q E0 ->
  codeAny (model P w) A (.call (.ref f) args) (CR qj outer P w H s Q E0) s
end L2
namespace L2
open PySem PySem.Spec PyProof.Rows PySem.SeqAt
theorem Eg:bootBuiltins "reversed" = some (.type "reversed"):=by decide +kernel
theorem owner_lri:Manifest.owners.lookup (String.ofList ['r','o','t','a','r','e','t','i','e','s','r','e','v','e','r','_','t','s','i','l'].reverse)=some Manifest.sig_list_reverseiterator:=by kernel_rfl
theorem slot_lri_next:Slot "list_reverseiterator" "__next__" "list_reverseiterator.__next__" :=
 .of (owner := "list_reverseiterator") (n := "__next__") (by rw[iM,fX];kernel_rfl) (by decide +kernel) (by decide +kernel) (by decide +kernel)
  (by first|exact .inl (by decide +kernel)|exact .inr (by decide +kernel)) (by rw[f_];kernel_rfl)
theorem entry_lri_next:entryFor table "list_reverseiterator.__next__" = some Builtin.«list_reverseiterator.__next__»:=entryFor_of_tree (by kernel_rfl)
theorem u5(a:af):argsOk "list_reverseiterator.__next__" ⟨[a],[]⟩:=by
 unfold argsOk;rw[signature?_of (id := "list_reverseiterator.__next__") (n:=['_','_','t','x','e','n','_','_']) (o:=['r','o','t','a','r','e','t','i','e','s','r','e','v','e','r','_','t','s','i','l']) (by kernel_rfl) owner_lri];kernel_rfl
theorem slot_lri_iter:Slot "list_reverseiterator" "__iter__" "list_reverseiterator.__iter__" :=
 .of (owner := "list_reverseiterator") (n := "__iter__") (by rw[iM,fX];kernel_rfl) (by decide +kernel) (by decide +kernel) (by decide +kernel)
  (by first|exact .inl (by decide +kernel)|exact .inr (by decide +kernel)) (by rw[f_];kernel_rfl)
theorem entry_lri_iter:entryFor table "list_reverseiterator.__iter__" = some Builtin.«dict_keyiterator.__iter__»:=
 entryFor_alias (id' := "dict_keyiterator.__iter__") (by kernel_rfl) (by first|rfl|decide +kernel|(unfold String.splitOn;simp +decide [String.splitOnAux])) (by decide +kernel) (by kernel_rfl)
theorem AK(a:af):argsOk "list_reverseiterator.__iter__" ⟨[a],[]⟩:=by
 unfold argsOk;rw[signature?_of (id := "list_reverseiterator.__iter__") (n:=['_','_','r','e','t','i','_','_']) (o:=['r','o','t','a','r','e','t','i','e','s','r','e','v','e','r','_','t','s','i','l']) (by kernel_rfl) owner_lri];kernel_rfl
theorem vB:Slot "reversed" "__init__" "object.__init__" :=
 .of (owner := "object") (n := "__init__") (by rw[iM,fX];kernel_rfl) (by decide +kernel) (by decide +kernel) (by decide +kernel)
  (by first|exact .inl (by decide +kernel)|exact .inr (by decide +kernel)) (by rw[f_];kernel_rfl)
theorem mro_reversed:mroOf (.type "reversed")=pure [.type "reversed",.type "object"]:=by rw[mroOf_type];kernel_rfl
theorem lookup_reversed_new:typeLookup (.type "reversed") "__new__" = pure (some (.builtin "reversed.__new__")):=by rw[iM,fX];kernel_rfl
theorem yi:TypeCalled "reversed" "reversed.__new__" "object.__init__" :=
 ⟨by decide +kernel,by decide +kernel,⟨_,_,mro_reversed⟩,madeBy_type mro_reversed lookup_reversed_new (by decide +kernel),by decide +kernel,by rw[f_];kernel_rfl,vB⟩
theorem typeCall_reversed_1(a:af):checkTypeCall "reversed" ⟨[a],[]⟩=pure ():=by kernel_rfl
theorem newCall_reversed_1(a:af):checkBuiltinCall "reversed.__new__" ⟨[.type "reversed",a],[]⟩=pure ():=by kernel_rfl
theorem entry_reversed_new:entryFor table "reversed.__new__" = some Builtin.«reversed.__new__»:=entryFor_of_tree (by kernel_rfl)
theorem sub_lri_reversed:isSubtype (.type "list_reverseiterator") (.type "reversed")=pure false:=by rw[f_];kernel_rfl
theorem BX:isSubtype (.type "reversed") (.type "reversed")=pure true:=by rw[f_];kernel_rfl
section
variable {prog:aj}{w:ah}{A:az}{E:af->aA->Prop}{s:aA}
theorem callType_other{Q:af->aA->Prop}(ft:TypeCalled T newId "object.__init__")
  (hct:checkTypeCall T ⟨args,[]⟩=pure ()) (hcn:checkBuiltinCall newId ⟨.type T::args,[]⟩=pure ())
  (entryN:entryFor table newId=some Bn) (g:Meets (Bn ⟨.type T::args,[]⟩) S) (hns:isSubtype (.type T') (.type T)=pure false)
  (h:S A.in1 (wants (λobj s₁=>s₁.TypeIs obj T'/\Q obj s₁) E) s):wpAny (model prog w) A (call (.type T) args) Q E s:=by
 obtain⟨c,tl,hmro⟩:=ft.mro;have hmade:=ft.made;refine wpAny_call (codeAny_of_tree ?_);show wpAny _ _ (callAny (.type T) _) _ _ _;refine aV ⟨Code.quiet_builtin _ (by decide +kernel),gH F.entry_type_call ?_⟩;rw[Around.under_plain (weight_type_call_type T args []) (units_type_call_type T args [])];have h1:=ft.notType;have h2:=ft.canCreate
 repeat (any_goals (first|assumption|wp_step))
 refine iS (codeAny_call_builtin ft.plain entryN (iI hcn (g prog w A.in1 _ s h))) λr s₁ hr=>?_
 cases r with
 | error e=>exact hr
 | ok fl=>
  cases fl with
  | ret obj=>
   obtain⟨hT,hq⟩:=hr
   repeat (any_goals (first|assumption|wp_step))
  | _=>exact hr.elim
end
noncomputable def uf (h:aq)(a l:ak)(i:Int):Prop:=∃o,h.get? a=some o/\o.cls=.type "list_reverseiterator" /\ o.data=.fields #[.ref l,rawInt i]
theorem uf.typeIs{s:aA}{a l:ak}{i:Int}(x:uf s.heap a l i):s.TypeIs (.ref a) "list_reverseiterator" := let⟨o,ho,hc,_⟩:=x;⟨o,ho,hc⟩
theorem uf.at{h h':aq}{a l:ak}{i:Int}(x:uf h a l i)(k:∀o,h.get? a=some o->h'.get? a=some o):uf h' a l i:=let⟨o,ho,r⟩:=x;⟨o,k o ho,r⟩
section
variable {prog:aj}{w:ah}{A:az}{E:af->aA->Prop}{s:aA}
theorem zx{l:ak}{i:Int}{Q:af->aA->Prop}(hz:uf s.heap it l i)(h:Q (.ref it) s):wpAny (model prog w) A (pyIter (.ref it)) Q E s:=by
 refine wpAny_pyIter_slot hz.typeIs slot_lri_iter (cV slot_lri_iter hz.typeIs entry_lri_iter ?_ (AK _));show wpAny _ _ (ret (.ref it)) _ _ s;exact aV ⟨_,rfl, "list_reverseiterator",_,hz.typeIs,slot_lri_next.lookup,h⟩
theorem yf{l:ak}{i:Nat}{x:af}{Q:Option af->aA->Prop}(hit:uf s.heap it l i)
  (ht:s.heap.IsList l items) (hx:items[i]?=some x) (hQ:∀h',uf h' it l ((i:Int)-1)->Heap.SameBut it s.heap h'->Q (some x) { s with heap:=h' }) :
  wpAny (model prog w) A (pyNext (.ref it)) Q E s:=by
 obtain⟨o,ho,hc,hd⟩:=id hit;obtain⟨ol,hol,_,nl,hdl⟩:=ht;unfold pyNext;refine aG (iG (dw (name:=Str.ofString "__next__") hit.typeIs slot_lri_next
  (cV slot_lri_next hit.typeIs entry_lri_next ?_ (u5 _))))
 show wpAny _ _ (field (.ref it) 1 >>= _) _ _ s;refine aG (gP ho hd (x:=rawInt i) rfl ?_);show wpAny _ _ (if (i:Int)<0 then _ else _) _ _ s;rw[aK (by lia)];show wpAny _ _ (field (.ref it) 0 >>= _) _ _ s;refine aG (gP ho hd (x:=.ref l) rfl ?_);show wpAny _ _ (seqItems? (.ref l) >>= _) _ _ s;refine aG (iZ hol hdl ?_);simp only[dg,hx];refine aG (gW ho hd (by simp) (aV ⟨x,rfl,aV (hQ _ ?_ (fF ..))⟩));exact⟨_,fW _ ho (iz (eL hd _)),(ja ..).trans hc,by
  rw[eL hd];simp[rawInt]⟩
theorem zL{l:ak}{i:Int}{Q:Option af->aA->Prop}(hh:A.handled=none)(hit:uf s.heap it l i)(hi:i<0)
  (hQ:∀h',(∀b o,s.heap.get? b=some o->h'.get? b=some o)->Q none { s with heap:=h' }):wpAny (model prog w) A (pyNext (.ref it)) Q E s:=by
 obtain⟨o,ho,hc,hd⟩:=id hit;unfold pyNext;refine aG (iG (dw (name:=Str.ofString "__next__") hit.typeIs slot_lri_next
  (cV slot_lri_next hit.typeIs entry_lri_next ?_ (u5 _))))
 show wpAny _ _ (field (.ref it) 1 >>= _) _ _ s;refine aG (gP ho hd (x:=rawInt i) rfl ?_);show wpAny _ _ (if i<0 then _ else _) _ _ s;rw[aM hi];refine aG (eN ?_);refine aG ?_;show wpAny _ _ (newExc (.type "StopIteration") [] >>= _) _ _ _;refine aG ?_;simp only[newExc,newTuple];refine aG (cZ ?_ (by size_fits));refine aG (m:=firstArgMember _ _) (iI (a:=Value.none) (by first|rfl|(simp only[firstArgMember];rfl)) ?_);refine cZ ?_ (by size_fits);simp only[raiseNew];refine aG (wpAny_handled ?_)
 first|rw[show A.in1.handled=none from hh]|rw[hh]
 refine aG (aV (wpAny_throw ?_));refine aG (wpAny_isInstance (T := "StopIteration") (b:=true) ⟨_,bD _ rfl,rfl⟩ isSubtype_stop ?_);exact aV (hQ _ λb o e=>aS _ (aS _ e))
end
theorem Kv(l:ak)(items:Array af)(n:Nat)(dd:Option ak)(sl:Array (Option af)) :
  Meets (Builtin.«list.__reversed__» ⟨[.ref l],[]⟩) (λ_ R s=>s.heap.get? l=some { cls:=.type "list",dict:=dd,data:=.seq items n,slots:=sl }/\R (.ok (.ret (Value.ref s.heap.objs.size))) { s with heap:=s.heap.push { cls:=Value.type "list_reverseiterator",data:=Data.fields #[Value.ref l,rawInt (((items.size:Nat):Int)-1)]},toks:=s.toks }):=
 .of_wp λprog w A R s h=>by obtain⟨hp,g,d,tk,os⟩:=s;obtain⟨hl,h⟩:=h;wp_walk using cU hl;exact⟨_,rfl,h⟩
theorem z9(l:ak)(items:Array af)(n:Nat)(dd:Option ak)(sl:Array (Option af)) :
  Meets (Builtin.«reversed.__new__» ⟨[.type "reversed",.ref l],[]⟩) (λ_ R s=>s.heap.get? l=some { cls:=.type "list",dict:=dd,data:=.seq items n,slots:=sl } /\
   R (.ok (.ret (.ref s.heap.objs.size))) { s with heap:=s.heap.push { cls:=Value.type "list_reverseiterator",data:=Data.fields #[Value.ref l,rawInt (((items.size:Nat):Int)-1)]}}):=
 .of_wp λprog w A R s h=>by
  obtain⟨hp,g,d,tk,os⟩:=s;obtain⟨hl,h⟩:=h;have hsub:=BX;have hlk:=iJ.lookup;have hT:Shared.TypeIs ⟨hp,g,d,tk,os⟩ (.ref l) "list" := ⟨_,hl,rfl⟩
  wp_walk using cU hl,wpAny_specialOf hT hlk
  refine iI (iJ.bind (.ref l)) ?_;show wpAny _ _ (if (Value.builtin "list.__reversed__" == Value.none)=true then _ else _) _ _ _;rw[aK (show ¬((Value.builtin "list.__reversed__" == Value.none)=true)from by decide)];refine aG (eN ?_);show wpAny _ _ (call (.builtin "list.__reversed__") [.ref l] >>= _) _ _ _;refine aG (iY iJ ⟨_,hl,rfl⟩ F.entry_list_reversed (F.args_list_reversed_1 _) (Kv l items n dd sl) ⟨hl,?_⟩);exact aV ⟨_,rfl,h⟩
noncomputable def ZC (K:au)(a:ak)(n:Nat):It:=
 ⟨λi H=>i<n/\∃xs x,pW K H a xs/\xs[n-1-i]?=some x,λi H x H'=>H'=H/\∀xs y,pW K H a xs->xs[n-1-i]?=some y->x=y,λi H=>n<=i⟩
theorem O5{P:aj}{w:ah}{K:au}(a it:ak)(n:Nat) :
  Turn P w K tg (ZC K a n) [it] it (λi h=>uf h it a ((n:Int)-1-i)) where
 mem:=by simp
 obj:=λi h st b hb=>by
  rw[aP]at hb;subst hb;obtain⟨o,e,c,d⟩:=st;exact⟨o,e,λv z=>by rw[d]at z;cases z⟩
 keep:=λi h h' st k=>st.at λo ho=>k it (by simp) o ho
 item:=by
  intro X hP hw hK hc i pins s σ H E I hf st hg;subst hP hw hK;obtain⟨hi,xs,x,hq,hx⟩:=hg;obtain⟨its,rv,p,hz⟩:=I.list hq;obtain⟨u,hu,ru⟩:=rv.get hx;obtain⟨i0,i1,i2,i3,i4,i5⟩:=hf it (by simp);refine yf (i:=n-1-i) (by rw[show(((n-1-i:Nat)):Int)=(n:Int)-1-i by lia];exact st) p.isList (x:=u) (by simpa using hu) λh' hit' hs'=>?_;obtain⟨oo,e1,c1,d1⟩:=id hit';refine⟨u,rfl,DQ (s:={ s with heap:=h' }) e1 c1 d1 (by decide) ⟨x,H,I.turned (t':=s.toks) (λb o hb q=>hs'.extBut b o hb q) i0 i1 i3 i4 i5,ru,⟨rfl,λys y hy hyi=>?_⟩,?_,λb hb=>?_⟩⟩
  ·rw[I.DH hy hq,hx]at hyi;exact a_ hyi
  ·rw[show(n:Int)-1-((i+1:Nat):Int)=((n-1-i:Nat):Int)-1 by lia];exact hit'
  ·rw[aP]at hb;rw[hb];exact i0
 done:=by
  intro X hP hw hK hc i pins s σ H E I hf st hg;subst hP hw hK;have hg:n<=i:=hg;exact zL (I.ok.hd hc) st (by lia) λh' hk=>⟨rfl,I.kept (t':=s.toks) hk⟩
 self:=λ_ _ _ _ _ st h=>zx st h
section
variable {X:Cx}
noncomputable def ZQ (K:au)(ta:TA):TI:=λσ H R=>ta σ H λvs H1=>∃a xs,vs=[.ref a]/\pW K H1 a xs/\R (ZC K a xs.length) H1
theorem VN{a:aC}{ta:TA}{p:Pos}(hg:Gl X "reversed")(hm:X.mg "reversed" = none)(ha:PA X [a] ta)(hs:starEach [a] X.env=[(false,eval a X.env)]:=by rfl):PI X tg (.Call (.Name "reversed" p) [a] [] pos) (ZQ X.K ta):=by
 intro pins s σ H R I h;refine Call_ (u7 I hg hm Eg (dD (nY (ha pos pins s σ H _ I h) λus s1 ⟨vs,H1,I1,r1,q1⟩=>?_) hs rfl));obtain⟨t,xs,e,hq,q⟩:=q1;subst e;obtain⟨u,rfl,rx⟩:=vals1 r1
 cases rx
 obtain⟨its,rv,⟨⟨cls,dd,data,sl⟩,n,g1,g2,g3,g4⟩,hz⟩:=I1.list hq;simp only at g2 g3 g4;subst g2 g3 g4;have hl:=rv.length;refine callType_other (T' := "list_reverseiterator") yi (typeCall_reversed_1 _) (newCall_reversed_1 _) entry_reversed_new (z9 t its.toArray n none sl) sub_lri_reversed ⟨g1,⟨_,bD _ rfl,rfl⟩,?_⟩;have I2:Inv X pins σ H1 { s1 with heap:=s1.heap.push { cls:=.type "list_reverseiterator",data:=.fields #[.ref t,rawInt (((its.toArray.size:Nat):Int)-1)]}}:=I1.kept (t':=s1.toks) λb o e=>aS _ e;have he:uf (s1.heap.push { cls:=.type "list_reverseiterator",data:=.fields #[.ref t,rawInt (((its.toArray.size:Nat):Int)-1)]}) s1.heap.objs.size t ((xs.length:Int)-1-((0:Nat):Int)):=⟨_,bD _ rfl,rfl,by rw[bg,hl];simp⟩;refine zx he ⟨_,[s1.heap.objs.size],_,_,H1,rfl,I2,O5 t _ xs.length,he,λb hb=>?_,q⟩;rw[aP]at hb;rw[hb];exact I1.EU (aQ _) (I1.hok.fresh (aQ _))
end
end L2
namespace Sx
open PySem PyProof.Rows
structure Ord where
 lt:Nat->Nat->Bool
 K6:∀i,lt i i=false
 tr:∀i j k,lt i j=true->lt j k=true->lt i k=true
 neg:∀i j k,lt i k=true->lt i j=true\/lt j k=true
noncomputable def P (o:Ord)(i j:Nat):Prop:=o.lt i j=true\/(o.lt j i=false/\i<j)
theorem Ord.aao(o:Ord)(h:o.lt i j=true):o.lt j i=false:=by
 cases e:o.lt j i with
 | false=>rfl
 | true=>have:=o.tr _ _ _ h e;rw[o.K6]at this;cases this
theorem P.K6(h:P o i i):False:=by
 rcases h with h|⟨_,h⟩
 ·rw[o.K6]at h;cases h
 ·lia
theorem P.trans{k:Nat}(a:P o i j)(b:P o j k):P o i k:=by
 rcases a with a|⟨a,a'⟩
 ·rcases b with b|⟨b,b'⟩
  ·exact .inl (o.tr _ _ _ a b)
  ·rcases o.neg i k j a with z|z
   ·exact .inl z
   ·rw[b]at z;cases z
 ·rcases b with b|⟨b,b'⟩
  ·rcases o.neg j i k b with z|z
   ·rw[a]at z;cases z
   ·exact .inl z
  ·refine .inr ⟨?_,by lia⟩
   cases e:o.lt k i with
   | false=>rfl
   | true=>
    rcases o.neg k j i e with z|z
    ·rw[b]at z;cases z
    ·rw[a]at z;cases z
theorem P.of_lt{o:Ord}(h:o.lt i j=true):P o i j:=.inl h
theorem P.yd{o:Ord}(h:o.lt j i=false)(hij:i<j):P o i j:=.inr ⟨h,hij⟩
theorem P.lt{o:Ord}(h:P o i j)(hij:j<i):o.lt i j=true:=by
 rcases h with h|⟨_,h⟩
 ·exact h
 ·lia
theorem P.ge{o:Ord}(h:P o i j):o.lt j i=false:=by
 rcases h with h|⟨h,_⟩
 ·exact o.aao h
 ·exact h
noncomputable def So (o:Ord)(g:Nat->Nat)(a b:Nat):Prop:=∀i j,a<=i->i<j->j<b->P o (g i) (g j)
noncomputable def Cl (g:Nat->Nat)(a b:Nat):Prop:=∀i,a<=i->i<b->a<=g i/\g i<b
noncomputable def rev (g:Nat->Nat)(i j:Nat):Nat->Nat:=λk=>if i<=k/\k<j then g (i+j-1-k)else g k
noncomputable def mv (g:Nat->Nat)(src dst:Nat):Nat->Nat:=λk=>if k=dst then g src else if dst<k/\k<=src then g (k-1)else g k
theorem yU{g:Nat->Nat}{k:Nat}(h:i<=k)(h2:k<j):rev g i j k=g (i+j-1-k):=aM ⟨h,h2⟩
theorem pT{g:Nat->Nat}{k:Nat}(h:k<i\/j<=k):rev g i j k=g k:=aK (by lia)
theorem MZ{g:Nat->Nat}:mv g s d d=g s:=aM rfl
theorem Dt{g:Nat->Nat}{k:Nat}(h:d<k)(h2:k<=s):mv g s d k=g (k-1):=by
 unfold mv;rw[aK (by lia),aM ⟨h,h2⟩]
theorem CN{g:Nat->Nat}{k:Nat}(hd:d<=s)(h:k<d\/s<k):mv g s d k=g k:=by
 unfold mv;rw[aK (by lia),aK (by lia)]
section
variable {prog:aj}{w:ah}{A:az}{E:af->aA->Prop}{s:aA}{o:Ord}{N:Nat}{f:Nat->Keyed}{kd:SortKind}{g:Nat->Nat}{p:Array (Nat×Nat×Nat)}{st:SortSt}
noncomputable def Bx (prog:aj)(w:ah)(A:az)(s:aA)(o:Ord)(N:Nat)(f:Nat->Keyed)(kd:SortKind):Prop:=
 ∀i j,i<N->j<N->∀(E':af->aA->Prop) (Q:Bool->aA->Prop),Q (o.lt i j) s->wpAny (model prog w) A (keyLt' kd (f i).1 (f j).1) Q E' s
structure Sg (N:Nat)(f:Nat->Keyed)(kd:SortKind)(g:Nat->Nat)(p:Array (Nat×Nat×Nat))(st:SortSt):Prop where
 size:(arrOf st).size=N
 get:∀i,i<N->(arrOf st)[i]?=some (f (g i))
 lt:∀i,i<N->g i<N
 kind:kindOf st=kd
 failed:failedOf st=none
 pend:pendingOf st=p
theorem zj(C:Bx prog w A s o N f kd)(hk:kindOf st=kd)(hi:i<N)(hj:j<N){Q:Option Bool->SortSt->Prop}(q:Q (some (o.lt i j)) st):wpS (model prog w) A E s (lt' (f i) (f j)) Q st:=by
 rw[lt'_eq];refine aY (g_ ?_);rw[hk];refine aY (wpS_lift (iG (C i j hi hj _ _ ⟨rfl,?_⟩)));exact bA q
theorem ki{xs:Array Keyed}{i:Nat}{x:Keyed}(e:xs[i]?=some x){Q:Keyed->SortSt->Prop}(q:Q x st):wpS (model prog w) A E s (elem' xs i) Q st:=by
 rw[elem'_eq,e];exact bA q
theorem wj(C:Bx prog w A s o N f kd)(h:Sg N f kd g p st)(hi:i<N)(hj:j<N){Q:Option Bool->SortSt->Prop}(q:Q (some (o.lt (g i) (g j))) st):wpS (model prog w) A E s (ltAt' i j) Q st:=by
 rw[ltAt'_eq];refine aY (g_ ?_);show wpS _ _ _ _ (do let u <- elem' (arrOf st) i;let v <- elem' (arrOf st) j;lt' u v) Q st;exact aY (ki (h.get i hi) (aY (ki (h.get j hj) (zj C h.kind (h.lt i hi) (h.lt j hj) q))))
theorem Sg.arr(h:Sg N f kd g p st){xs:Array Keyed}{g':Nat->Nat}(hs:xs.size=N)(hg:∀i,i<N->xs[i]?=some (f (g' i)))(hl:∀i,i<N->g' i<N):Sg N f kd g' p (setArr st xs):=⟨hs,hg,hl,h.kind,h.failed,h.pend⟩
theorem yM(h:Sg N f kd g p st)(hj:j<=N){Q:Unit->SortSt->Prop}(q:∀st',Sg N f kd (rev g i j) p st'->Q () st'):wpS (model prog w) A E s (reverseSlice' i j) Q st:=by
 rw[reverseSlice'_eq];refine fP (q _ (h.arr (by rw[mirror_size];exact h.size) (λk hk=>?_) λk hk=>?_))
 ·rw[getElem?_mirror_all (by rw[h.size];exact hj)];unfold rev;by_cases c:i<=k/\k<j
  ·rw[aM c,aM c];exact h.get _ (by lia)
  ·rw[aK c,aK c];exact h.get _ hk
 ·unfold rev;by_cases c:i<=k/\k<j
  ·rw[aM c];exact h.lt _ (by lia)
  ·rw[aK c];exact h.lt _ hk
theorem V9(h:Sg N f kd g p st){a:Nat}(ha:a<N)(hb:b<=a){Q:Unit->SortSt->Prop}(q:∀st',Sg N f kd (mv g a b) p st'->Q () st'):wpS (model prog w) A E s (moveDown' a b) Q st:=by
 rw[moveDown'_eq];refine fP (q _ (h.arr (by rw[bubble_size];exact h.size) (λk hk=>?_) λk hk=>?_))
 ·rw[getElem?_bubble (by rw[h.size];exact ha) _ (by lia),show a-(a-b)=b by lia];unfold mv;by_cases c:k=b
  ·rw[aM c,aM c];exact h.get _ ha
  ·rw[aK c,aK c];by_cases c2:b<k/\k<=a
   ·rw[aM c2,aM c2];exact h.get _ (by lia)
   ·rw[aK c2,aK c2];exact h.get _ hk
 ·unfold mv;by_cases c:k=b
  ·rw[aM c];exact h.lt _ ha
  ·rw[aK c];by_cases c2:b<k/\k<=a
   ·rw[aM c2];exact h.lt _ (by lia)
   ·rw[aK c2];exact h.lt _ hk
structure Rn (o:Ord)(g0 g:Nat->Nat)(a b:Nat):Prop where
 out:∀i,i<a\/b<=i->g i=g0 i
 cl:Cl g a b
 so:So o g a b
theorem Vb{g0:Nat->Nat}{lo k l:Nat}(R:Rn o g0 g lo (lo+k))(hk:g (lo+k)=lo+k)(hl:l<=k)(h1:∀i,i<l->P o (g (lo+i)) (lo+k))(h2:∀i,l<=i->i<k->P o (lo+k) (g (lo+i))):Rn o g0 (mv g (lo+k) (lo+l)) lo (lo+(k+1)) where
 out i hi:=by rw[CN (by lia) (by lia)];exact R.out i (by lia)
 cl i a b:=by
  by_cases c:i=lo+l
  ·subst c;rw[MZ,hk];lia
  ·by_cases c2:lo+l<i
   ·rw[Dt c2 (by lia)];have:=R.cl (i-1) (by lia) (by lia);lia
   ·rw[CN (by lia) (by lia)];have:=R.cl i (by lia) (by lia);lia
 so i j a b d:=by
  by_cases c:i=lo+l
  ·subst c;rw[MZ,Dt b (by lia),hk];have:=h2 (j-1-lo) (by lia) (by lia)
   rwa [show lo+(j-1-lo)=j-1 by lia]at this
  ·by_cases c2:lo+l<i
   ·rw[Dt c2 (by lia),Dt (by lia) (by lia)];exact R.so _ _ (by lia) (by lia) (by lia)
   ·rw[CN (k:=i) (by lia) (by lia)];by_cases c3:j=lo+l
    ·subst c3;rw[MZ,hk];have:=h1 (i-lo) (by lia)
     rwa [show lo+(i-lo)=i by lia]at this
    ·by_cases c4:lo+l<j
     ·rw[Dt c4 (by lia)];exact R.so _ _ (by lia) (by lia) (by lia)
     ·rw[CN (by lia) (by lia)];exact R.so _ _ (by lia) (by lia) (by lia)
theorem WG(C:Bx prog w A s o N f kd){g0:Nat->Nat}{lo n ok:Nat}(h:Sg N f kd g p st)(hn:lo+n<=N)(h1:1<=ok)(hok:ok<=n)(R:Rn o g0 g lo (lo+ok))(hid:∀i,lo+ok<=i->i<lo+n->g0 i=i)
  {Q:Bool->SortSt->Prop} (q:∀g' st',Sg N f kd g' p st'->Rn o g0 g' lo (lo+n)->Q true st'):wpS (model prog w) A E s (binarySort' lo n ok) Q st:=by
 rw[binarySort'_eq,show max ok 1=ok by lia];refine aY (d_ (cI (I:=λk c st'=>c=(none,())/\∃g',Sg N f kd g' p st'/\Rn o g0 g' lo (lo+min k n))
  (Q:=λc st'=>c=(none,())/\∃g',Sg N f kd g' p st'/\Rn o g0 g' lo (lo+n)) ?step ?fin ?init) ?post)
 case post=>
  rintro c st' ⟨rfl,g',h',R'⟩;exact bA (q g' st' h' R')
 case init=>exact⟨rfl,g,h,by rw[show min ok n=ok by lia];exact R⟩
 case fin=>
  rintro c st' ⟨hc,g',h',R'⟩;exact⟨hc,g',h',by rwa [show min (max ok n) n=n by lia]at R'⟩
 case step=>
  rintro k c st' hak hkn ⟨rfl,g',h',R'⟩;rw[show min k n=k by lia]at R';have gk:g' (lo+k)=lo+k:=by rw[R'.out _ (by lia)];exact hid _ (by lia) (by lia)
  refine aY (d_ (cI (I:=λx c s2=>s2=st'/\∃u v,c=(none,u,v)/\u<=v/\v<=k/\v-u<=k-x /\
    (∀i,i<u->P o (g' (lo+i)) (lo+k))/\(∀i,v<=i->i<k->P o (lo+k) (g' (lo+i))))
   (Q:=λc s2=>s2=st'/\∃u v,c=(none,u,v)/\u<=k /\
    (∀i,i<u->P o (g' (lo+i)) (lo+k))/\(∀i,u<=i->i<k->P o (lo+k) (g' (lo+i)))) ?istep ?ifin ?iinit) ?ipost)
  case iinit=>exact⟨rfl,0,k,rfl,by lia,by lia,by lia,λi hi=>by lia,λi h1 h2=>by lia⟩
  case ifin=>
   rintro c s2 ⟨rfl,u,v,rfl,huv,hvk,hm,low,top⟩;have:u=v:=by lia
   subst this;exact⟨rfl,u,u,rfl,hvk,low,top⟩
  case istep=>
   rintro x c s2 _ hxk ⟨rfl,u,v,rfl,huv,hvk,hm,low,top⟩;dsimp only;by_cases hge:u>=v
   ·rw[aM hge];have:u=v:=by lia
    subst this;exact bA ⟨rfl,u,u,rfl,hvk,low,top⟩
   ·rw[aK hge];have hmk:(u+v) / 2<k:=by lia
    have gm:=R'.cl (lo+(u+v) / 2) (by lia) (by lia);refine aY (wj C h' (by lia) (by lia) ?_);rw[gk]
    cases hless:o.lt (lo+k) (g' (lo+(u+v) / 2))
    case true=>
     simp only[cY];refine bA ⟨rfl,u,(u+v) / 2,rfl,by lia,by lia,by lia,low,λi h1 h2=>?_⟩;by_cases c:i=(u+v) / 2
     ·subst c;exact .inl hless
     ·exact(P.of_lt hless).trans (R'.so _ _ (by lia) (by lia) (by lia))
    case false=>
     simp only[bf,bU];refine bA ⟨rfl,(u+v) / 2+1,v,rfl,by lia,by lia,by lia,λi h1=>?_,top⟩;have last:=P.yd hless gm.2;by_cases c:i=(u+v) / 2
     ·subst c;exact last
     ·exact(R'.so _ _ (by lia) (by lia) (by lia)).trans last
  case ipost=>
   rintro c s2 ⟨rfl,u,v,rfl,huk,low,top⟩;dsimp only;refine aY (V9 h' (by lia) (by lia) λst3 h3=>?_);refine bA ⟨rfl,_,h3,?_⟩;rw[show min (k+1) n=k+1 by lia];exact Vb R' gk huk low top
end
noncomputable abbrev As:=Option (Option Nat)×Nat
noncomputable abbrev Ds:=Option (Option Nat)×Nat×Nat
noncomputable def N7 (lo a nrem:Nat):StateT SortSt Sem As:=
 forIn [a:nrem] ((none,a):As) λ_ c=>do
  let x <- ltAt' (lo+c.2) (lo+c.2-1)
  match x with
  | some b=>if b=true then pure (ForInStep.done (none,c.2))else pure (ForInStep.yield (none,c.2+1))
  | _=>pure (ForInStep.done (some none,c.2))
noncomputable def Eh (lo n nrem:Nat):StateT SortSt Sem (Option Nat):=do
 reverseSlice' lo (lo+n)
 let c <- N7 lo n nrem
 match c.1 with
 | some r=>pure r
 | none=>pure (some c.2)
noncomputable def Sd (lo n nrem:Nat):StateT SortSt Sem Ds:=
 forIn [n:nrem] ((none,n,0):Ds) λ_ c=>do
  let x <- ltAt' (lo+c.2.1) (lo+c.2.1-1)
  match x with
  | some b=>
   if b=true then
    if c.2.2>0 then do
     reverseSlice' (lo+c.2.1-(c.2.2+1)) (lo+c.2.1)
     pure (ForInStep.yield (none,c.2.1+1,0))
    else pure (ForInStep.yield (none,c.2.1+1,0))
   else do
    let x <- ltAt' (lo+c.2.1-1) (lo+c.2.1)
    match x with
    | some b=>
     if b=true then pure (ForInStep.done (none,c.2.1,c.2.2))
     else pure (ForInStep.yield (none,c.2.1+1,c.2.2+1))
    | _=>pure (ForInStep.done (some none,c.2.1,c.2.2))
  | _=>pure (ForInStep.done (some none,c.2.1,c.2.2))
noncomputable def ME (lo n nrem:Nat):StateT SortSt Sem (Option Nat):=do
 liftM (rule "list.sort.descending-run")
 let c <- Sd lo (n+1) nrem
 match c.1 with
 | some r=>pure r
 | none=>
  if c.2.2>0 then do
   reverseSlice' (lo+c.2.1-(c.2.2+1)) (lo+c.2.1)
   Eh lo c.2.1 nrem
  else Eh lo c.2.1 nrem
theorem count_eq(lo nrem:Nat):countRun' lo nrem=(do
  let c <- N7 lo 1 nrem
  match c.1 with
  | some r=>pure r
  | none=>
   if (c.2 == nrem)=true then pure (some c.2)
   else if c.2>1 then do
    let x <- ltAt' lo (lo+c.2-1)
    match x with
    | some b=>if b=true then pure (some c.2)else do
      reverseSlice' lo (lo+c.2)
      ME lo c.2 nrem
    | _=>pure none
   else ME lo c.2 nrem):=by
 rw[countRun'_eq];dsimp only;unfold ME Eh Sd N7;congr 1
 funext c
 obtain⟨r,n⟩:=c
 cases r with
 | some r=>rfl
 | none=>
  dsimp only;split
  ·rfl
  ·split
   ·congr 1
    funext x
    cases x with
    | none=>rfl
    | some b=>
     dsimp only;split
     ·rfl
     ·congr 1
      funext _r
      congr 1
      funext _u
      congr 1;congr 1
      funext s2
      obtain⟨r2,n2,q2⟩:=s2
      cases r2 with
      | some r2=>rfl
      | none=>
       dsimp only;split
       ·congr 1
        funext _v
        congr 1
        funext _w
        congr 1
        funext s3
        obtain⟨r3,n3⟩:=s3
        cases r3<;>rfl
       ·congr 1
        funext _w
        congr 1
        funext s3
        obtain⟨r3,n3⟩:=s3
        cases r3<;>rfl
   ·congr 1
    funext _u
    congr 1;congr 1
    funext s2
    obtain⟨r2,n2,q2⟩:=s2
    cases r2 with
    | some r2=>rfl
    | none=>
     dsimp only;split
     ·congr 1
      funext _v
      congr 1
      funext _w
      congr 1
      funext s3
      obtain⟨r3,n3⟩:=s3
      cases r3<;>rfl
     ·congr 1
      funext _w
      congr 1
      funext s3
      obtain⟨r3,n3⟩:=s3
      cases r3<;>rfl
section
variable {prog:aj}{w:ah}{A:az}{E:af->aA->Prop}{s:aA}{o:Ord}{N:Nat}{f:Nat->Keyed}{kd:SortKind}{g g0:Nat->Nat}{p:Array (Nat×Nat×Nat)}{st:SortSt}
theorem Rn.snoc{a:Nat}(R:Rn o g0 g a b)(hab:a<b)(hb:g b=b)(h:o.lt b (g (b-1))=false):Rn o g0 g a (b+1) where
 out i hi:=R.out i (by lia)
 cl i h1 h2:=by
  by_cases c:i=b
  ·subst c;lia
  ·have:=R.cl i h1 (by lia);lia
 so i j h1 h2 h3:=by
  by_cases c:j=b
  ·subst c;rw[hb];have l:=R.cl (j-1) (by lia) (by lia);have last:P o (g (j-1)) j:=P.yd h l.2;by_cases c2:i=j-1
   ·subst c2;exact last
   ·exact(R.so i (j-1) h1 (by lia) (by lia)).trans last
  ·exact R.so i j h1 h2 (by lia)
theorem Pa(C:Bx prog w A s o N f kd){lo a:Nat}(h:Sg N f kd g p st)(hn:lo+nrem<=N)(h1:1<=a)(han:a<=nrem)(R:Rn o g0 g lo (lo+a))(hid:∀i,lo+a<=i->i<lo+nrem->g0 i=i)
  {Q:As->SortSt->Prop} (q:∀n,a<=n->n<=nrem->Rn o g0 g lo (lo+n)->(n=nrem\/o.lt (lo+n) (g (lo+n-1))=true)->Q (none,n) st):wpS (model prog w) A E s (N7 lo a nrem) Q st:=by
 unfold N7;refine cI (I:=λx c st'=>st'=st/\c=(none,x)/\Rn o g0 g lo (lo+x)) ?step ?fin ⟨rfl,rfl,R⟩
 case fin=>
  rintro c st' ⟨rfl,rfl,R'⟩;rw[show max a nrem=nrem by lia]at R' ⊢;exact q nrem han (aQ _) R' (.inl rfl)
 case step=>
  rintro x c st' hax hxn ⟨rfl,rfl,R'⟩;dsimp only;have gx:g (lo+x)=lo+x:=by rw[R'.out _ (by lia)];exact hid _ (by lia) (by lia)
  refine aY (wj C h (by lia) (by lia) ?_);rw[gx]
  cases hl:o.lt (lo+x) (g (lo+x-1))
  case true=>
   simp only[cY];exact bA (q x hax (by lia) R' (.inr hl))
  case false=>
   simp only[bf,bU];exact bA ⟨rfl,rfl,R'.snoc (by lia) gx hl⟩
structure Dc (o:Ord)(g0 g:Nat->Nat)(a b q:Nat):Prop where
 out:∀i,i<a\/b<=i->g i=g0 i
 cl:Cl g a b
 few:a+(q+1)<=b
 dn:∀i j,a<=i->i<j->j<b->i<b-(q+1)->P o (g j) (g i)
 id:∀i,b-(q+1)<=i->i<b->g i=i
 al:∀i j,b-(q+1)<=i->i<b->b-(q+1)<=j->j<b->o.lt i j=false
theorem Dc.turn{a q:Nat}(D:Dc o g0 g a b q):(∀i,i<a\/b<=i->rev g (b-(q+1)) b i=g0 i)/\Cl (rev g (b-(q+1)) b) a b/\(∀i j,a<=i->i<j->j<b->P o (rev g (b-(q+1)) b j) (rev g (b-(q+1)) b i))/\(∀i,b-(q+1)<=i->i<b->∃k,rev g (b-(q+1)) b i=k/\b-(q+1)<=k/\k<b):=by
 have few:=D.few;have inn:∀i,b-(q+1)<=i->i<b->rev g (b-(q+1)) b i=b-(q+1)+b-1-i:=λi h1 h2=>by
  rw[yU h1 h2];exact D.id _ (by lia) (by lia)
 refine⟨λi hi=>?_,λi h1 h2=>?_,λi j h1 h2 h3=>?_,λi h1 h2=>⟨_,inn i h1 h2,by lia,by lia⟩⟩
 ·rw[pT (by lia)];exact D.out i hi
 ·by_cases c:i<b-(q+1)
  ·rw[pT (by lia)];exact D.cl i h1 h2
  ·rw[inn i (by lia) h2];lia
 ·by_cases c:i<b-(q+1)
  ·rw[pT (k:=i) (by lia)];by_cases c2:j<b-(q+1)
   ·rw[pT (by lia)];exact D.dn i j h1 h2 h3 c
   ·rw[inn j (by lia) h3];have:=D.dn i (b-(q+1)+b-1-j) h1 (by lia) (by lia) c
    rwa [D.id _ (by lia) (by lia)]at this
  ·rw[inn i (by lia) (by lia),inn j (by lia) h3];exact P.yd (D.al _ _ (by lia) (by lia) (by lia) (by lia)) (by lia)
noncomputable def Fin (o:Ord)(g0 g:Nat->Nat)(a b:Nat):Prop:=(∀i,i<a\/b<=i->g i=g0 i)/\Cl g a b/\(∀i j,a<=i->i<j->j<b->P o (g j) (g i))
theorem Dc.DK{a:Nat}(D:Dc o g0 g a b 0):Fin o g0 g a b:=⟨D.out,D.cl,λi j h1 h2 h3=>D.dn i j h1 h2 h3 (by lia)⟩
theorem Fin.rn{a:Nat}(D:Fin o g0 g a b):Rn o g0 (rev g a b) a b where
 out i hi:=by rw[pT hi];exact D.1 i hi
 cl i h1 h2:=by
  rw[yU h1 h2];exact D.2.1 _ (by lia) (by lia)
 so i j h1 h2 h3:=by
  rw[yU h1 (by lia),yU (by lia) h3];exact D.2.2 _ _ (by lia) (by lia) (by lia)
theorem Fin.add{a:Nat}(D:Fin o g0 g a b)(hb:g b=b)(hab:a<b)(h:∀i,a<=i->i<b->P o b (g i)):Dc o g0 g a (b+1) 0 where
 out i hi:=D.1 i (by lia)
 cl i h1 h2:=by
  by_cases c:i=b
  ·subst c;lia
  ·have:=D.2.1 i h1 (by lia);lia
 few:=by lia
 dn i j h1 h2 h3 _:=by
  by_cases c:j=b
  ·subst c;rw[hb];exact h i h1 h2
  ·exact D.2.2 i j h1 h2 (by lia)
 id i h1 h2:=by
  have:i=b:=by lia
  rw[this,hb]
 al i j h1 h2 h3 h4:=by
  have:i=j:=by lia
  rw[this];exact o.K6 _
theorem yx(C:Bx prog w A s o N f kd){lo n:Nat}(h:Sg N f kd g p st)(hn:lo+nrem<=N)(h1:1<=n)(han:n<=nrem)(D:Fin o g0 g lo (lo+n))(hid:∀i,lo<=i->i<lo+nrem->g0 i=i)
  {Q:Option Nat->SortSt->Prop} (q:∀m g' st',Sg N f kd g' p st'->1<=m->m<=nrem->Rn o g0 g' lo (lo+m)->Q (some m) st'):wpS (model prog w) A E s (Eh lo n nrem) Q st:=by
 unfold Eh;refine aY (yM h (by lia) λst2 h2=>?_);exact aY (Pa C h2 hn h1 han D.rn (λi a b=>hid i (by lia) b) λm hm1 hm2 R _=>bA (q m _ _ h2 (by lia) hm2 R))
theorem Wm(C:Bx prog w A s o N f kd){lo n:Nat}(h:Sg N f kd g p st)(hn:lo+nrem<=N)(h1:1<=n)(han:n<=nrem)(D:Dc o g0 g lo (lo+n) 0)(hid:∀i,lo<=i->i<lo+nrem->g0 i=i)
  {Q:Ds->SortSt->Prop} (q:∀m e g' st',Sg N f kd g' p st'->1<=m->m<=nrem->Dc o g0 g' lo (lo+m) e->Q (none,m,e) st'):wpS (model prog w) A E s (Sd lo n nrem) Q st:=by
 unfold Sd;refine cI (I:=λx c st'=>∃e g',c=(none,x,e)/\Sg N f kd g' p st'/\Dc o g0 g' lo (lo+x) e) ?step ?fin ⟨0,g,rfl,h,D⟩
 case fin=>
  rintro c st' ⟨e,g',rfl,h',D'⟩;rw[show max n nrem=nrem by lia]at D' ⊢;exact q nrem e g' st' h' (by lia) (aQ _) D'
 case step=>
  rintro x c st' hax hxn ⟨e,g',rfl,h',D'⟩;dsimp only;have few:=D'.few;have gx:g' (lo+x)=lo+x:=by rw[D'.out _ (by lia)];exact hid _ (by lia) (by lia)
  have gy:g' (lo+x-1)=lo+x-1:=D'.id _ (by lia) (by lia);refine aY (wj C h' (by lia) (by lia) ?_);rw[gx,gy]
  cases hl:o.lt (lo+x) (lo+x-1)
  case true=>
   simp only[cY];by_cases he:e>0
   ·rw[aM he];obtain⟨t1,t2,t3,t4⟩:=D'.turn;refine aY (yM h' (by lia) λst2 h2=>bA ⟨0,_,rfl,h2,?_⟩);refine Fin.add (b:=lo+x) ⟨t1,t2,t3⟩ (by rw[pT (by lia)];exact gx) (by lia) λi a b=>?_;by_cases c:lo+x-(e+1)<=i
    ·obtain⟨k,ek,k1,k2⟩:=t4 i c b;rw[ek]
     rcases o.neg _ k _ hl with z|z
     ·exact .inl z
     ·rw[D'.al _ _ k1 k2 (by lia) (by lia)]at z;cases z
    ·rw[pT (by lia)];have:=D'.dn i (lo+x-1) a (by lia) (by lia) (by lia);rw[gy]at this;exact(P.of_lt hl).trans this
   ·rw[aK he];have:e=0:=by lia
    subst this;refine bA ⟨0,_,rfl,h',Fin.add (b:=lo+x) D'.DK gx (by lia) λi a b=>?_⟩;by_cases c:i=lo+x-1
    ·subst c;rw[gy];exact .inl hl
    ·have:=D'.dn i (lo+x-1) a (by lia) (by lia) (by lia);rw[gy]at this;exact(P.of_lt hl).trans this
  case false=>
   simp only[bf,bU];refine aY (wj C h' (by lia) (by lia) ?_);rw[gx,gy]
   cases hg:o.lt (lo+x-1) (lo+x)
   case true=>
    simp only[cY];exact bA (q x e g' st' h' (by lia) (by lia) D')
   case false=>
    simp only[bf,bU];refine bA ⟨e+1,g',rfl,h',?_⟩;have eq1:∀i,lo+x-(e+1)<=i->i<lo+x->o.lt i (lo+x)=false/\o.lt (lo+x) i=false:=λi a b=>by
     constructor
     ·cases z:o.lt i (lo+x)with
      | false=>rfl
      | true=>
       rcases o.neg _ (lo+x-1) _ z with y|y
       ·rw[D'.al _ _ a b (by lia) (by lia)]at y;cases y
       ·rw[hg]at y;cases y
     ·cases z:o.lt (lo+x) i with
      | false=>rfl
      | true=>
       rcases o.neg _ (lo+x-1) _ z with y|y
       ·rw[hl]at y;cases y
       ·rw[D'.al _ _ (by lia) (by lia) a b]at y;cases y
    exact {
     out:=λi hi=>D'.out i (by lia)
     cl:=λi a b=>by
      by_cases c:i=lo+x
      ·subst c;lia
      ·have:=D'.cl i a (by lia);lia
     few:=by lia
     dn:=λi j a b c d=>by
      by_cases z:j=lo+x
      ·subst z;rw[gx];have y:=D'.dn i (lo+x-1) a (by lia) (by lia) (by lia);rw[gy]at y;have gi:=D'.cl i a (by lia)
       rcases y with y|⟨_,y⟩
       ·rcases o.neg _ (lo+x) _ y with v|v
        ·rw[hg]at v;cases v
        ·exact .inl v
       ·lia
      ·exact D'.dn i j a b (by lia) (by lia)
     id:=λi a b=>by
      by_cases z:i=lo+x
      ·subst z;exact gx
      ·exact D'.id i (by lia) (by lia)
     al:=λi j a b c d=>by
      by_cases z:i=lo+x
      ·subst z;by_cases y:j=lo+x
       ·subst y;exact o.K6 _
       ·exact(eq1 j (by lia) (by lia)).2
      ·by_cases y:j=lo+x
       ·subst y;exact(eq1 i (by lia) (by lia)).1
       ·exact D'.al i j (by lia) (by lia) (by lia) (by lia)}
theorem Hw(C:Bx prog w A s o N f kd){lo n:Nat}(h:Sg N f kd g p st)(hn:lo+nrem<=N)(han:n+1<=nrem)(D:Dc o g0 g lo (lo+(n+1)) 0)(hid:∀i,lo<=i->i<lo+nrem->g0 i=i)
  {Q:Option Nat->SortSt->Prop} (q:∀m g' st',Sg N f kd g' p st'->1<=m->m<=nrem->Rn o g0 g' lo (lo+m)->Q (some m) st'):wpS (model prog w) A E s (ME lo n nrem) Q st:=by
 unfold ME;refine aY (wpS_lift (eN ⟨rfl,?_⟩));refine aY (Wm C h hn (by lia) han D hid λm e g' st' h' m1 m2 D'=>?_);dsimp only;by_cases he:e>0
 ·rw[aM he];obtain⟨t1,t2,t3,_⟩:=D'.turn;exact aY (yM h' (by lia) λst2 h2=>yx C h2 hn m1 m2 ⟨t1,t2,t3⟩ hid q)
 ·rw[aK he];have:e=0:=by lia
  subst this;exact yx C h' hn m1 m2 D'.DK hid q
theorem NL(C:Bx prog w A s o N f kd){lo:Nat}(h:Sg N f kd g p st)(hn:lo+nrem<=N)(h1:1<=nrem)(hid:∀i,lo<=i->i<lo+nrem->g i=i)
  {Q:Option Nat->SortSt->Prop} (q:∀m g' st',Sg N f kd g' p st'->1<=m->m<=nrem->Rn o g g' lo (lo+m)->Q (some m) st'):wpS (model prog w) A E s (countRun' lo nrem) Q st:=by
 rw[count_eq];refine aY (Pa C h hn (aQ 1) h1 (g0:=g) ⟨λ_ _=>rfl,λi a b=>?_,λi j a b c=>by lia⟩ (λi a b=>hid i (by lia) b) λn n1 n2 R hor=>?_)
 ·have:i=lo:=by lia
  subst this;rw[hid i (aQ _) (by lia)];lia
 dsimp only;by_cases hnn:n=nrem
 ·rw[aM (by simpa using hnn)];exact bA (q n g st h n1 n2 R)
 ·rw[aK (by simpa using hnn)];have hlt:=hor.resolve_left hnn;rw[hid (lo+n-1) (by lia) (by lia)]at hlt;have gn:g (lo+n)=lo+n:=hid _ (by lia) (by lia);by_cases hgt:n>1
  ·rw[aM hgt];refine aY (wj C h (by lia) (by lia) ?_);rw[hid lo (by lia) (by lia),hid (lo+n-1) (by lia) (by lia)]
   cases hr:o.lt lo (lo+n-1)
   case true=>
    simp only[cY];exact bA (q n g st h n1 n2 R)
   case false=>
    simp only[bf,bU];have id':∀i,lo<=i->i<lo+n->g i=i:=λi a b=>hid i a (by lia);have pp:∀i j,lo<=i->i<j->j<lo+n->o.lt i j=false/\o.lt j i=false:=λi j a b c=>by
     have r:=R.so i j a b c;rw[id' i a (by lia),id' j (by lia) c]at r;refine⟨?_,r.ge⟩
     cases z:o.lt i j with
     | false=>rfl
     | true=>
      rcases o.neg _ lo _ z with y|y
      ·by_cases x:i=lo
       ·subst x;rw[o.K6]at y;cases y
       ·have r2:=R.so lo i (by lia) (by lia) (by lia);rw[id' i a (by lia),id' lo (by lia) (by lia)]at r2;rw[r2.ge]at y;cases y
      ·rcases o.neg _ (lo+n-1) _ y with x|x
       ·rw[hr]at x;cases x
       ·by_cases v:j=lo+n-1
        ·subst v;rw[o.K6]at x;cases x
        ·have r2:=R.so j (lo+n-1) (by lia) (by lia) (by lia);rw[id' j (by lia) c,id' (lo+n-1) (by lia) (by lia)]at r2;rw[r2.ge]at x;cases x
    refine aY (yM h (by lia) λst2 h2=>Hw C h2 hn (by lia) ?_ hid q);have rin:∀i,lo<=i->i<lo+n->rev g lo (lo+n) i=lo+(lo+n)-1-i:=λi a b=>by rw[yU a b];exact id' _ (by lia) (by lia)
    refine Fin.add (b:=lo+n) ⟨λi hi=>pT hi,λi a b=>by rw[rin i a b];lia,λi j a b c=>?_⟩ (by rw[pT (by lia)];exact gn) (by lia) λi a b=>?_
    ·rw[rin i a (by lia),rin j (by lia) c];exact P.yd (pp _ _ (by lia) (by lia) (by lia)).2 (by lia)
    ·rw[rin i a b];by_cases x:lo+(lo+n)-1-i=lo+n-1
     ·rw[x];exact .inl hlt
     ·rcases o.neg _ (lo+(lo+n)-1-i) _ hlt with z|z
      ·exact .inl z
      ·rw[(pp _ _ (by lia) (by lia) (by lia)).1]at z;cases z
  ·rw[aK hgt];have:n=1:=by lia
   subst this;refine Hw C h hn (by lia) ?_ hid q;refine Fin.add (b:=lo+1) ⟨λi hi=>rfl,R.cl,λi j a b c=>by lia⟩ gn (by lia) λi a b=>?_;have:i=lo:=by lia
   subst this;rw[hid i (by lia) (by lia)];rw[show i+1-1=i by lia]at hlt;exact .inl hlt
end
noncomputable def nc:Bool->Keyed->Array Keyed->Nat->Nat->Nat->StateT SortSt Sem (Option Nat):=sortPriv% PySem.Builtin.gallop
noncomputable def U6 (ask:Nat->StateT SortSt Sem (Option Bool))(n at0:Nat):StateT SortSt Sem (Option Nat):=do
 let mut was:=0
 let mut far:=1
 let mut low:=0
 let mut top:=0
 let some yes <- ask at0|return none
 if yes then
  let most:=n-at0
  for _ in [0:n] do
   if far>=most then break
   let some ok <- ask (at0+far)|return none
   if !ok then break
   was:=far
   far:=2 * far+1
  low:=at0+was+1
  top:=at0+min far most
 else
  let most:=at0+1
  for _ in [0:n] do
   if far>=most then break
   let some hit <- ask (at0-far)|return none
   if hit then break
   was:=far
   far:=2 * far+1
  low:=at0+1-min far most
  top:=at0-was
 for _ in [0:n] do
  if low>=top then break
  let m:=low+(top-low) / 2
  let some ok <- ask m|return none
  if ok then low:=m+1 else top:=m
 return some top
theorem Bo(left:Bool)(key:Keyed)(arr:Array Keyed)(base n hint:Nat):nc left key arr base n hint=U6 (λi=>do
  let x <- elem' arr (base+i)
  if left then lt' x key else return (<- lt' key x).map (!·)) n hint:=rfl
section
variable {prog:aj}{w:ah}{A:az}{E:af->aA->Prop}{s:aA}{st:SortSt}
noncomputable def Zj (be:Nat->StateT SortSt Sem (Option Bool))(n l0 h0:Nat):StateT SortSt Sem (Option Nat):=do
 let mut low:=l0
 let mut top:=h0
 for _ in [0:n] do
  if low>=top then break
  let m:=low+(top-low) / 2
  let some ok <- be m|return none
  if ok then low:=m+1 else top:=m
 return some top
theorem Tc{be:Nat->StateT SortSt Sem (Option Bool)}{n h0:Nat}(b:Nat->Bool)(hbe:∀i,i<n->∀Q:Option Bool->SortSt->Prop,Q (some (b i)) st->wpS (model prog w) A E s (be i) Q st)(hb:∀i j,i<=j->j<n->b j=true->b i=true)
  (hlh:l0<=h0) (hn:h0<=n) (hl:∀i,i<l0->b i=true) (hh:∀i,h0<=i->i<n->b i=false)
  {Q:Option Nat->SortSt->Prop} (q:∀k,k<=n->(∀i,i<k->b i=true)->(∀i,k<=i->i<n->b i=false)->Q (some k) st):wpS (model prog w) A E s (Zj be n l0 h0) Q st:=by
 unfold Zj;refine aY (d_ (cI (I:=λx c st'=>st'=st/\∃lo hi,c=(none,lo,hi)/\lo<=hi/\hi<=n/\hi-lo<=n-x/\(∀i,i<lo->b i=true)/\(∀i,hi<=i->i<n->b i=false))
  (Q:=λc st'=>st'=st/\∃k,c=(none,k,k)/\k<=n/\(∀i,i<k->b i=true)/\(∀i,k<=i->i<n->b i=false)) ?step ?fin ⟨rfl,l0,h0,rfl,hlh,hn,by lia,hl,hh⟩) ?post)
 case post=>
  rintro c st' ⟨rfl,k,rfl,h1,h2,h3⟩;exact bA (q k h1 h2 h3)
 case fin=>
  rintro c st' ⟨rfl,lo,hi,rfl,h1,h2,h3,h4,h5⟩;have:lo=hi:=by lia
  subst this;exact⟨rfl,lo,rfl,h2,h4,h5⟩
 case step=>
  rintro x c st' _ hx ⟨rfl,lo,hi,rfl,h1,h2,h3,h4,h5⟩;dsimp only;by_cases hge:lo>=hi
  ·rw[aM hge];have:lo=hi:=by lia
   subst this;exact bA ⟨rfl,lo,rfl,h2,h4,h5⟩
  ·rw[aK hge];have hm:lo+(hi-lo) / 2<hi:=by lia
   obtain⟨m,hm'⟩:∃m,m=lo+(hi-lo) / 2:=⟨_,rfl⟩;rw[<- hm']at hm ⊢;refine aY (hbe m (by lia) _ ?_)
   cases hv:b m
   ·simp only[bf,bU];refine bA ⟨rfl,lo,m,rfl,by lia,by lia,by lia,h4,λi a c=>?_⟩
    cases z:b i with
    | false=>rfl
    | true=>rw[hb m i a c z]at hv;cases hv
   ·simp only[cY];exact bA ⟨rfl,m+1,hi,rfl,by lia,h2,by lia,λi a=>hb i m (by lia) (by lia) hv,h5⟩
theorem Jk{be:Nat->StateT SortSt Sem (Option Bool)}{n:Nat}(b:Nat->Bool)(hbe:∀i,i<n->∀Q:Option Bool->SortSt->Prop,Q (some (b i)) st->wpS (model prog w) A E s (be i) Q st)(hb:∀i j,i<=j->j<n->b j=true->b i=true)(hh:hint<n)
  {Q:Option Nat->SortSt->Prop} (q:∀k,k<=n->(∀i,i<k->b i=true)->(∀i,k<=i->i<n->b i=false)->Q (some k) st):wpS (model prog w) A E s (U6 be n hint) Q st:=by
 unfold U6;have hb':∀i j,i<=j->j<n->b i=false->b j=false:=λi j a c d=>by
  cases z:b j with
  | false=>rfl
  | true=>rw[hb i j a c z]at d;cases d
 refine aY (hbe hint hh _ ?_)
 cases hr:b hint
 ·dsimp only;simp only[bf,bU];refine aY (d_ (cI (I:=λx c st'=>st'=st/\∃l u,c=(none,l,u)/\x+1<=u/\l<u/\l<=hint/\b (hint-l)=false)
   (Q:=λc st'=>st'=st/\∃l u,c=(none,l,u)/\l<u/\l<=hint/\b (hint-l)=false/\(u>=hint+1\/b (hint-u)=true)) ?step ?fin ⟨rfl,0,1,rfl,by lia,by lia,by lia,hr⟩) ?post)
  case post=>
   rintro c st' ⟨rfl,l,u,rfl,h1,h2,h3,h4⟩;dsimp only;refine(Tc b hbe hb (l0:=hint+1-min u (hint+1)) (h0:=hint-l) (by lia) (by lia) (λi a=>?_) (λi a c=>hb' _ _ a c h3) q:wpS (model prog w) A E s (Zj be n _ _) Q st')
   rcases h4 with h4|h4
   ·lia
   ·exact hb i (hint-u) (by lia) (by lia) h4
  case fin=>
   rintro c st' ⟨rfl,l,u,rfl,h1,h2,h3,h4⟩;exact⟨rfl,l,u,rfl,h2,h3,h4,.inl (by lia)⟩
  case step=>
   rintro x c st' _ hx ⟨rfl,l,u,rfl,h1,h2,h3,h4⟩;dsimp only;by_cases hge:u>=hint+1
   ·rw[aM hge];exact bA ⟨rfl,l,u,rfl,h2,h3,h4,.inl hge⟩
   ·rw[aK hge];refine aY (hbe _ (by lia) _ ?_)
    cases hv:b (hint-u)
    ·simp only[bf,bU];exact bA ⟨rfl,u,2 * u+1,rfl,by lia,by lia,by lia,hv⟩
    ·simp only[cY];exact bA ⟨rfl,l,u,rfl,h2,h3,h4,.inr hv⟩
 ·dsimp only;simp only[cY];refine aY (d_ (cI (I:=λx c st'=>st'=st/\∃l u,c=(none,l,u)/\x+1<=u/\l<u/\hint+l<n/\b (hint+l)=true)
   (Q:=λc st'=>st'=st/\∃l u,c=(none,l,u)/\l<u/\hint+l<n/\b (hint+l)=true/\(u>=n-hint\/b (hint+u)=false)) ?step2 ?fin2 ⟨rfl,0,1,rfl,by lia,by lia,by lia,hr⟩) ?post2)
  case post2=>
   rintro c st' ⟨rfl,l,u,rfl,h1,h2,h3,h4⟩;dsimp only;refine(Tc b hbe hb (l0:=hint+l+1) (h0:=hint+min u (n-hint)) (by lia) (by lia) (λi a=>hb i _ (by lia) h2 h3) (λi a c=>?_) q:wpS (model prog w) A E s (Zj be n _ _) Q st')
   rcases h4 with h4|h4
   ·lia
   ·exact hb' (hint+u) i (by lia) c h4
  case fin2=>
   rintro c st' ⟨rfl,l,u,rfl,h1,h2,h3,h4⟩;exact⟨rfl,l,u,rfl,h2,h3,h4,.inl (by lia)⟩
  case step2=>
   rintro x c st' _ hx ⟨rfl,l,u,rfl,h1,h2,h3,h4⟩;dsimp only;by_cases hge:u>=n-hint
   ·rw[aM hge];exact bA ⟨rfl,l,u,rfl,h2,h3,h4,.inl hge⟩
   ·rw[aK hge];refine aY (hbe _ (by lia) _ ?_)
    cases hv:b (hint+u)
    ·simp only[dh,cY];exact bA ⟨rfl,l,u,rfl,h2,h3,h4,.inr hv⟩
    ·simp only[cW,bf,bU];exact bA ⟨rfl,u,2 * u+1,rfl,by lia,by lia,by lia,hv⟩
end
section
variable {prog:aj}{w:ah}{A:az}{E:af->aA->Prop}{s:aA}{o:Ord}{N:Nat}{f:Nat->Keyed}{kd:SortKind}{st:SortSt}
theorem Ln(C:Bx prog w A s o N f kd)(hk:kindOf st=kd){base n:Nat}{arr:Array Keyed}{h:Nat->Nat}(ha:∀i,i<n->arr[base+i]?=some (f (h i)))(hN:∀i,i<n->h i<key)(hkN:key<N)(so:So o h 0 n)(hh:hint<n)
  {Q:Option Nat->SortSt->Prop} (q:∀k,k<=n->(∀i,i<k->P o (h i) key)->(∀i,k<=i->i<n->P o key (h i))->Q (some k) st):wpS (model prog w) A E s (nc false (f key) arr base n hint) Q st:=by
 rw[Bo];refine Jk (λi=>!o.lt key (h i)) (λi hi Q' q'=>?_) (λi j a b c=>?_) hh λk h1 h2 h3=>q k h1 (λi a=>?_) λi a b=>?_
 ·refine aY (ki (ha i hi) ?_);simp only[bf,bU];exact aY (zj C hk hkN (by have:=hN i hi;lia) (bA q'))
 ·by_cases z:i=j
  ·subst z;exact c
  ·have r:=so i j (bM _) (by lia) b;have c':o.lt key (h j)=false:=by simpa using c
   cases e:o.lt key (h i)with
   | false=>rfl
   | true=>
    have:=(P.of_lt e).trans r;rw[this.lt (hN j b)]at c';cases c'
 ·have:=h2 i a;exact P.yd (by simpa using this) (hN i (by lia))
 ·have:=h3 i a b;exact .inl (by simpa using this)
theorem LF(C:Bx prog w A s o N f kd)(hk:kindOf st=kd){base n:Nat}{arr:Array Keyed}{h:Nat->Nat}(ha:∀i,i<n->arr[base+i]?=some (f (h i)))(hN:∀i,i<n->key<h i/\h i<N)(so:So o h 0 n)(hh:hint<n)
  {Q:Option Nat->SortSt->Prop} (q:∀k,k<=n->(∀i,i<k->P o (h i) key)->(∀i,k<=i->i<n->P o key (h i))->Q (some k) st):wpS (model prog w) A E s (nc true (f key) arr base n hint) Q st:=by
 rw[Bo];refine Jk (λi=>o.lt (h i) key) (λi hi Q' q'=>?_) (λi j a b c=>?_) hh λk h1 h2 h3=>q k h1 (λi a=>?_) λi a b=>?_
 ·refine aY (ki (ha i hi) ?_);simp only[cY];exact zj C hk (hN i hi).2 (by have:=hN i hi;lia) q'
 ·by_cases z:i=j
  ·subst z;exact c
  ·have r:=so i j (bM _) (by lia) b;exact(r.trans (P.of_lt c)).lt (hN i (by lia)).1
 ·exact .inl (h2 i a)
 ·exact P.yd (h3 i a b) (hN i b).1
end
noncomputable def Ax:Array Keyed->Array Keyed->StateT SortSt Sem (Array Keyed):=sortPriv% PySem.Builtin.mergeLo
noncomputable def za:Array Keyed->Array Keyed->StateT SortSt Sem (Array Keyed):=sortPriv% PySem.Builtin.mergeHi
noncomputable def yc:Nat->StateT SortSt Sem Unit:=sortPriv% PySem.Builtin.setMinGallop
theorem RX(m:Nat):yc m=modify λs=>SortSt.mk' (kindOf s) (arrOf s) (pendingOf s) m (failedOf s):=rfl
theorem FD(a b:Array Keyed):Ax a b=(do
 rule "list.sort.merge-lo"
 let all_:=a.size+b.size
 let end1 (acc:Array Keyed) (p q:Nat):=acc++a.extract p a.size++b.extract q b.size
 let end2 (acc:Array Keyed) (p q:Nat):=acc++b.extract q b.size++a.extract p a.size
 let mut acc:Array Keyed:=#[<- elem' b 0]
 let mut p:=0
 let mut q:=1
 if q == b.size then return end1 acc p q
 if p+1 == a.size then return end2 acc p q
 let mut mg:=gallopOf (<- get)
 for _ in [0:all_] do
  let mut ca:=0
  let mut cb:=0
  for _ in [0:all_] do
   let some won <- lt' (<- elem' b q) (<- elem' a p)|return end1 acc p q
   if won then
    acc:=acc.push (<- elem' b q);q:=q+1;cb:=cb+1;ca:=0
    if q == b.size then return end1 acc p q
    if cb>=mg then break
   else
    acc:=acc.push (<- elem' a p);p:=p+1;ca:=ca+1;cb:=0
    if p+1 == a.size then return end2 acc p q
    if ca>=mg then break
  rule "list.sort.gallop"
  mg:=mg+1
  for _ in [0:all_] do
   if mg>1 then mg:=mg-1
   yc mg
   let some k <- nc false (<- elem' b q) a p (a.size-p) 0|return end1 acc p q
   ca:=k
   if k>0 then
    acc:=acc++a.extract p (p+k);p:=p+k
    if p+1 == a.size then return end2 acc p q
    if p == a.size then return end1 acc p q
   acc:=acc.push (<- elem' b q);q:=q+1
   if q == b.size then return end1 acc p q
   let some k <- nc true (<- elem' a p) b q (b.size-q) 0|return end1 acc p q
   cb:=k
   if k>0 then
    acc:=acc++b.extract q (q+k);q:=q+k
    if q == b.size then return end1 acc p q
   acc:=acc.push (<- elem' a p);p:=p+1
   if p+1 == a.size then return end2 acc p q
   if ca<7 && cb<7 then break
  mg:=mg+1
  yc mg
 unsupported "internal:list.sort.merge-bound"):=rfl
section
variable {o:Ord}{N:Nat}{f:Nat->Keyed}{A B hs:List Nat}{ia ib:Nat}
noncomputable def fa (f:Nat->Keyed)(l:List Nat):Array Keyed:=(l.map f).toArray
theorem uO(l:List Nat):(fa f l).size=l.length:=by unfold fa;rw[bg,aH]
theorem Nb(l:List Nat)(i:Nat):(fa f l)[i]?=(l[i]?).map f:=by unfold fa;rw[eV,aR]
theorem nk{l:List Nat}{i x:Nat}(h:l[i]?=some x):(fa f l)[i]?=some (f x):=by rw[Nb,h];rfl
theorem wH(l:List Nat)(x:Nat):(fa f l).push (f x)=fa f (l++[x]):=by
 unfold fa;rw[List.push_toArray,bP];rfl
theorem p8(l m:List Nat):fa f l++fa f m=fa f (l++m):=by
 unfold fa;rw[List.append_toArray,bP]
theorem wZ(l:List Nat)(i j:Nat):(fa f l).extract i j=fa f ((l.drop i).take (j-i)):=by
 unfold fa;rw[List.extract_toArray,List.extract_eq_take_drop,List.map_take,List.map_drop]
theorem yp(l:List Nat)(i:Nat):(fa f l).extract i l.length=fa f (l.drop i):=by
 rw[wZ,List.take_of_length_le (by rw[fL];lia)]
structure Ab (o:Ord)(N:Nat)(A B:List Nat):Prop where
 sa:A.Pairwise (P o)
 sb:B.Pairwise (P o)
 lt:∀x∈A,∀y∈B,x<y
 nb:∀y∈B,y<N
 na:∀x∈A,x<N
structure Mg (o:Ord)(A B hs:List Nat)(ia ib:Nat):Prop where
 la:ia<=A.length
 lb:ib<=B.length
 len:hs.length=ia+ib
 so:hs.Pairwise (P o)
 mem:∀x∈hs,x∈A\/x∈B
 ua:∀x∈hs,∀y∈A.drop ia,P o x y
 ub:∀x∈hs,∀y∈B.drop ib,P o x y
noncomputable def Res (o:Ord)(f:Nat->Keyed)(A B:List Nat)(out:Array Keyed):Prop:=∃hs:List Nat,out=fa f hs/\hs.length=A.length+B.length/\hs.Pairwise (P o)/\∀x∈hs,x∈A\/x∈B
theorem tB{l:List Nat}(h:l.Pairwise (P o)){i j x:Nat}(hx:l[i]?=some x)(hy:l[j]?=some y)(hij:i<j):P o x y:=by
 obtain⟨h1,e1⟩:=aN.mp hx;obtain⟨h2,e2⟩:=aN.mp hy;rw[<- e1,<- e2];exact c9.mp h i j h1 h2 hij
theorem wz{l:List Nat}{y:Nat}(h:y∈l.drop i):∃j,i<=j/\l[j]?=some y:=by
 obtain⟨k,hk⟩:=eZ h;rw[i7]at hk;exact⟨i+k,by lia,hk⟩
theorem Mg.x_(ab:Ab o N A B)(m:Mg o A B hs ia ib){x:Nat}(hx:A[ia]?=some x)(h:∀y∈B.drop ib,P o x y):Mg o A B (hs++[x]) (ia+1) ib:=by
 obtain⟨h1,e1⟩:=aN.mp hx;have hd:A.drop ia=x::A.drop (ia+1):=by rw[<- e1];exact c_ h1
 refine⟨by lia,m.lb,by rw[aO,m.len];show ia+ib+1=_;lia,?_,λz hz=>?_,λz hz y hy=>?_,λz hz y hy=>?_⟩
 ·rw[cj];exact⟨m.so,bZ ..,λa ha b hb=>by rw[aP.mp hb];exact m.ua a ha x (by rw[hd];exact aI ..)⟩
 ·rcases bF.mp hz with z'|z'
  ·exact m.mem z z'
  ·rw[aP.mp z'];exact .inl (aW hx)
 ·rcases bF.mp hz with z'|z'
  ·exact m.ua z z' y (by rw[hd];exact aL _ hy)
  ·rw[aP.mp z'];obtain⟨j,hj,ej⟩:=wz hy;exact tB ab.sa hx ej (by lia)
 ·rcases bF.mp hz with z'|z'
  ·exact m.ub z z' y hy
  ·rw[aP.mp z'];exact h y hy
theorem Ab.yN(ab:Ab o N A B)(m:Mg o A B hs ia ib){x:Nat}(hx:B[ib]?=some x)(h:∀y∈A.drop ia,P o x y):Mg o A B (hs++[x]) ia (ib+1):=by
 obtain⟨h1,e1⟩:=aN.mp hx;have hd:B.drop ib=x::B.drop (ib+1):=by rw[<- e1];exact c_ h1
 refine⟨m.la,by lia,by rw[aO,m.len];rfl,?_,λz hz=>?_,λz hz y hy=>?_,λz hz y hy=>?_⟩
 ·rw[cj];exact⟨m.so,bZ ..,λa ha b hb=>by rw[aP.mp hb];exact m.ub a ha x (by rw[hd];exact aI ..)⟩
 ·rcases bF.mp hz with z'|z'
  ·exact m.mem z z'
  ·rw[aP.mp z'];exact .inr (aW hx)
 ·rcases bF.mp hz with z'|z'
  ·exact m.ua z z' y hy
  ·rw[aP.mp z'];exact h y hy
 ·rcases bF.mp hz with z'|z'
  ·exact m.ub z z' y (by rw[hd];exact aL _ hy)
  ·rw[aP.mp z'];obtain⟨j,hj,ej⟩:=wz hy;exact tB ab.sb hx ej (by lia)
theorem rO{l:List Nat}(h:l.Pairwise (P o)){i x:Nat}(hx:l[i]?=some x)(hxy:P o y x):∀z∈l.drop i,P o y z:=λz hz=>by
 obtain⟨j,hj,ej⟩:=wz hz;by_cases c:j=i
 ·subst c;rw[hx]at ej;cases ej;exact hxy
 ·exact hxy.trans (tB h hx ej (by lia))
theorem take_snoc{l:List Nat}{k x:Nat}(h:l[i+k]?=some x):(l.drop i).take (k+1)=(l.drop i).take k++[x]:=by
 have h':(l.drop i)[k]?=some x:=by rw[i7];exact h
 obtain⟨h1,e1⟩:=aN.mp h';rw[h_ h1,e1]
theorem Mg.yY(ab:Ab o N A B)(m:Mg o A B hs ia ib)(hy:B[ib]?=some y):∀k,ia+k<=A.length->(∀i x,i<k->A[ia+i]?=some x->P o x y)->Mg o A B (hs++(A.drop ia).take k) (ia+k) ib
 | 0,_,_=>by rw[eO,cL];exact m
 | k+1,hk,h=>by
  have ih:=Mg.yY ab m hy k (by lia) λi x hi=>h i x (by lia);have hx:A[ia+k]?=some (A[ia+k]'(by lia)):=aF _;rw[take_snoc hx,<- cu];exact ih.x_ ab hx (rO ab.sb hy (h k _ (by lia) hx))
theorem Mg.Ao(ab:Ab o N A B)(m:Mg o A B hs ia ib)(hy:A[ia]?=some y):∀k,ib+k<=B.length->(∀i x,i<k->B[ib+i]?=some x->P o x y)->Mg o A B (hs++(B.drop ib).take k) ia (ib+k)
 | 0,_,_=>by rw[eO,cL];exact m
 | k+1,hk,h=>by
  have ih:=Mg.Ao ab m hy k (by lia) λi x hi=>h i x (by lia);have hx:B[ib+k]?=some (B[ib+k]'(by lia)):=aF _;rw[take_snoc hx,<- cu];exact ab.yN ih hx (rO ab.sa hy (h k _ (by lia) hx))
theorem yv{l:List Nat}(h:l.Pairwise (P o))(i:Nat):(l.drop i).Pairwise (P o):=h.sublist (List.drop_sublist ..)
theorem Mg.fin(ab:Ab o N A B)(m:Mg o A B hs ia ib)(h:∀x∈A.drop ia,∀y∈B.drop ib,P o x y):Res o f A B (fa f hs++(fa f A).extract ia A.length++(fa f B).extract ib B.length):=by
 rw[yp,yp,p8,p8];have la:=m.la;have lb:=m.lb;refine⟨_,rfl,by rw[aO,aO,m.len,fL,fL];lia,?_,λx hx=>?_⟩
 ·rw[cj,cj];refine⟨⟨m.so,yv ab.sa _,m.ua⟩,yv ab.sb _,λx hx y hy=>?_⟩
  rcases bF.mp hx with z|z
  ·exact m.ub x z y hy
  ·exact h x z y hy
 ·rcases bF.mp hx with z|z
  ·rcases bF.mp z with z|z
   ·exact m.mem x z
   ·exact .inl (e_ z)
  ·exact .inr (e_ z)
theorem Mg.WW(ab:Ab o N A B)(m:Mg o A B hs ia ib)(h:∀x∈A.drop ia,∀y∈B.drop ib,P o y x):Res o f A B (fa f hs++(fa f B).extract ib B.length++(fa f A).extract ia A.length):=by
 rw[yp,yp,p8,p8];have la:=m.la;have lb:=m.lb;refine⟨_,rfl,by rw[aO,aO,m.len,fL,fL];lia,?_,λx hx=>?_⟩
 ·rw[cj,cj];refine⟨⟨m.so,yv ab.sb _,m.ub⟩,yv ab.sa _,λx hx y hy=>?_⟩
  rcases bF.mp hx with z|z
  ·exact m.ua x z y hy
  ·exact h y hy x z
 ·rcases bF.mp hx with z|z
  ·rcases bF.mp z with z|z
   ·exact m.mem x z
   ·exact .inr (e_ z)
  ·exact .inl (e_ z)
theorem drop_nil{l:List Nat}(h:l.length<=i):l.drop i=[]:=List.drop_eq_nil_of_le h
theorem HE{l:List Nat}(h:l.Pairwise (P o))(b n:Nat)(hn:b+n<=l.length):So o (λi=>l.getD (b+i) 0) 0 n:=λi j _ hij hj=>
 tB h (i:=b+i) (j:=b+j) (by show _=some (l.getD (b+i) 0);rw[aJ,aF (show b+i<l.length by lia)];rfl) (by show _=some (l.getD (b+j) 0);rw[aJ,aF (show b+j<l.length by lia)];rfl) (by lia)
theorem getD_at{l:List Nat}{i:Nat}(h:i<l.length):l[i]?=some (l.getD i 0):=by
 rw[aJ,aF h];rfl
end
structure Sm (st st':SortSt):Prop where
 a:arrOf st'=arrOf st
 k:kindOf st'=kindOf st
 p:pendingOf st'=pendingOf st
 f:failedOf st'=failedOf st
theorem Sm.refl{st:SortSt}:Sm st st:=⟨rfl,rfl,rfl,rfl⟩
theorem Sm.trans{st:SortSt}(a:Sm st st')(b:Sm st' st''):Sm st st'':=⟨b.a.trans a.a,b.k.trans a.k,b.p.trans a.p,b.f.trans a.f⟩
noncomputable abbrev G:=Option (Array Keyed)×Array Keyed×Nat×Nat×Nat×Nat×Nat
noncomputable def T3 (a b out:Array Keyed)(ia ib mg ac bc:Nat):StateT SortSt Sem (ForInStep G):=do
 let x <- elem' a ia
 if (ia+1+1 == a.size)=true then pure (ForInStep.done (some (out.push x++b.extract ib b.size++a.extract (ia+1) a.size),out.push x,ia+1,ib,mg,ac,bc))
 else if (decide (ac<7) && decide (bc<7))=true then pure (ForInStep.done (none,out.push x,ia+1,ib,mg,ac,bc))
 else pure (ForInStep.yield (none,out.push x,ia+1,ib,mg,ac,bc))
noncomputable def T2 (a b out:Array Keyed)(ia ib mg ac bc:Nat):StateT SortSt Sem (ForInStep G):=do
 let x <- elem' b ib
 if (ib+1 == b.size)=true then pure (ForInStep.done (some (out.push x++a.extract ia a.size++b.extract (ib+1) b.size),out.push x,ia,ib+1,mg,ac,bc))
 else
  let y <- elem' a ia
  let r <- nc true y b (ib+1) (b.size-(ib+1)) 0
  match r with
  | some k=>
   if k>0 then
    if (ib+1+k == b.size)=true then pure (ForInStep.done (some (out.push x++b.extract (ib+1) (ib+1+k)++a.extract ia a.size++b.extract (ib+1+k) b.size),out.push x++b.extract (ib+1) (ib+1+k),ia,ib+1+k,mg,ac,k))
    else T3 a b (out.push x++b.extract (ib+1) (ib+1+k)) ia (ib+1+k) mg ac k
   else T3 a b (out.push x) ia (ib+1) mg ac k
  | _=>pure (ForInStep.done (some (out.push x++a.extract ia a.size++b.extract (ib+1) b.size),out.push x,ia,ib+1,mg,ac,bc))
noncomputable def T1 (a b out:Array Keyed)(ia ib mg ac bc:Nat):StateT SortSt Sem (ForInStep G):=do
 yc mg
 let x <- elem' b ib
 let r <- nc false x a ia (a.size-ia) 0
 match r with
 | some k=>
  if k>0 then
   if (ia+k+1 == a.size)=true then pure (ForInStep.done (some (out++a.extract ia (ia+k)++b.extract ib b.size++a.extract (ia+k) a.size),out++a.extract ia (ia+k),ia+k,ib,mg,k,bc))
   else if (ia+k == a.size)=true then pure (ForInStep.done (some (out++a.extract ia (ia+k)++a.extract (ia+k) a.size++b.extract ib b.size),out++a.extract ia (ia+k),ia+k,ib,mg,k,bc))
   else T2 a b (out++a.extract ia (ia+k)) (ia+k) ib mg k bc
  else T2 a b out ia ib mg k bc
 | _=>pure (ForInStep.done (some (out++a.extract ia a.size++b.extract ib b.size),out,ia,ib,mg,ac,bc))
section
variable {prog:aj}{w:ah}{A:az}{E:af->aA->Prop}{s:aA}{o:Ord}{N:Nat}{f:Nat->Keyed}{kd:SortKind}{st st0:SortSt}{X Y hs:List Nat}{ia ib:Nat}
theorem wg(h:Sm st0 st){Q:Unit->SortSt->Prop}(q:∀st',Sm st0 st'->Q () st'):wpS (model prog w) A E s (yc m) Q st:=by
 rw[RX];exact fP (q _ (h.trans ⟨rfl,rfl,rfl,rfl⟩))
noncomputable def On (o:Ord)(f:Nat->Keyed)(X Y:List Nat)(n:Nat)(hs:List Nat)(ia ib:Nat):Prop:=Mg o X Y hs ia ib/\ia+1<X.length/\ib<Y.length/\n<=ia+ib
noncomputable def G2 (o:Ord)(f:Nat->Keyed)(X Y:List Nat)(n:Nat)(st0:SortSt):ForInStep G->SortSt->Prop:=λr st'=>Sm st0 st'/\match r with
 | .done c=>(∃r z,c=(some r,z)/\Res o f X Y r)\/∃hs ia ib mg ac bc,c=(none,fa f hs,ia,ib,mg,ac,bc)/\On o f X Y n hs ia ib
 | .yield c=>∃hs ia ib mg ac bc,c=(none,fa f hs,ia,ib,mg,ac,bc)/\On o f X Y n hs ia ib
noncomputable def Top (o:Ord)(X Y:List Nat):Prop:=∀i x,X[i]?=some x->i+1=X.length->∀y∈Y,P o y x
theorem un4{α β γ δ κ:Type}{S:Prop}{g:α->β->γ->δ->κ}{O:α->β->γ->δ->Prop}{T:κ->Prop}(k:S->∀a b c d,O a b c d->T (g a b c d)):∀q,(S/\∃a b c d,q=g a b c d/\O a b c d)->T q:=by
 rintro q ⟨s,a,b,c,d,rfl,o⟩;exact k s a b c d o
theorem un5{α β γ δ ε κ:Type}{S:Prop}{g:α->β->γ->δ->ε->κ}{O:α->β->γ->δ->ε->Prop}{T:κ->Prop}(k:S->∀a b c d e,O a b c d e->T (g a b c d e)):∀q,(S/\∃a b c d e,q=g a b c d e/\O a b c d e)->T q:=by
 rintro q ⟨s,a,b,c,d,e,rfl,o⟩;exact k s a b c d e o
theorem un6{α β γ δ ε ζ κ:Type}{S:Prop}{g:α->β->γ->δ->ε->ζ->κ}{O:α->β->γ->δ->ε->ζ->Prop}{T:κ->Prop}(k:S->∀a b c d e f,O a b c d e f->T (g a b c d e f)):∀q,(S/\∃a b c d e f,q=g a b c d e f/\O a b c d e f)->T q:=by
 rintro q ⟨s,a,b,c,d,e,f,rfl,o⟩;exact k s a b c d e f o
theorem uo5{α β γ δ ε κ ρ σ:Type}{S:Prop}{j:ρ->σ->κ}{R:ρ->Prop}{g:α->β->γ->δ->ε->κ}{O:α->β->γ->δ->ε->Prop}{T:κ->Prop}(k1:S->∀r z,R r->T (j r z))(k:S->∀a b c d e,O a b c d e->T (g a b c d e)):∀q,(S/\((∃r z,q=j r z/\R r)\/∃a b c d e,q=g a b c d e/\O a b c d e))->T q:=by
 rintro q ⟨s,⟨r,z,rfl,hr⟩|⟨a,b,c,d,e,rfl,o⟩⟩
 ·exact k1 s r z hr
 ·exact k s a b c d e o
theorem uo6{α β γ δ ε ζ κ ρ σ:Type}{S:Prop}{j:ρ->σ->κ}{R:ρ->Prop}{g:α->β->γ->δ->ε->ζ->κ}{O:α->β->γ->δ->ε->ζ->Prop}{T:κ->Prop}(k1:S->∀r z,R r->T (j r z))(k:S->∀a b c d e f,O a b c d e f->T (g a b c d e f)):∀q,(S/\((∃r z,q=j r z/\R r)\/∃a b c d e f,q=g a b c d e f/\O a b c d e f))->T q:=by
 rintro q ⟨s,⟨r,z,rfl,hr⟩|⟨a,b,c,d,e,f,rfl,o⟩⟩
 ·exact k1 s r z hr
 ·exact k s a b c d e f o
theorem v9(ab:Ab o N X Y)(tp:Top o X Y)(m:Mg o X Y hs ia ib)(h:ia+1=X.length):Res o f X Y (fa f hs++(fa f Y).extract ib Y.length++(fa f X).extract ia X.length):=
 m.WW ab λx hx y hy=>by
  obtain⟨j,hj,ej⟩:=wz hx;have:=(aN.mp ej).1;exact tp j x ej (by lia) y (e_ hy)
theorem Tt(ab:Ab o N X Y)(tp:Top o X Y)(hm:Sm st0 st){n mg x:Nat}(m:Mg o X Y hs ia ib)(ha:ia+1<X.length)(hb:ib<Y.length)(hn:n<=ia+ib)(hx:X[ia]?=some x)(hy:Y[ib]?=some y)(hxy:P o x y) :
  wpS (model prog w) A E s (T3 (fa f X) (fa f Y) (fa f hs) ia ib mg ac bc) (G2 o f X Y n st0) st:=by
 unfold T3;simp only[uO];refine aY (ki (nk hx) ?_);have m2:=m.x_ ab hx (rO ab.sb hy hxy);rw[wH];by_cases c:ia+1+1=X.length
 ·rw[aM (by rw[c];exact bO _)];exact bA ⟨hm,.inl ⟨_,_,rfl,v9 ab tp m2 c⟩⟩
 ·rw[aK (by simpa using c)];by_cases c2:(decide (ac<7) && decide (bc<7))=true
  ·rw[aM c2];exact bA ⟨hm,.inr ⟨_,_,_,_,_,_,rfl,m2,by lia,hb,by lia⟩⟩
  ·rw[aK c2];exact bA ⟨hm,⟨_,_,_,_,_,_,rfl,m2,by lia,hb,by lia⟩⟩
theorem Ui(C:Bx prog w A s o N f kd)(hk:kindOf st=kd)(ab:Ab o N X Y)(tp:Top o X Y)(hm:Sm st0 st){n mg x:Nat}(m:Mg o X Y hs ia ib)(ha:ia+1<X.length)(hb:ib<Y.length)(hn:n<=ia+ib)(hx:X[ia]?=some x)(hy:Y[ib]?=some y)(hxy:P o y x) :
  wpS (model prog w) A E s (T2 (fa f X) (fa f Y) (fa f hs) ia ib mg ac bc) (G2 o f X Y n st0) st:=by
 unfold T2;simp only[uO];refine aY (ki (nk hy) ?_);have m2:=ab.yN m hy (rO ab.sa hx hxy);rw[wH];by_cases c:ib+1=Y.length
 ·rw[aM (by rw[c];exact bO _)];exact bA ⟨hm,.inl ⟨_,_,rfl,m2.fin ab λx _ y hy=>by rw[drop_nil (by lia)]at hy;cases hy⟩⟩
 ·rw[aK (by simpa using c)];refine aY (ki (nk hx) ?_);refine aY (LF C hk (h:=λi=>Y.getD (ib+1+i) 0) (λi hi=>nk (getD_at (by lia))) (λi hi=>?_) (HE ab.sb _ _ (by lia)) (by lia) λk k1 k2 k3=>?_)
  ·have:=aW (getD_at (l:=Y) (i:=ib+1+i) (by lia));exact⟨ab.lt x (aW hx) _ this,ab.nb _ this⟩
  ·dsimp only;have m3:=m2.Ao ab hx k (by lia) λi z hi ez=>by
    have:=k2 i hi;rw[aJ,ez]at this;exact this
   by_cases c2:k>0
   ·rw[aM c2,wZ,show ib+1+k-(ib+1)=k by lia,p8];by_cases c3:ib+1+k=Y.length
    ·rw[aM (by rw[c3];exact bO _)];exact bA ⟨hm,.inl ⟨_,_,rfl,m3.fin ab λx _ y hy=>by rw[drop_nil (by lia)]at hy;cases hy⟩⟩
    ·rw[aK (by simpa using c3)];exact Tt ab tp hm m3 ha (by lia) (by lia) hx (getD_at (by lia)) (k3 k (aQ _) (by lia))
   ·rw[aK c2];have:k=0:=by lia
    subst this;exact Tt ab tp hm m2 ha (by lia) (by lia) hx (getD_at (by lia)) (k3 0 (aQ _) (by lia))
theorem XY(C:Bx prog w A s o N f kd)(hk:kindOf st0=kd)(ab:Ab o N X Y)(tp:Top o X Y)(hm:Sm st0 st){n mg:Nat}(m:Mg o X Y hs ia ib)(ha:ia+1<X.length)(hb:ib<Y.length)(hn:n<=ia+ib) :
  wpS (model prog w) A E s (T1 (fa f X) (fa f Y) (fa f hs) ia ib mg ac bc) (G2 o f X Y n st0) st:=by
 unfold T1;simp only[uO];refine aY (wg hm λst1 hm1=>?_);have hy:=getD_at (l:=Y) (i:=ib) hb;have yB:=aW hy;refine aY (ki (nk hy) ?_);refine aY (Ln C (by rw[hm1.k];exact hk) (h:=λi=>X.getD (ia+i) 0) (λi hi=>nk (getD_at (by lia))) (λi hi=>ab.lt _ (aW (getD_at (l:=X) (i:=ia+i) (by lia))) _ yB) (ab.nb _ yB) (HE ab.sa _ _ (by lia)) (by lia) λk k1 k2 k3=>?_);dsimp only;have m3:=m.yY ab hy k (by lia) λi z hi ez=>by
  have:=k2 i hi;rw[aJ,ez]at this;exact this
 by_cases c2:k>0
 ·rw[aM c2,wZ,show ia+k-ia=k by lia,p8];by_cases c3:ia+k+1=X.length
  ·rw[aM (by rw[c3];exact bO _)];exact bA ⟨hm1,.inl ⟨_,_,rfl,v9 ab tp m3 c3⟩⟩
  ·rw[aK (by simpa using c3)];by_cases c4:ia+k=X.length
   ·rw[aM (by rw[c4];exact bO _)];exact bA ⟨hm1,.inl ⟨_,_,rfl,m3.fin ab λx hx y _=>by rw[drop_nil (by lia)]at hx;cases hx⟩⟩
   ·rw[aK (by simpa using c4)];exact Ui C (by rw[hm1.k];exact hk) ab tp hm1 m3 (by lia) hb (by lia) (getD_at (by lia)) hy (k3 k (aQ _) (by lia))
 ·rw[aK c2];have:k=0:=by lia
  subst this;exact Ui C (by rw[hm1.k];exact hk) ab tp hm1 m ha hb hn (getD_at (by lia)) hy (k3 0 (aQ _) (by lia))
theorem YW(C:Bx prog w A s o N f kd)(hk:kindOf st=kd)(ab:Ab o N X Y)(tp:Top o X Y)(h1:1<=X.length)(hy0:Y[0]?=some y0)(h0:∀x∈X,P o y0 x)
  {Q:Array Keyed->SortSt->Prop} (q:∀out st',Sm st st'->Res o f X Y out->Q out st'):wpS (model prog w) A E s (Ax (fa f X) (fa f Y)) Q st:=by
 rw[FD];refine aY (wpS_lift (eN ⟨rfl,?_⟩));dsimp only;simp only[uO];have hY:=(aN.mp hy0).1;refine aY (ki (nk hy0) ?_);have m0:Mg o X Y [] 0 0:=⟨bM _,bM _,rfl,List.Pairwise.nil,(λ_ h=>nomatch h),(λ_ h=>nomatch h),(λ_ h=>nomatch h)⟩;have m1:Mg o X Y [y0] 0 1:=ab.yN m0 hy0 h0;have e1:(#[f y0]:Array Keyed)=fa f [y0]:=rfl;rw[e1];by_cases c:1=Y.length
 ·rw[aM (by rw[<- c];rfl)];exact bA (q _ _ Sm.refl (m1.fin ab λx _ y hy=>by rw[drop_nil (by lia)]at hy;cases hy))
 ·rw[aK (by simpa using c)];by_cases c2:0+1=X.length
  ·rw[aM (by rw[<- c2];rfl)];exact bA (q _ _ Sm.refl (v9 ab tp m1 c2))
  ·rw[aK (by simpa using c2)];refine aY (g_ ?_);refine aY (d_ (cI (I:=λx c st'=>Sm st st'/\∃hs ia ib mg,c=(none,fa f hs,ia,ib,mg)/\On o f X Y (x+1) hs ia ib)
    (Q:=λc st'=>Sm st st'/\∃r z,c=(some r,z)/\Res o f X Y r) ?step ?fin ⟨Sm.refl,_,_,_,_,rfl,m1,by lia,by lia,aQ _⟩) ?post)
   case post=>
    rintro c st' ⟨hm,r,z,rfl,hr⟩;exact bA (q _ _ hm hr)
   case fin=>
    rintro c st' ⟨hm,hs,ia,ib,mg,rfl,m,a1,a2,a3⟩;exfalso;lia
   case step=>
    intro x c st' _ hx hh;revert hh;revert c;refine un4 λhm hs ia ib mg ho=>?_;have m:=ho.1;have a1:=ho.2.1;have a2:=ho.2.2.1;have a3:=ho.2.2.2;clear ho;dsimp only;refine aY (d_ (cI (I:=λx' c st''=>Sm st st''/\∃hs ia ib ac bc,c=(none,fa f hs,ia,ib,ac,bc)/\On o f X Y (x+1+min x' 1) hs ia ib)
     (Q:=λc st''=>Sm st st''/\((∃r z,c=(some r,z)/\Res o f X Y r)\/∃hs ia ib ac bc,c=(none,fa f hs,ia,ib,ac,bc)/\On o f X Y (x+1+1) hs ia ib)) ?istep ?ifin ⟨hm,_,_,_,_,_,rfl,m,a1,a2,a3⟩) ?ipost)
    case ifin=>
     rintro c st'' ⟨hm',hs,ia,ib,ac,bc,rfl,m,a1,a2,a3⟩;exact⟨hm',.inr ⟨_,_,_,_,_,rfl,m,a1,a2,by lia⟩⟩
    case istep=>
     intro x' c st'' _ hx' hh;revert hh;revert c;refine un5 λhm' hs ia ib ac bc ho=>?_;have m:=ho.1;have a1:=ho.2.1;have a2:=ho.2.2.1;have a3:=ho.2.2.2;clear ho;dsimp only;have hy:=getD_at (l:=Y) (i:=ib) a2;have hxx:=getD_at (l:=X) (i:=ia) (by lia);have yB:=aW hy;have xA:=aW hxx;have lt:=ab.lt _ xA _ yB;refine aY (ki (nk hy) ?_);refine aY (ki (nk hxx) ?_);refine aY (zj C (by rw[hm'.k];exact hk) (ab.nb _ yB) (ab.na _ xA) ?_)
     cases hl:o.lt (Y.getD ib 0) (X.getD ia 0)
     ·simp only[bf,bU];refine aY (ki (nk hxx) ?_);have m2:=m.x_ ab hxx (rO ab.sb hy (P.yd hl lt));rw[wH];by_cases c3:ia+1+1=X.length
      ·rw[aM (by rw[c3];exact bO _)];exact bA ⟨hm',.inl ⟨_,_,rfl,v9 ab tp m2 c3⟩⟩
      ·rw[aK (by simpa using c3)];by_cases c4:ac+1>=mg
       ·rw[aM c4];exact bA ⟨hm',.inr ⟨_,_,_,_,_,rfl,m2,by lia,a2,by lia⟩⟩
       ·rw[aK c4];exact bA ⟨hm',_,_,_,_,_,rfl,m2,by lia,a2,by lia⟩
     ·simp only[cY];refine aY (ki (nk hy) ?_);have m2:=ab.yN m hy (rO ab.sa hxx (P.of_lt hl));rw[wH];by_cases c3:ib+1=Y.length
      ·rw[aM (by rw[c3];exact bO _)];exact bA ⟨hm',.inl ⟨_,_,rfl,m2.fin ab λx _ y hy=>by rw[drop_nil (by lia)]at hy;cases hy⟩⟩
      ·rw[aK (by simpa using c3)];by_cases c4:bc+1>=mg
       ·rw[aM c4];exact bA ⟨hm',.inr ⟨_,_,_,_,_,rfl,m2,a1,by lia,by lia⟩⟩
       ·rw[aK c4];exact bA ⟨hm',_,_,_,_,_,rfl,m2,a1,by lia,by lia⟩
    case ipost=>
     intro c st'' hh;revert hh;revert c;refine uo5 (λhm' r z hr=>?_) λhm' hs ia ib ac bc ho=>?_
     ·dsimp only;exact bA ⟨hm',r,_,rfl,hr⟩
     ·have m:=ho.1;have a1:=ho.2.1;have a2:=ho.2.2.1;have a3:=ho.2.2.2;clear ho;dsimp only;refine aY (wpS_lift (eN ⟨rfl,?_⟩));refine aY (d_ (cI (I:=λx' c st''=>Sm st st''/\∃hs ia ib mg ac bc,c=(none,fa f hs,ia,ib,mg,ac,bc)/\On o f X Y (x+1+1) hs ia ib)
       (Q:=λc st''=>Sm st st''/\((∃r z,c=(some r,z)/\Res o f X Y r)\/∃hs ia ib mg ac bc,c=(none,fa f hs,ia,ib,mg,ac,bc)/\On o f X Y (x+1+1) hs ia ib)) ?jstep ?jfin ⟨hm',_,_,_,_,_,_,rfl,m,a1,a2,a3⟩) ?jpost)
      case jfin=>
       rintro c st3 ⟨hm3,hh⟩;exact⟨hm3,.inr hh⟩
      case jstep=>
       intro x' c st3 _ hx' hh;revert hh;revert c;refine un6 λhm3 hs ia ib mg ac bc ho=>?_;have m:=ho.1;have a1:=ho.2.1;have a2:=ho.2.2.1;have a3:=ho.2.2.2;clear ho;dsimp only;have t1:=λmg=>XY (n:=x+1+1) (mg:=mg) (ac:=ac) (bc:=bc) (E:=E) C hk ab tp hm3 m a1 a2 a3;unfold T1 T2 T3 at t1;simp only[uO]at t1;refine d_ (Q:=G2 o f X Y (x+1+1) st) ?_ ?_
       ·by_cases c3:mg>1
        ·rw[aM c3];exact t1 (mg-1)
        ·rw[aK c3];exact t1 mg
       ·rintro r st4 ⟨hm4,hr⟩
        cases r with
        | done c=>exact⟨hm4,hr⟩
        | yield c=>exact⟨hm4,hr⟩
      case jpost=>
       intro c st3 hh;revert hh;revert c;refine uo6 (λhm3 r z hr=>?_) λhm3 hs ia ib mg ac bc ho=>?_
       ·dsimp only;exact bA ⟨hm3,r,_,rfl,hr⟩
       ·have m:=ho.1;have a1:=ho.2.1;have a2:=ho.2.2.1;have a3:=ho.2.2.2;clear ho;dsimp only;refine aY (wg hm3 λst4 hm4=>?_);exact bA ⟨hm4,_,_,_,_,rfl,m,a1,a2,a3⟩
end
theorem FF(a b:Array Keyed):za a b=(do
 rule "list.sort.merge-hi"
 let all_:=a.size+b.size
 let end1 (acc:Array Keyed) (p q:Nat):=a.extract 0 p++b.extract 0 q++acc.reverse
 let end2 (acc:Array Keyed) (p q:Nat):=b.extract 0 q++a.extract 0 p++acc.reverse
 let mut p:=a.size-1
 let mut q:=b.size
 let mut acc:Array Keyed:=#[<- elem' a p]
 if p == 0 then return end1 acc p q
 if q == 1 then return end2 acc p q
 let mut mg:=gallopOf (<- get)
 for _ in [0:all_] do
  let mut ca:=0
  let mut cb:=0
  for _ in [0:all_] do
   let some won <- lt' (<- elem' b (q-1)) (<- elem' a (p-1))|return end1 acc p q
   if won then
    p:=p-1;acc:=acc.push (<- elem' a p);ca:=ca+1;cb:=0
    if p == 0 then return end1 acc p q
    if ca>=mg then break
   else
    q:=q-1;acc:=acc.push (<- elem' b q);cb:=cb+1;ca:=0
    if q == 1 then return end2 acc p q
    if cb>=mg then break
  rule "list.sort.gallop"
  mg:=mg+1
  for _ in [0:all_] do
   if mg>1 then mg:=mg-1
   yc mg
   let some t <- nc false (<- elem' b (q-1)) a 0 p (p-1)|return end1 acc p q
   let k:=p-t
   ca:=k
   if k>0 then
    acc:=acc++(a.extract t p).reverse;p:=t
    if p == 0 then return end1 acc p q
   q:=q-1;acc:=acc.push (<- elem' b q)
   if q == 1 then return end2 acc p q
   let some t <- nc true (<- elem' a (p-1)) b 0 q (q-1)|return end1 acc p q
   let k:=q-t
   cb:=k
   if k>0 then
    acc:=acc++(b.extract t q).reverse;q:=t
    if q == 1 then return end2 acc p q
    if q == 0 then return end1 acc p q
   p:=p-1;acc:=acc.push (<- elem' a p)
   if p == 0 then return end1 acc p q
   if ca<7 && cb<7 then break
  mg:=mg+1
  yc mg
 unsupported "internal:list.sort.merge-bound"):=rfl
section
variable {o:Ord}{N:Nat}{f:Nat->Keyed}{A B ts:List Nat}{na nb:Nat}
theorem MC(l:List Nat):(fa f l).reverse=fa f l.reverse:=by
 unfold fa;rw[List.reverse_toArray,List.map_reverse]
theorem ym(l:List Nat)(i:Nat):(fa f l).extract 0 i=fa f (l.take i):=by
 rw[wZ,List.drop_zero,Nat.sub_zero]
structure Mh (o:Ord)(A B ts:List Nat)(na nb:Nat):Prop where
 la:na<=A.length
 lb:nb<=B.length
 len:ts.length+na+nb=A.length+B.length
 so:ts.Pairwise (P o)
 mem:∀x∈ts,x∈A\/x∈B
 ua:∀y∈A.take na,∀x∈ts,P o y x
 ub:∀y∈B.take nb,∀x∈ts,P o y x
theorem vN{l:List Nat}{y:Nat}(h:y∈l.take i):∃j,j<i/\l[j]?=some y:=by
 obtain⟨k,hk⟩:=eZ h;have:=(aN.mp hk).1;rw[ck]at this;rw[gv (by lia)]at hk;exact⟨k,by lia,hk⟩
theorem take_one{l:List Nat}{i x:Nat}(h:l[i]?=some x):l.take (i+1)=l.take i++[x]:=by
 obtain⟨h1,e1⟩:=aN.mp h;rw[h_ h1,e1]
theorem Mh.x_(ab:Ab o N A B)(m:Mh o A B ts (na+1) nb){x:Nat}(hx:A[na]?=some x)(h:∀y∈B.take nb,P o y x):Mh o A B (x::ts) na nb:=by
 have la:=m.la;have len:=m.len;have ht:=take_one hx;have xin:x∈A.take (na+1):=by rw[ht];exact bV _ (aP.mpr rfl)
 refine⟨by lia,m.lb,by rw[aZ];lia,bN.mpr ⟨λy hy=>m.ua x xin y hy,m.so⟩,λz hz=>?_,λy hy z hz=>?_,λy hy z hz=>?_⟩
 ·rcases bC.mp hz with rfl|z'
  ·exact .inl (aW hx)
  ·exact m.mem z z'
 ·rcases bC.mp hz with rfl|z'
  ·obtain⟨j,hj,ej⟩:=vN hy;exact tB ab.sa ej hx hj
  ·exact m.ua y (by rw[ht];exact fZ _ hy) z z'
 ·rcases bC.mp hz with rfl|z'
  ·exact h y hy
  ·exact m.ub y hy z z'
theorem Mh.Px(ab:Ab o N A B)(m:Mh o A B ts na (nb+1)){x:Nat}(hx:B[nb]?=some x)(h:∀y∈A.take na,P o y x):Mh o A B (x::ts) na nb:=by
 have lb:=m.lb;have len:=m.len;have ht:=take_one hx;have xin:x∈B.take (nb+1):=by rw[ht];exact bV _ (aP.mpr rfl)
 refine⟨m.la,by lia,by rw[aZ];lia,bN.mpr ⟨λy hy=>m.ub x xin y hy,m.so⟩,λz hz=>?_,λy hy z hz=>?_,λy hy z hz=>?_⟩
 ·rcases bC.mp hz with rfl|z'
  ·exact .inr (aW hx)
  ·exact m.mem z z'
 ·rcases bC.mp hz with rfl|z'
  ·exact h y hy
  ·exact m.ua y hy z z'
 ·rcases bC.mp hz with rfl|z'
  ·obtain⟨j,hj,ej⟩:=vN hy;exact tB ab.sb ej hx hj
  ·exact m.ub y (by rw[ht];exact fZ _ hy) z z'
theorem rB{l:List Nat}(h:l.Pairwise (P o)){i x:Nat}(hx:l[i]?=some x)(hxy:P o x y):∀z∈l.take (i+1),P o z y:=λz hz=>by
 obtain⟨j,hj,ej⟩:=vN hz;by_cases c:j=i
 ·subst c;rw[hx]at ej;cases ej;exact hxy
 ·exact(tB h ej hx (by lia)).trans hxy
theorem Mh.yY(ab:Ab o N A B){mb:Nat}(hy:B[mb]?=some y):∀(k:Nat) {ts:List Nat}{at_:Nat},Mh o A B ts (at_+k) (mb+1)->(∀i x,at_<=i->i<at_+k->A[i]?=some x->P o y x)->Mh o A B ((A.drop at_).take k++ts) at_ (mb+1)
 | 0,ts,at_,m,_=>by rw[eO];exact m
 | k+1,ts,at_,m,h=>by
  have la:=m.la;have hx:A[at_+k]?=some (A[at_+k]'(by lia)):=aF _;have m2:=Mh.x_ ab (show Mh o A B ts (at_+k+1) (mb+1)from m) hx (rB ab.sb hy (h _ _ (by lia) (by lia) hx));have m3:=Mh.yY ab hy k m2 λi x h1 h2=>h i x h1 (by lia);rw[take_snoc hx,cu];exact m3
theorem Mh.Ao(ab:Ab o N A B){ma:Nat}(hy:A[ma]?=some y):∀(k:Nat) {ts:List Nat}{at_:Nat},Mh o A B ts (ma+1) (at_+k)->(∀i x,at_<=i->i<at_+k->B[i]?=some x->P o y x)->Mh o A B ((B.drop at_).take k++ts) (ma+1) at_
 | 0,ts,at_,m,_=>by rw[eO];exact m
 | k+1,ts,at_,m,h=>by
  have lb:=m.lb;have hx:B[at_+k]?=some (B[at_+k]'(by lia)):=aF _;have m2:=Mh.Px ab (show Mh o A B ts (ma+1) (at_+k+1)from m) hx (rB ab.sa hy (h _ _ (by lia) (by lia) hx));have m3:=Mh.Ao ab hy k m2 λi x h1 h2=>h i x h1 (by lia);rw[take_snoc hx,cu];exact m3
theorem yu{l:List Nat}(h:l.Pairwise (P o))(i:Nat):(l.take i).Pairwise (P o):=h.sublist (List.take_sublist ..)
theorem Mh.fin(ab:Ab o N A B)(m:Mh o A B ts na nb)(h:∀x∈A.take na,∀y∈B.take nb,P o x y):Res o f A B ((fa f A).extract 0 na++(fa f B).extract 0 nb++fa f ts):=by
 rw[ym,ym,p8,p8];have la:=m.la;have lb:=m.lb;have len:=m.len;refine⟨_,rfl,by rw[aO,aO,ck,ck];lia,?_,λx hx=>?_⟩
 ·rw[cj,cj];refine⟨⟨yu ab.sa _,yu ab.sb _,h⟩,m.so,λx hx y hy=>?_⟩
  rcases bF.mp hx with z|z
  ·exact m.ua x z y hy
  ·exact m.ub x z y hy
 ·rcases bF.mp hx with z|z
  ·rcases bF.mp z with z|z
   ·exact .inl (dO z)
   ·exact .inr (dO z)
  ·exact m.mem x z
theorem Mh.WW(ab:Ab o N A B)(m:Mh o A B ts na nb)(h:∀x∈A.take na,∀y∈B.take nb,P o y x):Res o f A B ((fa f B).extract 0 nb++(fa f A).extract 0 na++fa f ts):=by
 rw[ym,ym,p8,p8];have la:=m.la;have lb:=m.lb;have len:=m.len;refine⟨_,rfl,by rw[aO,aO,ck,ck];lia,?_,λx hx=>?_⟩
 ·rw[cj,cj];refine⟨⟨yu ab.sb _,yu ab.sa _,λx hx y hy=>h y hy x hx⟩,m.so,λx hx y hy=>?_⟩
  rcases bF.mp hx with z|z
  ·exact m.ub x z y hy
  ·exact m.ua x z y hy
 ·rcases bF.mp hx with z|z
  ·rcases bF.mp z with z|z
   ·exact .inr (dO z)
   ·exact .inl (dO z)
  ·exact m.mem x z
noncomputable def Y8 (o:Ord)(X Y:List Nat):Prop:=∀y,Y[0]?=some y->∀x∈X,P o y x
theorem uN(ab:Ab o N A B)(bt:Y8 o A B)(m:Mh o A B ts na nb)(h:nb=1):Res o f A B ((fa f B).extract 0 nb++(fa f A).extract 0 na++fa f ts):=
 m.WW ab λx hx y hy=>by
  obtain⟨j,hj,ej⟩:=vN hy;have:j=0:=by lia
  subst this;exact bt y ej x (dO hx)
theorem Mh.DK(ab:Ab o N A B)(m:Mh o A B ts na nb)(h:na=0\/nb=0):Res o f A B ((fa f A).extract 0 na++(fa f B).extract 0 nb++fa f ts):=
 m.fin ab λx hx y hy=>by
  rcases h with rfl|rfl
  ·rw[eO]at hx;cases hx
  ·rw[eO]at hy;cases hy
theorem yt(l:List Nat)(x:Nat):(fa f l.reverse).push (f x)=fa f (x::l).reverse:=by rw[wH,dG]
theorem K7(l m:List Nat):fa f l.reverse++(fa f m).reverse=fa f (m++l).reverse:=by rw[MC,p8,List.reverse_append]
theorem vn(l:List Nat):(fa f l.reverse).reverse=fa f l:=by rw[MC,dP]
end
noncomputable abbrev H:=Option (Array Keyed)×Nat×Nat×Array Keyed×Nat×Nat×Nat
noncomputable def U3 (a b out:Array Keyed)(na nb mg ac bc:Nat):StateT SortSt Sem (ForInStep H):=do
 let x <- elem' a (na-1)
 if (na-1 == 0)=true then pure (ForInStep.done (some (a.extract 0 (na-1)++b.extract 0 nb++(out.push x).reverse),na-1,nb,out.push x,mg,ac,bc))
 else if (decide (ac<7) && decide (bc<7))=true then pure (ForInStep.done (none,na-1,nb,out.push x,mg,ac,bc))
 else pure (ForInStep.yield (none,na-1,nb,out.push x,mg,ac,bc))
noncomputable def U2 (a b out:Array Keyed)(na nb mg ac bc:Nat):StateT SortSt Sem (ForInStep H):=do
 let x <- elem' b (nb-1)
 if (nb-1 == 1)=true then pure (ForInStep.done (some (b.extract 0 (nb-1)++a.extract 0 na++(out.push x).reverse),na,nb-1,out.push x,mg,ac,bc))
 else
  let y <- elem' a (na-1)
  let r <- nc true y b 0 (nb-1) (nb-1-1)
  match r with
  | some t=>
   if nb-1-t>0 then
    if (t == 1)=true then pure (ForInStep.done (some (b.extract 0 t++a.extract 0 na++(out.push x++(b.extract t (nb-1)).reverse).reverse),na,t,out.push x++(b.extract t (nb-1)).reverse,mg,ac,nb-1-t))
    else if (t == 0)=true then pure (ForInStep.done (some (a.extract 0 na++b.extract 0 t++(out.push x++(b.extract t (nb-1)).reverse).reverse),na,t,out.push x++(b.extract t (nb-1)).reverse,mg,ac,nb-1-t))
    else U3 a b (out.push x++(b.extract t (nb-1)).reverse) na t mg ac (nb-1-t)
   else U3 a b (out.push x) na (nb-1) mg ac (nb-1-t)
  | _=>pure (ForInStep.done (some (a.extract 0 na++b.extract 0 (nb-1)++(out.push x).reverse),na,nb-1,out.push x,mg,ac,bc))
noncomputable def U1 (a b out:Array Keyed)(na nb mg ac bc:Nat):StateT SortSt Sem (ForInStep H):=do
 yc mg
 let x <- elem' b (nb-1)
 let r <- nc false x a 0 na (na-1)
 match r with
 | some t=>
  if na-t>0 then
   if (t == 0)=true then pure (ForInStep.done (some (a.extract 0 t++b.extract 0 nb++(out++(a.extract t na).reverse).reverse),t,nb,out++(a.extract t na).reverse,mg,na-t,bc))
   else U2 a b (out++(a.extract t na).reverse) t nb mg (na-t) bc
  else U2 a b out na nb mg (na-t) bc
 | _=>pure (ForInStep.done (some (a.extract 0 na++b.extract 0 nb++out.reverse),na,nb,out,mg,ac,bc))
section
variable {prog:aj}{w:ah}{A:az}{E:af->aA->Prop}{s:aA}{o:Ord}{N:Nat}{f:Nat->Keyed}{kd:SortKind}{st st0:SortSt}{X Y ts:List Nat}{na nb:Nat}
noncomputable def Oh (o:Ord)(X Y:List Nat)(n:Nat)(ts:List Nat)(na nb:Nat):Prop:=Mh o X Y ts na nb/\1<=na/\2<=nb/\na+nb+n<=X.length+Y.length
noncomputable def H2 (o:Ord)(f:Nat->Keyed)(X Y:List Nat)(n:Nat)(st0:SortSt):ForInStep H->SortSt->Prop:=λr st'=>Sm st0 st'/\match r with
 | .done c=>(∃r z,c=(some r,z)/\Res o f X Y r)\/∃ts na nb mg ac bc,c=(none,na,nb,fa f ts.reverse,mg,ac,bc)/\Oh o X Y n ts na nb
 | .yield c=>∃ts na nb mg ac bc,c=(none,na,nb,fa f ts.reverse,mg,ac,bc)/\Oh o X Y n ts na nb
theorem Up(ab:Ab o N X Y)(hm:Sm st0 st){n mg x:Nat}(m:Mh o X Y ts (na+1) (nb+1))(hb:1<=nb)(hn:na+1+(nb+1)+n<=X.length+Y.length)(hx:X[na]?=some x)(hy:Y[nb]?=some y)(hxy:P o y x) :
  wpS (model prog w) A E s (U3 (fa f X) (fa f Y) (fa f ts.reverse) (na+1) (nb+1) mg ac bc) (H2 o f X Y n st0) st:=by
 unfold U3;rw[show na+1-1=na by lia];refine aY (ki (nk hx) ?_);have m2:=m.x_ ab hx (rB ab.sb hy hxy);rw[yt,vn];by_cases c:na=0
 ·rw[aM (by rw[c];rfl)];exact bA ⟨hm,.inl ⟨_,_,rfl,m2.DK ab (.inl c)⟩⟩
 ·rw[aK (by simpa using c)];by_cases c2:(decide (ac<7) && decide (bc<7))=true
  ·rw[aM c2];exact bA ⟨hm,.inr ⟨_,_,_,_,_,_,rfl,m2,by lia,by lia,by lia⟩⟩
  ·rw[aK c2];exact bA ⟨hm,⟨_,_,_,_,_,_,rfl,m2,by lia,by lia,by lia⟩⟩
theorem Um(C:Bx prog w A s o N f kd)(hk:kindOf st=kd)(ab:Ab o N X Y)(bt:Y8 o X Y)(hm:Sm st0 st){n mg x:Nat}(m:Mh o X Y ts (na+1) (nb+1))(hb:1<=nb)(hn:na+1+(nb+1)+n<=X.length+Y.length)(hx:X[na]?=some x)(hy:Y[nb]?=some y)(hxy:P o x y) :
  wpS (model prog w) A E s (U2 (fa f X) (fa f Y) (fa f ts.reverse) (na+1) (nb+1) mg ac bc) (H2 o f X Y n st0) st:=by
 unfold U2;rw[show nb+1-1=nb by lia,show na+1-1=na by lia];refine aY (ki (nk hy) ?_);have m2:=m.Px ab hy (rB ab.sa hx hxy);have lb:=m.lb;rw[yt,vn];by_cases c:nb=1
 ·rw[aM (by rw[c];rfl)];exact bA ⟨hm,.inl ⟨_,_,rfl,uN ab bt m2 c⟩⟩
 ·rw[aK (by simpa using c)];refine aY (ki (nk hx) ?_);refine aY (LF C hk (h:=λi=>Y.getD (0+i) 0) (λi hi=>nk (getD_at (by lia))) (λi hi=>?_) (HE ab.sb _ _ (by lia)) (by lia) λt t1 t2 t3=>?_)
  ·have:=aW (getD_at (l:=Y) (i:=0+i) (by lia));exact⟨ab.lt x (aW hx) _ this,ab.nb _ this⟩
  ·dsimp only;have m3:=Mh.Ao ab hx (nb-t) (at_:=t) (by rw[show t+(nb-t)=nb by lia];exact m2) λi z hi1 hi2 ez=>by
    have:=t3 i hi1 (by lia);rw[cF,aJ (l:=Y),ez]at this;exact this
   by_cases c2:nb-t>0
   ·rw[aM c2,wZ Y t nb,K7,vn];by_cases c3:t=1
    ·rw[aM (by rw[c3];rfl)];exact bA ⟨hm,.inl ⟨_,_,rfl,uN ab bt m3 c3⟩⟩
    ·rw[aK (by simpa using c3)];by_cases c4:t=0
     ·rw[aM (by rw[c4];rfl)];exact bA ⟨hm,.inl ⟨_,_,rfl,m3.DK ab (.inr c4)⟩⟩
     ·rw[aK (by simpa using c4)];obtain⟨u,rfl⟩:∃u,t=u+1:=⟨t-1,by lia⟩;have:=t2 u (by lia);rw[cF]at this;exact Up ab hm m3 (by lia) (by lia) hx (getD_at (by lia)) this
   ·rw[aK c2];have:t=nb:=by lia
    subst this;obtain⟨u,rfl⟩:∃u,t=u+1:=⟨t-1,by lia⟩;have:=t2 u (by lia);rw[cF]at this;exact Up ab hm m2 (by lia) (by lia) hx (getD_at (by lia)) this
theorem X6(C:Bx prog w A s o N f kd)(hk:kindOf st0=kd)(ab:Ab o N X Y)(bt:Y8 o X Y)(hm:Sm st0 st){n mg:Nat}(m:Mh o X Y ts (na+1) (nb+1))(hb:1<=nb)(hn:na+1+(nb+1)+n<=X.length+Y.length) :
  wpS (model prog w) A E s (U1 (fa f X) (fa f Y) (fa f ts.reverse) (na+1) (nb+1) mg ac bc) (H2 o f X Y n st0) st:=by
 unfold U1;refine aY (wg hm λst1 hm1=>?_);have lb:=m.lb;have la:=m.la;rw[show nb+1-1=nb by lia,show na+1-1=na by lia];have hy:=getD_at (l:=Y) (i:=nb) (by lia);have yB:=aW hy;refine aY (ki (nk hy) ?_);refine aY (Ln C (by rw[hm1.k];exact hk) (h:=λi=>X.getD (0+i) 0) (λi hi=>nk (getD_at (by lia))) (λi hi=>ab.lt _ (aW (getD_at (l:=X) (i:=0+i) (by lia))) _ yB) (ab.nb _ yB) (HE ab.sa _ _ (by lia)) (by lia) λt t1 t2 t3=>?_);dsimp only;have m3:=Mh.yY ab hy (na+1-t) (at_:=t) (by rw[show t+(na+1-t)=na+1 by lia];exact m) λi z hi1 hi2 ez=>by
  have:=t3 i hi1 (by lia);rw[cF,aJ (l:=X),ez]at this;exact this
 by_cases c2:na+1-t>0
 ·rw[aM c2,wZ X t (na+1),K7,vn];by_cases c4:t=0
  ·rw[aM (by rw[c4];rfl)];exact bA ⟨hm1,.inl ⟨_,_,rfl,m3.DK ab (.inl c4)⟩⟩
  ·rw[aK (by simpa using c4)];obtain⟨u,rfl⟩:∃u,t=u+1:=⟨t-1,by lia⟩;have:=t2 u (by lia);rw[cF]at this;exact Um C (by rw[hm1.k];exact hk) ab bt hm1 m3 hb (by lia) (getD_at (by lia)) hy this
 ·rw[aK c2];have:t=na+1:=by lia
  subst this;have:=t2 na (by lia);rw[cF]at this;exact Um C (by rw[hm1.k];exact hk) ab bt hm1 m hb hn (getD_at (by lia)) hy this
theorem YA(C:Bx prog w A s o N f kd)(hk:kindOf st=kd)(ab:Ab o N X Y)(tp:Top o X Y)(bt:Y8 o X Y)(h1:1<=X.length)(h2:1<=Y.length)
  {Q:Array Keyed->SortSt->Prop} (q:∀out st',Sm st st'->Res o f X Y out->Q out st'):wpS (model prog w) A E s (za (fa f X) (fa f Y)) Q st:=by
 rw[FF];refine aY (wpS_lift (eN ⟨rfl,?_⟩));dsimp only;simp only[uO];have hx0:=getD_at (l:=X) (i:=X.length-1) (by lia);refine aY (ki (nk hx0) ?_);have m0:Mh o X Y [] (X.length-1+1) Y.length:=⟨by lia,aQ _,by rw[bK];lia,List.Pairwise.nil,(λ_ h=>nomatch h),(λ_ _ _ h=>nomatch h),(λ_ _ _ h=>nomatch h)⟩;have m1:=m0.x_ ab hx0 λy hy=>tp _ _ hx0 (by lia) y (dO hy);obtain⟨x0,ex0⟩:∃x0,x0=X.getD (X.length-1) 0:=⟨_,rfl⟩;rw[<- ex0]at m1 ⊢;have e1:(#[f x0]:Array Keyed)=fa f [x0].reverse:=rfl;rw[e1,vn];by_cases c:X.length-1=0
 ·rw[aM (by rw[c];rfl)];exact bA (q _ _ Sm.refl (m1.DK ab (.inl c)))
 ·rw[aK (by simpa using c)];by_cases c2:Y.length=1
  ·rw[aM (by rw[c2];rfl)];exact bA (q _ _ Sm.refl (uN ab bt m1 c2))
  ·rw[aK (by simpa using c2)];refine aY (g_ ?_);refine aY (d_ (cI (I:=λx c st'=>Sm st st'/\∃ts na nb mg,c=(none,na,nb,fa f ts.reverse,mg)/\Oh o X Y (x+1) ts na nb)
    (Q:=λc st'=>Sm st st'/\∃r z,c=(some r,z)/\Res o f X Y r) ?step ?fin ⟨Sm.refl,_,_,_,_,rfl,m1,by lia,by lia,by lia⟩) ?post)
   case post=>
    rintro c st' ⟨hm,r,z,rfl,hr⟩;exact bA (q _ _ hm hr)
   case fin=>
    rintro c st' ⟨hm,ts,na,nb,mg,rfl,m,a1,a2,a3⟩;exfalso;lia
   case step=>
    intro x c st' _ hx hh;revert hh;revert c;refine un4 λhm ts na nb mg ho=>?_;have m:=ho.1;have a1:=ho.2.1;have a2:=ho.2.2.1;have a3:=ho.2.2.2;clear ho;dsimp only;refine aY (d_ (cI (I:=λx' c st''=>Sm st st''/\∃ts na nb ac bc,c=(none,na,nb,fa f ts.reverse,ac,bc)/\Oh o X Y (x+1+min x' 1) ts na nb)
     (Q:=λc st''=>Sm st st''/\((∃r z,c=(some r,z)/\Res o f X Y r)\/∃ts na nb ac bc,c=(none,na,nb,fa f ts.reverse,ac,bc)/\Oh o X Y (x+1+1) ts na nb)) ?istep ?ifin ⟨hm,_,_,_,_,_,rfl,m,a1,a2,a3⟩) ?ipost)
    case ifin=>
     rintro c st'' ⟨hm',ts,na,nb,ac,bc,rfl,m,a1,a2,a3⟩;exact⟨hm',.inr ⟨_,_,_,_,_,rfl,m,a1,a2,by lia⟩⟩
    case istep=>
     intro x' c st'' _ hx' hh;revert hh;revert c;refine un5 λhm' ts na nb ac bc ho=>?_;have m:=ho.1;have a1:=ho.2.1;have a2:=ho.2.2.1;have a3:=ho.2.2.2;clear ho;dsimp only;obtain⟨u,rfl⟩:∃u,na=u+1:=⟨na-1,by lia⟩;obtain⟨v,rfl⟩:∃v,nb=v+1:=⟨nb-1,by lia⟩;have la:=m.la;have lb:=m.lb;rw[show u+1-1=u by lia,show v+1-1=v by lia];have hy:=getD_at (l:=Y) (i:=v) (by lia);have hxx:=getD_at (l:=X) (i:=u) (by lia);have yB:=aW hy;have xA:=aW hxx;have lt:=ab.lt _ xA _ yB;refine aY (ki (nk hy) ?_);refine aY (ki (nk hxx) ?_);refine aY (zj C (by rw[hm'.k];exact hk) (ab.nb _ yB) (ab.na _ xA) ?_)
     cases hl:o.lt (Y.getD v 0) (X.getD u 0)
     ·simp only[bf,bU];refine aY (ki (nk hy) ?_);have m2:=m.Px ab hy (rB ab.sa hxx (P.yd hl lt));rw[yt,vn];by_cases c3:v=1
      ·rw[aM (by rw[c3];rfl)];exact bA ⟨hm',.inl ⟨_,_,rfl,uN ab bt m2 c3⟩⟩
      ·rw[aK (by simpa using c3)];by_cases c4:bc+1>=mg
       ·rw[aM c4];exact bA ⟨hm',.inr ⟨_,_,_,_,_,rfl,m2,a1,by lia,by lia⟩⟩
       ·rw[aK c4];exact bA ⟨hm',_,_,_,_,_,rfl,m2,a1,by lia,by lia⟩
     ·simp only[cY];refine aY (ki (nk hxx) ?_);have m2:=m.x_ ab hxx (rB ab.sb hy (P.of_lt hl));rw[yt,vn];by_cases c3:u=0
      ·rw[aM (by rw[c3];rfl)];exact bA ⟨hm',.inl ⟨_,_,rfl,m2.DK ab (.inl c3)⟩⟩
      ·rw[aK (by simpa using c3)];by_cases c4:ac+1>=mg
       ·rw[aM c4];exact bA ⟨hm',.inr ⟨_,_,_,_,_,rfl,m2,by lia,a2,by lia⟩⟩
       ·rw[aK c4];exact bA ⟨hm',_,_,_,_,_,rfl,m2,by lia,a2,by lia⟩
    case ipost=>
     intro c st'' hh;revert hh;revert c;refine uo5 (λhm' r z hr=>?_) λhm' ts na nb ac bc ho=>?_
     ·dsimp only;exact bA ⟨hm',r,_,rfl,hr⟩
     ·have m:=ho.1;have a1:=ho.2.1;have a2:=ho.2.2.1;have a3:=ho.2.2.2;clear ho;dsimp only;refine aY (wpS_lift (eN ⟨rfl,?_⟩));refine aY (d_ (cI (I:=λx' c st''=>Sm st st''/\∃ts na nb mg ac bc,c=(none,na,nb,fa f ts.reverse,mg,ac,bc)/\Oh o X Y (x+1+1) ts na nb)
       (Q:=λc st''=>Sm st st''/\((∃r z,c=(some r,z)/\Res o f X Y r)\/∃ts na nb mg ac bc,c=(none,na,nb,fa f ts.reverse,mg,ac,bc)/\Oh o X Y (x+1+1) ts na nb)) ?jstep ?jfin ⟨hm',_,_,_,_,_,_,rfl,m,a1,a2,a3⟩) ?jpost)
      case jfin=>
       rintro c st3 ⟨hm3,hh⟩;exact⟨hm3,.inr hh⟩
      case jstep=>
       intro x' c st3 _ hx' hh;revert hh;revert c;refine un6 λhm3 ts na nb mg ac bc ho=>?_;have m:=ho.1;have a1:=ho.2.1;have a2:=ho.2.2.1;have a3:=ho.2.2.2;clear ho;dsimp only;obtain⟨u,rfl⟩:∃u,na=u+1:=⟨na-1,by lia⟩;obtain⟨v,rfl⟩:∃v,nb=v+1:=⟨nb-1,by lia⟩;have t1:=λmg=>X6 (n:=x+1+1) (mg:=mg) (ac:=ac) (bc:=bc) (E:=E) C hk ab bt hm3 m (by lia) a3;unfold U1 U2 U3 at t1;refine d_ (Q:=H2 o f X Y (x+1+1) st) ?_ ?_
       ·by_cases c3:mg>1
        ·rw[aM c3];exact t1 (mg-1)
        ·rw[aK c3];exact t1 mg
       ·rintro r st4 ⟨hm4,hr⟩
        cases r with
        | done c=>exact⟨hm4,hr⟩
        | yield c=>exact⟨hm4,hr⟩
      case jpost=>
       intro c st3 hh;revert hh;revert c;refine uo6 (λhm3 r z hr=>?_) λhm3 ts na nb mg ac bc ho=>?_
       ·dsimp only;exact bA ⟨hm3,r,_,rfl,hr⟩
       ·have m:=ho.1;have a1:=ho.2.1;have a2:=ho.2.2.1;have a3:=ho.2.2.2;clear ho;dsimp only;refine aY (wg hm3 λst4 hm4=>?_);exact bA ⟨hm4,_,_,_,_,rfl,m,a1,a2,a3⟩
end
theorem Gn(i:Nat):mergeAt' i=(do
 let s <- get
 let(some (a1,n1,pw),some (a2,n2,_)):=((pendingOf s)[i]?,(pendingOf s)[i+1]?)|unsupported "internal:list.sort.pending"
 set (setPending s (((pendingOf s).setIfInBounds i (a1,n1+n2,pw)).eraseIdxIfInBounds (i+1)))
 let some k <- nc false (<- elem' (arrOf s) a2) (arrOf s) a1 n1 0|return false
 let(a1,n1):=(a1+k,n1-k)
 if n1 == 0 then return true
 let some n2 <- nc true (<- elem' (arrOf s) (a1+n1-1)) (arrOf s) a2 n2 (n2-1)|return false
 if n2 == 0 then return true
 let x:=(arrOf s).extract a1 a2
 let y:=(arrOf s).extract a2 (a2+n2)
 let both <- if n1<=n2 then Ax x y else za x y
 modify λs=>setArr s (both.toList.zipIdx.foldl (λa (p,j)=>a.setIfInBounds (a1+j) p) (arrOf s))
 return (failedOf (<- get)).isNone):=rfl
noncomputable def seg (g:Nat->Nat)(a n:Nat):List Nat:=(List.range n).map λi=>g (a+i)
section
variable {o:Ord}{N:Nat}{f:Nat->Keyed}{g:Nat->Nat}
theorem oY(g:Nat->Nat)(a n:Nat):(seg g a n).length=n:=by unfold seg;rw[aH,cA]
theorem sf{a n i:Nat}(h:i<n):(seg g a n)[i]?=some (g (a+i)):=by unfold seg;rw[aR,ef h];rfl
theorem qx{a n x:Nat}(h:x∈seg g a n):∃i,i<n/\x=g (a+i):=by
 obtain⟨i,hi,rfl⟩:=bz.mp h;exact⟨i,cO.mp hi,rfl⟩
theorem Pd{a n:Nat}(h:So o g a (a+n)):(seg g a n).Pairwise (P o):=by
 rw[c9];intro i j hi hj hij;rw[oY]at hi hj;have e1:=sf (g:=g) (a:=a) hi;have e2:=sf (g:=g) (a:=a) hj;rw[aF (by rw[oY];exact hi)]at e1;rw[aF (by rw[oY];exact hj)]at e2;rw[a_ e1,a_ e2];exact h _ _ (by lia) (by lia) (by lia)
theorem IA{arr:Array Keyed}(hs:arr.size=N)(hg:∀i,i<N->arr[i]?=some (f (g i))){a n:Nat}(h:a+n<=N):arr.extract a (a+n)=fa f (seg g a n):=by
 apply Array.ext_getElem?;intro i;rw[Nb,Array.getElem?_extract];by_cases c:i<n
 ·rw[aM (by lia),sf c,hg _ (by lia)];rfl
 ·rw[aK (by lia),bW (by rw[oY];lia)];rfl
theorem Be{α:Type}(b:Nat):∀(l:List α) (n:Nat) (arr:Array α),((l.zipIdx n).foldl (λa (p,j)=>a.setIfInBounds (b+j) p) arr).size=arr.size
 | [],_,_=>rfl
 | x::l,n,arr=>by
  rw[jj,eX,Be b l (n+1)];exact Array.size_setIfInBounds ..
theorem D_{α:Type}(b:Nat):∀(l:List α) (n:Nat) (arr:Array α) (k:Nat),b+n+l.length<=arr.size->((l.zipIdx n).foldl (λa (p,j)=>a.setIfInBounds (b+j) p) arr)[k]?=if b+n<=k/\k<b+n+l.length then l[k-(b+n)]? else arr[k]?
 | [],n,arr,k,h=>by rw[aK (by rw[bK];lia)];rfl
 | x::l,n,arr,k,h=>by
  rw[aZ]at h;rw[jj,eX,D_ b l (n+1) _ k (by rw[Array.size_setIfInBounds];lia),aZ];by_cases c:k=b+n
  ·subst c;rw[aK (by lia),aM (by lia),iT];show(arr.setIfInBounds (b+n) x)[b+n]?=some x;rw[Array.getElem?_setIfInBounds_self_of_lt (by lia)]
  ·by_cases c2:b+n<=k/\k<b+n+(l.length+1)
   ·rw[aM (by lia),aM c2,show k-(b+n)=k-(b+(n+1))+1 by lia,List.getElem?_cons_succ]
   ·rw[aK (by lia),aK c2];show(arr.setIfInBounds (b+n) x)[k]?=arr[k]?;rw[Array.getElem?_setIfInBounds_ne (by lia)]
end
section
variable {prog:aj}{w:ah}{A:az}{E:af->aA->Prop}{s:aA}{o:Ord}{N:Nat}{f:Nat->Keyed}{kd:SortKind}{g:Nat->Nat}{st:SortSt}
theorem PZ{Q:PUnit->SortSt->Prop}(h:Q ⟨⟩ st'):wpS (model prog w) A E s (set st':StateT SortSt Sem PUnit) Q st:=by
 unfold wpS;rw[StateT.run_set];exact aV ⟨rfl,h⟩
theorem YL(C:Bx prog w A s o N f kd){l1:List (Nat×Nat×Nat)}{sa na nb pw pv:Nat}(h:Sg N f kd g (l1++(sa,na,pw)::(sa+na,nb,pv)::l2).toArray st)(ha:1<=na)(hb:1<=nb)(hN:sa+na+nb<=N)
  (c1:Cl g sa (sa+na)) (s1:So o g sa (sa+na)) (c2:Cl g (sa+na) (sa+na+nb)) (s2:So o g (sa+na) (sa+na+nb))
  {Q:Bool->SortSt->Prop} (q:∀g' st',Sg N f kd g' (l1++(sa,na+nb,pw)::l2).toArray st'->Rn o g g' sa (sa+na+nb)->Q true st'):wpS (model prog w) A E s (mergeAt' l1.length) Q st:=by
 rw[Gn];refine aY (g_ ?_);have e1:(pendingOf st)[l1.length]?=some (sa,na,pw):=by rw[h.pend];simp
 have e2:(pendingOf st)[l1.length+1]?=some (sa+na,nb,pv):=by rw[h.pend];simp
 have e3:((pendingOf st).setIfInBounds l1.length (sa,na+nb,pw)).eraseIdxIfInBounds (l1.length+1)=(l1++(sa,na+nb,pw)::l2).toArray:=by
  rw[h.pend,List.setIfInBounds_toArray,iy];congr 1;rw[fY _ _ (aQ _),iT,List.eraseIdx_append_of_length_le (by lia),show l1.length+1-l1.length=1 by lia];rfl
 rw[e1,e2];dsimp only;rw[e3];refine aY (PZ ?_);have h':Sg N f kd g (l1++(sa,na+nb,pw)::l2).toArray (setPending st (l1++(sa,na+nb,pw)::l2).toArray):=⟨h.size,h.get,h.lt,h.kind,h.failed,rfl⟩;obtain⟨st1,hst1⟩:∃st1,st1=setPending st (l1++(sa,na+nb,pw)::l2).toArray:=⟨_,rfl⟩;rw[<- hst1]at h' ⊢;refine aY (ki (h.get (sa+na) (by lia)) ?_);have b0:=c2 (sa+na) (by lia) (by lia);refine aY (Ln C h'.kind (h:=λi=>g (sa+i)) (λi hi=>h.get _ (by lia)) (λi hi=>by have:=c1 (sa+i) (by lia) (by lia);lia) (by lia) (λi j _ a b=>s1 _ _ (by lia) (by lia) (by lia)) (by lia) λk k1 k2 k3=>?_);dsimp only;by_cases cz:na-k=0
 ·rw[aM (by rw[cz];rfl)];refine bA (q g st1 h' ⟨λ_ _=>rfl,λi a b=>?_,λi j a b c=>?_⟩)
  ·by_cases d:i<sa+na
   ·have:=c1 i a d;lia
   ·have:=c2 i (by lia) b;lia
  ·by_cases d:j<sa+na
   ·exact s1 i j a b d
   ·by_cases d2:sa+na<=i
    ·exact s2 i j d2 b c
    ·have r:=k2 (i-sa) (by lia);rw[show sa+(i-sa)=i by lia]at r;by_cases d3:j=sa+na
     ·subst d3;exact r
     ·exact r.trans (s2 _ _ (by lia) (by lia) c)
 ·rw[aK (by simpa using cz)];have hlast:sa+k+(na-k)-1=sa+na-1:=by lia
  rw[hlast];refine aY (ki (h.get (sa+na-1) (by lia)) ?_);have a0:=c1 (sa+na-1) (by lia) (by lia);refine aY (LF C h'.kind (h:=λi=>g (sa+na+i)) (λi hi=>h.get _ (by lia)) (λi hi=>by have:=c2 (sa+na+i) (by lia) (by lia);lia) (λi j _ a b=>s2 _ _ (by lia) (by lia) (by lia)) (by lia) λt t1 t2 t3=>?_);dsimp only;by_cases cy:t=0
  ·rw[aM (by rw[cy];rfl)];subst cy;refine bA (q g st1 h' ⟨λ_ _=>rfl,λi a b=>?_,λi j a b c=>?_⟩)
   ·by_cases d:i<sa+na
    ·have:=c1 i a d;lia
    ·have:=c2 i (by lia) b;lia
   ·by_cases d:j<sa+na
    ·exact s1 i j a b d
    ·by_cases d2:sa+na<=i
     ·exact s2 i j d2 b c
     ·have r:=t3 (j-(sa+na)) (by lia) (by lia);rw[show sa+na+(j-(sa+na))=j by lia]at r;by_cases d3:i=sa+na-1
      ·subst d3;exact r
      ·exact(s1 i (sa+na-1) a (by lia) (by lia)).trans r
  ·rw[aK (by simpa using cy)];have x1:(arrOf st).extract (sa+k) (sa+na)=fa f (seg g (sa+k) (na-k)):=by
    have:=IA (f:=f) (g:=g) h.size h.get (a:=sa+k) (n:=na-k) (by lia)
    rwa [show sa+k+(na-k)=sa+na by lia]at this
   have x2:(arrOf st).extract (sa+na) (sa+na+t)=fa f (seg g (sa+na) t):=IA h.size h.get (by lia);rw[x1,x2];have sx:So o g (sa+k) (sa+k+(na-k)):=λi j a b c=>s1 i j (by lia) b (by lia);have sy:So o g (sa+na) (sa+na+t):=λi j a b c=>s2 i j a b (by lia);have ab:Ab o N (seg g (sa+k) (na-k)) (seg g (sa+na) t):={
    sa:=Pd sx
    sb:=Pd sy
    lt:=λx hx y hy=>by
     obtain⟨i,hi,rfl⟩:=qx hx;obtain⟨j,hj,rfl⟩:=qx hy;have:=c1 (sa+k+i) (by lia) (by lia);have:=c2 (sa+na+j) (by lia) (by lia);lia
    nb:=λy hy=>by
     obtain⟨j,hj,rfl⟩:=qx hy;exact h.lt _ (by lia)
    na:=λy hy=>by
     obtain⟨j,hj,rfl⟩:=qx hy;exact h.lt _ (by lia)}
   have tp:Top o (seg g (sa+k) (na-k)) (seg g (sa+na) t):=λi x hx hi y hy=>by
    rw[oY]at hi;rw[sf (by lia)]at hx
    cases hx
    obtain⟨j,hj,rfl⟩:=qx hy;rw[show sa+k+i=sa+na-1 by lia];exact t2 j hj
   have bt:Y8 o (seg g (sa+k) (na-k)) (seg g (sa+na) t):=λy hy x hx=>by
    rw[sf (by lia)]at hy
    cases hy
    obtain⟨i,hi,rfl⟩:=qx hx;have:=k3 (k+i) (by lia) (by lia)
    rwa [<- iH]at this
   have fin:∀out st2,Sm st1 st2->Res o f (seg g (sa+k) (na-k)) (seg g (sa+na) t) out->wpS (model prog w) A E s (do
     modify λs=>setArr s (out.toList.zipIdx.foldl (λa (p,j)=>a.setIfInBounds (sa+k+j) p) (arrOf s))
     let s <- get
     pure (failedOf s).isNone) Q st2:=by
    rintro out st2 hm ⟨hs,rfl,hlen,hso,hmem⟩;rw[oY,oY]at hlen;refine aY (fP (aY (g_ ?_)));have hf:(failedOf st2)=none:=by rw[hm.f];exact h'.failed
    have hmx:∀j x,hs[j]?=some x->(∃i,i<na-k/\x=g (sa+k+i))\/∃i,i<t/\x=g (sa+na+i):=λj x e=>by
     rcases hmem x (aW e)with z|z
     ·exact .inl (qx z)
     ·exact .inr (qx z)
    have ez:(fa f hs).toList=hs.map f:=by unfold fa;rfl
    have hsz:sa+k+0+(hs.map f).length<=(arrOf st2).size:=by rw[aH,hlen,hm.a,h'.size];lia
    refine bA ?_;show Q (failedOf st2).isNone _;rw[hf];refine q (λi=>if sa+k<=i/\i<sa+k+(na-k+t)then hs.getD (i-(sa+k)) 0 else g i) _ ⟨?_,λi hi=>?_,λi hi=>?_,by rw[show kindOf (setArr st2 _)=kindOf st2 from rfl,hm.k];exact h'.kind,hf,by rw[show pendingOf (setArr st2 _)=pendingOf st2 from rfl,hm.p];exact h'.pend⟩ ?_
    ·have:=Be (sa+k) (fa f hs).toList 0 (arrOf st2);rw[hm.a,h'.size]at this;rw[<- this,<- hm.a]
    ·show(List.foldl _ _ _)[i]?=_;rw[ez,D_ _ _ _ _ _ hsz,aH,hlen,hm.a];by_cases d:sa+k<=i/\i<sa+k+(na-k+t)
     ·rw[aM (by lia),aM d,aR,jo,getD_at (l:=hs) (by lia)];rfl
     ·rw[aK (by lia),aK d];exact h'.get i hi
    ·by_cases d:sa+k<=i/\i<sa+k+(na-k+t)
     ·rw[aM d]
      rcases hmx _ _ (getD_at (l:=hs) (i:=i-(sa+k)) (by lia))with⟨j,hj,e⟩|⟨j,hj,e⟩
      ·rw[e];exact h.lt _ (by lia)
      ·rw[e];exact h.lt _ (by lia)
     ·rw[aK d];exact h.lt i hi
    ·have gin:∀i,sa+k<=i->i<sa+na+t->(if sa+k<=i/\i<sa+k+(na-k+t)then hs.getD (i-(sa+k)) 0 else g i)=hs.getD (i-(sa+k)) 0:=λi a b=>aM (by lia);have gout:∀i,i<sa+k\/sa+na+t<=i->(if sa+k<=i/\i<sa+k+(na-k+t)then hs.getD (i-(sa+k)) 0 else g i)=g i:=λi a=>aK (by lia);refine⟨λi hi=>gout i (by lia),λi a b=>?_,λi j a b c=>?_⟩
     ·by_cases d:sa+k<=i/\i<sa+na+t
      ·show _<=ite _ _ _/\ite _ _ _<_;rw[gin i d.1 d.2]
       rcases hmx _ _ (getD_at (l:=hs) (i:=i-(sa+k)) (by lia))with⟨j,hj,e⟩|⟨j,hj,e⟩
       ·rw[e];have:=c1 (sa+k+j) (by lia) (by lia);lia
       ·rw[e];have:=c2 (sa+na+j) (by lia) (by lia);lia
      ·show _<=ite _ _ _/\ite _ _ _<_;rw[gout i (by lia)];by_cases d2:i<sa+na
       ·have:=c1 i a d2;lia
       ·have:=c2 i (by lia) b;lia
     ·show P o (ite _ _ _) (ite _ _ _);by_cases d1:i<sa+k
      ·rw[gout i (.inl d1)];have r:=k2 (i-sa) (by lia);rw[show sa+(i-sa)=i by lia]at r;by_cases d2:j<sa+k
       ·rw[gout j (.inl d2)];exact s1 i j a b (by lia)
       ·by_cases d3:j<sa+na+t
        ·rw[gin j (by lia) d3]
         rcases hmx _ _ (getD_at (l:=hs) (i:=j-(sa+k)) (by lia))with⟨v,hv,e⟩|⟨v,hv,e⟩
         ·rw[e];exact s1 _ _ a (by lia) (by lia)
         ·rw[e];by_cases d4:v=0
          ·subst d4;exact r
          ·exact r.trans (s2 _ _ (by lia) (by lia) (by lia))
        ·rw[gout j (by lia)];exact r.trans (s2 _ _ (by lia) (by lia) c)
      ·by_cases d2:i<sa+na+t
       ·rw[gin i (by lia) d2];by_cases d3:j<sa+na+t
        ·rw[gin j (by lia) d3];exact tB hso (getD_at (by lia)) (getD_at (by lia)) (by lia)
        ·rw[gout j (by lia)]
         rcases hmx _ _ (getD_at (l:=hs) (i:=i-(sa+k)) (by lia))with⟨v,hv,e⟩|⟨v,hv,e⟩
         ·rw[e];have r:=t3 (j-(sa+na)) (by lia) (by lia);rw[show sa+na+(j-(sa+na))=j by lia]at r;by_cases d4:sa+k+v=sa+na-1
          ·rw[d4];exact r
          ·exact(s1 _ (sa+na-1) (by lia) (by lia) (by lia)).trans r
         ·rw[e];exact s2 _ _ (by lia) (by lia) c
       ·rw[gout i (by lia),gout j (by lia)];exact s2 i j (by lia) b c
   by_cases cl:na-k<=t
   ·rw[aM cl];exact aY (YW C h'.kind ab tp (by rw[oY];lia) (sf (by lia)) (bt _ (sf (by lia))) fin)
   ·rw[aK cl];exact aY (YA C h'.kind ab tp bt (by rw[oY];lia) (by rw[oY];lia) fin)
end
noncomputable abbrev pr (x:Nat×Nat×Nat):Nat×Nat:=(x.1,x.2.1)
noncomputable def rz (o:Ord)(g:Nat->Nat):List (Nat×Nat)->Nat->Nat->Prop
 | [],a,b=>a=b
 | x::l,a,b=>x.1=a/\1<=x.2/\Cl g a (a+x.2)/\So o g a (a+x.2)/\rz o g l (a+x.2) b
noncomputable def PA (o:Ord)(g:Nat->Nat)(p:Array (Nat×Nat×Nat))(b:Nat):Prop:=rz o g (p.toList.map pr) 0 b
section
variable {o:Ord}{g:Nat->Nat}
theorem rz.le:∀{l:List (Nat×Nat)}{a b:Nat},rz o g l a b->a+l.length<=b
 | [],a,b,h=>by have h:a=b:=h;rw[bK];lia
 | x::l,a,b,h=>by
  have:=h.2.2.2.2.le;have:=h.2.1;rw[aZ];lia
theorem rz.congr{g':Nat->Nat}:∀{l:List (Nat×Nat)}{a b:Nat},rz o g l a b->(∀i,a<=i->i<b->g' i=g i)->rz o g' l a b
 | [],a,b,h,_=>h
 | x::l,a,b,h,e=>by
  have hb:=h.2.2.2.2.le;refine⟨h.1,h.2.1,λi h1 h2=>?_,λi j h1 h2 h3=>?_,h.2.2.2.2.congr λi h1 h2=>e i (by lia) h2⟩
  ·rw[e i h1 (by lia)];exact h.2.2.1 i h1 h2
  ·rw[e i h1 (by lia),e j (by lia) (by lia)];exact h.2.2.2.1 i j h1 h2 h3
theorem rz.app:∀{l m:List (Nat×Nat)}{a b:Nat},rz o g (l++m) a b ↔ ∃c,rz o g l a c/\rz o g m c b
 | [],m,a,b=>⟨λh=>⟨a,rfl,h⟩,λ⟨c,h1,h2⟩=>by have h1:a=c:=h1;subst h1;exact h2⟩
 | x::l,m,a,b=>by
  constructor
  ·rintro⟨h1,h2,h3,h4,h5⟩;obtain⟨c,h6,h7⟩:=rz.app.mp h5;exact⟨c,⟨h1,h2,h3,h4,h6⟩,h7⟩
  ·rintro⟨c,⟨h1,h2,h3,h4,h5⟩,h6⟩;exact⟨h1,h2,h3,h4,rz.app.mpr ⟨c,h5,h6⟩⟩
theorem WU{p:Array (Nat×Nat×Nat)}(h:i+1<p.size):∃l1 x y l2,p=(l1++x::y::l2).toArray/\l1.length=i:=by
 have h':i+1<p.toList.length:=h;refine⟨p.toList.take i,p.toList[i],p.toList[i+1],p.toList.drop (i+2),?_,by rw[ck];lia⟩;apply Array.toList_inj.mp;show p.toList=_
 conv=>lhs;rw[<- iA i p.toList,c_ (show i<p.toList.length by lia),c_ h']
end
section
variable {prog:aj}{w:ah}{A:az}{E:af->aA->Prop}{s:aA}{o:Ord}{N:Nat}{f:Nat->Keyed}{kd:SortKind}{g:Nat->Nat}{p:Array (Nat×Nat×Nat)}{st:SortSt}
theorem FG(C:Bx prog w A s o N f kd)(h:Sg N f kd g p st){lo:Nat}(hp:PA o g p lo)(hlo:lo<=N)(hi:i+1<p.size)
  {Q:Bool->SortSt->Prop} (q:∀g' p' st',Sg N f kd g' p' st'->PA o g' p' lo->p'.size+1=p.size->(∀k,lo<=k->g' k=g k)->Q true st'):wpS (model prog w) A E s (mergeAt' i) Q st:=by
 obtain⟨l1,⟨sa,na,pw⟩,⟨sb,nb,pv⟩,l2,rfl,rfl⟩:=WU hi;unfold PA at hp;rw[show(l1++(sa,na,pw)::(sb,nb,pv)::l2).toArray.toList=l1++(sa,na,pw)::(sb,nb,pv)::l2 from rfl,bP]at hp;obtain⟨c,h1,h2⟩:=rz.app.mp hp;obtain⟨e1,n1,cl1,so1,e2,n2,cl2,so2,rest⟩:=h2;have e1:sa=c:=e1;subst e1;have e2:sb=sa+na:=e2;subst e2;have l2b:=rest.le;have n1:1<=na:=n1;have n2:1<=nb:=n2;have l2b:sa+na+nb<=lo:=by
  have:sa+na+nb+(List.map pr l2).length<=lo:=l2b;lia
 refine YL C h n1 n2 (by lia) cl1 so1 cl2 so2 λg' st' h' R=>q g' _ st' h' ?_ (by simp;lia) λk hk=>R.out k (by lia);unfold PA;rw[show(l1++(sa,na+nb,pw)::l2).toArray.toList=l1++(sa,na+nb,pw)::l2 from rfl,bP];refine rz.app.mpr ⟨sa,h1.congr λi a b=>R.out i (by lia),rfl,by show 1<=na+nb;lia,?_,?_,?_⟩
 ·show Cl g' sa (sa+(na+nb));rw[<- iH];exact R.cl
 ·show So o g' sa (sa+(na+nb));rw[<- iH];exact R.so
 ·show rz o g' _ (sa+(na+nb)) lo;rw[<- iH];exact rest.congr λi a b=>R.out i (.inr a)
theorem Bm{p:Array (Nat×Nat×Nat)}{lo:Nat}{u:Nat×Nat×Nat->Nat×Nat×Nat}(hu:∀x,pr (u x)=pr x)(h:PA o g p lo):PA o g (p.modify i u) lo:=by
 unfold PA at h ⊢;have:(p.modify i u).toList.map pr=p.toList.map pr:=by
  rw[Array.toList_modify];apply c5;intro k;rw[aR,aR,List.getElem?_modify]
  cases p.toList[k]? with
  | none=>rfl
  | some x=>
   show some (pr (if i=k then u x else x))=some (pr x);by_cases c:i=k
   ·rw[aM c,hu x]
   ·rw[aK c]
 rw[this];exact h
theorem yl{p:Array (Nat×Nat×Nat)}{lo n v:Nat}(h:PA o g p lo)(hn:1<=n)(c:Cl g lo (lo+n))(d:So o g lo (lo+n)):PA o g (p.push (lo,n,v)) (lo+n):=by
 unfold PA at h ⊢;rw[Array.toList_push,bP];exact rz.app.mpr ⟨lo,h,rfl,hn,c,d,rfl⟩
theorem Sg.W5(h:Sg N f kd g p st)(p':Array (Nat×Nat×Nat)):Sg N f kd g p' (setPending st p'):=⟨h.size,h.get,h.lt,h.kind,h.failed,rfl⟩
theorem PX(C:Bx prog w A s o N f kd)(h:Sg N f kd (λi=>i) #[] st)(hN:1<=N)
  {Q:Unit->SortSt->Prop} (q:∀g' p' st',Sg N f kd g' p' st'->Cl g' 0 N->So o g' 0 N->Q () st'):wpS (model prog w) A E s sortRuns' Q st:=by
 rw[sortRuns'_eq];refine aY (g_ ?_);dsimp only;rw[h.size];refine aY (d_ (cI
  (I:=λx c st'=>∃lo g p,c=(none,lo)/\lo<=N/\(x<=lo\/lo=N)/\Sg N f kd g p st'/\PA o g p lo/\(∀i,lo<=i->g i=i))
  (Q:=λc st'=>∃g p,c=(none,N)/\Sg N f kd g p st'/\PA o g p N) ?step ?fin ⟨0,_,_,rfl,bM _,.inl (aQ _),h,rfl,λ_ _=>rfl⟩) ?post)
 case fin=>
  rintro c st' ⟨lo,g,p,rfl,h1,h2,h3,h4,h5⟩;have:lo=N:=by lia
  subst this;exact⟨g,p,rfl,h3,h4⟩
 case step=>
  rintro x c st' _ hx ⟨lo,g,p,rfl,h1,h2,h3,h4,h5⟩;dsimp only;by_cases hge:lo>=N
  ·rw[aM hge];have:lo=N:=by lia
   subst this;exact bA ⟨g,p,rfl,h3,h4⟩
  ·rw[aK hge];refine aY (NL C h3 (by lia) (by lia) (λi a b=>h5 i a) λm g1 st1 s1 m1 m2 R1=>?_);dsimp only;by_cases c2:m<minRun' N N 0
   ·rw[aM c2];refine aY (wpS_lift (eN ⟨rfl,?_⟩));refine aY (WG C s1 (by lia) m1 (by lia) R1 (λi a b=>h5 i (by lia)) λg2 st2 s2 R2=>?_);rw[aK (by decide)];have n2:1<=min (N-lo) (minRun' N N 0):=by lia
    have n3:lo+min (N-lo) (minRun' N N 0)<=N:=by lia
    refine aY (g_ ?_);rw[s2.pend];have hp2:=rz.congr h4 λi a b=>R2.out i (.inl b)
    cases e:p.back? with
    | none=>
     dsimp only;refine aY (fP (bA ⟨_,_,_,rfl,n3,by lia,s2.W5 _,?_,λi hi=>by rw[R2.out i (.inr hi),h5 i (by lia)]⟩));rw[s2.pend];exact yl hp2 n2 R2.cl R2.so
    | some y=>
     obtain⟨y1,y2,y3⟩:=y;dsimp only;refine aY (d_ (cI (I:=λ_ c st'=>c=(none,())/\∃g' p',Sg N f kd g' p' st'/\PA o g' p' lo/\(∀k,lo<=k->g' k=g2 k)) (Q:=λc st'=>c=(none,())/\∃g' p',Sg N f kd g' p' st'/\PA o g' p' lo/\(∀k,lo<=k->g' k=g2 k)) ?vstep (λ_ _ h=>h) ⟨rfl,_,_,s2,hp2,λ_ _=>rfl⟩) ?vpost)
     case vstep=>
      rintro x c st' _ hx ⟨rfl,g',p',h1,h2,h3⟩;refine aY (g_ ?_);rw[h1.pend];by_cases c:p'.size>1
      ·rw[aM c]
       cases e:p'[p'.size-2]? with
       | none=>exact bA ⟨rfl,g',p',h1,h2,h3⟩
       | some y=>
        obtain⟨y1,y2,y3⟩:=y;dsimp only;split
        ·exact bA ⟨rfl,g',p',h1,h2,h3⟩
        ·refine aY (FG C h1 h2 (by lia) (by lia) λg3 p3 st3 s3 q3 _ z3=>?_);exact bA ⟨rfl,g3,p3,s3,q3,λk hk=>by rw[z3 k hk,h3 k hk]⟩
      ·rw[aK c];exact bA ⟨rfl,g',p',h1,h2,h3⟩
     case vpost=>
      rintro c st' ⟨rfl,g',p',h1,h2,h3⟩;dsimp only;refine aY (fP (aY (fP (bA ⟨_,_,_,rfl,n3,by lia,(h1.W5 _).W5 _,?_,λi hi=>by rw[h3 i (by lia),R2.out i (.inr hi),h5 i (by lia)]⟩))));show PA o g' (((pendingOf st').modify _ _).push _) _;rw[h1.pend];exact yl (Bm (λ_=>rfl) h2) n2 (λi a b=>by rw[h3 i a];exact R2.cl i a b) (λi j a b c=>by rw[h3 i a,h3 j (by lia)];exact R2.so i j a b c)
   ·rw[aK c2];have n3:lo+m<=N:=by lia
    obtain⟨g2,hg2⟩:∃g2,g2=g1:=⟨_,rfl⟩;rw[<- hg2]at R1 s1;have R2:=R1;have s2:=s1;have n2:=m1;refine aY (g_ ?_);rw[s2.pend];have hp2:=rz.congr h4 λi a b=>R2.out i (.inl b)
    cases e:p.back? with
    | none=>
     dsimp only;refine aY (fP (bA ⟨_,_,_,rfl,n3,by lia,s2.W5 _,?_,λi hi=>by rw[R2.out i (.inr hi),h5 i (by lia)]⟩));rw[s2.pend];exact yl hp2 n2 R2.cl R2.so
    | some y=>
     obtain⟨y1,y2,y3⟩:=y;dsimp only;refine aY (d_ (cI (I:=λ_ c st'=>c=(none,())/\∃g' p',Sg N f kd g' p' st'/\PA o g' p' lo/\(∀k,lo<=k->g' k=g2 k)) (Q:=λc st'=>c=(none,())/\∃g' p',Sg N f kd g' p' st'/\PA o g' p' lo/\(∀k,lo<=k->g' k=g2 k)) ?vstep (λ_ _ h=>h) ⟨rfl,_,_,s2,hp2,λ_ _=>rfl⟩) ?vpost)
     case vstep=>
      rintro x c st' _ hx ⟨rfl,g',p',h1,h2,h3⟩;refine aY (g_ ?_);rw[h1.pend];by_cases c:p'.size>1
      ·rw[aM c]
       cases e:p'[p'.size-2]? with
       | none=>exact bA ⟨rfl,g',p',h1,h2,h3⟩
       | some y=>
        obtain⟨y1,y2,y3⟩:=y;dsimp only;split
        ·exact bA ⟨rfl,g',p',h1,h2,h3⟩
        ·refine aY (FG C h1 h2 (by lia) (by lia) λg3 p3 st3 s3 q3 _ z3=>?_);exact bA ⟨rfl,g3,p3,s3,q3,λk hk=>by rw[z3 k hk,h3 k hk]⟩
      ·rw[aK c];exact bA ⟨rfl,g',p',h1,h2,h3⟩
     case vpost=>
      rintro c st' ⟨rfl,g',p',h1,h2,h3⟩;dsimp only;refine aY (fP (aY (fP (bA ⟨_,_,_,rfl,n3,by lia,(h1.W5 _).W5 _,?_,λi hi=>by rw[h3 i (by lia),R2.out i (.inr hi),h5 i (by lia)]⟩))));show PA o g' (((pendingOf st').modify _ _).push _) _;rw[h1.pend];exact yl (Bm (λ_=>rfl) h2) n2 (λi a b=>by rw[h3 i a];exact R2.cl i a b) (λi j a b c=>by rw[h3 i a,h3 j (by lia)];exact R2.so i j a b c)
 case post=>
  rintro c st' ⟨g,p,rfl,h1,h2⟩;dsimp only;refine aY (d_ (cI
   (I:=λx c st''=>c=(none,())/\∃g p,Sg N f kd g p st''/\PA o g p N/\(p.size<=1\/p.size+x<=N))
   (Q:=λc st''=>c=(none,())/\∃g p,Sg N f kd g p st''/\PA o g p N/\p.size<=1) ?fstep ?ffin ⟨rfl,g,p,h1,h2,.inr ?finit⟩) ?fpost)
  case finit=>
   have:=rz.le h2;rw[aH]at this;show p.toList.length+0<=N;lia
  case ffin=>
   rintro c st'' ⟨rfl,g,p,h1,h2,h3⟩;exact⟨rfl,g,p,h1,h2,by lia⟩
  case fstep=>
   rintro x c st'' _ hx ⟨rfl,g,p,h1,h2,h3⟩;refine aY (g_ ?_);rw[h1.pend];by_cases c:p.size<=1
   ·rw[aM c];exact bA ⟨rfl,g,p,h1,h2,c⟩
   ·rw[aK c];have il:∀(d:Prop) [Decidable d],(if d then p.size-2-1 else p.size-2)+1<p.size:=λd _=>by
     by_cases hd:d
     ·rw[aM hd];lia
     ·rw[aK hd];lia
    refine aY (FG C h1 h2 (aQ _) (il _) λg' p' st3 s3 q3 z3 _=>?_);exact bA ⟨rfl,g',p',s3,q3,by lia⟩
  case fpost=>
   rintro c st'' ⟨rfl,g,p,h1,h2,h3⟩;dsimp only;refine bA ?_;unfold PA at h2;have h3:p.toList.length<=1:=h3
   match hl:p.toList,h3 with
   | [],_=>
    rw[hl]at h2;have:0=N:=h2;lia
   | [x],_=>
    rw[hl]at h2;obtain⟨e1,e2,e3,e4,e5⟩:=h2;have e5:0+x.2.1=N:=e5;have e3:Cl g 0 (0+x.2.1):=e3;have e4:So o g 0 (0+x.2.1):=e4;rw[e5]at e3 e4;exact q g p st'' h1 e3 e4
end
noncomputable abbrev AY (h:aq)(a:ak)(vs:List af):aq:=((h.update a (Obj.mapSeq λ_=>#[])).push (seqObj "tuple" vs.toArray 0)).push (seqObj "list" #[] 0)
theorem IV{h:aq}{a:ak}(hb:b≠a)(hlt:b<h.objs.size):(AY h a vs).get? b=h.get? b:=by
 rw[ie _ _ _ (by rw[size_push',iE];exact bG (dX hlt)),
  ie _ _ _ (by rw[iE];exact bG hlt),Heap.get?_update_ne _ _ _ _ hb]
noncomputable abbrev vv (vs:List af)(i:Nat):Keyed:=(vs.getD i .none,vs.getD i .none)
theorem zip_get(vs:List af){i:Nat}(h:i<vs.length):(vs.toArray.zip vs.toArray)[i]?=some (vv vs i):=by
 have e:vs[i]?=some (vs.getD i .none):=by rw[aJ,aF h];rfl
 rw[Array.getElem?_zip_eq_some];exact⟨by rw[eV];exact e,by rw[eV];exact e⟩
section
variable {prog:aj}{w:ah}{A:az}{E:af->aA->Prop}{s:aA}{o:Ord}{kd:SortKind}
theorem wM{a:ak}{vs:List af}{n:Nat}{P:PySem.Fin->aA->Prop}(hL:s.heap.get? a=some (seqObj "list" vs.toArray n))(hsz:vs.length<=sizeLine)
  (hkk:2<=vs.length->∀Q:SortKind->aA->Prop,Q kd { s with heap:=AY s.heap a vs }->wpAny (model prog w) A (keyKind' vs.toArray) Q E { s with heap:=AY s.heap a vs })
  (C:2<=vs.length->Bx prog w A { s with heap:=AY s.heap a vs } o vs.length (vv vs) kd)
  (h:∀g,Cl g 0 vs.length->So o g 0 vs.length->P (.done (.ret .none)) { s with heap:=sortedHeap s.heap a vs ((List.range vs.length).map λi=>vs.getD (g i) .none).toArray }) :
  wpAny (model prog w) A (Builtin.«list.sort» ⟨[.ref a],[]⟩) P E s:=by
 rw[list_sort_plain];have lta:a<s.heap.objs.size:=bw hL;refine aG (fh hL rfl ?_);refine aG (listUpdate_at hL rfl ?_ (by rw[bg];exact hsz) (bM _));obtain⟨ep,hL1⟩:∃ep,(s.heap.update a (Obj.mapSeq λ_=>#[])).get? a=some (seqObj "list" #[] ep):=⟨_,get?_update_seq hL (λ_=>#[])⟩;refine aG (seqEpoch_at hL1 rfl ?_);refine aG (wpAny_newTuple ?_);refine aG (jh ?_);refine dM ?_;have hL6:(AY s.heap a vs).get? a=some (seqObj "list" #[] ep):=by
  rw[ie _ _ _ (by rw[size_push',iE];exact bG (dX lta)),ie _ _ _ (by rw[iE];exact bG lta)];exact hL1
 show wpAny (model prog w) A _ P E { s with heap:=AY s.heap a vs };dsimp only;have hz:vs.toArray.size=vs.length:=by simp
 have getE:∀i,i<vs.length->vs[i]?=some (vs.getD i .none):=λi hi=>by rw[aJ,aF hi];rfl
 have qo:∀(arr:Array Keyed) (g:Nat->Nat),arr.size=vs.length->(∀i,i<vs.length->arr[i]?=some (vv vs (g i)))->arr.map (·.2)=((List.range vs.length).map λi=>vs.getD (g i) .none).toArray:=λarr g h1 two=>by
  apply Array.ext_getElem?;intro i;have e0:((List.range vs.length).map λi=>vs.getD (g i) Value.none).toArray[i]?=((List.range vs.length).map λi=>vs.getD (g i) Value.none)[i]?:=eV ..;rw[Array.getElem?_map,e0,aR];by_cases c:i<vs.length
  ·rw[two i c,ef c];rfl
  ·rw[ig (by lia),bW (by rw[cA];lia)];rfl
 by_cases two:vs.toArray.size<2
 ·rw[aM two,aM two];refine aG (aV ?_);rw[StateT.run_pure];refine aG (aV ?_);dsimp only;refine aG (seqEpoch_at hL6 rfl ?_);have oe:=qo (vs.toArray.zip vs.toArray) (λi=>i) (by rw[jw,hz];lia) λi hi=>zip_get vs hi;refine aG (listUpdate_at hL6 rfl ?_ (by simp) (hsz2:=by rw[size_map];show(vs.toArray.zip vs.toArray).size<=_;rw[jw,hz];lia));simp only[bne_self_eq_false,bf,bU];refine aV ?_;have:=h (λi=>i) (λi a b=>⟨a,b⟩) (λi j a b c=>by lia);rw[<- oe]at this;exact this
 ·rw[aK two,aK two];have h2':2<=vs.length:=by lia
  refine aG (hkk h2' _ ?_);refine aG (iV (PX (f:=vv vs) (N:=vs.length) (C h2') (st:=SortSt.mk' kd (vs.toArray.zip vs.toArray) #[] 7 none)
   (Q:=λ_ st'=>∃g p,Sg vs.length (vv vs) kd g p st'/\Cl g 0 vs.length/\So o g 0 vs.length)
   ⟨by show(vs.toArray.zip vs.toArray).size=_;rw[jw,hz];lia,λi hi=>zip_get vs hi,λi hi=>hi,rfl,rfl,rfl⟩ (by lia) λg' p' st' a1 a2 a3=>⟨g',p',a1,a2,a3⟩) ?_ λ_ _ e=>e)
  rintro⟨⟨⟩,st'⟩ s' ⟨rfl,g,p,hS,hc,hso⟩;dsimp only;refine aG (seqEpoch_at hL6 rfl ?_);have oe:=qo (arrOf st') g hS.size hS.get;refine aG (listUpdate_at hL6 rfl ?_ (by simp) (hsz2:=by have hh:(arrOf st').size=vs.length:=hS.size;show((arrOf st').map (·.2)).size<=_;rw[size_map,hh];lia));rw[hS.failed];simp only[bne_self_eq_false,bf,bU];have:=h g hc hso;rw[<- oe]at this;exact aV this
end
section
variable {prog:aj}{w:ah}{A:az}{E:af->aA->Prop}{s:aA}
theorem wW(b:Bool)(x y:af):keyLt' (tuples' b) x y=(do
  let us <- Builtin.List.listItems x
  let vs <- Builtin.List.listItems y
  for ((u,v),k)in (us.toList.zip vs.toList).zipIdx do
   if !(<- eqBool u v)then return <- oneLt' (b && k == 0) u v
  return us.size<vs.size):=rfl
theorem IP(b:Bool){x y:Int}{t:Tok}{Q:Bool->aA->Prop}(h:Q (decide (x<y)) s):wpAny (model prog w) A (oneLt' b (.int x t) (.int y u)) Q E s:=by
 cases b with
 | true=>exact oneLt_int h
 | false=>
  rw[oneLt'_eq];simp only[bf,bU];exact aG (PySem.P.lt_int (dU h))
theorem Fq(b:Bool){l k:ak}{xs ys:List af}{ns:List Int}{Q:Bool->aA->Prop}(hl:IsTup s.heap l xs.toArray)(hk:IsTup s.heap k ys.toArray)(hi:IntsAre xs ns)(hj:IntsAre ys ms)(h:Q (HT.lexLt ns ms) s) :
  wpAny (model prog w) A (keyLt' (tuples' b) (.ref l) (.ref k)) Q E s:=by
 rw[wW];obtain⟨o1,ho1,_,n1,hd1⟩:=hl;obtain⟨o2,ho2,_,n2,hd2⟩:=hk;refine aG (fh ho1 hd1 ?_);refine aG (fh ho2 hd2 ?_);have key:∀(xs ys:List af) (ns ms:List Int) (n:Nat),IntsAre xs ns->IntsAre ys ms->∀Q':Option Bool×Unit->aA->Prop,(∀r,(r=some (HT.lexLt ns ms)\/(r=none/\HT.lexLt ns ms=decide (xs.length<ys.length)))->Q' (r,()) s) ->
   wpAny (model prog w) A (forIn ((xs.zip ys).zipIdx n) ((none,()):Option Bool×Unit) λx c=>match x with
      | ((p,q),i)=>do
       let e <- eqBool p q
       if (!e)=true then do
         let r <- oneLt' (b && i == 0) p q
         pure (ForInStep.done (some r,()))
        else pure (ForInStep.yield (none,()))) Q' E s:=by
  intro xs
  induction xs with
  | nil=>
   intro ys ns ms n h1 h2 Q' q
   cases h1
   rw[List.zip_nil_left,List.zipIdx_nil,jx];refine aV (q none (.inr ⟨rfl,?_⟩))
   cases h2 with
   | nil=>rw[HT.oW];rfl
   | cons a t h2=>rw[HT.mX,bh (by simp)]
  | cons v vs ih=>
   intro ys ns ms n h1 h2 Q' q
   cases h1 with
   | cons a t h1=>
    cases h2 with
    | nil=>
     rw[List.zip_nil_right,List.zipIdx_nil,jx];exact aV (q none (.inr ⟨rfl,by rw[HT.n6,bq (by simp)]⟩))
    | cons c u h2=>
     rw[iX,jj,gG];rw[HT.pY]at q;dsimp only;refine aG (aG (wpAny_eqBool_int ?_));by_cases e:a=c
     ·rw[aM e]at q;subst e;simp only[bO,cW,bf,bU];refine aV (ih _ _ _ _ h1 h2 _ λr hr=>q r ?_)
      rcases hr with hr|⟨hr,hz⟩
      ·exact .inl hr
      ·exact .inr ⟨hr,by rw[hz];simp⟩
     ·rw[aK e]at q;have e':(a == c)=false:=by simpa using e
      simp only[e',dh,cY];exact aG (IP _ (aV (aV (q _ (.inl rfl)))))
 refine aG (key xs ys ns ms 0 hi hj _ λr hr=>?_)
 rcases hr with rfl|⟨rfl,hz⟩
 ·exact aV h
 ·dsimp only;rw[bg,bg,<- hz];exact aV h
end
theorem yC:∀a:List Int,HT.lexLt a a=false
 | []=>HT.oW
 | x::a=>by rw[HT.pY,aM rfl];exact yC a
theorem BK:∀{a b c:List Int},HT.lexLt a b=true->HT.lexLt b c=true->HT.lexLt a c=true
 | [],[],_,h,_=>by rw[HT.oW]at h;cases h
 | x::a,[],_,h,_=>by rw[HT.n6]at h;cases h
 | _,y::b,[],_,h=>by rw[HT.n6]at h;cases h
 | [],y::b,z::c,_,_=>HT.mX ..
 | x::a,y::b,z::c,h1,h2=>by
  rw[HT.pY]at h1 h2 ⊢;by_cases e1:x=y
  ·rw[aM e1]at h1;by_cases e2:y=z
   ·rw[aM e2]at h2;rw[aM (e1.trans e2)];exact BK h1 h2
   ·rw[aK e2]at h2;have:=bR h2;rw[aK (by lia)];exact bh (by lia)
  ·rw[aK e1]at h1;have l1:=bR h1;by_cases e2:y=z
   ·rw[aK (by lia)];exact bh (by lia)
   ·rw[aK e2]at h2;have:=bR h2;rw[aK (by lia)];exact bh (by lia)
theorem wG:∀{a b:List Int},HT.lexLt a b=false->HT.lexLt b a=false->a=b
 | [],[],_,_=>rfl
 | [],y::b,h,_=>by rw[HT.mX]at h;cases h
 | x::a,[],_,h=>by rw[HT.mX]at h;cases h
 | x::a,y::b,h1,h2=>by
  rw[HT.pY]at h1 h2;by_cases e:x=y
  ·rw[aM e]at h1;rw[aM e.symm]at h2;rw[e,wG h1 h2]
  ·rw[aK e]at h1;rw[aK (λz=>e z.symm)]at h2;have:=di h1;have:=di h2;lia
theorem JB{a c:List Int}(h:HT.lexLt a c=true):HT.lexLt a b=true\/HT.lexLt b c=true:=by
 cases e:HT.lexLt a b with
 | true=>exact .inl rfl
 | false=>
  right
  cases e2:HT.lexLt b a with
  | true=>exact BK e2 h
  | false=>rw[<- wG e e2];exact h
noncomputable def AJ (kss:List (List Int)):Ord where
 lt i j:=HT.lexLt (kss.getD i []) (kss.getD j [])
 K6 i:=yC _
 tr i j k:=BK
 neg i j k:=JB
section
variable {prog:aj}{w:ah}{A:az}{E:af->aA->Prop}{s:aA}
theorem GZ{α β:Type}{f:α->Sem β}(r:α->β):∀(l:List α),(∀a∈l,∀Q:β->aA->Prop,Q (r a) s->wpAny M A (f a) Q E s)->∀Q:List β->aA->Prop,Q (l.map r) s->wpAny M A (l.mapM f) Q E s
 | [],_,Q,q=>by rw[List.mapM_nil];exact aV q
 | a::l,h,Q,q=>by
  rw[List.mapM_cons];refine aG (h a (aI ..) _ (aG (GZ r l (λb hb=>h b (aL _ hb)) _ (aV q))))
theorem yz{α β:Type}{f:α->Sem β}(r:α->β)(l:List α)(h:∀a∈l,∀Q:β->aA->Prop,Q (r a) s->wpAny M A (f a) Q E s)(Q:Array β->aA->Prop)(q:Q (l.map r).toArray s):wpAny M A (l.toArray.mapM f) Q E s:=by
 rw[List.mapM_toArray,map_eq_pure_bind];exact aG (GZ r l h _ (aV q))
theorem EC(u:af):firstOfTuple' u=(do
  if (<- typeOf u) != .type "tuple" then return none
  return (<- Builtin.List.listItems u)[0]?):=rfl
theorem Ky{vs:List af}(h0:vs≠[])(ht:∀v∈vs,∃(l:ak) (xs:List af) (n:Int) (t:Tok),v=.ref l/\IsTup s.heap l (.int n t::xs).toArray){Q:SortKind->aA->Prop}(q:Q (tuples' true) s) :
  wpAny (model prog w) A (keyKind' vs.toArray) Q E s:=by
 have ch:∀v,∃x:Int×Tok,v∈vs->∃(l:ak) (xs:List af),v=.ref l/\IsTup s.heap l (.int x.1 x.2::xs).toArray:=λv=>by
  by_cases c:v∈vs
  ·obtain⟨l,xs,n,t,e1,e2⟩:=ht v c;exact⟨(n,t),λ_=>⟨l,xs,e1,e2⟩⟩
  ·exact⟨(0,0),λz=>absurd z c⟩
 obtain⟨F,hF⟩:=Classical.axiomOfChoice ch;rw[keyKind'_eq];refine aG (yz (λv=>some (Value.int (F v).1 (F v).2)) vs (λv hv Q' q'=>?_) _ ?_)
 ·obtain⟨l,xs,rfl,o,ho,hc,n,hd⟩:=hF v hv;rw[EC];refine aG (gU (T := "tuple") ⟨o,ho,hc⟩ ?_);rw[aK (by decide)];exact aG (fh ho hd (aV q'))
 ·rw[aM (by simp)];refine aG (eN ?_);have e1:(vs.map λv=>some (Value.int (F v).1 (F v).2)).toArray.filterMap id=(vs.map λv=>Value.int (F v).1 (F v).2).toArray:=by
   rw[List.filterMap_toArray,List.filterMap_map];congr 1;rw[show(id ∘ λv=>some (Value.int (F v).1 (F v).2))=λv=>some (Value.int (F v).1 (F v).2)from rfl];exact congrFun List.filterMap_eq_map' vs
  rw[e1,oneTypeOnly'_eq];refine aG (aG (yz (λ_=>Value.type "int") _ (λv hv Q' q'=>?_) _ ?_))
  ·obtain⟨u,_,rfl⟩:=bz.mp hv;exact aV q'
  ·rw[bu];obtain⟨v0,vs',rfl⟩:∃v0 vs',vs=v0::vs':=by
    cases vs with
    | nil=>exact absurd rfl h0
    | cons a b=>exact⟨a,b,rfl⟩
   have ha:((List.map ((λ_=>Value.type "int") ∘ λv=>Value.int (F v).1 (F v).2) (v0::vs')).toArray.all λx=>x == Value.type "int")=true:=by
    simp only[List.all_toArray,gT,eF];intro _ _;rfl
   have hz:(List.map ((λ_=>Value.type "int") ∘ λv=>Value.int (F v).1 (F v).2) (v0::vs')).toArray[0]?=some (Value.type "int"):=by simp
   rw[hz];simp only[ha,cY];exact aV (aV q)
end
end Sx
namespace L2
open PySem PySem.Spec PyProof.Rows
section
variable {X:Cx}
theorem xg:∀{rs:List ak}{its:List af},Vals (rs.map V.ref) its->its=rs.map Value.ref
 | [],_,r=>by cases r;rfl
 | a::rs,_,r=>by
  cases r with
  | cons h t=>
   have e:_=Value.ref a:=h;rw[e,xg t];rfl
theorem xE:∀(rs:List ak),Vals (rs.map V.ref) (rs.map Value.ref)
 | []=>.nil
 | a::rs=>.cons (show RelV (.ref a) (.ref a)from rfl) (xE rs)
theorem KP{s:aA}{H:Hp}{Q:VK}{h':aq}{tk:Nat}{rs:List ak}{kss:List (List Int)}(I1:Inv X pins σ H { s with heap:=h',toks:=tk })(hlen:rs.length=kss.length)(hz:rs.length<=sizeLine)
  (hT:∀(i:Nat) (r:ak) (ks:List Int),rs[i]?=some r->kss[i]?=some ks->nq X.K H r (ks.map V.int)/\ks≠[])
  (q:∀l g,H l=none->Sx.Cl g 0 kss.length->Sx.So (Sx.AJ kss) g 0 kss.length->Q (.ref l) (upd H l (.lst (((List.range kss.length).map λi=>rs.getD (g i) 0).map V.ref)))) :
  wpAny (model X.prog X.w) X.A.in1 (do
   let l <- newList (rs.map Value.ref)
   let _ <- holding [l] (call (Value.builtin "list.sort") [l] [])
   ret l) (λfin s'=>∃v,fin=Fin.done (Flow.ret v)/\EP X pins σ Q v s') X.xe { s with heap:=h',toks:=tk }:=by
 have hN:(rs.map Value.ref).length=kss.length:=by rw[aH,hlen]
 refine aG (jh ?_);have hoL:(h'.push (seqObj "list" (rs.map Value.ref).toArray 0)).get? h'.objs.size=some (seqObj "list" (rs.map Value.ref).toArray 0):=bD _ rfl;show wpAny _ _ _ _ _ { s with toks:=tk,heap:=h'.push (seqObj "list" (rs.map Value.ref).toArray 0)};have tup:∀(i:Nat) (r:ak) (ks:List Int),rs[i]?=some r->kss[i]?=some ks->∃its:List af,IntsAre its ks/\IsTup (Sx.AY (h'.push (seqObj "list" (rs.map Value.ref).toArray 0)) h'.objs.size (rs.map Value.ref)) r its.toArray:=λi r ks e1 e2=>by
  obtain⟨its,rv,⟨o,ho,hc,n,hd⟩,_⟩:=I1.tuple (hT i r ks e1 e2).1;refine⟨its,intsAre_of rv,o,?_,hc,n,hd⟩;have lt:r<h'.objs.size:=bw ho;rw[Sx.IV (bG lt) (by rw[eG];exact dX lt)];exact aS _ ho
 refine aG (dM (cV slot_list_sort ⟨_,hoL,rfl⟩ entry_list_sort (Sx.wM (o:=Sx.AJ kss) (kd:=tuples' true) hoL (by rw[hN];lia) (λh2 Q' q'=>?_) (λh2 i j hi hj E' Q' q'=>?_) λg hc hs=>⟨_,rfl,?_⟩) (args_list_sort _)))
 ·refine Sx.Ky (λz=>by rw[z]at h2;simp at h2) (λv hv=>?_) q';obtain⟨i,hi⟩:=eZ hv;rw[aR]at hi;obtain⟨r,hr,rfl⟩:=aX.mp hi;have lt:=(aN.mp hr).1;have e2:kss[i]?=some kss[i]:=aF (by lia);obtain⟨its,h1,h3⟩:=tup i r _ hr e2;have hne:=(hT i r _ hr e2).2;generalize kss[i]=ks at h1 hne
  cases h1 with
  | nil=>exact absurd rfl hne
  | cons a t h1=>exact⟨r,_,a,t,rfl,h3⟩
 ·rw[hN]at hi hj;have e1:rs[i]?=some (rs[i]'(by lia)):=aF _;have e2:rs[j]?=some (rs[j]'(by lia)):=aF _;have k1:kss[i]?=some kss[i]:=aF hi;have k2:kss[j]?=some kss[j]:=aF hj;obtain⟨x1,a1,b1⟩:=tup i _ _ e1 k1;obtain⟨x2,a2,b2⟩:=tup j _ _ e2 k2;have v1:(rs.map Value.ref).getD i .none=.ref (rs[i]'(by lia)):=by rw[aJ,aR,e1];rfl
  have v2:(rs.map Value.ref).getD j .none=.ref (rs[j]'(by lia)):=by rw[aJ,aR,e2];rfl
  show wpAny _ _ (keyLt' (tuples' true) ((rs.map Value.ref).getD i .none) ((rs.map Value.ref).getD j .none)) Q' E' _;rw[v1,v2];refine Sx.Fq true b1 b2 a1 a2 ?_;have d1:kss.getD i []=kss[i]:=by rw[aJ,k1];rfl
  have d2:kss.getD j []=kss[j]:=by rw[aJ,k2];rfl
  have:(Sx.AJ kss).lt i j=HT.lexLt kss[i] kss[j]:=by show HT.lexLt _ _=_;rw[d1,d2]
  rw[<- this];exact q'
 ·rw[hN]at hc hs ⊢;obtain⟨e,he⟩:=sortedHeap_at (out:=((List.range kss.length).map λi=>(rs.map Value.ref).getD (g i) .none).toArray) hoL;have old:∀b ob,h'.get? b=some ob->(sortedHeap (h'.push (seqObj "list" (rs.map Value.ref).toArray 0)) h'.objs.size (rs.map Value.ref) ((List.range kss.length).map λi=>(rs.map Value.ref).getD (g i) .none).toArray).get? b=some ob:=λb ob eb=>by
   rw[sortedHeap_old (bG (bw eb)) (by rw[eG];exact dX (bw eb))];exact aS _ eb
  refine aV ⟨_,rfl,.ref h'.objs.size,_,I1.laid (t':=tk) (o:=.lst (((List.range kss.length).map λi=>rs.getD (g i) 0).map V.ref)) old (aQ _) ?_,rfl,q _ g (I1.hok.fresh (aQ _)) hc hs⟩;refine⟨by rw[aH,aH,cA];lia,((List.range kss.length).map λi=>rs.getD (g i) 0).map Value.ref,e,xE _,?_⟩;rw[he];congr 2;rw[bu];congr 1;refine cJ λi hi=>?_;have:=(hc i (bM _) (cO.mp hi)).2;have lt:g i<rs.length:=by lia
  show(rs.map Value.ref).getD (g i) .none=Value.ref (rs.getD (g i) 0);rw[aJ,aR,aF lt,aJ,aF lt];rfl
end
end L2
namespace Sx
open PySem PyProof.Rows
open PySem.AutoSeq1 (wpAny_loadPart')
open PySem.MeetsSeq PySem.MeetsSeq2 PySem.MeetsSeq3
theorem yF:∀{xs:List af}{ns:List Int}{i:Nat},IntsAre xs ns->i<ns.length->∃t,xs[i]?=some (.int (ns.getD i 0) t)
 | _,_,i,.nil,h=>absurd h (eY _)
 | _,_,0,.cons n t h,_=>⟨t,rfl⟩
 | _,_,i+1,.cons n t h,hi=>by
  obtain⟨t',e⟩:=yF h (i:=i) (by simpa using hi);exact⟨t',by simpa using e⟩
end Sx
namespace Am
open PySem
inductive A where
 | unb|non|bl (b:Bool)|int (i:Int)|str (x:Str)|tup (xs:List A)|frz (xs:List A)|rng (lo hi:Int)|ref (n:Nat)|exn (c:Str)|ty (n:String)|ktu (xs:List A)
inductive O where
 | lst (xs:List A)|dct (kvs:List (List Int×A))|qV (kvs:List (Int×A))|ins (c:Str) (fs:List (Str×A))
noncomputable abbrev jG:=List O
inductive R (α:Type) where
 | ok (a:α) (S:jG)|ex (c:Str) (S:jG)|no
noncomputable def R.bind {α β:Type}(r:R α)(f:α->jG->R β):R β:=match r with
 | .ok a S=>f a S
 | .ex c S=>.ex c S
 | .no=>.no
noncomputable def R.post {α:Type}(r:R α)(P:α->jG->Prop)(E:Str->jG->Prop):Prop:=match r with
 | .ok a S=>P a S
 | .ex c S=>E c S
 | .no=>False
theorem jM{α β:Type}{r:R α}{f:α->jG->R β}{P:β->jG->Prop}{E:Str->jG->Prop}(h:(r.bind f).post P E):r.post (λa S=>(f a S).post P E) E:=by
 cases r<;>exact h
theorem Ku{α:Type}{r:R α}{P P':α->jG->Prop}{E E':Str->jG->Prop}(h:r.post P E)(hp:∀a S,P a S->P' a S)(he:∀c S,E c S->E' c S):r.post P' E':=by
 cases r with
 | ok a S=>exact hp _ _ h
 | ex c S=>exact he _ _ h
 | no=>exact h.elim
noncomputable def gd {α:Type}(c:Prop)[Decidable c](r:R α):R α:=if c then r else .no
noncomputable def opt {α β:Type}(o:Option β)(f:β->R α):R α:=match o with
 | some b=>f b
 | none=>.no
theorem kh{α:Type}{c:Prop}[Decidable c]{r:R α}{P:α->jG->Prop}{E:Str->jG->Prop}(h:(gd c r).post P E):c/\r.post P E:=by
 unfold gd at h;by_cases hc:c
 ·rw[aM hc]at h;exact⟨hc,h⟩
 ·rw[aK hc]at h;exact h.elim
theorem jN{α β:Type}{o:Option β}{f:β->R α}{P:α->jG->Prop}{E:Str->jG->Prop}(h:(opt o f).post P E):∃b,o=some b/\(f b).post P E:=by
 cases o with
 | none=>exact h.elim
 | some b=>exact⟨b,rfl,h⟩
noncomputable def jE (S:jG)(n:Nat):Option (List A):=match S[n]? with
 | some (.lst xs)=>some xs
 | _=>none
theorem jU{n:Nat}(h:jE S n=some xs):S[n]?=some (.lst xs):=by
 unfold jE at h;split at h
 ·rename_i e;cases h;exact e
 ·cases h
theorem vM{S:jG}{n:Nat}(h:S[n]?=some (.lst xs)):jE S n=some xs:=by
 unfold jE;rw[h]
inductive RS where
 | nx (τ:List A) (S:jG)|rt (a:A) (S:jG)|bk (τ:List A) (S:jG)|ct (τ:List A) (S:jG)|ex (c:Str) (S:jG)|no
noncomputable abbrev Ex:=List A->jG->R A
noncomputable abbrev qL:=List A->jG->R (List A)
noncomputable abbrev Te:=List A->jG->R Bool
noncomputable abbrev Sm:=List A->jG->RS
noncomputable abbrev Tg:=A->List A->jG->R (List A)
end Am
namespace Am
open PySem L2
section
variable (K:au) (ρ:List ak) (H:Hp)
noncomputable def ClN (K:au)(c:Str)(C:ak):Prop:=PySem.W.nsIn K mainGlobals c=some (some (.ref C))
noncomputable def Fz (K:au)(H:Hp)(a:ak)(vs:List V):Prop:=
 (∃o,H a=some (.frz o (.lst vs)))\/∃(o:Obj) (its:Array af) (n:Nat),K.lookup a=some o/\o.cls=.type "list" /\ o.dict=none/\o.data=.seq its n/\its.size<=sizeLine/\Vals vs its.toList
noncomputable def KTp (K:au)(a:ak)(vs:List V):Prop:=∃(o:Obj) (its:Array af) (n:Nat),K.lookup a=some o/\o.cls=.type "tuple" /\ o.dict=none/\o.data=.seq its n/\its.size<=sizeLine/\Vals vs its.toList
mutual
inductive AV:A->V->Prop
 | non:AV .non .non
 | bl (b:Bool):AV (.bl b) (.bl b)
 | int (i:Int):AV (.int i) (.int i)
 | str (x:Str):AV (.str x) (.str x)
 | ty (n:String):AV (.ty n) (.ty n)
 | tup {a:ak} {xs:List A} {vs:List V} (h:H a=some (.tup vs)) (r:AVs xs vs):AV (.tup xs) (.ref a)
 | frz {a:ak} {xs:List A} {vs:List V} (h:Fz K H a vs) (r:AVs xs vs):AV (.frz xs) (.ref a)
 | rng {a:ak} {lo hi:Int} (h:H a=some (.rng lo hi)):AV (.rng lo hi) (.ref a)
 | ref {a:ak} {n:Nat} (h:ρ[n]?=some a):AV (.ref n) (.ref a)
 | exn {a C:ak} {c:Str} {oe:Obj} (n:ClN K c C) (h:H a=some (.frz oe xu)) (x:XO C oe):AV (.exn c) (.ref a)
 | ktu {a:ak} {xs:List A} {vs:List V} (h:KTp K a vs) (r:AVs xs vs):AV (.ktu xs) (.ref a)
inductive AVs:List A->List V->Prop
 | nil:AVs [] []
 | cons {x:A} {v:V} {xs:List A} {vs:List V} (h:AV x v) (t:AVs xs vs):AVs (x::xs) (v::vs)
end
noncomputable def DV:List (List Int×A)->List (List Key×V)->Prop
 | [],[]=>True
 | p::r,q::r'=>(q.1=p.1.map Sum.inl/\AV K ρ H p.2 q.2)/\DV r r'
 | _,_=>False
noncomputable def DI:List (Int×A)->List (Key×V)->Prop
 | [],[]=>True
 | p::r,q::r'=>(q.1=Sum.inl p.1/\AV K ρ H p.2 q.2)/\DI r r'
 | _,_=>False
noncomputable def OR (a:ak):O->Prop
 | .lst xs=>∃vs,H a=some (.lst vs)/\AVs K ρ H xs vs
 | .dct kvs=>∃ks,H a=some (.dT ks)/\DV K ρ H kvs ks
 | .qV kvs=>∃ks,H a=some (.dK ks)/\DI K ρ H kvs ks
 | .ins _ _=>∃o u,H a=some (.frz o u)
structure Rel (S:jG):Prop where
 len:ρ.length=S.length
 nd:ρ.Nodup
 «at»:∀(n:Nat) (a:ak) (o:O),ρ[n]?=some a->S[n]?=some o->OR K ρ H a o
end
noncomputable def Imm:HO->Prop
 | .tup _=>True
 | .rng _ _=>True
 | .frz _ _=>True
 | _=>False
structure Ext0 (ρ ρ':List ak)(H H':Hp):Prop where
 pre:ρ <+: ρ'
 im:∀a u,Imm u->H a=some u->H' a=some u
structure Ext (ρ ρ':List ak)(H H':Hp):Prop extends Ext0 ρ ρ' H H' where
 fr:∀a u,H a=some u->a∉ρ->H' a=some u
 nw:∀a,a∈ρ'->a∈ρ\/H a=none
theorem Ext.refl{H:Hp}:Ext ρ ρ H H:=⟨⟨fM _,λ_ _ _ h=>h⟩,λ_ _ h _=>h,λ_ h=>.inl h⟩
theorem Ext.trans{H H1 H2:Hp}(a:Ext ρ ρ1 H H1)(b:Ext ρ1 ρ2 H1 H2):Ext ρ ρ2 H H2:=⟨⟨a.pre.trans b.pre,λx u i h=>b.im x u i (a.im x u i h)⟩,λx u h n=>b.fr x u (a.fr x u h n) λz=>(a.nw x z).elim n λz=>by(rw[z]at h;cases h),λx h=>by
 by_cases hx:x∈ρ
 ·exact .inl hx
 ·right
  cases q:H x with
  | none=>rfl
  | some u=>
   rcases b.nw x h with z|z
   ·exact((a.nw x z).elim hx λz=>by(rw[z]at q;cases q)).elim
   ·rw[a.fr x u q hx]at z;cases z⟩
theorem Ext0.get{H H':Hp}(e:Ext0 ρ ρ' H H'){n:Nat}{a:ak}(h:ρ[n]?=some a):ρ'[n]?=some a:=by
 obtain⟨t,rfl⟩:=e.pre;rw[bH (aN.mp h).1];exact h
section
variable {K:au}{ρ ρ':List ak}{H H':Hp}
theorem Ext0.Zh(e:Ext0 ρ ρ' H H'){a:ak}(h:nq K H a vs):nq K H' a vs:=by
 rcases h with(h|⟨o,h⟩)|h
 ·exact .inl (.inl (e.im _ _ trivial h))
 ·exact .inl (.inr ⟨o,e.im _ _ trivial h⟩)
 ·exact .inr h
theorem Ext0.fz(e:Ext0 ρ ρ' H H'){a:ak}(h:Fz K H a vs):Fz K H' a vs:=by
 rcases h with⟨o,h⟩|h
 ·exact .inl ⟨o,e.im _ _ trivial h⟩
 ·exact .inr h
theorem Fz.QW{a:ak}(h:Fz K H a vs):pW K H a vs:=by
 rcases h with⟨o,h⟩|h
 ·exact .inl (.inr ⟨o,h⟩)
 ·exact .inr h
mutual
theorem AV.n9(e:Ext0 ρ ρ' H H'):∀{x:A}{v:V},AV K ρ H x v->AV K ρ' H' x v
 | _,_,.non=>.non
 | _,_,.bl b=>.bl b
 | _,_,.int i=>.int i
 | _,_,.str x=>.str x
 | _,_,.ty x=>.ty x
 | _,_,.tup h r=>.tup (e.im _ _ trivial h) (AVs.n9 e r)
 | _,_,.frz h r=>.frz (e.fz h) (AVs.n9 e r)
 | _,_,.rng h=>.rng (e.im _ _ trivial h)
 | _,_,.ref h=>.ref (e.get h)
 | _,_,.exn n h x=>.exn n (e.im _ _ trivial h) x
 | _,_,.ktu h r=>.ktu h (AVs.n9 e r)
theorem AVs.n9(e:Ext0 ρ ρ' H H'):∀{xs:List A}{vs:List V},AVs K ρ H xs vs->AVs K ρ' H' xs vs
 | _,_,.nil=>.nil
 | _,_,.cons h t=>.cons (AV.n9 e h) (AVs.n9 e t)
end
theorem DV.n9(e:Ext0 ρ ρ' H H'):∀{xs:List (List Int×A)}{vs:List (List Key×V)},DV K ρ H xs vs->DV K ρ' H' xs vs
 | [],[],_=>trivial
 | _::_,_::_,⟨⟨a,b⟩,r⟩=>⟨⟨a,AV.n9 e b⟩,DV.n9 e r⟩
theorem DV.ext{x:List (List Int×A)}{v:List (List Key×V)}(h:DV K ρ H x v)(e:Ext ρ ρ' H H'):DV K ρ' H' x v:=DV.n9 e.toExt0 h
theorem DI.n9(e:Ext0 ρ ρ' H H'):∀{xs:List (Int×A)}{vs:List (Key×V)},DI K ρ H xs vs->DI K ρ' H' xs vs
 | [],[],_=>trivial
 | _::_,_::_,⟨⟨a,b⟩,r⟩=>⟨⟨a,AV.n9 e b⟩,DI.n9 e r⟩
theorem DI.ext{x:List (Int×A)}{v:List (Key×V)}(h:DI K ρ H x v)(e:Ext ρ ρ' H H'):DI K ρ' H' x v:=DI.n9 e.toExt0 h
theorem AV.ext{x:A}{v:V}(h:AV K ρ H x v)(e:Ext ρ ρ' H H'):AV K ρ' H' x v:=AV.n9 e.toExt0 h
theorem AVs.ext{x:List A}{v:List V}(h:AVs K ρ H x v)(e:Ext ρ ρ' H H'):AVs K ρ' H' x v:=AVs.n9 e.toExt0 h
theorem AVs.length:∀{xs:List A}{vs:List V},AVs K ρ H xs vs->xs.length=vs.length
 | _,_,.nil=>rfl
 | _,_,.cons _ t=>dm (·+1) (AVs.length t)
theorem AVs.append:∀{xs ys:List A}{vs ws:List V},AVs K ρ H xs vs->AVs K ρ H ys ws->AVs K ρ H (xs++ys) (vs++ws)
 | _,_,_,_,.nil,s=>s
 | _,_,_,_,.cons h t,s=>.cons h (AVs.append t s)
theorem AVs.get:∀{xs:List A}{vs:List V}{i:Nat}{x:A},AVs K ρ H xs vs->xs[i]?=some x->∃v,vs[i]?=some v/\AV K ρ H x v
 | _,_,_,_,.nil,e=>by simp at e
 | _,_,0,_,.cons h _,e=>by simp at e;subst e;exact⟨_,rfl,h⟩
 | _,_,i+1,x,.cons _ t,e=>by
  obtain⟨u,h1,h2⟩:=AVs.get (i:=i) (x:=x) t (by simpa using e);exact⟨u,by simpa using h1,h2⟩
theorem AVs.set{x:A}{v:V}(h:AV K ρ H x v):∀{xs:List A}{vs:List V}(i:Nat),AVs K ρ H xs vs->AVs K ρ H (xs.set i x) (vs.set i v)
 | _,_,_,.nil=>.nil
 | _,_,0,.cons _ t=>.cons h t
 | _,_,i+1,.cons q t=>.cons q (AVs.set h i t)
theorem AVs.one{x:A}{v:V}(h:AV K ρ H x v):AVs K ρ H [x] [v]:=.cons h .nil
theorem AVs.eraseIdx:∀{xs:List A}{vs:List V}(i:Nat),AVs K ρ H xs vs->AVs K ρ H (xs.eraseIdx i) (vs.eraseIdx i)
 | _,_,_,.nil=>.nil
 | _,_,0,.cons _ t=>t
 | _,_,i+1,.cons q t=>.cons q (AVs.eraseIdx i t)
theorem rC:∀(ns:List Int),AVs K ρ H (ns.map .int) (ns.map .int)
 | []=>.nil
 | n::ns=>.cons (.int n) (rC ns)
theorem Rel.lay{S:jG}{p:ak}(R:Rel K ρ H S)(hp:H p=none)(r:AVs K ρ H xs vs):Ext ρ (ρ++[p]) H (upd H p (.lst vs))/\Rel K (ρ++[p]) (upd H p (.lst vs)) (S++[.lst xs])/\(ρ++[p])[S.length]?=some p:=by
 have ex:Ext ρ (ρ++[p]) H (upd H p (.lst vs)):=⟨⟨fQ _ _,λa u _ h=>by rw[jP (jY h hp)];exact h⟩,λa u h _=>by rw[jP (jY h hp)];exact h,λa h=>by
  rcases bF.mp h with z|z
  ·exact .inl z
  ·have e:a=p:=by simpa using z
   rw[e];exact .inr hp⟩
 have np:∀(n:Nat) (a:ak),ρ[n]?=some a->a≠p:=by
  intro n a e z;subst z;have hn:n<S.length:=by rw[<- R.len];exact(aN.mp e).1
  have:=R.at n a S[n] e (aF hn)
  cases ho:S[n]with
  | lst xs=>rw[ho]at this;obtain⟨vs,h,_⟩:=this;rw[hp]at h;cases h
  | dct _|qV _=>rw[ho]at this;obtain⟨vs,h,_⟩:=this;rw[hp]at h;cases h
  | ins _ _=>rw[ho]at this;obtain⟨_,_,h⟩:=this;rw[hp]at h;cases h
 have last:(ρ++[p])[S.length]?=some p:=by rw[<- R.len];simp
 refine⟨ex,⟨by simp[R.len],?_,?_⟩,last⟩
 ·rw[dY];refine⟨R.nd,by simp,λa ha b hb e=>?_⟩;have:b=p:=by simpa using hb
  obtain⟨n,hn,e'⟩:=List.mem_iff_getElem.mp ha;exact np n a (by rw[aF hn,e']) (e.trans this)
 ·intro n a o h1 h2;by_cases hn:n<S.length
  ·rw[bH (by rw[R.len];exact hn)]at h1;rw[bH hn]at h2;have:=R.at n a o h1 h2
   cases o with
   | lst ys=>obtain⟨ws,e,q⟩:=this;exact⟨ws,by rw[jP (np n a h1)];exact e,q.ext ex⟩
   | dct _|qV _=>obtain⟨ws,e,q⟩:=this;exact⟨ws,by rw[jP (np n a h1)];exact e,q.ext ex⟩
   | ins _ _=>obtain⟨oo,uu,e⟩:=this;exact⟨oo,uu,by rw[jP (np n a h1)];exact e⟩
  ·have e:n=S.length:=by
    have:=(aN.mp h2).1;simp at this;lia
   subst e;rw[last]at h1
   cases h1
   simp at h2;subst h2;exact⟨vs,lI,r.ext ex⟩
theorem Rel.im{p:ak}(R:Rel K ρ H S)(hp:H p=none):Ext ρ ρ H (upd H p u)/\Rel K ρ (upd H p u) S:=by
 have ex:Ext ρ ρ H (upd H p u):=⟨⟨fM _,λa u _ h=>by rw[jP (jY h hp)];exact h⟩,λa u h _=>by rw[jP (jY h hp)];exact h,λ_ h=>.inl h⟩;refine⟨ex,R.len,R.nd,λn a o h1 h2=>?_⟩;have:=R.at n a o h1 h2
 cases o with
 | lst ys=>obtain⟨ws,e,q⟩:=this;exact⟨ws,by rw[jP (jY e hp)];exact e,q.ext ex⟩
 | dct _|qV _=>obtain⟨ws,e,q⟩:=this;exact⟨ws,by rw[jP (jY e hp)];exact e,q.ext ex⟩
 | ins _ _=>obtain⟨oo,uu,e⟩:=this;exact⟨oo,uu,by rw[jP (jY e hp)];exact e⟩
theorem Rel.put{S:jG}{n:Nat}{a:ak}(R:Rel K ρ H S)(ha:ρ[n]?=some a)(hS:S[n]?=some (.lst xs))(r:AVs K ρ H ys ws):Ext ρ ρ H (upd H a (.lst ws))/\Rel K ρ (upd H a (.lst ws)) (S.set n (.lst ys)):=by
 obtain⟨vs,e,_⟩:=R.at n a _ ha hS;have ex:Ext ρ ρ H (upd H a (.lst ws)):=⟨⟨fM _,λb u i h=>by
  have:b≠a:=by
   intro z;subst z;rw[e]at h;cases h;exact i
  rw[jP this];exact h⟩,λb u h n=>by
  rw[jP (λz=>n (by rw[z];exact aW ha))];exact h,λ_ h=>.inl h⟩
 refine⟨ex,by rw[b9];exact R.len,R.nd,λm b o h1 h2=>?_⟩;by_cases hm:m=n
 ·subst hm;rw[ha]at h1;cases h1;rw[bY (aN.mp hS).1]at h2
  cases h2
  exact⟨ws,lI,r.ext ex⟩
 ·rw[cE (c7 hm)]at h2;have nb:b≠a:=λz=>by
   subst z;obtain⟨l1,e1⟩:=aN.mp ha;obtain⟨l2,e2⟩:=aN.mp h1;exact hm ((dj R.nd).mp (e2.trans e1.symm))
  have:=R.at m b o h1 h2
  cases o with
  | lst ys=>obtain⟨ws',e',q⟩:=this;exact⟨ws',by rw[jP nb];exact e',q.ext ex⟩
  | dct _|qV _=>obtain⟨ws',e',q⟩:=this;exact⟨ws',by rw[jP nb];exact e',q.ext ex⟩
  | ins _ _=>obtain⟨oo,uu,e'⟩:=this;exact⟨oo,uu,by rw[jP nb];exact e'⟩
theorem Rel.lst{n:Nat}{a:ak}(R:Rel K ρ H S)(ha:ρ[n]?=some a)(hS:S[n]?=some (.lst xs)):∃vs,H a=some (.lst vs)/\AVs K ρ H xs vs:=R.at n a _ ha hS
structure SR (K:au)(ρ:List ak)(H:Hp)(τ:List A)(σ:St):Prop where
 len:τ.length=σ.length
 «at»:∀(i:Nat) (a:A),τ[i]?=some a->a=.unb\/∃v,σ[i]?=some (some v)/\AV K ρ H a v
theorem SR.n9(s:SR K ρ H τ σ)(e:Ext0 ρ ρ' H H'):SR K ρ' H' τ σ:=⟨s.len,λi a h=>by
 rcases s.at i a h with z|⟨v,h1,h2⟩
 ·exact .inl z
 ·exact .inr ⟨v,h1,AV.n9 e h2⟩⟩
theorem SR.ext(s:SR K ρ H τ σ)(e:Ext ρ ρ' H H'):SR K ρ' H' τ σ:=s.n9 e.toExt0
theorem Rel.out{D:ak}(R:Rel K ρ H S)(hD:H D=some (.lst vs))(hn:D∉ρ):Ext0 ρ ρ H (upd H D (.lst ws))/\Rel K ρ (upd H D (.lst ws)) S:=by
 have ex:Ext0 ρ ρ H (upd H D (.lst ws)):=⟨fM _,λb u i h=>by
  have:b≠D:=by
   intro z;subst z;rw[hD]at h;cases h;exact i
  rw[jP this];exact h⟩
 refine⟨ex,R.len,R.nd,λn a o h1 h2=>?_⟩;have na:a≠D:=λz=>hn (by rw[<- z];exact aW h1);have:=R.at n a o h1 h2
 cases o with
 | lst ys=>obtain⟨ws',e,q⟩:=this;exact⟨ws',by rw[jP na];exact e,AVs.n9 ex q⟩
 | dct _|qV _=>obtain⟨ws',e,q⟩:=this;exact⟨ws',by rw[jP na];exact e,q.n9 ex⟩
 | ins _ _=>obtain⟨oo,uu,e⟩:=this;exact⟨oo,uu,by rw[jP na];exact e⟩
theorem Rel.take{S:jG}{D:ak}(R:Rel K ρ H S)(hD:H D=some (.lst vs))(hn:D∉ρ)(r:AVs K ρ H xs vs):Rel K (ρ++[D]) H (S++[.lst xs])/\(ρ++[D])[S.length]?=some D:=by
 have ex:Ext0 ρ (ρ++[D]) H H:=⟨fQ _ _,λ_ _ _ h=>h⟩;have last:(ρ++[D])[S.length]?=some D:=by rw[<- R.len];simp
 refine⟨⟨by simp[R.len],?_,λn a o h1 h2=>?_⟩,last⟩
 ·rw[dY];refine⟨R.nd,by simp,λa ha b hb e=>?_⟩;have:b=D:=by simpa using hb
  exact hn (by rw[<- this,<- e];exact ha)
 ·by_cases hs:n<S.length
  ·rw[bH (by rw[R.len];exact hs)]at h1;rw[bH hs]at h2;have:=R.at n a o h1 h2
   cases o with
   | lst ys=>obtain⟨ws,e,q⟩:=this;exact⟨ws,e,AVs.n9 ex q⟩
   | dct _|qV _=>obtain⟨ws,e,q⟩:=this;exact⟨ws,e,q.n9 ex⟩
   | ins _ _=>obtain⟨oo,uu,e⟩:=this;exact⟨oo,uu,e⟩
  ·have e:n=S.length:=by
    have:=(aN.mp h2).1;simp at this;lia
   subst e;rw[last]at h1
   cases h1
   simp at h2;subst h2;exact⟨vs,hD,AVs.n9 ex r⟩
theorem SR.set{τ:List A}{σ:St}{a:A}{v:V}(s:SR K ρ H τ σ)(h:AV K ρ H a v):SR K ρ H (τ.set i a) (σ.set i (some v)):=by
 refine⟨by simp[s.len],λj b e=>?_⟩;by_cases hj:j=i
 ·subst hj;have hl:j<τ.length:=by
   have:=(aN.mp e).1;simpa using this
  rw[bY hl]at e
  cases e
  exact .inr ⟨v,bY (by rw[<- s.len];exact hl),h⟩
 ·rw[cE (c7 hj)]at e;rw[cE (c7 hj)];exact s.at j b e
end
end Am
namespace Am
open PySem PySem.Spec PyProof.Rows L2
noncomputable def XE (X:Cx)(ρ:List ak)(H:Hp):Str->jG->Prop:=λc S'=>∀(C:ak) (ρ':List ak) (H':Hp),ClN X.K c C->Ext ρ ρ' H H'->Rel X.K ρ' H' S'->EX X (.ref C) none H'
theorem XE.ext{X:Cx}{H H':Hp}{c:Str}(h:XE X ρ H c S)(e:Ext ρ ρ' H H'):XE X ρ' H' c S:=λC ρ2 H2 n e2=>h C ρ2 H2 n (e.trans e2)
noncomputable def CB (X:Cx)(ρ:List ak)(H:Hp)(Q:VK):A->jG->Prop:=λa S'=>∀ρ' H' v,Ext ρ ρ' H H'->Rel X.K ρ' H' S'->AV X.K ρ' H' a v->Q v H'
noncomputable def Zm (X:Cx)(ρ:List ak)(H:Hp)(Q:Bool->Hp->Prop):Bool->jG->Prop:=λb S'=>∀ρ' H',Ext ρ ρ' H H'->Rel X.K ρ' H' S'->Q b H'
noncomputable def okL (X:Cx)(ρ:List ak)(H:Hp)(Q:List V->Hp->Prop):List A->jG->Prop:=λas S'=>∀ρ' H' vs,Ext ρ ρ' H H'->Rel X.K ρ' H' S'->AVs X.K ρ' H' as vs->Q vs H'
theorem CB.ext{X:Cx}{H H':Hp}{Q:VK}{a:A}(h:CB X ρ H Q a S)(e:Ext ρ ρ' H H'):CB X ρ' H' Q a S:=λρ2 H2 v e2=>h ρ2 H2 v (e.trans e2)
theorem Zm.ext{X:Cx}{H H':Hp}{Q:Bool->Hp->Prop}{a:Bool}(h:Zm X ρ H Q a S)(e:Ext ρ ρ' H H'):Zm X ρ' H' Q a S:=λρ2 H2 e2=>h ρ2 H2 (e.trans e2)
theorem jK{α:Type}{X:Cx}{H H':Hp}{r:R α}{P P':α->jG->Prop}(h:r.post P (XE X ρ H))(e:Ext ρ ρ' H H')(hp:∀a S,P a S->P' a S):r.post P' (XE X ρ' H'):=Ku h hp λ_ _ z=>z.ext e
noncomputable def tE (X:Cx)(c:Ex):TE:=λσ H Q=>∃ρ S τ,Rel X.K ρ H S/\SR X.K ρ H τ σ/\(c τ S).post (CB X ρ H Q) (XE X ρ H)
noncomputable def tT (X:Cx)(c:Te):TT:=λσ H Q=>∃ρ S τ,Rel X.K ρ H S/\SR X.K ρ H τ σ/\(c τ S).post (Zm X ρ H Q) (XE X ρ H)
noncomputable def tL (X:Cx)(c:qL):TA:=λσ H Q=>∃ρ S τ,Rel X.K ρ H S/\SR X.K ρ H τ σ/\(c τ S).post (okL X ρ H Q) (XE X ρ H)
noncomputable def AE (X:Cx)(e:aC)(c:Ex):Prop:=PE X e (tE X c)
noncomputable def AT (X:Cx)(e:aC)(c:Te):Prop:=PT X e (tT X c)
noncomputable def AW (X:Cx)(e:aC)(c:Te):Prop:=PW X e (tT X c)
noncomputable def AL (X:Cx)(es:List aC)(c:qL):Prop:=PA X es (tL X c)
theorem PE.imp{X:Cx}{e:aC}{t t':TE}(h:PE X e t)(i:∀σ H Q,t' σ H Q->t σ H Q):PE X e t':=λpins s σ H Q I q=>h pins s σ H Q I (i σ H Q q)
theorem PT.imp{X:Cx}{e:aC}{t t':TT}(h:PT X e t)(i:∀σ H Q,t' σ H Q->t σ H Q):PT X e t':=λpins s σ H Q I q=>h pins s σ H Q I (i σ H Q q)
theorem PW.imp{X:Cx}{e:aC}{t t':TT}(h:PW X e t)(i:∀σ H Q,t' σ H Q->t σ H Q):PW X e t':=λw pins s σ H Q I q=>h w pins s σ H Q I (i σ H Q q)
theorem PA.imp{X:Cx}{e:List aC}{t t':TA}(h:PA X e t)(i:∀σ H Q,t' σ H Q->t σ H Q):PA X e t':=λp pins s σ H Q I q=>h p pins s σ H Q I (i σ H Q q)
theorem AW.at{X:Cx}{e:aC}{c:Te}(h:AW X e c):AT X e c:=h _
noncomputable def A.qh:A->Bool
 | .unb=>true
 | _=>false
noncomputable def jD (i:Nat):Ex:=λτ S=>if (τ.getD i .unb).qh then .no else .ok (τ.getD i .unb) S
noncomputable def eC (a:A):Ex:=λ_ S=>.ok a S
section
variable {X:Cx}{pos:Pos}{a b:aC}
theorem jB(i:Nat){x:Str}(hN:X.N[i]?=some x:=by rfl)(hv:X3 X.env.scope x:=by first|exact Or.inl rfl|exact Or.inr (Or.inl rfl)|exact Or.inr (Or.inr rfl))(hd:(x == ("__debug__" : Str))=false:=by decide)
  (hcd:(x == ("__classdict__" : Str))=false:=by decide):AE X (.Name x pos) (jD i):=PE.imp (OJ hN hv hd hcd) λσ H Q h9=>by
 obtain⟨ρ,S,τ,R,r,h⟩:=h9;unfold jD at h
 cases hi:τ[i]? with
 | none=>
  rw[aJ,hi]at h;exact h.elim
 | some x=>
  rw[aJ,hi]at h
  rcases r.at i x hi with z|⟨v,e,q⟩
  ·subst z;exact h.elim
  ·refine⟨v,e,?_⟩
   cases x<;>first|(exact h ρ H v .refl R q)|exact h.elim
theorem jH{i:Int}{j pos}:AE X (.Constant (.int i) j pos) (eC (.int i)):=PE.imp UN λσ H Q ⟨ρ,S,τ,R,r,h⟩=>h ρ H _ .refl R (.int i)
theorem Eu{j pos}:AE X (.Constant (.bool i) j pos) (eC (.bl i)):=PE.imp YT λσ H Q ⟨ρ,S,τ,R,r,h⟩=>h ρ H _ .refl R (.bl i)
noncomputable def jO (f:A->A->jG->R A)(ca cb:Ex):Ex:=λτ S=>(ca τ S).bind λa S1=>(cb τ S1).bind λb S2=>f a b S2
noncomputable def r2 (X:Cx)(f:A->A->jG->R A):R2:=λx y H Q=>∃ρ S a b,Rel X.K ρ H S/\AV X.K ρ H a x/\AV X.K ρ H b y/\(f a b S).post (CB X ρ H Q) (XE X ρ H)
noncomputable def r1 (X:Cx)(f:A->jG->R A):V->Hp->VK->Prop:=λx H Q=>∃ρ S a,Rel X.K ρ H S/\AV X.K ρ H a x/\(f a S).post (CB X ρ H Q) (XE X ρ H)
noncomputable def rN (X:Cx)(f:List A->jG->R A):List V->Hp->VK->Prop:=λxs H Q=>∃ρ S as,Rel X.K ρ H S/\AVs X.K ρ H as xs/\(f as S).post (CB X ρ H Q) (XE X ρ H)
theorem o_.imp{f:af->af->Sem af}{r r':R2}(h:o_ X f r)(i:∀x y H Q,r' x y H Q->r x y H Q):o_ X f r':=λpins s σ H x y v u Q I rx ry q=>h pins s σ H x y v u Q I rx ry (i _ _ _ _ q)
theorem kH.imp{f:af}{r r':List V->Hp->VK->Prop}(h:kH X f r)(i:∀x H Q,r' x H Q->r x H Q):kH X f r':=λpins s σ H x v Q I rx q=>h pins s σ H x v Q I rx (i _ _ _ q)
theorem uq{f:A->A->jG->R A}{ca cb:Ex}{H:Hp}{Q:VK}(h:tE X (jO f ca cb) σ H Q):Xj (r2 X f) (tE X ca) (tE X cb) σ H Q:=by
 obtain⟨ρ,S,τ,R,r,h⟩:=h;refine⟨ρ,S,τ,R,r,jK (jM h) .refl λa S1 h1 ρ1 H1 x e1 R1 v1=>⟨ρ1,S1,τ,R1,r.ext e1,jK (jM h1) e1 λb S2 h2 ρ2 H2 y e2 R2 v2=>?_⟩⟩;exact⟨ρ2,S2,a,b,R2,v1.ext e2,v2,jK h2 (e1.trans e2) λc S3 h3=>h3.ext (e1.trans e2)⟩
theorem kc{f:A->A->jG->R A}{ca cb:Ex}(ho:o_ X (binaryOp op) (r2 X f))(ha:AE X a ca)(hb:AE X b cb):AE X (.BinOp a op b pos) (jO f ca cb):=
 PE.imp (X_ ho ha hb) λσ H Q h=>uq h
theorem GH{op:CmpOp}{f:A->A->jG->R A}{ca cb:Ex}(ho:o_ X (compareOp op) (r2 X f))(ha:AE X a ca)(hb:AE X b cb)(hm:behindInMarks op b=false:=by first|exact LG _|with_unfolding_all rfl):AE X (.Compare a [op] [b] pos) (jO f ca cb):=
 PE.imp (QO ho ha hb hm) λσ H Q h=>uq h
noncomputable def A.TX:A->jG->Option Bool
 | .non,_=>some false
 | .bl b,_=>some b
 | .int i,_=>some (i != 0)
 | .str x,_=>if x.length<=sizeLine then some ((x.length:Int) != 0)else none
 | .tup xs,_=>some (!xs.isEmpty)
 | .frz xs,_=>some (!xs.isEmpty)
 | .ref n,S=>(jE S n).map λxs=>!xs.isEmpty
 | _,_=>none
noncomputable def AX (c:Ex):Te:=λτ S=>(c τ S).bind λa S1=>opt (a.TX S1) λb=>.ok b S1
noncomputable def vm (c:Ex):Te:=λτ S=>(c τ S).bind λa S1=>match a with
 | .bl b=>.ok b S1
 | _=>.no
theorem Dk{K:au}{H:Hp}{b:Bool}{v:V}(h:AV K ρ H (.bl b) v):v=.bl b:=by cases h;rfl
theorem mU{op:CmpOp}{f:A->A->jG->R A}{ca cb:Ex}(ho:o_ X (compareOp op) (r2 X f))(ha:AE X a ca)(hb:AE X b cb)(hm:behindInMarks op b=false:=by first|exact LG _|with_unfolding_all rfl):AT X (.Compare a [op] [b] pos) (vm (jO f ca cb)):=
 PT.imp (Ry ho ha hb hm) λσ H Q h9=>by
  obtain⟨ρ,S,τ,R,r,h⟩:=h9;refine uq ⟨ρ,S,τ,R,r,jK (jM h) .refl λc S1 h1 ρ1 H1 x e1 R1 v1=>?_⟩
  cases c with
  | bl k=>cases Dk v1;exact⟨k,rfl,h1 ρ1 H1 e1 R1⟩
  | _=>exact h1.elim
theorem UJ{K:au}{H:Hp}{x:A}{v:V}{b:Bool}(R:Rel K ρ H S)(h:AV K ρ H x v)(e:x.TX S=some b):VE K v H b:=by
 have emp:∀{xs:List A} {vs:List V},AVs K ρ H xs vs->(!xs.isEmpty)=!vs.isEmpty:=λr=>by cases r<;>rfl
 cases h with
 | non=>exact(a_ e).symm
 | bl b=>exact(a_ e).symm
 | int i=>exact(a_ e).symm
 | str x=>
  by_cases hx:x.length<=sizeLine
  ·exact⟨hx,by have:=(aM hx).symm.trans e;exact(a_ this).symm⟩
  ·have:=(aK hx).symm.trans e;cases this
 | tup h r=>exact .inr (.inl ⟨_,nq.of h,by rw[<- emp r];exact(a_ e).symm⟩)
 | frz h r=>exact .inl ⟨_,h.QW,by rw[<- emp r];exact(a_ e).symm⟩
 | rng h=>cases e
 | ty n=>cases e
 | exn n h x=>cases e
 | ktu h r=>cases e
 | @ref a n h=>
  have e:(jE S n).map (λxs=>!xs.isEmpty)=some b:=e;obtain⟨xs,hn,e⟩:=aX.mp e;obtain⟨vs,h1,h2⟩:=R.lst h (jU hn);exact .inl ⟨vs,pW.of h1,by rw[<- emp h2];exact e.symm⟩
theorem vD{ca:Ex}(ha:AE X a ca)(he:∀whole,isTrue a X.env whole=(do let v <- whole;standAt a.pos;holding [v] (truthy v)):=by intro _;rfl):AT X a (AX ca):=
 PT.imp (Lp ha he) λσ H Q ⟨ρ,S,τ,R,r,h⟩=>⟨ρ,S,τ,R,r,jK (jM h) .refl λc S1 h1 ρ1 H1 x e1 R1 v1=>by
  obtain⟨b,hb,h1⟩:=jN h1;exact⟨b,UJ R1 v1 hb,h1 ρ1 H1 e1 R1⟩⟩
noncomputable def US (c:Te):Te:=λτ S=>(c τ S).bind λb S1=>.ok (!b) S1
noncomputable def Rx (c d:Te):Te:=λτ S=>(c τ S).bind λb S1=>match b with|true=>d τ S1|false=>.ok false S1
noncomputable def bOr (c d:Te):Te:=λτ S=>(c τ S).bind λb S1=>match b with|true=>.ok true S1|false=>d τ S1
theorem VA{c:Te}(h:AT X a c):AT X (.UnaryOp .Not a pos) (US c):=PT.imp (V4 h) λσ H Q ⟨ρ,S,τ,R,r,h⟩=>⟨ρ,S,τ,R,r,jK (jM h) .refl λb S1 h1=>h1⟩
theorem and_imp{c d:Te}{H:Hp}{Q:Bool->Hp->Prop}(h:tT X (Rx c d) σ H Q):YD (tT X c) (tT X d) σ H Q:=by
 obtain⟨ρ,S,τ,R,r,h⟩:=h;refine⟨ρ,S,τ,R,r,jK (jM h) .refl λb S1 h1 ρ1 H1 e1 R1=>?_⟩
 cases b with
 | true=>
  rw[aM rfl];exact⟨ρ1,S1,τ,R1,r.ext e1,jK h1 e1 λ_ _ z=>z.ext e1⟩
 | false=>
  rw[aK bI];exact h1 ρ1 H1 e1 R1
variable {rest:List aC}
theorem Rf{c:Te}(h:AT X a c):AW X (.BoolOp .And [a] pos) c:=QY h
theorem VM{c d:Te}(h:AT X a c)(h2:AW X (.BoolOp .And (b::rest) pos) d):AW X (.BoolOp .And (a::b::rest) pos) (Rx c d):=PW.imp (Vs h h2) λ_ _ _ q=>and_imp q
noncomputable def ML (c d:Ex):Ex:=λτ S=>(c τ S).bind λa S1=>match a with | .bl true=>d τ S1 | .bl false=>.ok (.bl false) S1|_=>.no
noncomputable def eOr (c d:Ex):Ex:=λτ S=>(c τ S).bind λa S1=>match a with | .bl true=>.ok (.bl true) S1 | .bl false=>d τ S1|_=>.no
noncomputable def UA (c:Ex):Ex:=λτ S=>(c τ S).bind λa S1=>match a with | .bl b=>.ok (.bl !b) S1|_=>.no
theorem Nq{op}{c:Ex}(h:AE X a c):AE X (.BoolOp op [a] pos) c:=VI h
theorem Nz{c d:Ex}(h:AE X a c)(h2:AE X (.BoolOp .And (b::rest) pos) d):AE X (.BoolOp .And (a::b::rest) pos) (ML c d):=PE.imp (Uw h h2) λσ H Q h9=>by
 obtain⟨ρ,S,τ,R,r,h⟩:=h9;refine⟨ρ,S,τ,R,r,jK (jM h) .refl λb S1 h1 ρ1 H1 x e1 R1 v1=>?_⟩
 cases b with
 | bl k=>
  cases Dk v1
  refine⟨k,rfl,?_⟩
  cases k with
  | true=>
   rw[aM rfl];exact⟨ρ1,S1,τ,R1,r.ext e1,jK h1 e1 λ_ _ z=>z.ext e1⟩
  | false=>
   rw[aK bI];exact h1 ρ1 H1 _ e1 R1 (.bl false)
 | _=>exact h1.elim
theorem WC{c:Ex}(h:AE X a c):AE X (.UnaryOp .Not a pos) (UA c):=PE.imp (U_ h) λσ H Q h9=>by
 obtain⟨ρ,S,τ,R,r,h⟩:=h9;refine⟨ρ,S,τ,R,r,jK (jM h) .refl λb S1 h1 ρ1 H1 x e1 R1 v1=>?_⟩
 cases b with
 | bl k=>
  cases Dk v1
  exact⟨k,rfl,h1 ρ1 H1 _ e1 R1 (.bl _)⟩
 | _=>exact h1.elim
noncomputable def eIf (t:Te)(c d:Ex):Ex:=λτ S=>(t τ S).bind λb S1=>match b with|true=>c τ S1|false=>d τ S1
noncomputable def jF:qL:=λ_ S=>.ok [] S
noncomputable def jA (c:Ex)(d:qL):qL:=λτ S=>(c τ S).bind λa S1=>(d τ S1).bind λas S2=>.ok (a::as) S2
theorem jJ:AL X [] jF:=PA.imp zZ λσ H Q ⟨ρ,S,τ,R,r,h⟩=>h ρ H _ .refl R .nil
theorem jC{e:aC}{c:Ex}{d:qL}(ha:AE X e c)(hr:AL X es d)(hs:starEach (e::es) X.env=(false,eval e X.env)::starEach es X.env:=by rfl):AL X (e::es) (jA c d):=
 PA.imp (uy ha hr hs) λσ H Q h9=>by
  obtain⟨ρ,S,τ,R,r,h⟩:=h9;refine⟨ρ,S,τ,R,r,jK (jM h) .refl λa S1 h1 ρ1 H1 x e1 R1 v1=>⟨ρ1,S1,τ,R1,r.ext e1,jK (jM h1) e1 λas S2 h2 ρ2 H2 xs e2 R2 v2=>?_⟩⟩;exact h2 ρ2 H2 _ (e1.trans e2) R2 (.cons (v1.ext e2) v2)
noncomputable def lV (d:qL):Ex:=λτ S=>(d τ S).bind λas S1=>gd (as.length<=sizeLine) (.ok (.tup as) S1)
noncomputable def newL (as:List A)(S:jG):R A:=gd (as.length<=sizeLine) (.ok (.ref S.length) (S++[.lst as]))
noncomputable def lX (d:qL):Ex:=λτ S=>(d τ S).bind λas S1=>newL as S1
theorem vV{H H0:Hp}{Q:VK}(R:Rel X.K ρ H S)(r:AVs X.K ρ H as vs)(e:Ext ρ0 ρ H0 H)(h:CB X ρ0 H0 Q (.tup as) S):∀p,H p=none->Q (.ref p) (upd H p (.tup vs)):=λp hp=>by
 obtain⟨ex,R'⟩:=R.im (u:=.tup vs) hp;exact h ρ _ _ (e.trans ex) R' (.tup lI (r.ext ex))
theorem o5{H H0:Hp}{S:jG}{Q:VK}(R:Rel X.K ρ H S)(r:AVs X.K ρ H as vs)(e:Ext ρ0 ρ H0 H)(h:CB X ρ0 H0 Q (.ref S.length) (S++[.lst as])):∀p,H p=none->Q (.ref p) (upd H p (.lst vs)):=λp hp=>by
 obtain⟨ex,R',g⟩:=R.lay hp r;exact h _ _ _ (e.trans ex) R' (.ref g)
theorem Qi{H H0:Hp}{vs:List V}{Q:VK}(R:Rel X.K ρ H S)(r:AVs X.K ρ H as vs)(e:Ext ρ0 ρ H0 H)(h:(newL as S).post (CB X ρ0 H0 Q) (XE X ρ0 H0)):vs.length<=sizeLine/\∀p,H p=none->Q (.ref p) (upd H p (.lst vs)):=by
 obtain⟨hl,h⟩:=kh h;exact⟨by rw[<- r.length];exact hl,o5 R r e h⟩
theorem lR{d:qL}{x1}(h:AL X es d):AE X (.Tuple es x1 pos) (lV d):=PE.imp (UZ h) λσ H Q h9=>by
 obtain⟨ρ,S,τ,R,r,h⟩:=h9;refine⟨ρ,S,τ,R,r,jK (jM h) .refl λas S1 h1 ρ1 H1 xs e1 R1 v1=>?_⟩;obtain⟨hl,h1⟩:=kh h1;exact⟨by rw[<- v1.length];exact hl,vV R1 v1 e1 h1⟩
theorem kR{d:qL}(h:AL X es d):AE X (.List es pos) (lX d):=PE.imp (Vq h) λσ H Q ⟨ρ,S,τ,R,r,h⟩=>
 ⟨ρ,S,τ,R,r,jK (jM h) .refl λas S1 h1 ρ1 H1 xs e1 R1 v1=>Qi R1 v1 e1 h1⟩
end
section
variable {X:Cx}{pos:Pos}{a b:aC}
noncomputable def aSub (a b:A)(S:jG):R A:=match a,b with
 | .int i,.int j=>.ok (.int (i-j)) S
 | _,_=>.no
theorem zm:o_ X (binaryOp .Sub) (r2 X aSub):=o_.imp Vy λx y H Q h9=>by
 obtain⟨ρ,S,a,b,R,va,vb,h⟩:=h9
 cases va<;>first|exact h.elim|(cases vb<;>first|exact h.elim|exact⟨_,_,rfl,rfl,h _ _ _ .refl R (.int _)⟩)
noncomputable def Jr (i j:Int):Bool:=(decide (-(2 ^ 64)<i) && decide (i<2 ^ 64)) || (decide (-(2 ^ 64)<j) && decide (j<2 ^ 64))
theorem mulOk_of{i j:Int}(h:Jr i j=true):Sf i j:=by
 unfold Jr at h;simp only[Bool.or_eq_true,Bool.and_eq_true,jb]at h;exact h
noncomputable def BY (a b:A)(S:jG):R A:=match a,b with
 | .int i,.int j=>gd (Jr i j) (.ok (.int (i * j)) S)
 | .ref n,.int k=>opt (jE S n) λxs=>gd (-(2 ^ 63)<=k/\k<2 ^ 63/\xs.length * k.toNat<=sizeLine) (.ok (.ref S.length) (S++[.lst (List.replicate k.toNat xs).flatten]))
 | _,_=>.no
theorem AVs.rep{K:au}{H:Hp}(r:AVs K ρ H xs vs):∀k:Nat,AVs K ρ H (List.replicate k xs).flatten (List.replicate k vs).flatten
 | 0=>.nil
 | k+1=>by rw[dc,dc,dW,dW];exact r.append (AVs.rep r k)
theorem Jd:o_ X (binaryOp .Mult) (r2 X BY):=λpins s σ H x y v u Q I rx ry h9=>by
 obtain⟨ρ,S,a,b,R,va,vb,h⟩:=h9
 cases va with
 | int i=>
  cases vb with
  | int j=>
   obtain⟨hm,h⟩:=kh h;exact Uz pins s σ H _ _ v u Q I rx ry ⟨i,j,rfl,rfl,mulOk_of hm,h _ _ _ .refl R (.int _)⟩
  | _=>exact h.elim
 | @ref p n hp=>
  cases vb with
  | int k=>
   obtain⟨xs,hn,h⟩:=jN h;obtain⟨hc,h⟩:=kh h;obtain⟨vs,h1,h2⟩:=R.lst hp (jU hn);exact UD pins s σ H _ _ v u Q I rx ry ⟨p,k,vs,rfl,rfl,h1,hc.1,hc.2.1,by rw[<- h2.length];exact hc.2.2,o5 R (h2.rep _) .refl h⟩
  | _=>exact h.elim
 | _=>exact h.elim
noncomputable def Hx (a b:A)(S:jG):R A:=match a,b with
 | .int i,.int j=>gd (0<j/\j<18446744073709551616) (.ok (.int (i / j)) S)
 | _,_=>.no
theorem NU:o_ X (binaryOp .FloorDiv) (r2 X Hx):=o_.imp Nm λx y H Q h9=>by
 obtain⟨ρ,S,a,b,R,va,vb,h⟩:=h9
 cases va<;>first|exact h.elim|(cases vb<;>first|exact h.elim|exact⟨_,_,rfl,rfl,(kh h).1,(kh h).2 _ _ _ .refl R (.int _)⟩)
noncomputable def B8 (a b:A)(S:jG):R A:=match a,b with
 | .int i,.int j=>gd (0<j) (.ok (.int (i % j)) S)
 | _,_=>.no
theorem DJ:o_ X (binaryOp .Mod) (r2 X B8):=o_.imp Wl λx y H Q h9=>by
 obtain⟨ρ,S,a,b,R,va,vb,h⟩:=h9
 cases va<;>first|exact h.elim|(cases vb<;>first|exact h.elim|exact⟨_,_,rfl,rfl,(kh h).1,(kh h).2 _ _ _ .refl R (.int _)⟩)
noncomputable def Fy (a b:A)(S:jG):R A:=match a,b with
 | .int i,.int j=>gd (0<=j/\j<=1000000/\i.natAbs<2 ^ 64) (.ok (.int (i ^ j.toNat)) S)
 | _,_=>.no
theorem Us:o_ X (binaryOp .Pow) (r2 X Fy):=o_.imp Wy λx y H Q h9=>by
 obtain⟨ρ,S,a,b,R,va,vb,h⟩:=h9
 cases va<;>first|exact h.elim|(cases vb<;>first|exact h.elim|exact⟨_,_,rfl,rfl,(kh h).1,(kh h).2 _ _ _ .refl R (.int _)⟩)
noncomputable def nu (a b:A)(S:jG):R A:=match a,b with
 | .int i,.int j=>.ok (.int (i+j)) S
 | .tup xs,.tup ys=>gd (xs.length+ys.length<=sizeLine) (.ok (.tup (xs++ys)) S)
 | .str x,.str y=>gd (x.length+y.length<=sizeLine) (.ok (.str (x++y)) S)
 | .ref n,.ref m=>opt (jE S n) λxs=>opt (jE S m) λys=>gd (xs.length+ys.length<=sizeLine) (.ok (.ref S.length) (S++[.lst (xs++ys)]))
 | _,_=>.no
theorem AVs.nil_inv{K:au}{H:Hp}(r:AVs K ρ H xs vs):xs=[] ↔ vs=[]:=by cases r<;>simp
theorem oH:o_ X (binaryOp .Add) (r2 X nu):=λpins s σ H x y v u Q I rx ry h9=>by
 obtain⟨ρ,S,a,b,R,va,vb,h⟩:=h9
 cases va with
 | int i=>
  cases vb with
  | int j=>exact Vm pins s σ H _ _ v u Q I rx ry ⟨i,j,rfl,rfl,h _ _ _ .refl R (.int _)⟩
  | _=>exact h.elim
 | str x=>
  cases vb with
  | str y=>
   obtain⟨hc,h⟩:=kh h;exact Gk pins s σ H _ _ v u Q I rx ry ⟨x,y,rfl,rfl,hc,h _ _ _ .refl R (.str _)⟩
  | _=>exact h.elim
 | @tup p xs vs h1 r1=>
  cases vb with
  | @tup q ys ws h2 r2=>
   obtain⟨hc,h⟩:=kh h;by_cases hv:vs=[]
   ·have hx:=r1.nil_inv.mpr hv;subst hv hx;exact Mi pins s σ H _ _ v u Q I rx ry ⟨p,q,ws,rfl,rfl,nq.of h1,nq.of h2,h _ _ _ .refl R (.tup h2 r2)⟩
   ·refine Q0 pins s σ H _ _ v u Q I rx ry ⟨p,q,vs,ws,rfl,rfl,nq.of h1,nq.of h2,hv,by rw[<- r1.length,<- r2.length];exact hc,λe=>?_,λ_=>vV R (r1.append r2) .refl h⟩;have hy:=r2.nil_inv.mpr e;subst hy;rw[cL]at h;exact h _ _ _ .refl R (.tup h1 r1)
  | _=>exact h.elim
 | @ref p n hp=>
  cases vb with
  | @ref q m hq=>
   obtain⟨xs,hn,h⟩:=jN h;obtain⟨ys,hm,h⟩:=jN h;obtain⟨hc,h⟩:=kh h;obtain⟨vs,h1,h2⟩:=R.lst hp (jU hn);obtain⟨ws,h3,h4⟩:=R.lst hq (jU hm);exact UT pins s σ H _ _ v u Q I rx ry ⟨p,q,vs,ws,rfl,rfl,h1,h3,by rw[<- h2.length,<- h4.length];exact hc,o5 R (h2.append h4) .refl h⟩
  | _=>exact h.elim
 | _=>exact h.elim
noncomputable def A.ints:List A->Option (List Int)
 | []=>some []
 | .int i::xs=>(A.ints xs).map (i::·)
 | _=>none
theorem yP{K:au}{H:Hp}:∀{xs:List A}{vs:List V}{bs:List Int},AVs K ρ H xs vs->A.ints xs=some bs->vs=bs.map V.int
 | _,_,_,.nil,e=>by cases e;rfl
 | _,_,_,.cons (x:=.int b) h t,e=>by
  obtain⟨cs,e1,rfl⟩:=aX.mp e
  cases h
  rw[yP t e1];rfl
 | _,_,_,.cons (x:=.unb) h t,e=>nomatch e
 | _,_,_,.cons (x:=.non) h t,e=>nomatch e
 | _,_,_,.cons (x:=.bl _) h t,e=>nomatch e
 | _,_,_,.cons (x:=.str _) h t,e=>nomatch e
 | _,_,_,.cons (x:=.tup _) h t,e=>nomatch e
 | _,_,_,.cons (x:=.frz _) h t,e=>nomatch e
 | _,_,_,.cons (x:=.rng _ _) h t,e=>nomatch e
 | _,_,_,.cons (x:=.ref _) h t,e=>nomatch e
 | _,_,_,.cons (x:=.exn _) h t,e=>nomatch e
 | _,_,_,.cons (x:=.ty _) h t,e=>nomatch e
noncomputable def XQ (a b:A)(S:jG):R A:=match a,b with
 | .int i,.int j=>.ok (.bl (decide (i<j))) S
 | _,_=>.no
theorem YG(hu:X.A.units+64<cLine):o_ X (compareOp .Lt) (r2 X XQ):=λpins s σ H x y v u Q I rx ry h9=>by
 obtain⟨ρ,S,a,b,R,va,vb,h⟩:=h9
 cases va with
 | int i=>
  cases vb with
  | int j=>exact Y3 pins s σ H _ _ v u Q I rx ry ⟨i,j,rfl,rfl,h _ _ _ .refl R (.bl _)⟩
  | _=>exact h.elim
 | _=>exact h.elim
noncomputable def Zo (a b:A)(S:jG):R A:=match a,b with
 | .int i,.int j=>.ok (.bl (decide (i<=j))) S
 | _,_=>.no
theorem aas:o_ X (compareOp .LtE) (r2 X Zo):=o_.imp XH λx y H Q h9=>by
 obtain⟨ρ,S,a,b,R,va,vb,h⟩:=h9
 cases va<;>first|exact h.elim|(cases vb<;>first|exact h.elim|exact⟨_,_,rfl,rfl,h _ _ _ .refl R (.bl _)⟩)
noncomputable def VG (a b:A)(S:jG):R A:=match a,b with
 | .int i,.int j=>.ok (.bl (decide (j<i))) S
 | _,_=>.no
theorem RI(hu:X.A.units+64<cLine):o_ X (compareOp .Gt) (r2 X VG):=λpins s σ H x y v u Q I rx ry h9=>by
 obtain⟨ρ,S,a,b,R,va,vb,h⟩:=h9
 cases va with
 | int i=>
  cases vb with
  | int j=>exact XT pins s σ H _ _ v u Q I rx ry ⟨i,j,rfl,rfl,h _ _ _ .refl R (.bl _)⟩
  | _=>exact h.elim
 | _=>exact h.elim
noncomputable def XF (a b:A)(S:jG):R A:=match a,b with
 | .int i,.int j=>.ok (.bl (decide (j<=i))) S
 | _,_=>.no
theorem Xq:o_ X (compareOp .GtE) (r2 X XF):=o_.imp Xo λx y H Q h9=>by
 obtain⟨ρ,S,a,b,R,va,vb,h⟩:=h9
 cases va<;>first|exact h.elim|(cases vb<;>first|exact h.elim|exact⟨_,_,rfl,rfl,h _ _ _ .refl R (.bl _)⟩)
noncomputable def SX (neg:Bool)(a b:A)(S:jG):R A:=match a,b with
 | .bl i,.bl j=>.ok (.bl (if neg then i != j else i == j)) S
 | .non,.non=>.ok (.bl (!neg)) S
 | .unb,.non=>.no
 | .exn _,.non=>.no
 | _,.non=>.ok (.bl neg) S
 | _,_=>.no
noncomputable def Kg (f:A->jG->R A)(c:Ex):Ex:=λτ S=>(c τ S).bind λa S1=>f a S1
noncomputable def xR (a:A)(S:jG):R A:=match a with
 | .int i=>.ok (.int (-i)) S
 | _=>.no
theorem Xa:Zu X (unaryOp .USub) (r1 X xR):=λpins s σ H x v Q I rx h9=>by
 obtain⟨ρ,S,a,R,va,h⟩:=h9
 cases va with
 | int i=>exact WR pins s σ H _ v Q I rx ⟨i,rfl,h _ _ _ .refl R (.int _)⟩
 | _=>exact h.elim
theorem UX{f:A->jG->R A}{c:Ex}{H:Hp}{Q:VK}(h:tE X (Kg f c) σ H Q):tUn (r1 X f) (tE X c) σ H Q:=by
 obtain⟨ρ,S,τ,R,r,h⟩:=h;exact⟨ρ,S,τ,R,r,jK (jM h) .refl λa S1 h1 ρ1 H1 x e1 R1 v1=>⟨ρ1,S1,a,R1,v1,jK h1 e1 λc S3 h3=>h3.ext e1⟩⟩
theorem wU{c:Ex}(h:AE X a c):AE X (.UnaryOp .USub a pos) (Kg xR c):=PE.imp (Yc Xa h) λ_ _ _ q=>UX q
noncomputable def sL (a b:A)(S:jG):R A:=match a,b with
 | .tup xs,.int i=>opt (sd xs i) λx=>.ok x S
 | .frz xs,.int i=>opt (sd xs i) λx=>.ok x S
 | .ref n,.int i=>opt (jE S n) λxs=>opt (sd xs i) λx=>.ok x S
 | .str z,.int i=>gd (z.length<=sizeLine) (opt (sd z.cps.toList i) λc=>.ok (.str ⟨#[c]⟩) S)
 | _,_=>.no
theorem AVs.sd{K:au}{H:Hp}{i:Int}{x:A}(r:AVs K ρ H xs vs)(h:L2.sd xs i=some x):∃v,L2.sd vs i=some v/\AV K ρ H x v:=by
 unfold L2.sd at h ⊢;rw[<- r.length]
 cases hj:A2 xs.length i with
 | none=>rw[hj]at h;cases h
 | some j=>
  rw[hj]at h;exact r.get h
theorem Xb:Uq X (r2 X sL):=λvalue slice pins s σ H x y v u Q I rx ry ⟨ρ,S,a,b,R,va,vb,h⟩ hs=>by
 cases va with
 | @tup p xs vs h1 r1=>
  cases vb with
  | int i=>
   obtain⟨x,hx,h⟩:=jN h;obtain⟨z,e,q⟩:=r1.sd hx;exact U9 value slice pins s σ H _ _ v u Q I rx ry ⟨p,vs,i,z,rfl,rfl,nq.of h1,e,h _ _ _ .refl R q⟩ hs
  | _=>exact h.elim
 | @frz p xs vs h1 r1=>
  cases vb with
  | int i=>
   obtain⟨x,hx,h⟩:=jN h;obtain⟨z,e,q⟩:=r1.sd hx;exact G8 value slice pins s σ H _ _ v u Q I rx ry ⟨p,vs,i,z,rfl,rfl,h1.QW,e,h _ _ _ .refl R q⟩ hs
  | _=>exact h.elim
 | @ref p n hp=>
  cases vb with
  | int i=>
   obtain⟨xs,hn,h⟩:=jN h;obtain⟨x,hx,h⟩:=jN h;obtain⟨vs,h1,r1⟩:=R.lst hp (jU hn);obtain⟨z,e,q⟩:=r1.sd hx;exact G8 value slice pins s σ H _ _ v u Q I rx ry ⟨p,vs,i,z,rfl,rfl,pW.of h1,e,h _ _ _ .refl R q⟩ hs
  | _=>exact h.elim
 | str z=>
  cases vb with
  | int i=>
   obtain⟨hz,h⟩:=kh h;obtain⟨c,hc,h⟩:=jN h;exact VY value slice pins s σ H _ _ v u Q I rx ry ⟨z,i,c,rfl,rfl,hz,hc,h _ _ _ .refl R (.str _)⟩ hs
  | _=>exact h.elim
 | _=>exact h.elim
theorem mC{ca cb:Ex}(ha:AE X a ca)(hb:AE X b cb)(hs:yw b:=by exact λ_ _=>rfl):AE X (.Subscript a b pos) (jO sL ca cb):=PE.imp (Ph Xb ha hb hs) λσ H Q h=>uq h
end
noncomputable def qe (f:A->A->Option Bool):List A->List A->Option Bool
 | [],[]=>some true
 | x::xs,y::ys=>(f x y).bind λp=>(qe f xs ys).map λq=>p && q
 | _,_=>some false
inductive Sh
 | non
 | bl (b:Bool)
 | int (i:Int)
 | str (x:Str)
 | tup (xs:List A)
 | lst
noncomputable def Ws (S:jG):A->Option Sh
 | .non=>some .non
 | .bl b=>some (.bl b)
 | .int i=>some (.int i)
 | .str x=>some (.str x)
 | .tup xs=>some (.tup xs)
 | .ref i=>(jE S i).map λ_=>.lst
 | _=>none
noncomputable def Q4 (f:A->A->Option Bool):Sh->Sh->Option Bool
 | .non,.non=>some true
 | .bl x,.bl y=>some (x == y)
 | .bl x,.int y=>some ((if x then 1 else 0) == y)
 | .int x,.bl y=>some (x == (if y then 1 else 0))
 | .int x,.int y=>some (x == y)
 | .str x,.str y=>some (x == y)
 | .tup xs,.tup ys=>qe f xs ys
 | .lst,.lst=>none
 | _,_=>some false
noncomputable def qU (S:jG):Nat->A->A->Option Bool
 | 0,_,_=>none
 | n+1,a,b=>match a,b with
  | .ref i,.ref j=>(jE S i).bind λxs=>(jE S j).bind λys=>qe (qU S n) xs ys
  | _,_=>(Ws S a).bind λx=>(Ws S b).bind λy=>Q4 (qU S n) x y
section
variable {X:Cx}{pins:List (ak×Obj)}{σ:L2.St}{H:Hp}{s:aA}{ρ:List ak}{S:jG}
inductive KdV (s:aA):Sh->af->Prop
 | non:KdV s .non .none
 | bl (b:Bool):KdV s (.bl b) (.bool b)
 | int (i:Int) (t:Tok):KdV s (.int i) (.int i t)
 | str (x:Str) (t:Tok):KdV s (.str x) (.str x t)
 | tup {p:ak} {us:List af} (xs:List A) (h:s.heap.IsTuple p us.toArray):KdV s (.tup xs) (.ref p)
 | lst {p:ak} {us:List af} (h:s.heap.IsList p us.toArray):KdV s .lst (.ref p)
theorem Ij{p:ak}(h:s.heap.IsTuple p us)(h':s.heap.IsList p ws):False:=by
 obtain⟨o,e,c,_⟩:=h;obtain⟨o',e',c',_⟩:=h';rw[e]at e'
 cases e'
 exact absurd (c.symm.trans c') (by decide)
theorem Ie(I:Inv X pins σ H s)(R:Rel X.K ρ H S){a:A}{x:V}(ha:AV X.K ρ H a x)(r:RelV x u)(e:Ws S a=some h):KdV s h u:=by
 cases ha with
 | non=>cases e;cases(show u=Value.none from r);exact .non
 | bl b=>cases e;cases(show u=Value.bool b from r);exact .bl b
 | int i=>cases e;obtain⟨t,rfl⟩:∃t,u=Value.int i t:=r;exact .int i t
 | str i=>cases e;obtain⟨t,rfl⟩:∃t,u=Value.str i t:=r;exact .str i t
 | tup h1 r1=>cases e;cases(show u=Value.ref _ from r);obtain⟨us,_,p,_⟩:=I.tuple (nq.of h1);exact .tup _ p
 | ref h1=>
  obtain⟨xs,e1,rfl⟩:=aX.mp e
  cases(show u=Value.ref _ from r)
  obtain⟨vs,h3,r1⟩:=R.lst h1 (jU e1);obtain⟨us,_,p,_⟩:=I.list (pW.of h3);exact .lst p.isList
 | _=>cases e
noncomputable def Al (B:az)(s:aA)(u v:af)(k:Bool):Prop:=SeqAt.RcAt B s u v k/\SeqAt.EqAt B s u v k/\SeqAt.RcNeAt B s u v (!k)
theorem XC{B:az}(hu:B.units<cLine){f:A->A->Option Bool}{v:af}{k:Bool}(d:KdV s h u)(d':KdV s h' v)(nt:∀xs ys,h=.tup xs->h'≠.tup ys)(e:Q4 f h h'=some k):Al B s u v k:=by
 cases d with
 | non=>cases d' with
  | non=>cases e;exact⟨.none_none,.same _,.none_none⟩
  | bl b=>cases e;exact⟨.none_bool _,.none_bool _,.none_bool _⟩
  | int i t=>cases e;exact⟨.none_int _ _,.none_int _ _,.none_int _ _⟩
  | str x t=>cases e;exact⟨.none_str _ _,.none_str _ _,.none_str _ _⟩
  | tup xs p=>cases e;exact⟨.none_tuple p hu,.none_tuple p hu,.none_tuple p hu⟩
  | lst p=>cases e;exact⟨.none_list p hu,.none_list p hu,.none_list p hu⟩
 | bl c=>cases d' with
  | non=>cases e;exact⟨.bool_none _,.bool_none _,.bool_none _⟩
  | bl b=>cases e;exact⟨.bool_bool _ _,.bool_bool _ _,.bool_bool _ _⟩
  | int i t=>cases e;exact⟨.bool_int _ _ _,.bool_int _ _ _,.bool_int _ _ _⟩
  | str x t=>cases e;exact⟨.bool_str _ _ _,.bool_str _ _ _,.bool_str _ _ _⟩
  | tup xs p=>cases e;exact⟨.bool_tuple _ p hu,.bool_tuple _ p hu,.bool_tuple _ p hu⟩
  | lst p=>cases e;exact⟨.bool_list _ p hu,.bool_list _ p hu,.bool_list _ p hu⟩
 | int c t'=>cases d' with
  | non=>cases e;exact⟨.int_none _ _,.int_none _ _,.int_none _ _⟩
  | bl b=>cases e;exact⟨.int_bool _ _ _,.int_bool _ _ _,.int_bool _ _ _⟩
  | int i t=>cases e;exact⟨.int_int _ _ _ _,.int_int _ _ _ _,.int_int _ _ _ _⟩
  | str x t=>cases e;exact⟨.int_str _ _ _ _,.int_str _ _ _ _,.int_str _ _ _ _⟩
  | tup xs p=>cases e;exact⟨.int_tuple _ _ p hu,.int_tuple _ _ p hu,.int_tuple _ _ p hu⟩
  | lst p=>cases e;exact⟨.int_list _ _ p hu,.int_list _ _ p hu,.int_list _ _ p hu⟩
 | str c t'=>cases d' with
  | non=>cases e;exact⟨.str_none _ _,.str_none _ _,.str_none _ _⟩
  | bl b=>cases e;exact⟨.str_bool _ _ _,.str_bool _ _ _,.str_bool _ _ _⟩
  | int i t=>cases e;exact⟨.str_int _ _ _ _,.str_int _ _ _ _,.str_int _ _ _ _⟩
  | str x t=>cases e;exact⟨.str_str _ _ _ _,.str_str _ _ _ _,.str_str _ _ _ _⟩
  | tup xs p=>cases e;exact⟨.str_tuple _ _ p hu,.str_tuple _ _ p hu,.str_tuple _ _ p hu⟩
  | lst p=>cases e;exact⟨.str_list _ _ p hu,.str_list _ _ p hu,.str_list _ _ p hu⟩
 | tup zs p'=>cases d' with
  | non=>cases e;exact⟨.tuple_none p' hu,.tuple_none p' hu,.tuple_none p' hu⟩
  | bl b=>cases e;exact⟨.tuple_bool _ p' hu,.tuple_bool _ p' hu,.tuple_bool _ p' hu⟩
  | int i t=>cases e;exact⟨.tuple_int _ _ p' hu,.tuple_int _ _ p' hu,.tuple_int _ _ p' hu⟩
  | str x t=>cases e;exact⟨.tuple_str _ _ p' hu,.tuple_str _ _ p' hu,.tuple_str _ _ p' hu⟩
  | tup xs p=>exact absurd rfl (nt _ _ rfl)
  | lst p=>cases e;exact⟨.tuple_list p' p hu,.of_refs (λz=>by subst z;exact Ij p' p) (.tuple_list p' p hu),.tuple_list p' p hu⟩
 | lst p'=>cases d' with
  | non=>cases e;exact⟨.list_none p' hu,.list_none p' hu,.list_none p' hu⟩
  | bl b=>cases e;exact⟨.list_bool _ p' hu,.list_bool _ p' hu,.list_bool _ p' hu⟩
  | int i t=>cases e;exact⟨.list_int _ _ p' hu,.list_int _ _ p' hu,.list_int _ _ p' hu⟩
  | str x t=>cases e;exact⟨.list_str _ _ p' hu,.list_str _ _ p' hu,.list_str _ _ p' hu⟩
  | tup xs p=>cases e;exact⟨.list_tuple p' p hu,.of_refs (λz=>by subst z;exact Ij p p') (.list_tuple p' p hu),.list_tuple p' p hu⟩
  | lst p=>cases e
theorem Cu{a:A}{x:V}(h:AV X.K ρ H a x)(e:Ws S a=some (.tup xs)):a=.tup xs/\∃p vs,x=.ref p/\H p=some (.tup vs)/\AVs X.K ρ H xs vs:=by
 cases h with
 | tup h r=>cases e;exact⟨rfl,_,_,rfl,h,r⟩
 | ref h=>obtain⟨_,_,z⟩:=aX.mp e;cases z
 | _=>cases e
theorem BJ{i:Nat}{x:V}(h:AV X.K ρ H (.ref i) x):∃p,x=.ref p/\ρ[i]?=some p:=by
 cases h with
 | ref h=>exact⟨_,rfl,h⟩
theorem MD{a:A}(e:Ws S a=some .lst):∃i,a=.ref i:=by
 cases a with
 | ref i=>exact⟨i,rfl⟩
 | _=>cases e
theorem LK{n:Nat}{a:A}{k:Bool}(e:qU S (n+1) a b=some k):(∃i j xs ys,a=.ref i/\b=.ref j/\jE S i=some xs/\jE S j=some ys/\qe (qU S n) xs ys=some k)\/(∃h h',Ws S a=some h/\Ws S b=some h'/\Q4 (qU S n) h h'=some k/\(h=.lst->h'≠.lst)):=by
 unfold qU at e;split at e
 ·obtain⟨xs,e1,e⟩:=cC.mp e;obtain⟨ys,e2,e⟩:=cC.mp e;exact .inl ⟨_,_,xs,ys,rfl,rfl,e1,e2,e⟩
 ·rename_i nr;obtain⟨h,e1,e⟩:=cC.mp e;obtain⟨h',e2,e⟩:=cC.mp e;refine .inr ⟨h,h',e1,e2,e,λz1 z2=>?_⟩;subst z1 z2;obtain⟨i,rfl⟩:=MD e1;obtain⟨j,rfl⟩:=MD e2;exact nr i j rfl rfl
theorem Ro{f:A->A->Option Bool}{k:Bool}(d:KdV s h u)(d':KdV s h' u)(nt:∀xs ys,h=.tup xs->h'≠.tup ys)(e:Q4 f h h'=some k):k=true:=by
 cases d with
 | non=>cases d';exact(a_ e).symm
 | bl b=>cases d';exact(a_ e).symm.trans (bO b)
 | int b=>cases d';exact(a_ e).symm.trans (bO b)
 | str b=>cases d';exact(a_ e).symm.trans (bO b)
 | tup xs p=>cases d' with
  | tup=>exact absurd rfl (nt _ _ rfl)
  | lst q=>exact(Ij p q).elim
 | lst p=>cases d' with
  | tup _ q=>exact(Ij q p).elim
  | lst q=>cases e
theorem Dz{f:A->A->Option Bool}(hf:∀a b x u k,AV X.K ρ H a x->AV X.K ρ H b x->RelV x u->f a b=some k->k=true):∀{xs ys:List A}{vs:List V}{us:List af}{k:Bool},AVs X.K ρ H xs vs->AVs X.K ρ H ys vs->Vals vs us->qe f xs ys=some k->k=true:=by
 intro xs ys vs us k h1 h2 q e
 induction q generalizing xs ys k with
 | nil=>cases h1;cases h2;exact(a_ e).symm
 | cons rv _ ih=>
  cases h1 with
  | cons h t=>cases h2 with
   | cons h' t'=>
    obtain⟨p,e1,e⟩:=cC.mp e;obtain⟨q,e2,e3⟩:=aX.mp e;rw[<- e3,hf _ _ _ _ p h h' rv e1,ih t t' e2];rfl
theorem GV(h h':Sh):(∃xs ys,h=.tup xs/\h'=.tup ys)\/(∀xs ys,h=.tup xs->h'≠.tup ys):=by
 cases h with
 | tup xs=>cases h' with
  | tup ys=>exact .inl ⟨xs,ys,rfl,rfl⟩
  | _=>exact .inr λ_ _ _ z=>nomatch z
 | _=>exact .inr λ_ _ z=>nomatch z
theorem CA(I:Inv X pins σ H s)(R:Rel X.K ρ H S):∀(n:Nat) (a b:A) (x:V) (u:af) (k:Bool),AV X.K ρ H a x->AV X.K ρ H b x->RelV x u->qU S n a b=some k->k=true
 | 0,_,_,_,_,_,_,_,_,e=>nomatch e
 | n+1,a,b,x,u,k,ha,hb,ru,e=>by
  rcases LK e with⟨i,j,xs,ys,rfl,rfl,e1,e2,e⟩|⟨h,h',e1,e2,e,_⟩
  ·obtain⟨p,rfl,h1⟩:=BJ ha;obtain⟨q,z,h2⟩:=BJ hb
   cases z
   obtain⟨vs,h3,r1⟩:=R.lst h1 (jU e1);obtain⟨ws,h4,r2⟩:=R.lst h2 (jU e2);rw[h3]at h4
   cases h4
   obtain⟨us,q,_⟩:=I.list (pW.of h3);exact Dz (λa b x u k=>CA I R n a b x u k) r1 r2 q e
  ·rcases GV h h' with⟨xs,ys,rfl,rfl⟩|nt
   ·obtain⟨rfl,p,vs,rfl,h3,r1⟩:=Cu ha e1;obtain⟨rfl,q,ws,z,h4,r2⟩:=Cu hb e2
    cases z
    have:=I.xT (nq.of h3) (nq.of h4);subst this;obtain⟨us,q,_⟩:=I.tuple (nq.of h3);exact Dz (λa b x u k=>CA I R n a b x u k) r1 r2 q e
   ·exact Ro (Ie I R ha ru e1) (Ie I R hb ru e2) nt e
noncomputable def AU (f:A->A->Option Bool)(xs ys:List A)(j:Nat):Bool:=match xs[j]?,ys[j]? with
 | some x,some y=>(f x y).getD true
 | _,_=>true
theorem yI{f:A->A->Option Bool}:∀{xs ys:List A}{k:Bool},qe f xs ys=some k->k=((List.range (min xs.length ys.length)).all (AU f xs ys) && xs.length == ys.length)/\∀j x y,xs[j]?=some x->ys[j]?=some y->f x y=some (AU f xs ys j)
 | [],[],k,e=>⟨(a_ e).symm,λj x y h=>by simp at h⟩
 | [],_::_,k,e=>⟨(a_ e).symm,λj x y h=>by simp at h⟩
 | _::_,[],k,e=>⟨(a_ e).symm,λj x y _ h=>by simp at h⟩
 | x::xs,y::ys,k,e=>by
  unfold qe at e
  cases e1:f x y with
  | none=>rw[e1]at e;cases e
  | some p=>
   rw[e1]at e;obtain⟨q,e2,e3⟩:=aX.mp e;obtain⟨h1,h2⟩:=yI e2;have p0:AU f (x::xs) (y::ys) 0=p:=by simp[AU,e1]
   have ps:∀j,AU f (x::xs) (y::ys) (j+1)=AU f xs ys j:=λj=>by simp[AU]
   refine⟨?_,λj a b ha hb=>?_⟩
   ·rw[<- e3,h1,aZ,aZ,Nat.succ_min_succ,gS,all_cons,gT,p0];have:(AU f (x::xs) (y::ys) ∘ Nat.succ)=AU f xs ys:=funext ps;rw[this,Bool.and_assoc];simp
   ·cases j with
    | zero=>
     simp at ha hb;subst ha hb;rw[p0];exact e1
    | succ j=>rw[ps];exact h2 j a b (by simpa using ha) (by simpa using hb)
theorem yK{f:A->A->Option Bool}{B:az}(hf:∀a b x y u v k,AV X.K ρ H a x->AV X.K ρ H b y->RelV x u->RelV y v->f a b=some k->SeqAt.EqAt B s u v k){us ts:List af}{k:Bool}
  (r1:AVs X.K ρ H xs vs) (r2:AVs X.K ρ H ys ws) (q1:Vals vs us) (q2:Vals ws ts) (e:qe f xs ys=some k):∀j (h1:j<us.toArray.size) (h2:j<ts.toArray.size),SeqAt.EqAt B s us.toArray[j] ts.toArray[j] (AU f xs ys j):=by
 intro j h1 h2;have l1:=r1.length;have l2:=r2.length;have l3:=q1.length;have l4:=q2.length;have hx:j<xs.length:=by simp at h1;lia
 have hy:j<ys.length:=by simp at h2;lia
 have e1:xs[j]?=some xs[j]:=aF hx;have e2:ys[j]?=some ys[j]:=aF hy;obtain⟨x,ex,ax⟩:=r1.get e1;obtain⟨y,ey,ay⟩:=r2.get e2;obtain⟨u,eu,ru⟩:=q1.get ex;obtain⟨t,et,rt⟩:=q2.get ey;have a1:us.toArray[j]=u:=by
  have:us[j]?=some us.toArray[j]:=by simp at h1;simp[h1]
  rw[eu]at this;exact(a_ this).symm
 have a2:ts.toArray[j]=t:=by
  have:ts[j]?=some ts.toArray[j]:=by simp at h2;simp[h2]
  rw[et]at this;exact(a_ this).symm
 rw[a1,a2];exact hf _ _ x y u t _ ax ay ru rt ((yI e).2 j _ _ e1 e2)
theorem in1_units(B:az):B.in1.units=B.units+1:=rfl
theorem Ju(I:Inv X pins σ H s)(R:Rel X.K ρ H S):∀(n:Nat) (B:az) (a b:A) (x y:V) (u v:af) (k:Bool),B.units+n<cLine->AV X.K ρ H a x->AV X.K ρ H b y->RelV x u->RelV y v->qU S n a b=some k->Al B s u v k
 | 0,_,_,_,_,_,_,_,_,_,_,_,_,_,e=>nomatch e
 | n+1,B,a,b,x,y,u,v,k,hu,ha,hb,rx,ry,e=>by
  have hu0:B.units<cLine:=by lia
  have items:∀a b x y u v k,AV X.K ρ H a x->AV X.K ρ H b y->RelV x u->RelV y v->qU S n a b=some k->SeqAt.EqAt B.in1 s u v k:=λa b x y u v k h1 h2 h3 h4 h5=>(Ju I R n B.in1 a b x y u v k (by rw[in1_units];lia) h1 h2 h3 h4 h5).2.1;have same:=λ(z:y=x)=>CA I R (n+1) a b x u k ha (z ▸ hb) rx e;have refs:∀{p q:ak},x=.ref p->y=.ref q->u=.ref p->v=.ref q->SeqAt.RcAt B s u v k->SeqAt.EqAt B s u v k:=λ{p q} z1 z2 z3 z4 h=>by
   subst z3 z4;by_cases hp:p=q
   ·subst hp;rw[same (z2.trans z1.symm)];exact .same _
   ·exact .of_refs hp h
  rcases LK e with⟨i,j,xs,ys,rfl,rfl,e1,e2,e⟩|⟨h,h',e1,e2,e,_⟩
  ·obtain⟨p,rfl,h1⟩:=BJ ha;obtain⟨q,rfl,h2⟩:=BJ hb;obtain⟨vs,h3,r1⟩:=R.lst h1 (jU e1);obtain⟨ws,h4,r2⟩:=R.lst h2 (jU e2);obtain⟨us,q1,p1,_⟩:=I.list (pW.of h3);obtain⟨ts,q2,p2,_⟩:=I.list (pW.of h4);have ru:=refs rfl rfl rx ry
   cases(show u=Value.ref p from rx)
   cases(show v=Value.ref q from ry)
   have l1:=r1.length;have l2:=r2.length;have l3:=q1.length;have l4:=q2.length;have ek:=(yI e).1;by_cases hl:xs.length=ys.length
   ·rw[<- hl,Nat.min_self,bO,Bool.and_true]at ek;have eh:us.toArray.size=ts.toArray.size:=by simp;lia
    have z1:=SeqAt.RcAt.lists p1.isList p2.isList eh hu0 (yK items r1 r2 q1 q2 e);have z2:=SeqAt.RcNeAt.lists p1.isList p2.isList eh hu0 (yK items r1 r2 q1 q2 e);rw[bg,<- l3,<- l1,<- ek]at z1 z2;exact⟨z1,ru z1,z2⟩
   ·have:(xs.length == ys.length)=false:=by simpa using hl
    rw[this,jv]at ek;subst ek;have eh:(us.toArray.size != ts.toArray.size)=true:=by simp;lia
    have z1:=SeqAt.RcAt.lists_lengths p1.isList p2.isList eh hu0;exact⟨z1,ru z1,SeqAt.RcNeAt.lists_lengths p1.isList p2.isList eh hu0⟩
  ·rcases GV h h' with⟨xs,ys,rfl,rfl⟩|nt
   ·obtain⟨rfl,p,vs,rfl,h3,r1⟩:=Cu ha e1;obtain⟨rfl,q,ws,rfl,h4,r2⟩:=Cu hb e2;have ru:=refs rfl rfl rx ry
    cases(show u=Value.ref p from rx)
    cases(show v=Value.ref q from ry)
    obtain⟨us,q1,p1,_⟩:=I.tuple (nq.of h3);obtain⟨ts,q2,p2,_⟩:=I.tuple (nq.of h4);have ek:=(yI e).1;have z1:=SeqAt.RcAt.tuples p1 p2 hu0 (yK items r1 r2 q1 q2 e);have z2:=SeqAt.RcNeAt.tuples p1 p2 hu0 (yK items r1 r2 q1 q2 e);rw[bg,bg,<- q1.length,<- q2.length,<- r1.length,<- r2.length,<- ek]at z1 z2;exact⟨z1,ru z1,z2⟩
   ·exact XC hu0 (Ie I R ha rx e1) (Ie I R hb ry e2) nt e
end
section
variable {X:Cx}
noncomputable def sM (neg:Bool)(a b:A)(S:jG):R A:=opt (qU S 12 a b) λk=>.ok (.bl (if neg then !k else k)) S
theorem LD(hu:X.A.units+64<cLine):o_ X (compareOp .Eq) (r2 X (sM false)):=λpins s σ H x y v u Q I rx ry h9=>by
 obtain⟨ρ,S,a,b,R,va,vb,h⟩:=h9;obtain⟨k,e,h⟩:=jN h;exact(Ju I R 12 X.A a b x y v u k (by lia) va vb rx ry e).1 _ _ _ _ ⟨.bl _,H,I,rfl,h _ _ _ .refl R (.bl _)⟩
theorem Kx(hu:X.A.units+64<cLine):o_ X (compareOp .NotEq) (r2 X (sM true)):=λpins s σ H x y v u Q I rx ry h9=>by
 obtain⟨ρ,S,a,b,R,va,vb,h⟩:=h9;obtain⟨k,e,h⟩:=jN h;exact(Ju I R 12 X.A a b x y v u k (by lia) va vb rx ry e).2.2 _ _ _ _ ⟨.bl _,H,I,rfl,h _ _ _ .refl R (.bl _)⟩
end
section
variable {X:Cx}{pos:Pos}{a b:aC}
noncomputable abbrev Pt:=List A->jG->R (Option Int)
noncomputable def Xl:Pt:=λ_ S=>.ok none S
noncomputable def YC (c:Ex):Pt:=λτ S=>(c τ S).bind λa S1=>match a with
 | .int i=>.ok (some i) S1
 | _=>.no
noncomputable def tO (X:Cx)(c:Pt):TO:=λσ H Q=>∃ρ S τ,Rel X.K ρ H S/\SR X.K ρ H τ σ/\(c τ S).post (λo S'=>∀ρ' H',Ext ρ ρ' H H'->Rel X.K ρ' H' S'->Q o H') (XE X ρ H)
noncomputable def RB (xs:List A)(lo hi:Option Int):List A:=(xs.drop (HT.X4 xs.length 0 lo)).take (HT.X4 xs.length xs.length hi-HT.X4 xs.length 0 lo)
noncomputable def Zv (a:A)(lo hi:Option Int)(S:jG):R A:=match a with
 | .ref n=>opt (jE S n) λxs=>.ok (.ref S.length) (S++[.lst (RB xs lo hi)])
 | .frz xs=>.ok (.ref S.length) (S++[.lst (RB xs lo hi)])
 | .tup xs=>gd (¬(HT.X4 xs.length 0 lo=0/\HT.X4 xs.length xs.length hi=xs.length)) (.ok (.tup (RB xs lo hi)) S)
 | _=>.no
noncomputable def eSl (c:Ex)(lo hi:Pt):Ex:=λτ S=>(c τ S).bind λa S1=>(lo τ S1).bind λl S2=>(hi τ S2).bind λu S3=>Zv a l u S3
noncomputable def YH (a:A)(S:jG):R A:=match a with
 | .ref n=>opt (jE S n) λxs=>.ok (.ref S.length) (S++[.lst xs.reverse])
 | .tup xs=>.ok (.tup xs.reverse) S
 | _=>.no
noncomputable def j8 (f:List A->jG->R A)(d:qL):Ex:=λτ S=>(d τ S).bind λas S1=>f as S1
theorem Dp{f:List A->jG->R A}{d:qL}{H:Hp}{Q:VK}(h:tE X (j8 f d) σ H Q):tCB (rN X f) (tL X d) σ H Q:=by
 obtain⟨ρ,S,τ,R,r,h⟩:=h;exact⟨ρ,S,τ,R,r,jK (jM h) .refl λas S1 h1 ρ1 H1 vs e1 R1 v1=>⟨ρ1,S1,as,R1,v1,jK h1 e1 λ_ _ z=>z.ext e1⟩⟩
variable {x:Str}{p:Pos}{e:aC}{es:List aC}{id T:String}{f:List A->jG->R A}{d:qL}
theorem kG(hc:kH X (.builtin id) (rN X f))(hm:X.mg x=none)(hv:bootBuiltins x=some (.builtin id))(ha:AL X (e::es) d)(hg:Gl X x:=by rfl)(hn:x ≠ "__name__" := by decide)(hdb:(x == ("__debug__" : Str))=false:=by decide)
  (he:starEach (e::es) X.env=(false,eval e X.env)::starEach es X.env:=by rfl) (hpl:(backTo pos (starEach es X.env)).any (·.1)=false:=by rfl):AE X (.Call (.Name x p) (e::es) [] pos) (j8 f d):=
 PE.imp (Ma hc hg hm hv ha hn hdb he hpl) λ_ _ _ h=>Dp h
theorem kQ(hc:kH X (.type T) (rN X f))(hm:X.mg x=none)(hv:bootBuiltins x=some (.type T))(ha:AL X (e::es) d)(hg:Gl X x:=by rfl)(hn:x ≠ "__name__" := by decide)(hdb:(x == ("__debug__" : Str))=false:=by decide)
  (he:starEach (e::es) X.env=(false,eval e X.env)::starEach es X.env:=by rfl) (hpl:(backTo pos (starEach es X.env)).any (·.1)=false:=by rfl):AE X (.Call (.Name x p) (e::es) [] pos) (j8 f d):=
 PE.imp (KO hc hg hm hv ha hn hdb he hpl) λ_ _ _ h=>Dp h
theorem SD(hm:X.mg x=none)(hv:bootBuiltins x=some (.type T))(hg:Gl X x:=by rfl)(hn:x ≠ "__name__" := by decide)(hdb:(x == ("__debug__" : Str))=false:=by decide):AE X (.Name x pos) (eC (.ty T)):=
 PE.imp (QC (v:=.ty T) hg hm hv rfl hn hdb) λσ H Q ⟨ρ,S,τ,R,r,h⟩=>h ρ H _ .refl R (.ty T)
noncomputable def A.seq (S:jG):A->Option (List A)
 | .tup xs=>some xs
 | .frz xs=>some xs
 | .ref n=>jE S n
 | _=>none
theorem VV{K:au}{H:Hp}{x:A}{v:V}(R:Rel K ρ H S)(h:AV K ρ H x v)(e:x.seq S=some xs):∃p vs,v=.ref p/\(pW K H p vs\/nq K H p vs)/\AVs K ρ H xs vs:=by
 cases h with
 | tup h r=>cases a_ e;exact⟨_,_,rfl,.inr (nq.of h),r⟩
 | frz h r=>cases a_ e;exact⟨_,_,rfl,.inl h.QW,r⟩
 | ref h=>
  obtain⟨vs,h1,r1⟩:=R.lst h (jU e);exact⟨_,vs,rfl,.inl (pW.of h1),r1⟩
 | _=>cases e
theorem Q_{K:au}{H:Hp}{x:A}(h:AVs K ρ H [x] vs):∃v,vs=[v]/\AV K ρ H x v:=by
 cases h with
 | cons h t=>cases t;exact⟨_,rfl,h⟩
theorem WN{K:au}{H:Hp}{x:A}(h:AVs K ρ H [x,y] vs):∃v w,vs=[v,w]/\AV K ρ H x v/\AV K ρ H y w:=by
 cases h with
 | cons h t=>obtain⟨w,rfl,h'⟩:=Q_ t;exact⟨_,_,rfl,h,h'⟩
noncomputable def f1 (g:A->jG->R A):List A->jG->R A:=λas S=>match as with
 | [x]=>g x S
 | _=>.no
noncomputable def f2 (g:A->A->jG->R A):List A->jG->R A:=λas S=>match as with
 | [x,y]=>g x y S
 | _=>.no
theorem QZ{g:A->jG->R A}{P:A->jG->Prop}{E:Str->jG->Prop}(h:(f1 g as S).post P E):∃x,as=[x]/\(g x S).post P E:=by
 match as,h with
 | [],h=>exact h.elim
 | [x],h=>exact⟨x,rfl,h⟩
 | _::_::_,h=>exact h.elim
theorem QX{g:A->A->jG->R A}{P:A->jG->Prop}{E:Str->jG->Prop}(h:(f2 g as S).post P E):∃x y,as=[x,y]/\(g x y S).post P E:=by
 match as,h with
 | [],h=>exact h.elim
 | [_],h=>exact h.elim
 | [x,y],h=>exact⟨x,y,rfl,h⟩
 | _::_::_::_,h=>exact h.elim
theorem Tj{g:A->jG->R A}{H:Hp}{Q:VK}(h:rN X (f1 g) vs H Q):∃v,vs=[v]/\∃ρ S x,Rel X.K ρ H S/\AV X.K ρ H x v/\(g x S).post (CB X ρ H Q) (XE X ρ H):=by
 obtain⟨ρ,S,as,R,v,h⟩:=h;obtain⟨x,rfl,h⟩:=QZ h;obtain⟨w,rfl,hv⟩:=Q_ v;exact⟨w,rfl,ρ,S,x,R,hv,h⟩
theorem Zp{g:A->A->jG->R A}{H:Hp}{Q:VK}(h:rN X (f2 g) vs H Q):∃v w,vs=[v,w]/\∃ρ S x y,Rel X.K ρ H S/\AV X.K ρ H x v/\AV X.K ρ H y w/\(g x y S).post (CB X ρ H Q) (XE X ρ H):=by
 obtain⟨ρ,S,as,R,v,h⟩:=h;obtain⟨x,y,rfl,h⟩:=QX h;obtain⟨w,w',rfl,hv,hv'⟩:=WN v;exact⟨w,w',rfl,ρ,S,x,y,R,hv,hv',h⟩
noncomputable def tN (x:A)(S:jG):R A:=match x with
 | .str x=>gd (x.length<=sizeLine) (.ok (.int x.length) S)
 | .tup xs=>.ok (.int xs.length) S
 | .frz xs=>.ok (.int xs.length) S
 | .ref n=>opt (jE S n) λxs=>.ok (.int xs.length) S
 | _=>.no
theorem sI:kH X (.builtin "len") (rN X (f1 tN)):=kH.imp N_ λvs H Q h0=>by
 obtain⟨w,rfl,ρ,S,x,R,hv,h⟩:=Tj h0;clear h0
 cases hv with
 | str z=>
  obtain⟨hz,h⟩:=kh h;exact⟨_,_,rfl,⟨hz,rfl⟩,h _ _ _ .refl R (.int _)⟩
 | @tup p xs us h1 r=>exact⟨_,us.length,rfl,.inr ⟨us,(nq.of h1),rfl⟩,by rw[<- r.length];exact h _ _ _ .refl R (.int _)⟩
 | @frz p xs us h1 r=>exact⟨_,us.length,rfl,.inl ⟨us,h1.QW,rfl⟩,by rw[<- r.length];exact h _ _ _ .refl R (.int _)⟩
 | ref hp=>
  obtain⟨xs,hn,h⟩:=jN h;obtain⟨us,h1,r⟩:=R.lst hp (jU hn);exact⟨_,us.length,rfl,.inl ⟨us,pW.of h1,rfl⟩,by rw[<- r.length];exact h _ _ _ .refl R (.int _)⟩
 | _=>exact h.elim
noncomputable def aaD (x:A)(S:jG):R A:=match x with
 | .int i=>.ok (.int (if i<0 then -i else i)) S
 | _=>.no
noncomputable def M7 (x y:A)(S:jG):R A:=match x,y with
 | .int i,.int j=>.ok (.int (if j>i then j else i)) S
 | _,_=>.no
theorem Uu(hc:X.calm=true):kH X (.builtin "max") (rN X (f2 M7)):=kH.imp (KG hc) λvs H Q h0=>by
 obtain⟨w,w',rfl,ρ,S,x,y,R,hv,hv',h⟩:=Zp h0;clear h0
 cases hv<;>first|exact h.elim|(cases hv'<;>first|exact h.elim|exact⟨_,_,rfl,h _ _ _ .refl R (.int _)⟩)
noncomputable def NO (x y:A)(S:jG):R A:=match x,y with
 | .int i,.int j=>.ok (.int (if j<i then j else i)) S
 | _,_=>.no
theorem UR(hc:X.calm=true):kH X (.builtin "min") (rN X (f2 NO)):=kH.imp (KN hc) λvs H Q h0=>by
 obtain⟨w,w',rfl,ρ,S,x,y,R,hv,hv',h⟩:=Zp h0;clear h0
 cases hv<;>first|exact h.elim|(cases hv'<;>first|exact h.elim|exact⟨_,_,rfl,h _ _ _ .refl R (.int _)⟩)
noncomputable def zF (x:A)(S:jG):R A:=match x with
 | .int i=>.ok (.int i) S
 | .bl k=>.ok (.int (if k then 1 else 0)) S
 | .str y=>opt (PySem.intText? y) λn=>gd (y.length<=640) (.ok (.int n) S)
 | _=>.no
theorem FA:kH X (.type "int") (rN X (f1 zF)):=λpins s σ H xs us Q I rv h0=>by
 obtain⟨w,rfl,ρ,S,x,R,hv,h⟩:=Tj h0;clear h0
 cases hv with
 | int i=>exact Bj pins s σ H _ us Q I rv (.inl ⟨i,rfl,h _ _ _ .refl R (.int _)⟩)
 | bl k=>exact Bj pins s σ H _ us Q I rv (.inr ⟨k,rfl,h _ _ _ .refl R (.int _)⟩)
 | str y=>
  obtain⟨n,hn,h⟩:=jN h;obtain⟨hl,h⟩:=kh h;exact J6 pins s σ H _ us Q I rv ⟨y,n,rfl,hl,hn,h _ _ _ .refl R (.int _)⟩
 | _=>exact h.elim
noncomputable def r8 (x y:A)(S:jG):R A:=match x,y with
 | .int i,.int j=>.ok (.rng i j) S
 | _,_=>.no
theorem zC:kH X (.type "range") (rN X (f2 r8)):=kH.imp C2 λvs H Q h0=>by
 obtain⟨w,w',rfl,ρ,S,x,y,R,hv,hv',h⟩:=Zp h0;clear h0
 cases hv with
 | int i=>
  cases hv' with
  | int j=>
   refine⟨i,j,rfl,λp hp=>?_⟩;obtain⟨ex,R'⟩:=R.im (u:=.rng i j) hp;exact h ρ _ _ ex R' (.rng lI)
  | _=>exact h.elim
 | _=>exact h.elim
noncomputable def Af (i j:Int):Prop:=(-(2 ^ 62)<=i/\i<2 ^ 62/\-(2 ^ 62)<=j/\j<2 ^ 62)/\(j-i).toNat<=1000
instance (i j:Int):Decidable (Af i j):=by unfold Af;infer_instance
noncomputable def tM (x:A)(S:jG):R A:=match x with
 | .rng i j=>gd (Af i j) (.ok (.ref S.length) (S++[.lst ((kP i j).map .int)]))
 | .tup xs=>.ok (.ref S.length) (S++[.lst xs])
 | .frz xs=>.ok (.ref S.length) (S++[.lst xs])
 | .ref n=>opt (jE S n) λxs=>.ok (.ref S.length) (S++[.lst xs])
 | _=>.no
theorem zg(hc:X.calm=true):kH X (.type "list") (rN X (f1 tM)):=λpins s σ H vs us Q I rx h0=>by
 obtain⟨w,rfl,ρ,S,x,R,hv,h⟩:=Tj h0;clear h0
 cases hv with
 | @rng p i j hp=>
  obtain⟨hc',h⟩:=kh h;exact AD hc pins s σ H _ us Q I rx ⟨p,i,j,rfl,hp,hc'.1,hc'.2,o5 R (rC _) .refl h⟩
 | @tup p xs vs h1 r=>exact r9 pins s σ H _ us Q I rx ⟨p,vs,rfl,.inr (nq.of h1),o5 R r .refl h⟩
 | @frz p xs vs h1 r=>exact r9 pins s σ H _ us Q I rx ⟨p,vs,rfl,.inl h1.QW,o5 R r .refl h⟩
 | @ref p n hp=>
  obtain⟨xs,hn,h⟩:=jN h;obtain⟨vs,h1,r⟩:=R.lst hp (jU hn);exact r9 pins s σ H _ us Q I rx ⟨p,vs,rfl,.inl (pW.of h1),o5 R r .refl h⟩
 | _=>exact h.elim
noncomputable def oO (x:A)(S:jG):R A:=match x with
 | .rng i j=>gd (Af i j) (.ok (.tup ((kP i j).map .int)) S)
 | .tup xs=>.ok (.tup xs) S
 | .frz xs=>.ok (.tup xs) S
 | .ref n=>opt (jE S n) λxs=>.ok (.tup xs) S
 | _=>.no
theorem vL(hc:X.calm=true):kH X (.type "tuple") (rN X (f1 oO)):=λpins s σ H vs us Q I rx h0=>by
 obtain⟨w,rfl,ρ,S,x,R,hv,h⟩:=Tj h0;clear h0
 cases hv with
 | @rng p i j hp=>
  obtain⟨hc',h⟩:=kh h;exact zH hc pins s σ H _ us Q I rx ⟨p,i,j,rfl,hp,hc'.1,hc'.2,vV R (rC _) .refl h⟩
 | @tup p xs vs h1 r=>exact qT pins s σ H _ us Q I rx ⟨p,vs,rfl,.inr ⟨(nq.of h1),h _ _ _ .refl R (.tup h1 r)⟩⟩
 | @frz p xs vs h1 r=>exact qT pins s σ H _ us Q I rx ⟨p,vs,rfl,.inl ⟨h1.QW,vV R r .refl h⟩⟩
 | @ref p n hp=>
  obtain⟨xs,hn,h⟩:=jN h;obtain⟨vs,h1,r⟩:=R.lst hp (jU hn);exact qT pins s σ H _ us Q I rx ⟨p,vs,rfl,.inl ⟨pW.of h1,vV R r .refl h⟩⟩
 | _=>exact h.elim
noncomputable def A.Zx:List A->Option (List Bool)
 | []=>some []
 | .bl b::xs=>(A.Zx xs).map (b::·)
 | _=>none
noncomputable def insI (x:Int):List Int->List Int
 | []=>[x]
 | y::ys=>if x<=y then x::y::ys else y::insI x ys
noncomputable def sortI:List Int->List Int
 | []=>[]
 | x::xs=>insI x (sortI xs)
theorem insI_perm(x:Int):∀ys:List Int,(insI x ys).Perm (x::ys)
 | []=>eS _
 | y::ys=>by
  unfold insI;by_cases h:x<=y
  ·rw[aM h]
  ·rw[aK h];exact((insI_perm x ys).cons y).trans (List.Perm.swap x y ys)
theorem sortI_perm:∀xs:List Int,(sortI xs).Perm xs
 | []=>eS _
 | x::xs=>(insI_perm x (sortI xs)).trans ((sortI_perm xs).cons x)
theorem HK(x:Int):∀ys:List Int,ys.Pairwise (·<=·)->(insI x ys).Pairwise (·<=·)
 | [],_=>bZ _ _
 | y::ys,h=>by
  unfold insI;obtain⟨h1,h2⟩:=bN.mp h;by_cases hx:x<=y
  ·rw[aM hx];exact bN.mpr ⟨λz hz=>(bC.mp hz).elim (λe=>e ▸ hx) λhz=>Int.le_trans hx (h1 z hz),h⟩
  ·rw[aK hx];refine bN.mpr ⟨λz hz=>?_,HK x ys h2⟩
   rcases bC.mp ((insI_perm x ys).mem_iff.mp hz)with e|hz
   ·subst e;lia
   ·exact h1 z hz
theorem Aj:∀xs:List Int,(sortI xs).Pairwise (·<=·)
 | []=>List.Pairwise.nil
 | x::xs=>HK x _ (Aj xs)
noncomputable def A.kd:A->jG->Option Kd
 | .non,_=>some .non
 | .bl _,_=>some .bl
 | .int _,_=>some .int
 | .str _,_=>some .str
 | .tup _,_=>some .tup
 | .ref n,S=>(jE S n).map λ_=>.lst
 | _,_=>none
theorem QD{K:au}(k:Kd):PySem.W.kitOne K k.ty (.type "str")=some (decide (k=.str)):=by cases k<;>rfl
noncomputable def KU (k:Kd)(c:String):Option Bool:=if c = "int" then some (decide (k=.int\/k=.bl))else if c = "bool" then some (decide (k=.bl))else if c = "tuple" then some (decide (k=.tup))else if c = "list" then some (decide (k=.lst))else if c = "str" then some (decide (k=.str))else none
theorem IF{K:au}{k:Kd}{c:String}{b:Bool}(h:KU k c=some b):PySem.W.kitOne K k.ty (.type c)=some b:=by
 unfold KU at h;split at h
 ·rename_i e;subst e;rw[<- h];exact Qp k
 ·split at h
  ·rename_i e;subst e;rw[<- h];exact Pc k
  ·split at h
   ·rename_i e;subst e;rw[<- h];exact kit_tuple k
   ·split at h
    ·rename_i e;subst e;rw[<- h];exact NQ k
    ·split at h
     ·rename_i e;subst e;rw[<- h];exact QD k
     ·cases h
noncomputable def Q3 (x y:A)(S:jG):R A:=match y with
 | .ty c=>opt (x.kd S) λk=>opt (KU k c) λb=>.ok (.bl b) S
 | _=>.no
theorem YF{K:au}{H:Hp}{x:A}{v:V}{k:Kd}(R:Rel K ρ H S)(h:AV K ρ H x v)(e:x.kd S=some k):(∃p vs,v=.ref p/\nq K H p vs/\k=.tup)\/Wn H v k:=by
 cases h with
 | non=>cases e;exact .inr rfl
 | bl b=>cases e;exact .inr ⟨b,rfl⟩
 | int i=>cases e;exact .inr ⟨i,rfl⟩
 | str i=>cases e;exact .inr ⟨i,rfl⟩
 | tup h r=>cases e;exact .inl ⟨_,_,rfl,(nq.of h),rfl⟩
 | ref h=>
  obtain⟨xs,e1,e2⟩:=aX.mp e;obtain⟨vs,h1,_⟩:=R.lst h (jU e1)
  cases e2
  exact .inr ⟨_,vs,rfl,h1⟩
 | _=>cases e
theorem SV:kH X (.builtin "isinstance") (rN X (f2 Q3)):=λpins s σ H vs us Q I rx h0=>by
 obtain⟨w,w',rfl,ρ,S,x,y,R,hv,hv',h⟩:=Zp h0;clear h0
 cases hv' with
 | ty c=>
  obtain⟨k,hk,h⟩:=jN h;obtain⟨b,hb,hq⟩:=jN h;have hq:CB X ρ H Q (.bl b) S:=hq;clear h
  rcases YF R hv hk with⟨p,vs,rfl,ht,rfl⟩|hd
  ·obtain⟨u1,u2,rfl,r1,r2⟩:=vals2 rx;obtain⟨its,q,⟨o,h1,h2,_⟩,_⟩:=I.tuple ht
   cases(show _=Value.ref p from r1)
   cases(show _=Value.type c from r2)
   exact cT PySem.W.kitx_tuple I.Di ⟨o,h1,h2⟩ (IF hb) (λz=>nomatch z) λtk=>⟨.bl b,H,I.tok _,rfl,hq _ _ _ .refl R (.bl _)⟩
  ·exact Ej (c:=c) pins s σ H _ us Q I rx ⟨w,_,b,rfl,hd.ZM,IF hb,hq _ _ _ .refl R (.bl _)⟩
 | _=>exact h.elim
end
noncomputable def C4 (x:List Int):List (List Int)->List (List Int)
 | []=>[x]
 | y::ys=>if HT.lexLt y x=true then y::C4 x ys else x::y::ys
noncomputable def mL:List (List Int)->List (List Int)
 | []=>[]
 | x::xs=>C4 x (mL xs)
noncomputable def Cs (a b:List Int):Prop:=HT.lexLt b a=false
theorem Cs.trans{a c:List Int}(h1:Cs a b)(h2:Cs b c):Cs a c:=by
 unfold Cs at *
 cases e:HT.lexLt c a with
 | false=>rfl
 | true=>
  rcases Sx.JB (b:=b) e with z|z
  ·rw[h2]at z;cases z
  ·rw[h1]at z;cases z
theorem xK(x:List Int):∀ys:List (List Int),(C4 x ys).Perm (x::ys)
 | []=>eS _
 | y::ys=>by
  unfold C4;by_cases h:HT.lexLt y x=true
  ·rw[aM h];exact((xK x ys).cons y).trans (List.Perm.swap x y ys)
  ·rw[aK h]
theorem j6:∀xs:List (List Int),(mL xs).Perm xs
 | []=>eS _
 | x::xs=>(xK x (mL xs)).trans ((j6 xs).cons x)
theorem IU(x:List Int):∀ys:List (List Int),ys.Pairwise Cs->(C4 x ys).Pairwise Cs
 | [],_=>bZ _ _
 | y::ys,h=>by
  unfold C4;obtain⟨h1,h2⟩:=bN.mp h;by_cases hx:HT.lexLt y x=true
  ·rw[aM hx];refine bN.mpr ⟨λz hz=>?_,IU x ys h2⟩
   rcases bC.mp ((xK x ys).mem_iff.mp hz)with e|hz
   ·subst e;unfold Cs
    cases e:HT.lexLt z y with
    | false=>rfl
    | true=>have:=Sx.BK hx e;rw[Sx.yC]at this;cases this
   ·exact h1 z hz
  ·rw[aK hx];have hx':Cs x y:=by unfold Cs;simpa using hx
   exact bN.mpr ⟨λz hz=>(bC.mp hz).elim (λe=>e ▸ hx') λhz=>hx'.trans (h1 z hz),h⟩
theorem rK:∀xs:List (List Int),(mL xs).Pairwise Cs
 | []=>List.Pairwise.nil
 | x::xs=>IU x _ (rK xs)
theorem F3{xs:List (List Int)}(p:xs.Perm ys)(h:xs.Pairwise Cs):xs=mL ys:=
 dN (λa b _ _ h1 h2=>(Sx.wG h1 h2).symm) h (rK ys) (p.trans (j6 ys).symm)
theorem pig:∀(N:Nat) (l:List Nat),l.Nodup->(∀x∈l,x<N)->l.length<=N
 | 0,l,_,h=>by
  cases l with
  | nil=>exact aQ _
  | cons a l=>exact absurd (h a (aI ..)) (eY _)
 | N+1,l,nd,h=>by
  have h1:=pig N (l.erase N) (nd.erase N) λx hx=>by
   have:=h x (List.mem_of_mem_erase hx);have:x≠N:=λz=>by
    subst z;exact(List.Nodup.not_mem_erase nd) hx
   lia
  have:=List.le_length_erase (l:=l) (a:=N);lia
theorem sD{N:Nat}{g:Nat->Nat}(h:∀i,i<N->g i<N)(inj:∀i j,i<j->j<N->g i≠g j):((List.range N).map g).Perm (List.range N):=by
 have nd:((List.range N).map g).Nodup:=by
  unfold List.Nodup;rw[c9];intro i j hi hj hij;rw[aH,cA]at hi hj;rw[c8,c8,eT,eT];exact inj i j hij hj
 have lt:∀x∈(List.range N).map g,x<N:=λx hx=>by
  obtain⟨i,hi,rfl⟩:=bz.mp hx;exact h i (cO.mp hi)
 refine(i8 nd List.nodup_range).mpr λa=>⟨λha=>cO.mpr (lt a ha),λha=>?_⟩;refine Classical.byContradiction λhn=>?_;have:=pig N (a::(List.range N).map g) (cM.mpr ⟨hn,nd⟩) λx hx=>by
  rcases bC.mp hx with rfl|hx
  ·exact cO.mp ha
  ·exact lt x hx
 rw[aZ,aH,cA]at this;lia
theorem range_getD{α:Type}(l:List α)(d:α):(List.range l.length).map (λi=>l.getD i d)=l:=by
 apply c5;intro i;rw[aR];by_cases c:i<l.length
 ·rw[ef c];show some (l.getD i d)=_;rw[aJ,aF c];rfl
 ·rw[bW (by rw[cA];lia),bW (by lia)];rfl
theorem Mw{kss:List (List Int)}{g:Nat->Nat}(c:Sx.Cl g 0 kss.length)(so:Sx.So (Sx.AJ kss) g 0 kss.length):(List.range kss.length).map (λi=>kss.getD (g i) [])=mL kss:=by
 refine F3 ?_ ?_
 ·have p:=sD (N:=kss.length) (g:=g) (λi hi=>(c i (bM _) hi).2) λi j hij hj z=>by
   have:=so i j (bM _) hij hj;rw[z]at this;exact this.K6
  have:=p.map λi=>kss.getD i [];rw[bu,range_getD]at this;exact this
 ·rw[c9];intro i j hi hj hij;rw[aH,cA]at hi hj;rw[c8,c8,eT,eT];exact(so i j (bM _) hij hj).ge
theorem BP{K:au}{H:Hp}{α:Type}{f:α->A}{h:α->V}:∀{l:List α},(∀a∈l,AV K ρ H (f a) (h a))->AVs K ρ H (l.map f) (l.map h)
 | [],_=>.nil
 | a::l,e=>.cons (e a (aI ..)) (BP λb hb=>e b (aL _ hb))
noncomputable def RS.post (r:RS)(N:List A->jG->Prop)(T:A->jG->Prop)(B C:List A->jG->Prop)(E:Str->jG->Prop):Prop:=match r with
 | .nx τ S=>N τ S
 | .rt a S=>T a S
 | .bk τ S=>B τ S
 | .ct τ S=>C τ S
 | .ex c S=>E c S
 | .no=>False
noncomputable def RS.of {α:Type}(r:R α)(f:α->jG->RS):RS:=match r with
 | .ok a S=>f a S
 | .ex c S=>.ex c S
 | .no=>.no
theorem of_post{α:Type}{r:R α}{f:α->jG->RS}{N B C:List A->jG->Prop}{T:A->jG->Prop}{E:Str->jG->Prop}(h:(RS.of r f).post N T B C E):r.post (λa S=>(f a S).post N T B C E) E:=by
 cases r<;>exact h
theorem RS.mono{r:RS}{N B C N' B' C':List A->jG->Prop}{T T':A->jG->Prop}{E E':Str->jG->Prop}(h:r.post N T B C E)(hn:∀τ S,N τ S->N' τ S)(ht:∀a S,T a S->T' a S)(hb:∀τ S,B τ S->B' τ S)(hc:∀τ S,C τ S->C' τ S)(he:∀c S,E c S->E' c S):r.post N' T' B' C' E':=by
 cases r with
 | nx τ S=>exact hn _ _ h
 | rt a S=>exact ht _ _ h
 | bk τ S=>exact hb _ _ h
 | ct τ S=>exact hc _ _ h
 | ex c S=>exact he _ _ h
 | no=>exact h.elim
noncomputable def M6 (X:Cx)(ρ:List ak)(H:Hp)(N:L2.St->Hp->Prop):List A->jG->Prop:=λτ' S'=>∀ρ' H' σ',Ext ρ ρ' H H'->Rel X.K ρ' H' S'->SR X.K ρ' H' τ' σ'->N σ' H'
theorem M6.ext{X:Cx}{H H':Hp}{N:L2.St->Hp->Prop}(h:M6 X ρ H N τ S)(e:Ext ρ ρ' H H'):M6 X ρ' H' N τ S:=λρ2 H2 σ2 e2=>h ρ2 H2 σ2 (e.trans e2)
noncomputable def BQ (X:Cx)(ρ:List ak)(H:Hp)(D:Ends)(r:RS):Prop:=r.post (M6 X ρ H D.nx) (CB X ρ H D.rt) (M6 X ρ H D.bk) (M6 X ρ H D.ct) (XE X ρ H)
theorem BQ.ext{X:Cx}{H H':Hp}{D:Ends}{r:RS}(h:BQ X ρ H D r)(e:Ext ρ ρ' H H'):BQ X ρ' H' D r:=RS.mono h (λ_ _ z=>z.ext e) (λ_ _ z=>z.ext e) (λ_ _ z=>z.ext e) (λ_ _ z=>z.ext e) λ_ _ z=>z.ext e
noncomputable def tS (X:Cx)(c:Sm):TS:=λD σ H=>∃ρ S τ,Rel X.K ρ H S/\SR X.K ρ H τ σ/\BQ X ρ H D (c τ S)
noncomputable def AS (X:Cx)(st:aE)(c:Sm):Prop:=PS X st (tS X c)
noncomputable def Qj (X:Cx)(sts:List aE)(c:Sm):Prop:=Co X sts (tS X c)
noncomputable def tG (X:Cx)(g:Tg):TG:=λv σ H Q=>∃ρ S τ a,Rel X.K ρ H S/\SR X.K ρ H τ σ/\AV X.K ρ H a v/\(g a τ S).post (M6 X ρ H Q) (XE X ρ H)
noncomputable def AG (X:Cx)(e:aC)(g:Tg):Prop:=PG X e (tG X g)
noncomputable abbrev PF:=List A->List A->jG->R (List A)
noncomputable def tGs (X:Cx)(g:PF):TU:=λvs σ H Q=>∃ρ S τ as,Rel X.K ρ H S/\SR X.K ρ H τ σ/\AVs X.K ρ H as vs/\(g as τ S).post (M6 X ρ H Q) (XE X ρ H)
noncomputable def Zf (X:Cx)(es:List aC)(g:PF):Prop:=X0 X es (tGs X g)
section
variable {X:Cx}{pos:Pos}{a b e:aC}{st:aE}{rest:List aE}{c d:Sm}
theorem PS.imp{t t':TS}(h:PS X st t)(i:∀D σ H,t' D σ H->t D σ H):PS X st t':=λpins s σ H D I q=>h pins s σ H D I (i D σ H q)
theorem Co.imp{t t':TS}(h:Co X rest t)(i:∀D σ H,t' D σ H->t D σ H):Co X rest t':=λpins s σ H D I q=>h pins s σ H D I (i D σ H q)
theorem PG.imp{t t':TG}(h:PG X e t)(i:∀v σ H Q,t' v σ H Q->t v σ H Q):PG X e t':=λpins s σ H v u Q I r q=>h pins s σ H v u Q I r (i _ _ _ _ q)
noncomputable def kI (i:Nat):Tg:=λa τ S=>.ok (τ.set i a) S
theorem jX{i:Nat}{x:Str}(hN:X.N.Nodup)(hi:X.N[i]?=some x:=by rfl)(hx:Loc X.env.scope x:=by first|exact Or.inl rfl|exact Or.inr rfl)(hf:X.fn x=true\/X.env.scope.names.lookup x=some .local:=by first|exact .inl rfl|exact .inr rfl|assumption):AG X (.Name x pos) (kI i):=
 PG.imp (Rl hN hi hx hf) λv σ H Q ⟨ρ,S,τ,a,R,r,va,h⟩=>h ρ H _ .refl R (r.set va)
noncomputable def wF:PF:=λas τ S=>match as with
 | []=>.ok τ S
 | _=>.no
noncomputable def oG (g:Tg)(gs:PF):PF:=λas τ S=>match as with
 | a::as=>(g a τ S).bind λτ1 S1=>gs as τ1 S1
 | []=>.no
theorem lH:Zf X [] wF:=λpins s σ H vs us Q I r ⟨ρ,S,τ,as,R,sr,va,h⟩=>Sa pins s σ H vs us Q I r (by
 cases va with
 | nil=>exact⟨rfl,h ρ H σ .refl R sr⟩
 | cons _ _=>exact h.elim)
theorem jV{g:Tg}{gs:PF}(h1:AG X e g)(h2:Zf X es gs)(hs:(assignEach (e::es) X.env).map (·.2)=assign e X.env::(assignEach es X.env).map (·.2):=by rfl):Zf X (e::es) (oG g gs):=
 λpins s σ H vs us Q I r ⟨ρ,S,τ,as,R,sr,va,h⟩=>LP h1 h2 hs pins s σ H vs us Q I r (by
  cases va with
  | nil=>exact h.elim
  | cons ha hr=>exact⟨_,_,rfl,ρ,S,τ,_,R,sr,ha,jK (jM h) .refl λτ1 S1 h1 ρ1 H1 σ1 e1 R1 sr1=>⟨ρ1,S1,τ1,_,R1,sr1,hr.ext e1,jK h1 e1 λ_ _ z=>z.ext e1⟩⟩)
noncomputable def wK (n:Nat)(gs:PF):Tg:=λa τ S=>match a with
 | .tup xs | .ktu xs=>gd (xs.length=n) (gs xs τ S)
 | _=>.no
theorem m7{k n:Nat}{gs:PF}(hc:X.calm=true)(h:Zf X es gs)(hn:(assignEach es X.env).length=n:=by rfl)(hst:(assignEach es X.env).findIdx? (·.1)=none:=by rfl):AG X (.Tuple es k pos) (wK n gs):=
 PG.imp (Vj hc h hn hst) λv σ H Q h9=>by
  obtain⟨ρ,S,τ,a,R,r,va,h⟩:=h9
  cases va with
  | tup h1 r1=>
   obtain⟨hl,h⟩:=kh h;exact⟨_,_,rfl,nq.of h1,by rw[<- r1.length];exact hl,ρ,S,τ,_,R,r,r1,h⟩
  | ktu h1 r1=>
   obtain⟨hl,h⟩:=kh h;exact⟨_,_,rfl,.inr h1,by rw[<- r1.length];exact hl,ρ,S,τ,_,R,r,r1,h⟩
  | _=>exact h.elim
noncomputable def EO (o i v:A)(S:jG):R Unit:=match o,i with
 | .ref n,.int k=>opt (jE S n) λxs=>opt (A2 xs.length k) λj=>.ok () (S.set n (.lst (xs.set j v)))
 | _,_=>.no
noncomputable def rSt (X:Cx):JT:=λo i v H Q=>∃ρ S ao ai av,Rel X.K ρ H S/\AV X.K ρ H ao o/\AV X.K ρ H ai i/\AV X.K ρ H av v/\(EO ao ai av S).post (λ_ S'=>∀ρ' H',Ext ρ ρ' H H'->Rel X.K ρ' H' S'->Q H') (XE X ρ H)
theorem RJ:JE X (rSt X):=λpins s σ H o i v ov iv u Q I ro ri rv h9=>by
 obtain⟨ρ,S,ao,ai,av,R,h1,h2,h3,h⟩:=h9
 cases h1 with
 | @ref p n hp=>
  cases h2 with
  | int k=>
   obtain⟨xs,hn,h⟩:=jN h;obtain⟨j,hj,h⟩:=jN h;obtain⟨vs,e,r⟩:=R.lst hp (jU hn);obtain⟨ex,R'⟩:=R.put hp (jU hn) (r.set h3 j);exact set_list pins s σ H _ _ v ov iv u Q I ro ri rv ⟨p,vs,k,j,rfl,rfl,e,by rw[<- r.length];exact hj,h _ _ ex R'⟩
  | _=>exact h.elim
 | _=>exact h.elim
noncomputable def Wa (co ci:Ex):Tg:=λa τ S=>(co τ S).bind λo S1=>(ci τ S1).bind λi S2=>(EO o i a S2).bind λ_ S3=>.ok τ S3
theorem zB{co ci:Ex}(ho:AE X o co)(hi:AE X i ci)
  (ha:∀v,assign (.Subscript o i pos) X.env v=(do
   let ov <- holding [v] (eval o X.env)
   let iv <- holding [v,ov] (eval i X.env)
   standAt pos
   holding [v,ov,iv] (setItem ov iv v)
   release [v,ov,iv] []):=by intro _;rfl):AG X (.Subscript o i pos) (Wa co ci):=PG.imp (F4 ho hi RJ ha) λv σ H Q h9=>by
 obtain⟨ρ,S,τ,a,R,r,va,h⟩:=h9;refine⟨ρ,S,τ,R,r,jK (jM h) .refl λo S1 h1 ρ1 H1 x e1 R1 v1=>⟨ρ1,S1,τ,R1,r.ext e1,jK (jM h1) e1 λi S2 h2 ρ2 H2 y e2 R2 v2=>?_⟩⟩;refine⟨ρ2,S2,o,i,a,R2,v1.ext e2,v2,va.ext (e1.trans e2),jK (jM h2) (e1.trans e2) λ_ S3 h3 ρ3 H3 e3 R3=>?_⟩;exact h3 ρ3 H3 σ ((e1.trans e2).trans e3) R3 (r.ext ((e1.trans e2).trans e3))
noncomputable def oQ:Sm:=λτ S=>.nx τ S
noncomputable def jZ (c d:Sm):Sm:=λτ S=>match c τ S with
 | .nx τ' S'=>d τ' S'
 | r=>r
theorem lK:Qj X [] oQ:=Co.imp Ru λD σ H ⟨ρ,S,τ,R,r,h⟩=>h ρ H σ .refl R r
theorem P_{D:Ends}{H:Hp}(h:tS X (jZ c d) D σ H):X7 (tS X c) (tS X d) D σ H:=by
 obtain⟨ρ,S,τ,R,r,h⟩:=h;refine⟨ρ,S,τ,R,r,?_⟩;unfold jZ at h
 cases hc:c τ S with
 | nx τ1 S1=>
  rw[hc]at h;exact λρ1 H1 σ1 e1 R1 r1=>⟨ρ1,S1,τ1,R1,r1,BQ.ext h e1⟩
 | rt a S1=>rw[hc]at h;exact h
 | bk τ1 S1=>rw[hc]at h;exact h
 | ct τ1 S1=>rw[hc]at h;exact h
 | ex x S1=>rw[hc]at h;exact h
 | no=>rw[hc]at h;exact h
theorem jI(h1:AS X st c)(h2:Qj X rest d):Qj X (st::rest) (jZ c d):=Co.imp (M4 h1 h2) λD σ H h=>P_ h
theorem jL(h1:AS X st c):Qj X [st] c:=RU h1
noncomputable def UM:Sm:=λτ S=>.bk τ S
noncomputable def YY:Sm:=λτ S=>.ct τ S
noncomputable def pF (e:Ex):Sm:=λτ S=>.of (e τ S) λ_ S1=>.nx τ S1
theorem nI{f:Ex}(he:AE X e f)(hs:swapsWith e none pos.line X.env=pure false:=by rfl):AS X (.Expr e pos) (pF f):=PS.imp (Rp he hs) λD σ H ⟨ρ,S,τ,R,r,h⟩=>
 ⟨ρ,S,τ,R,r,jK (of_post h) .refl λa S1 h1 ρ1 H1 x e1 R1 v1=>h1 ρ1 H1 σ e1 R1 (r.ext e1)⟩
noncomputable def lA (e:Ex):Sm:=λτ S=>.of (e τ S) λa S1=>.rt a S1
theorem kj{f:Ex}(he:AE X e f):AS X (.Return (some e) pos) (lA f):=PS.imp (WK he) λD σ H ⟨ρ,S,τ,R,r,h⟩=>⟨ρ,S,τ,R,r,jK (of_post h) .refl λa S1 h1=>h1⟩
noncomputable def YO:Sm:=λτ S=>.rt .non S
noncomputable def wJ (t:Te)(c d:Sm):Sm:=λτ S=>.of (t τ S) λb S1=>match b with|true=>c τ S1|false=>d τ S1
theorem oz{t:Te}(ht:AT X e t)(ha:Qj X ca c)(hb:Qj X cb d):AS X (.If e ca cb pos) (wJ t c d):=PS.imp (XJ ht ha hb) λD σ H h9=>by
 obtain⟨ρ,S,τ,R,r,h⟩:=h9;refine⟨ρ,S,τ,R,r,jK (of_post h) .refl λb S1 h1 ρ1 H1 e1 R1=>?_⟩
 cases b with
 | true=>rw[aM rfl];exact⟨ρ1,S1,τ,R1,r.ext e1,BQ.ext h1 e1⟩
 | false=>rw[aK bI];exact⟨ρ1,S1,τ,R1,r.ext e1,BQ.ext h1 e1⟩
noncomputable def ku (e:Ex)(g:Tg):Sm:=λτ S=>.of (e τ S) λa S1=>.of (g a τ S1) λτ' S2=>.nx τ' S2
theorem P0{f:Ex}{g:Tg}{D:Ends}{H:Hp}(h:tS X (ku f g) D σ H):VP (tE X f) (tG X g) D σ H:=by
 obtain⟨ρ,S,τ,R,r,h⟩:=h;exact⟨ρ,S,τ,R,r,jK (of_post h) .refl λa S1 h1 ρ1 H1 x e1 R1 v1=>⟨ρ1,S1,τ,a,R1,r.ext e1,v1,jK (of_post h1) e1 λτ2 S2 h2=>M6.ext h2 e1⟩⟩
theorem pO{tg:aC}{f:Ex}{g:Tg}(he:AE X e f)(hg:AG X tg g)(hs:swapsWithSole [tg] e pos.line X.env=pure false:=by rfl)(hw:swappedStores [tg] e X.env=pure none:=by rfl)
  (h1:(assignEach [tg] X.env).map (·.2)=[assign tg X.env]:=by rfl):AS X (.Assign [tg] e pos) (ku f g):=PS.imp (U7 he hg hs hw h1) λD σ H h=>P0 h
theorem j0{i:Nat}{x:Str}{f:Ex}(hN:X.N.Nodup)(he:AE X e f)(hi:X.N[i]?=some x:=by rfl)(hx:Loc X.env.scope x:=by first|exact Or.inl rfl|exact Or.inr rfl)(hs:swapsWith e (some (.Name x pos')) pos.line X.env=pure false:=by rfl)(hf:X.fn x=true\/X.env.scope.names.lookup x=some .local:=by first|exact .inl rfl|exact .inr rfl|assumption) :
  AS X (.Assign [.Name x pos'] e pos) (ku f (kI i)):=PS.imp (VS hN hi hx he hs hf) λD σ H ⟨ρ,S,τ,R,r,h⟩=>
 ⟨ρ,S,τ,R,r,jK (of_post h) .refl λa S1 h1 ρ1 H1 x e1 R1 v1=>h1 ρ1 H1 _ e1 R1 ((r.ext e1).set v1)⟩
noncomputable def aaJ (i j:Nat)(c:qL):Sm:=λτ S=>.of (c τ S) λas S1=>match as with
 | [a,b]=>.nx ((τ.set i a).set j b) S1
 | _=>.no
noncomputable def ZI (a b:A)(S:jG):R A:=match a,b with
 | .int i,.int j=>.ok (.int (i+j)) S
 | _,_=>.no
noncomputable def Zd (i:Nat)(f:A->A->jG->R A)(e:Ex):Sm:=λτ S=>if (τ.getD i .unb).qh then .no else .of (e τ S) λb S1=>.of (f (τ.getD i .unb) b S1) λc S2=>.nx (τ.set i c) S2
noncomputable def Rm (a b:A)(S:jG):R A:=match a,b with
 | .ref n,.int i=>opt (jE S n) λxs=>gd (0<=i) (opt (xs[i.toNat]?) λx=>.ok x S)
 | _,_=>.no
noncomputable def Yx (co ci ce:Ex)(f:A->A->jG->R A):Sm:=λτ S=>.of (co τ S) λo S1=>.of (ci τ S1) λi S2=>.of (Rm o i S2) λx S3=>.of (ce τ S3) λy S4=>.of (f x y S4) λz S5=>.of (EO o i z S5) λ_ S6=>.nx τ S6
noncomputable def nP (t:Te)(c:Sm):Nat->Sm
 | 0=>λ_ _=>.no
 | n+1=>λτ S=>.of (t τ S) λb S1=>match b with
  | false=>.nx τ S1
  | true=>match c τ S1 with
   | .nx τ' S'=>nP t c n τ' S'
   | .ct τ' S'=>nP t c n τ' S'
   | .bk τ' S'=>.nx τ' S'
   | r=>r
theorem Fc(n:Nat){t:Te}(hp:PassesOwn (model X.prog X.w) X.A X.env X.xe)(ht:AT X e t)(hb:Qj X body c):AS X (.While e body [] pos) (nP t c n):=PS.imp (Ou hp ht hb) λD σ H h9=>by
 obtain⟨ρ,S,τ,R,r,h⟩:=h9;refine⟨λm σ' H'=>∃ρ' S' τ',Ext ρ ρ' H H'/\Rel X.K ρ' H' S'/\SR X.K ρ' H' τ' σ'/\BQ X ρ' H' D (nP t c m τ' S'),⟨n,ρ,S,τ,.refl,R,r,h⟩,?_⟩;rintro m σ1 H1 ⟨ρ1,S1,τ1,e1,R1,r1,h1⟩
 cases m with
 | zero=>exact h1.elim
 | succ m=>
  refine⟨ρ1,S1,τ1,R1,r1,jK (of_post h1) .refl λb S2 h2 ρ2 H2 e2 R2=>?_⟩
  cases b with
  | false=>rw[aK bI];exact h2 ρ2 H2 σ1 e2 R2 (r1.ext e2)
  | true=>
   rw[aM rfl];refine⟨λσ' H'=>∃ρ' S' τ',Ext ρ ρ' H H'/\Rel X.K ρ' H' S'/\SR X.K ρ' H' τ' σ'/\BQ X ρ' H' D (nP t c m τ' S'),λσ' H' z=>⟨m,fJ _,z⟩,ρ2,S2,τ1,R2,r1.ext e2,?_⟩;have h2:BQ X ρ1 H1 D (match c τ1 S2 with
    | .nx τ' S'=>nP t c m τ' S'
    | .ct τ' S'=>nP t c m τ' S'
    | .bk τ' S'=>.nx τ' S'
    | r=>r):=h2
   cases hc:c τ1 S2 with
   | nx τ3 S3=>rw[hc]at h2;exact λρ3 H3 σ3 e3 R3 r3=>⟨ρ3,S3,τ3,(e1.trans e2).trans e3,R3,r3,BQ.ext h2 (e2.trans e3)⟩
   | ct τ3 S3=>rw[hc]at h2;exact λρ3 H3 σ3 e3 R3 r3=>⟨ρ3,S3,τ3,(e1.trans e2).trans e3,R3,r3,BQ.ext h2 (e2.trans e3)⟩
   | bk τ3 S3=>rw[hc]at h2;exact M6.ext h2 e2
   | rt a S3=>rw[hc]at h2;exact CB.ext h2 e2
   | ex x S3=>rw[hc]at h2;exact XE.ext h2 e2
   | no=>rw[hc]at h2;exact h2
end
structure Src where
 k:Nat
 get:Nat->jG->Option A
 fin:jG->Bool
structure JR (K:au)(s:Src)(J:It)(ρ0:List ak)(H0:Hp):Prop where
 go:∀(i:Nat) (S:jG) (H:Hp) (ρ:List ak) (x:A),Ext0 ρ0 ρ H0 H->Rel K ρ H S->s.get i S=some x->J.go i H/\∀v H',J.yld i H v H'->Ext ρ ρ H H'/\Rel K ρ H' S/\AV K ρ H' x v
 stop:∀(S:jG) (H:Hp) (ρ:List ak),Ext0 ρ0 ρ H0 H->Rel K ρ H S->s.fin S=true->J.stop s.k H
noncomputable abbrev Ic:=List A->jG->R Src
noncomputable def tI (X:Cx)(c:Ic):TI:=λσ H Q=>∃ρ S τ,Rel X.K ρ H S/\SR X.K ρ H τ σ/\(c τ S).post (λs S'=>∀ρ' H' J,Ext ρ ρ' H H'->Rel X.K ρ' H' S'->JR X.K s J ρ' H'->Q J H') (XE X ρ H)
noncomputable def AI (X:Cx)(tg iter:aC)(c:Ic):Prop:=PI X tg iter (tI X c)
noncomputable def xQ (xs:List A):Src:=⟨xs.length,λi _=>xs[i]?,λ_=>true⟩
noncomputable def kY (n k:Nat):Src:=⟨k,λi S=>(jE S n).bind (·[i]?),λS=>match jE S n with
 | some ys=>decide (ys.length<=k)
 | none=>false⟩
noncomputable def t8 (lo hi:Int):Src:=⟨(hi-lo).toNat,λi _=>if i<(hi-lo).toNat then some (.int (lo+i))else none,λ_=>true⟩
noncomputable def nE (c:Ex):Ic:=λτ S=>(c τ S).bind λa S1=>match a with
 | .tup xs=>.ok (xQ xs) S1
 | .frz xs=>.ok (xQ xs) S1
 | .ref n=>opt (jE S1 n) λxs=>.ok (kY n xs.length) S1
 | .str x=>gd (x.cps.all (· < 128)=true) (.ok (xQ (x.cps.toList.map λc=>.str ⟨#[c]⟩)) S1)
 | _=>.no
section
variable {X:Cx}{pos:Pos}{tg e a b:aC}
theorem V3{K:au}{H0:Hp}{p:ak}(h:nq K H0 p vs)(r:AVs K ρ0 H0 xs vs):JR K (xQ xs) (ZV K p) ρ0 H0 where
 go:=λi S H ρ x e R g=>by
  obtain⟨v,ev,av⟩:=(AVs.n9 e r).get g;have hs:=e.Zh h;refine⟨⟨vs,v,hs,ev⟩,λw H' ⟨e1,y⟩=>?_⟩;subst e1;have:=y vs hs;rw[ev]at this
  cases this
  exact⟨.refl,R,av⟩
 stop:=λS H ρ e R _=>⟨vs,e.Zh h,by rw[<- r.length];exact aQ _⟩
theorem Wx{K:au}{H0:Hp}{p:ak}(h:Fz K H0 p vs)(r:AVs K ρ0 H0 xs vs):JR K (xQ xs) (Zk K p) ρ0 H0 where
 go:=λi S H ρ x e R g=>by
  obtain⟨v,ev,av⟩:=(AVs.n9 e r).get g;have hs:=(e.fz h).QW;refine⟨⟨vs,v,hs,ev⟩,λw H' ⟨e1,y⟩=>?_⟩;subst e1;have:=y vs hs;rw[ev]at this
  cases this
  exact⟨.refl,R,av⟩
 stop:=λS H ρ e R _=>⟨vs,(e.fz h).QW,by rw[<- r.length];exact aQ _⟩
theorem V0{K:au}{ρ0:List ak}{H0:Hp}{p:ak}{n k:Nat}(h:ρ0[n]?=some p):JR K (kY n k) (Zk K p) ρ0 H0 where
 go:=λi S H ρ x e R g=>by
  obtain⟨ys,hn,hx⟩:=cC.mp (show(jE S n).bind (·[i]?)=some x from g);obtain⟨vs,h1,r⟩:=R.lst (e.get h) (jU hn);obtain⟨v,ev,av⟩:=r.get hx;refine⟨⟨vs,v,pW.of h1,ev⟩,λw H' ⟨e1,y⟩=>?_⟩;subst e1;have:=y vs (pW.of h1);rw[ev]at this
  cases this
  exact⟨.refl,R,av⟩
 stop:=λS H ρ e R g=>by
  have g:(match jE S n with
   | some ys=>decide (ys.length<=k)
   | none=>false)=true:=g
  cases hn:jE S n with
  | none=>rw[hn]at g;cases g
  | some ys=>
   rw[hn]at g;obtain⟨vs,h1,r⟩:=R.lst (e.get h) (jU hn);exact⟨vs,pW.of h1,by rw[<- r.length];exact bR g⟩
theorem Nt{K:au}{H0:Hp}{lo hi:Int}:JR K (t8 lo hi) (XU lo (hi-lo).toNat) ρ0 H0 where
 go:=λi S H ρ x e R g=>by
  have g:(if i<(hi-lo).toNat then some (A.int (lo+i))else none)=some x:=g;by_cases hi':i<(hi-lo).toNat
  ·rw[aM hi']at g
   cases g
   refine⟨hi',λw H' ⟨e1,y⟩=>?_⟩;subst e1 y;exact⟨.refl,R,.int _⟩
  ·rw[aK hi']at g;cases g
 stop:=λS H ρ e R _=>aQ _
theorem V5{K:au}{H0:Hp}{x:Str}:JR K (xQ (x.cps.toList.map λc=>A.str ⟨#[c]⟩)) (ZR x) ρ0 H0 where
 go:=λi S H ρ y e R g=>by
  have g:(x.cps.toList.map λc=>A.str ⟨#[c]⟩)[i]?=some y:=g;rw[aR]at g;obtain⟨c,hc,rfl⟩:=aX.mp g;rw[eU]at hc;refine⟨(Array.getElem?_eq_some_iff.mp hc).1,λw H' ⟨e1,c',hc',y'⟩=>?_⟩;rw[hc]at hc'
  cases hc'
  subst e1 y';exact⟨.refl,R,.str _⟩
 stop:=λS H ρ e R _=>by
  show(x.cps.toList.map λc=>A.str ⟨#[c]⟩).length=x.cps.size;rw[aH,d9]
theorem mV{c:Ex}(he:AE X e c):AI X tg e (nE c):=λpins s σ H Q I h9=>by
 obtain⟨ρ,S,τ,R,r,h⟩:=h9;have hb:=jM h
 cases hc:c τ S with
 | no=>rw[hc]at hb;exact hb.elim
 | ex x S1=>
  rw[hc]at hb;exact Ny he pins s σ H Q I ⟨ρ,S,τ,R,r,by rw[hc];exact hb⟩
 | ok a S1=>
  rw[hc]at hb
  cases a with
  | tup xs=>
   refine Ny he pins s σ H Q I ⟨ρ,S,τ,R,r,?_⟩;rw[hc];intro ρ1 H1 x e1 R1 v1
   cases v1 with
   | tup h1 r1=>exact⟨_,rfl,⟨_,(nq.of h1)⟩,hb ρ1 H1 _ e1 R1 (V3 (nq.of h1) r1)⟩
  | frz xs=>
   refine Hs he pins s σ H Q I ⟨ρ,S,τ,R,r,?_⟩;rw[hc];intro ρ1 H1 x e1 R1 v1
   cases v1 with
   | frz h1 r1=>exact⟨_,rfl,⟨_,h1.QW⟩,hb ρ1 H1 _ e1 R1 (Wx h1 r1)⟩
  | ref n=>
   obtain⟨xs,hn,hb⟩:=jN hb;refine Hs he pins s σ H Q I ⟨ρ,S,τ,R,r,?_⟩;rw[hc];intro ρ1 H1 x e1 R1 v1
   cases v1 with
   | ref hp=>
    obtain⟨vs,h1,r1⟩:=R1.lst hp (jU hn);exact⟨_,rfl,⟨_,pW.of h1⟩,hb ρ1 H1 _ e1 R1 (V0 hp)⟩
  | str x=>
   obtain⟨ha,hb⟩:=kh hb;refine WA he pins s σ H Q I ⟨ρ,S,τ,R,r,?_⟩;rw[hc];intro ρ1 H1 v e1 R1 v1
   cases v1 with
   | str=>exact⟨x,rfl,ha,hb ρ1 H1 _ e1 R1 V5⟩
  | _=>exact hb.elim
noncomputable def bnd (i:Int):Prop:=-(2 ^ 62)<=i/\i<2 ^ 62
instance (i:Int):Decidable (bnd i):=by unfold bnd;infer_instance
noncomputable def zf (c:Ex):Ic:=λτ S=>(c τ S).bind λa S1=>match a with
 | .int j=>gd (bnd j) (.ok (t8 0 j) S1)
 | _=>.no
noncomputable def zX (c d:Ex):Ic:=λτ S=>(c τ S).bind λa S1=>(d τ S1).bind λb S2=>match a,b with
 | .int i,.int j=>gd (bnd i/\bnd j) (.ok (t8 i j) S2)
 | _,_=>.no
theorem BE{p:Pos}{c:Ex}(hm:X.mg "range" = none)(ha:AE X a c)(hg:Gl X "range" := by rfl)(hs:starEach [a] X.env=[(false,eval a X.env)]:=by rfl):AI X tg (.Call (.Name "range" p) [a] [] pos) (zf c):=λpins s σ H Q I h9=>by
 obtain⟨ρ,S,τ,R,r,h⟩:=h9;refine J8 hg hm (uy ha zZ hs) hs pins s σ H Q I ⟨ρ,S,τ,R,r,jK (jM h) .refl λx S1 h1 ρ1 H1 v e1 R1 v1=>?_⟩
 cases v1 with
 | int j=>
  obtain⟨hb,h1⟩:=kh h1;exact⟨_,rfl,hb.1,hb.2,by have:=h1 ρ1 H1 _ e1 R1 Nt;rwa [Int.sub_zero]at this⟩
 | _=>exact h1.elim
theorem JP{p:Pos}{c d:Ex}(hm:X.mg "range" = none)(ha:AE X a c)(hb:AE X b d)(hg:Gl X "range" := by rfl)(hs:starEach [a,b] X.env=[(false,eval a X.env),(false,eval b X.env)]:=by rfl)(hs2:starEach [b] X.env=[(false,eval b X.env)]:=by rfl):AI X tg (.Call (.Name "range" p) [a,b] [] pos) (zX c d):=λpins s σ H Q I h9=>by
 obtain⟨ρ,S,τ,R,r,h⟩:=h9;refine Km hg hm (uy ha (uy hb zZ hs2) (by rw[hs,hs2])) hs hs2 pins s σ H Q I ⟨ρ,S,τ,R,r,jK (jM h) .refl λx S1 h1 ρ1 H1 v e1 R1 v1=>⟨ρ1,S1,τ,R1,r.ext e1,jK (jM h1) e1 λy S2 h2 ρ2 H2 w e2 R2 v2=>?_⟩⟩
 cases v1 with
 | int i=>
  cases v2 with
  | int j=>
   obtain⟨hb,h2⟩:=kh h2;exact⟨_,_,rfl,⟨hb.1.1,hb.1.2,hb.2.1,hb.2.2⟩,h2 ρ2 H2 _ (e1.trans e2) R2 Nt⟩
  | _=>exact h2.elim
 | _=>exact h2.elim
noncomputable def Dy (xs:List A):Src:=⟨xs.length,λi _=>(xs[i]?).map λx=>.tup [.int i,x],λ_=>true⟩
noncomputable def Qh (c:Ex):Ic:=λτ S=>(c τ S).bind λa S1=>match a with
 | .tup xs=>.ok (Dy xs) S1
 | _=>.no
theorem VZ{K:au}{H0:Hp}{p:ak}(h:nq K H0 p vs)(r:AVs K ρ0 H0 xs vs):JR K (Dy xs) (Ite K p) ρ0 H0 where
 go:=λi S H ρ x e R g=>by
  obtain⟨y,hy,rfl⟩:=aX.mp (show(xs[i]?).map (λx=>A.tup [.int i,x])=some x from g);obtain⟨v,ev,av⟩:=(AVs.n9 e r).get hy;have hs:=e.Zh h;refine⟨⟨vs,v,hs,ev⟩,λw H' q=>?_⟩;obtain⟨pp,hp,rfl,hz⟩:=q;have hz':=hz vs v hs ev;subst hz';obtain⟨ex,R'⟩:=R.im (u:=.tup [.int i,v]) hp;exact⟨ex,R',.tup lI (.cons (.int _) (.cons (av.ext ex) .nil))⟩
 stop:=λS H ρ e R _=>⟨vs,e.Zh h,by rw[<- r.length];rfl⟩
theorem Wc{p:Pos}{c:Ex}(hm:X.mg "enumerate" = none)(ha:AE X a c)(hg:Gl X "enumerate" := by rfl)(hs:starEach [a] X.env=[(false,eval a X.env)]:=by rfl):AI X (.Tuple elts x1 tpos) (.Call (.Name "enumerate" p) [a] [] pos) (Qh c):=λpins s σ H Q I h9=>by
 obtain⟨ρ,S,τ,R,r,h⟩:=h9;refine N8 hg hm (uy ha zZ hs) hs pins s σ H Q I ⟨ρ,S,τ,R,r,jK (jM h) .refl λx S1 h1 ρ1 H1 v e1 R1 v1=>?_⟩
 cases v1 with
 | tup h2 r2=>exact⟨_,_,rfl,(nq.of h2),h1 ρ1 H1 _ e1 R1 (VZ (nq.of h2) r2)⟩
 | _=>exact h1.elim
noncomputable def qJ (s:Src)(g:Tg)(c:Sm):Nat->Nat->Sm
 | 0,_=>λτ S=>if s.fin S then .nx τ S else .no
 | k+1,i=>λτ S=>match s.get i S with
  | none=>.no
  | some x=>.of (g x τ S) λτ1 S1=>match c τ1 S1 with
   | .nx τ' S'=>qJ s g c k (i+1) τ' S'
   | .ct τ' S'=>qJ s g c k (i+1) τ' S'
   | .bk τ' S'=>.nx τ' S'
   | r=>r
noncomputable def mw (src:Ic)(g:Tg)(c:Sm):Sm:=λτ S=>.of (src τ S) λs S1=>qJ s g c s.k 0 τ S1
theorem nV{iter:aC}{src:Ic}{g:Tg}{c:Sm}(hp:PassesOwn (model X.prog X.w) X.A X.env X.xe)(hc:X.calm=true)(hi:AI X tg iter src)(hg:AG X tg g)(hb:Qj X body c)
  (hs:∀x,foldedSetIterable iter X.env x=pure x:=by intro _;rfl):AS X (.For tg iter body [] pos) (mw src g c):=PS.imp (WQ hp hc hi hg hb hs) λD σ H h9=>by
 obtain⟨ρ,S,τ,R,r,h⟩:=h9;refine⟨ρ,S,τ,R,r,jK (of_post h) .refl λs S1 h1 ρ1 H1 J e1 R1 jr=>?_⟩;refine⟨λi m σ' H'=>m+i=s.k/\∃ρ' S' τ',Ext ρ1 ρ' H1 H'/\Rel X.K ρ' H' S'/\SR X.K ρ' H' τ' σ'/\BQ X ρ' H' D (qJ s g c m i τ' S'),⟨s.k,rfl,ρ1,S1,τ,.refl,R1,r.ext e1,BQ.ext h1 e1⟩,?_⟩;rintro i m σ2 H2 ⟨hm,ρ2,S2,τ2,e2,R2,r2,h2⟩
 cases m with
 | zero=>
  left;have h2:BQ X ρ2 H2 D (if s.fin S2 then .nx τ2 S2 else .no):=h2
  cases hf:s.fin S2 with
  | false=>rw[hf]at h2;exact h2.elim
  | true=>
   rw[hf]at h2;refine⟨by rw[show i=s.k by lia];exact jr.stop S2 H2 ρ2 e2.toExt0 R2 hf,h2 ρ2 H2 σ2 .refl R2 r2⟩
 | succ m=>
  right;have h2:BQ X ρ2 H2 D (match s.get i S2 with
   | none=>.no
   | some x=>.of (g x τ2 S2) λτ1 S1=>match c τ1 S1 with
    | .nx τ' S'=>qJ s g c m (i+1) τ' S'
    | .ct τ' S'=>qJ s g c m (i+1) τ' S'
    | .bk τ' S'=>.nx τ' S'
    | r=>r):=h2
  cases hx:s.get i S2 with
  | none=>rw[hx]at h2;exact h2.elim
  | some x=>
   rw[hx]at h2;obtain⟨hgo,hy⟩:=jr.go i S2 H2 ρ2 x e2.toExt0 R2 hx;refine⟨hgo,λσ' H'=>m+(i+1)=s.k/\∃ρ' S' τ',Ext ρ1 ρ' H1 H'/\Rel X.K ρ' H' S'/\SR X.K ρ' H' τ' σ'/\BQ X ρ' H' D (qJ s g c m (i+1) τ' S'),λσ' H' z=>⟨m,fJ _,z⟩,λv H3 y=>?_⟩;obtain⟨e3,R3,v3⟩:=hy v H3 y;refine⟨ρ2,S2,τ2,x,R3,r2.ext e3,v3,jK (of_post h2) e3 λτ4 S4 h4 ρ4 H4 σ4 e4 R4 r4=>⟨ρ4,S4,τ4,R4,r4,?_⟩⟩;have e24:=e3.trans e4
   cases hcc:c τ4 S4 with
   | nx τ5 S5=>rw[hcc]at h4;exact λρ5 H5 σ5 e5 R5 r5=>⟨by lia,ρ5,S5,τ5,(e2.trans e24).trans e5,R5,r5,BQ.ext h4 (e24.trans e5)⟩
   | ct τ5 S5=>rw[hcc]at h4;exact λρ5 H5 σ5 e5 R5 r5=>⟨by lia,ρ5,S5,τ5,(e2.trans e24).trans e5,R5,r5,BQ.ext h4 (e24.trans e5)⟩
   | bk τ5 S5=>rw[hcc]at h4;exact M6.ext h4 e24
   | rt x5 S5=>rw[hcc]at h4;exact CB.ext h4 e24
   | ex x5 S5=>rw[hcc]at h4;exact XE.ext h4 e24
   | no=>rw[hcc]at h4;exact h4
end
noncomputable def R.rj {α β:Type}(r:R α)(f:α->jG->R β):R β:=match r with
 | .ok a S=>f a S
 | _=>.no
theorem vZ{α β:Type}{r:R α}{f:α->jG->R β}{b:β}(h:r.rj f=.ok b S2):∃a S,r=.ok a S/\f a S=.ok b S2:=by
 cases r with
 | ok a S=>exact⟨a,S,rfl,h⟩
 | ex _ _=>cases h
 | no=>cases h
theorem Gf{α β:Type}{r:R α}{f:α->jG->R β}{P:β->jG->Prop}{E:Str->jG->Prop}(h:(r.rj f).post P E):∃a S,r=.ok a S/\(f a S).post P E:=by
 cases r with
 | ok a S=>exact⟨a,S,rfl,h⟩
 | ex _ _=>exact h.elim
 | no=>exact h.elim
theorem U5{α β:Type}{o:Option β}{f:β->R α}{a:α}(h:opt o f=.ok a S):∃b,o=some b/\f b=.ok a S:=by
 cases o with
 | none=>cases h
 | some b=>exact⟨b,rfl,h⟩
noncomputable def ny (s:Src)(g:Tg)(t:Te)(e:Ex):Nat->Nat->List A->jG->R (List A)
 | 0,_=>λ_ S=>if s.fin S then .ok [] S else .no
 | k+1,i=>λτ S=>opt (s.get i S) λx=>(g x τ S).rj λτ1 S1=>(t τ1 S1).rj λb S2=>match b with
  | true=>(e τ1 S2).rj λy S3=>(ny s g t e k (i+1) τ1 S3).rj λys S4=>.ok (y::ys) S4
  | false=>ny s g t e k (i+1) τ1 S2
noncomputable def mz (cap:List (Option Nat))(τ:List A):List A:=cap.map λo=>match o with
 | some j=>τ.getD j .unb
 | none=>.unb
noncomputable def kZ (cap:List (Option Nat))(src:Ic)(g:Tg)(t:Te)(e:Ex):Ex:=λτ S=>(src τ S).bind λs S1=>(ny s g t e s.k 0 (mz cap τ) S1).rj λys S2=>newL ys S2
noncomputable def sJ:Te:=λ_ S=>.ok true S
theorem DC{s:Src}{g:Tg}{t:Te}{e:Ex}{k:Nat}(h:ny s g t e (k+1) i τ S=.ok zs S') :
  ∃x τ1 S1 b S2,s.get i S=some x/\g x τ S=.ok τ1 S1/\t τ1 S1=.ok b S2/\(b=true->∃y S3 ws,e τ1 S2=.ok y S3/\ny s g t e k (i+1) τ1 S3=.ok ws S'/\zs=y::ws)/\(b=false->ny s g t e k (i+1) τ1 S2=.ok zs S'):=by
 obtain⟨x,hx,h⟩:=U5 h;obtain⟨τ1,S1,h1,h⟩:=vZ h;obtain⟨b,S2,h2,h⟩:=vZ h;refine⟨x,τ1,S1,b,S2,hx,h1,h2,λhb=>?_,λhb=>?_⟩
 ·subst hb;obtain⟨y,S3,h3,h⟩:=vZ h;obtain⟨ws,S4,h4,h⟩:=vZ h
  cases h
  exact⟨y,S3,ws,h3,h4,rfl⟩
 ·subst hb;exact h
noncomputable def ZL (K:au)(c:Ex):TE:=λσ H Q=>∃ρ S τ a S',Rel K ρ H S/\SR K ρ H τ σ/\c τ S=.ok a S'/\∀ρ' H' v,Ext ρ ρ' H H'->Rel K ρ' H' S'->AV K ρ' H' a v->Q v H'
noncomputable def Zl (K:au)(c:Te):TT:=λσ H Q=>∃ρ S τ a S',Rel K ρ H S/\SR K ρ H τ σ/\c τ S=.ok a S'/\∀ρ' H',Ext ρ ρ' H H'->Rel K ρ' H' S'->Q a H'
noncomputable def tG0 (K:au)(g:Tg):TG:=λv σ H Q=>∃ρ S τ a τ' S',Rel K ρ H S/\SR K ρ H τ σ/\AV K ρ H a v/\g a τ S=.ok τ' S'/\∀ρ' H' σ',Ext ρ ρ' H H'->Rel K ρ' H' S'->SR K ρ' H' τ' σ'->Q σ' H'
section
variable {X:Cx}{pos:Pos}{tg iter elt e:aC}{ifs:List aC}{scope:Scope}{N:List Str}{cap:List (Option Nat)}{src:Ic}{g:Tg}{t:Te}{c:Ex}
theorem AE.e0{K:au}(hK:X.K=K)(h:AE X e c):PE X e (ZL K c):=PE.imp h λσ H Q ⟨ρ,S,τ,a,S',R,r,hc,q⟩=>⟨ρ,S,τ,by rw[hK];exact R,by rw[hK];exact r,by rw[hc];exact λρ' H' v e R' v'=>q ρ' H' v e (by rw[<- hK];exact R') (by rw[<- hK];exact v')⟩
theorem AT.t0{K:au}(hK:X.K=K)(h:AT X e t):PT X e (Zl K t):=PT.imp h λσ H Q ⟨ρ,S,τ,a,S',R,r,hc,q⟩=>⟨ρ,S,τ,by rw[hK];exact R,by rw[hK];exact r,by rw[hc];exact λρ' H' e R'=>q ρ' H' e (by rw[<- hK];exact R')⟩
theorem AG.g0{K:au}(hK:X.K=K)(h:AG X e g):PG X e (tG0 K g):=PG.imp h λv σ H Q ⟨ρ,S,τ,a,τ',S',R,r,va,hc,q⟩=>⟨ρ,S,τ,a,by rw[hK];exact R,by rw[hK];exact r,by rw[hK];exact va,by rw[hc];exact λρ' H' v e R' v'=>q ρ' H' v e (by rw[<- hK];exact R') (by rw[<- hK];exact v')⟩
noncomputable def ATs (X:Cx)(ifs:List aC)(t:Te):Prop:=W4 X ifs (Zl X.K t)
theorem vP:ATs X [] sJ:=λpins s σ H Q I ⟨ρ,S,τ,a,S',R,r,hc,q⟩=>Q6 pins s σ H Q I (by cases hc;exact q ρ H .refl R)
theorem Cp(h:AT X e t):ATs X [e] t:=QE (h.t0 rfl)
theorem YS{K:au}{H:Hp}(r:SR K ρ H τ σ)(cap:List (Option Nat)):SR K ρ H (mz cap τ) (cap.map (Wj σ)):=by
 refine⟨by simp[mz],λi a h=>?_⟩;unfold mz at h;rw[aR]at h;obtain⟨o,ho,e⟩:=aX.mp h
 cases o with
 | none=>exact .inl e.symm
 | some j=>
  have e:τ.getD j .unb=a:=e
  cases hj:τ[j]? with
  | none=>rw[aJ,hj]at e;exact .inl e.symm
  | some b=>
   rw[aJ,hj]at e;have e:b=a:=e;subst e
   rcases r.at j b hj with z|⟨v,h1,h2⟩
   ·exact .inl z
   ·exact .inr ⟨v,by rw[aR,ho];show some ((σ[j]?).getD none)=_;rw[h1];rfl,h2⟩
theorem Rel.M5{K:au}{H:Hp}{p:ak}(R:Rel K ρ H S)(hp:H p=none):p∉ρ:=λhm=>by
 obtain⟨n,hn,e⟩:=List.mem_iff_getElem.mp hm;have hl:n<S.length:=by rw[<- R.len];exact hn
 have:=R.at n p S[n] (by rw[aF hn,e]) (aF hl)
 cases ho:S[n]with
 | lst xs=>rw[ho]at this;obtain⟨vs,h,_⟩:=this;rw[hp]at h;cases h
 | dct _|qV _=>rw[ho]at this;obtain⟨vs,h,_⟩:=this;rw[hp]at h;cases h
 | ins _ _=>rw[ho]at this;obtain⟨_,_,h⟩:=this;rw[hp]at h;cases h
theorem Oz(σ:L2.St)(H:Hp)(Q:VK)(h:tE X (kZ cap src g t c) σ H Q):Zq cap (tI X src) (tG0 X.K g) (Zl X.K t) (ZL X.K c) σ H Q:=by
 obtain⟨ρ,S,τ,R,r,h⟩:=h;refine⟨ρ,S,τ,R,r,jK (jM h) .refl λs S1 h1 ρ1 H1 J e1 R1 jr D hD=>?_⟩;obtain⟨ys,S2,hcg,h1⟩:=Gf h1;obtain⟨hlen,h1⟩:=kh h1;have h1:CB X ρ H Q (.ref S2.length) (S2++[.lst ys]):=h1;obtain⟨eD,RD⟩:=R1.im (u:=.lst []) hD;have nD:=R1.M5 hD;refine⟨λi m σ' H'=>m+i=s.k/\∃ρ' S' τ' acc zs accV,Ext0 ρ1 ρ' H1 H'/\(∀a u,a≠D->H1 a=some u->a∉ρ1->H' a=some u)/\(∀a∈ρ',a∈ρ1\/H1 a=none)/\D∉ρ'/\H' D=some (.lst accV)/\Rel X.K ρ' H' S'/\SR X.K ρ' H' τ' σ'/\AVs X.K ρ' H' acc accV/\ny s g t c m i τ' S'=.ok zs S2/\acc++zs=ys,
  ⟨s.k,rfl,ρ1,S1,mz cap τ,[],ys,[],eD.toExt0,λa u na hu _=>by rw[jP na];exact hu,λa ha=>.inl ha,nD,lI,RD,(YS ((r.ext e1).ext eD) cap),.nil,hcg,rfl⟩,?_⟩
 rintro i m σ3 H3 ⟨hm,ρ3,S3,τ3,acc,zs,accV,e3,fr3,nw3,nD3,hD3,R3,r3,ac3,cg3,eys⟩
 cases m with
 | zero=>
  left;have cg3:(if s.fin S3 then Am.R.ok [] S3 else .no)=.ok zs S2:=cg3
  cases hf:s.fin S3 with
  | false=>rw[hf]at cg3;cases cg3
  | true=>
   rw[hf]at cg3
   cases cg3
   rw[cL]at eys;subst eys;refine⟨by rw[show i=s.k by lia];exact jr.stop _ H3 ρ3 e3 R3 hf,?_⟩;obtain⟨RT,gt⟩:=R3.take hD3 nD3 ac3;refine h1 (ρ3++[D]) H3 _ (e1.trans ⟨⟨e3.pre.trans (fQ _ _),e3.im⟩,λa u hu na=>fr3 a u (jY hu hD) hu na,λa ha=>?_⟩) RT (.ref gt)
   rcases bF.mp ha with z|z
   ·exact nw3 a z
   ·have:a=D:=by simpa using z
    rw[this];exact .inr hD
 | succ m=>
  right;obtain⟨x,τ4,S4,b,S5,hx,hg4,ht5,hT,hF⟩:=DC cg3;obtain⟨hgo,hy⟩:=jr.go i S3 H3 ρ3 x e3 R3 hx;refine⟨hgo,λv H4 y=>?_⟩;obtain⟨e4,R4,v4⟩:=hy v H4 y;refine⟨ρ3,S3,τ3,x,τ4,S4,R4,r3.ext e4,v4,hg4,λρ5 H5 σ5 e5 R5 r5=>?_⟩;refine⟨ρ5,S4,τ4,b,S5,R5,r5,ht5,λρ6 H6 e6 R6=>?_⟩;have e36:=(e4.trans e5).trans e6;have stay:∀{ρ7:List ak} {H7:Hp},Ext ρ3 ρ7 H3 H7->Ext0 ρ1 ρ7 H1 H7/\(∀a u,a≠D->H1 a=some u->a∉ρ1->H7 a=some u)/\(∀a∈ρ7,a∈ρ1\/H1 a=none)/\D∉ρ7/\H7 D=some (.lst accV):=λ{ρ7 H7} e7=>by
   refine⟨⟨e3.pre.trans e7.pre,λa u i h=>e7.im a u i (e3.im a u i h)⟩,λa u na hu nr=>e7.fr a u (fr3 a u na hu nr) λz=>(nw3 a z).elim nr λz=>by(rw[z]at hu;cases hu),λa ha=>?_,λz=>(e7.nw D z).elim nD3 λz=>by(rw[hD3]at z;cases z),e7.fr D _ hD3 nD3⟩;by_cases hr:a∈ρ1
   ·exact .inl hr
   ·right
    cases q:H1 a with
    | none=>rfl
    | some u=>
     have aD:a≠D:=jY q hD
     rcases e7.nw a ha with z|z
     ·exact((nw3 a z).elim hr λz=>by(rw[z]at q;cases q)).elim
     ·rw[fr3 a u aD q hr]at z;cases z
  cases b with
  | false=>
   dsimp only;rw[aK bI];obtain⟨g1,g2,g3,g4,g5⟩:=stay e36;exact⟨m,fJ _,by lia,ρ6,S5,τ4,acc,zs,accV,g1,g2,g3,g4,g5,R6,r5.ext e6,ac3.ext e36,hF rfl,eys⟩
  | true=>
   dsimp only;rw[aM rfl];obtain⟨y,S6,ws,he6,cg6,ezs⟩:=hT rfl;refine⟨ρ6,S5,τ4,y,S6,R6,r5.ext e6,he6,λρ7 H7 w e7 R7 v7=>?_⟩;obtain⟨g1,g2,g3,g4,g5⟩:=stay (e36.trans e7);obtain⟨ex8,R8⟩:=R7.out (ws:=accV++[w]) g5 g4;have l1:=ac3.length;refine⟨accV,g5,?_,m,fJ _,by lia,ρ7,S6,τ4,acc++[y],ws,accV++[w],?_,λa u na hu nr=>by rw[jP na];exact g2 a u na hu nr,g3,g4,lI,R8,(r5.ext (e6.trans e7)).n9 ex8,(AVs.n9 ex8 ((ac3.ext (e36.trans e7)).append (.one v7))),cg6,?_⟩
   ·have:(acc++zs).length<=sizeLine:=by rw[eys];exact hlen
    rw[ezs,aO,aZ]at this;lia
   ·exact⟨g1.pre,λa u i h=>ex8.im a u i (g1.im a u i h)⟩
   ·rw[cu,<- eys,ezs];rfl
theorem qp(hc:X.calm=true)(Sc:CpScope X scope N cap)(hi:AI X tg iter src)(hg:∀C s₀ H₀ ex,AG (qm X scope N C s₀ H₀ ex) tg g)(ht:∀C s₀ H₀ ex,ATs (qm X scope N C s₀ H₀ ex) ifs t)(he:∀C s₀ H₀ ex,AE (qm X scope N C s₀ H₀ ex) elt c)
  (hs:∀x,foldedSetIterable iter X.env x=pure x:=by intro _;rfl):AE X (.ListComp elt [⟨tg,iter,ifs,0⟩] scope pos) (kZ cap src g t c):=
 PE.imp (Yz hc Sc hi (g:=tG0 X.K g) (tc:=Zl X.K t) (te:=ZL X.K c) (λC s₀ H₀ ex=>(hg C s₀ H₀ ex).g0 rfl) (λC s₀ H₀ ex=>ht C s₀ H₀ ex) (λC s₀ H₀ ex=>(he C s₀ H₀ ex).e0 rfl) hs) Oz
end
noncomputable def A.lst? (S:jG):A->Option (List A)
 | .ref n=>jE S n
 | _=>none
noncomputable def Vp (f:A->List A->jG->R A)(co:Ex)(d:qL):Ex:=λτ S=>(co τ S).bind λo S1=>opt (o.lst? S1) λ_=>(d τ S1).bind λas S2=>f o as S2
noncomputable def ZN (f:A->List A->jG->R A)(co:Ex):Ex:=λτ S=>(co τ S).bind λo S1=>opt (o.lst? S1) λ_=>f o [] S1
noncomputable def rM (X:Cx)(f:A->List A->jG->R A):V->List V->Hp->VK->Prop:=λx vs H Q=>∃ρ S o as,Rel X.K ρ H S/\AV X.K ρ H o x/\AVs X.K ρ H as vs/\(f o as S).post (CB X ρ H Q) (XE X ρ H)
section
variable {X:Cx}{apos cpos:Pos}{o e:aC}{es:List aC}{name:Str}{id:String}{f:A->List A->jG->R A}{co:Ex}{d:qL}
theorem lst?_ty{K:au}{H:Hp}{x:A}{v:V}(R:Rel K ρ H S)(h:AV K ρ H x v)(e:x.lst? S=some xs):XZ K "list" v H:=by
 cases h with
 | ref h=>
  obtain⟨vs,h1,_⟩:=R.lst h (jU e);exact .inl ⟨rfl,vs,pW.of h1⟩
 | _=>cases e
theorem Hj(slot:Slot "list" name id)(hty:typeOf (.builtin id)=pure (.type "method_descriptor"))(hm:TR X id (rM X f))(ho:AE X o co)(ha:AL X (e::es) d)
  (hbase:attributeBase o name X.env (eval o X.env)=eval o X.env:=by rfl)
  (hfew:((backTo cpos (starEach (e::es) X.env)).all (λx=>!x.1) && (backToKw cpos (keywordEach [] X.env)).all (λx=>x.1.isSome)
   && decide ((e::es).length+([]:List Keyword).length+(if ([]:List Keyword).isEmpty then 0 else 1)<30))=true:=by rfl)
  (hline:(apos.endLine == cpos.line)=true:=by rfl) (hs:starEach (e::es) X.env=(false,eval e X.env)::starEach es X.env:=by rfl) (hplain:(backTo cpos (starEach es X.env)).any (·.1)=false:=by rfl) :
  AE X (.Call (.Attribute o name apos) (e::es) [] cpos) (Vp f co d):=PE.imp (Lx PySem.F.plainAttrs_list slot hty hm ho ha hbase hfew hline hs hplain) λσ H Q h9=>by
 obtain⟨ρ,S,τ,R,r,h⟩:=h9;refine⟨ρ,S,τ,R,r,jK (jM h) .refl λx S1 h1 ρ1 H1 v e1 R1 v1=>?_⟩;obtain⟨xs,hx,h1⟩:=jN h1;refine⟨lst?_ty R1 v1 hx,ρ1,S1,τ,R1,r.ext e1,jK (jM h1) e1 λas S2 h2 ρ2 H2 vs e2 R2 v2=>?_⟩;exact⟨ρ2,S2,x,as,R2,v1.ext e2,v2,jK h2 (e1.trans e2) λ_ _ z=>z.ext (e1.trans e2)⟩
noncomputable def uL (o:A)(as:List A)(S:jG):R A:=match o,as with
 | .ref n,[x]=>opt (jE S n) λxs=>gd (xs.length<sizeLine) (.ok .non (S.set n (.lst (xs++[x]))))
 | _,_=>.no
theorem Ak:TR X "list.append" (rM X uL):=λpins s σ H x vs v us Q I rx rv h9=>by
 obtain⟨ρ,S,o,as,R,vo,va,h⟩:=h9
 cases vo with
 | @ref p n hp=>
  match as,va,h with
  | [],_,h=>exact h.elim
  | _::_::_,_,h=>exact h.elim
  | [y],va,h=>
   obtain⟨w,rfl,hw⟩:=Q_ va;obtain⟨xs,hn,h⟩:=jN h;obtain⟨hl,h⟩:=kh h;obtain⟨ws,h1,r⟩:=R.lst hp (jU hn);obtain⟨ex,R'⟩:=R.put hp (jU hn) (r.append (.one hw));exact BA pins s σ H _ _ v us Q I rx rv ⟨p,ws,w,rfl,rfl,h1,by rw[<- r.length];exact hl,h _ _ _ ex R' .non⟩
 | _=>exact h.elim
noncomputable def FE (o:A)(as:List A)(S:jG):R A:=match o,as with
 | .ref n,[.int i]=>opt (jE S n) λxs=>gd (-(2 ^ 63)<=i/\i<2 ^ 63) (opt (seqIndex? i xs.length) λk=>opt (xs[k]?) λx=>.ok x (S.set n (.lst (xs.eraseIdx k))))
 | _,_=>.no
theorem Rc:TR X "list.pop" (rM X FE):=λpins s σ H x vs v us Q I rx rv h9=>by
 obtain⟨ρ,S,o,as,R,vo,va,h⟩:=h9
 cases vo with
 | @ref p n hp=>
  match as,va,h with
  | [],_,h=>exact h.elim
  | y::_::_,_,h=>exact(by cases y<;>exact h.elim)
  | [y],va,h=>
   obtain⟨w,rfl,hw⟩:=Q_ va
   cases hw with
   | int i=>
    obtain⟨xs,hn,h⟩:=jN h;obtain⟨hi,h⟩:=kh h;obtain⟨k,hk,h⟩:=jN h;obtain⟨y,hy,h⟩:=jN h;obtain⟨ws,h1,r⟩:=R.lst hp (jU hn);obtain⟨w,hw,vw⟩:=r.get hy;obtain⟨ex,R'⟩:=R.put hp (jU hn) (r.eraseIdx k);exact N2 pins s σ H _ _ v us Q I rx rv ⟨p,ws,i,k,w,rfl,rfl,h1,hi.1,hi.2,by rw[<- r.length];exact hk,hw,h _ _ _ ex R' (vw.ext ex)⟩
   | _=>exact h.elim
 | _=>exact h.elim
end
noncomputable def mE (N:List Str)(m:Sm)(as:List A)(S:jG):R A:=match m (as++List.replicate (N.length-as.length) .unb) S with
 | .rt a S'=>.ok a S'
 | .nx _ S'=>.ok .non S'
 | .ex c S'=>.ex c S'
 | _=>.no
noncomputable def rf (K:au)(n:Nat)(F:List A->jG->R A):Sp:=λvs H Q _=>vs.length=n/\∃ρ S as a S',Rel K ρ H S/\AVs K ρ H as vs/\F as S=.ok a S'/\∀ρ' H' v,Ext ρ ρ' H H'->Rel K ρ' H' S'->AV K ρ' H' a v->Q v H'
theorem Q9{K:au}{H:Hp}{as:List A}(r:AVs K ρ H as vs)(N:List Str):SR K ρ H (as++List.replicate (N.length-as.length) .unb) (L2.start N vs):=by
 have hl:=r.length;refine⟨by unfold L2.start;simp[hl],λi a h=>?_⟩;by_cases hi:i<as.length
 ·rw[bH hi]at h;obtain⟨v,hv,av⟩:=r.get h;exact .inr ⟨v,by unfold L2.start;rw[bH (by simp;lia),aR,hv];rfl,av⟩
 ·rw[f6 (by lia),List.getElem?_replicate]at h;split at h
  ·exact .inl (a_ h).symm
  ·cases h
section
variable {P:aj}{w:ah}{K:au}{mg:Str->Option af}{base:aq}
theorem vc{x:Str}{st:aE}{f:ak}{N ps:List Str}{k:Nat}{m:Sm}(F:Fun K x qual st f fd)(Sc:FnScope N ps (jQ st))
  (body:∀(cdv:af) (A:az) (outer:List Env) (s:aA) (H:Hp) (E:XK),Room k (A.deeper (envOfC qual (jQ st) s.heap.objs.size f cdv))->Qj (FO qj P w K mg base N qual (jQ st) f cdv A outer s H E).X5 (qG st) m) :
  FnOk P w K mg base qj (k+1) f fd ps (rf K ps.length (mE N m)):=by
 refine F.ok Sc (λvs H Q E h=>h.1) λcdv B outer s H vs Q E hr ⟨hl,ρ,S,as,a,S',R,va,hF,q⟩=>⟨_,body cdv B outer s H E hr,ρ,S,_,R,Q9 va N,?_⟩;unfold mE at hF
 cases hm:m (as++List.replicate (N.length-as.length) .unb) S with
 | rt b S2=>rw[hm]at hF;cases hF;exact q
 | nx τ S2=>rw[hm]at hF;cases hF;exact λρ' H' σ' e R' _=>q ρ' H' _ e R' .non
 | bk τ S2=>rw[hm]at hF;cases hF
 | ct τ S2=>rw[hm]at hF;cases hF
 | ex c S2=>rw[hm]at hF;cases hF
 | no=>rw[hm]at hF;cases hF
end
noncomputable abbrev mW (P:aj)(w:ah)(K:au)(mg:Str->Option af)(base:aq)(k:Nat)(x:Str)(ps:List Str)(F:List A->jG->R A):Prop:=Kn P w K mg base k x ps (rf K ps.length F)
noncomputable def eFn (F:List A->jG->R A)(d:qL):Ex:=λτ S=>(d τ S).bind λas S1=>match F as S1 with
 | .ok a S2=>.ok a S2
 | _=>.no
section
variable {X:Cx}{pos p:Pos}{e:aC}{es:List aC}{x:Str}{ps:List Str}{k:Nat}{F:List A->jG->R A}{d:qL}
theorem rR(G:mW X.prog X.w X.K X.mg X.base k x ps F)(hr:Room k X.A)(ha:AL X (e::es) d)(hl:∀τ S as S',d τ S=.ok as S'->as.length=ps.length)(hg:Gl X x:=by rfl)(hdb:(x == ("__debug__" : Str))=false:=by decide)
  (hs:starEach (e::es) X.env=(false,eval e X.env)::starEach es X.env:=by rfl) (hplain:(backTo pos (starEach es X.env)).any (·.1)=false:=by rfl):AE X (.Call (.Name x p) (e::es) [] pos) (eFn F d):=
 PE.imp (Yy G hr ha hg hdb hs hplain) λσ H Q h9=>by
  obtain⟨ρ,S,τ,R,r,h⟩:=h9;refine⟨ρ,S,τ,R,r,?_⟩;have hb:=jM h
  cases hd:d τ S with
  | no=>rw[hd]at hb;exact hb
  | ex c S1=>rw[hd]at hb;exact hb
  | ok as S1=>
   rw[hd]at hb;intro ρ1 H1 vs e1 R1 v1;rw[cL];refine⟨by rw[<- v1.length];exact hl τ S as S1 hd,ρ1,S1,as,?_⟩;have hb:Am.R.post (match F as S1 with
    | .ok a S2=>.ok a S2
    | _=>.no) (CB X ρ H Q) (XE X ρ H):=hb
   cases hF:F as S1 with
   | ok a S2=>rw[hF]at hb;exact⟨a,S2,R1,v1,rfl,λρ2 H2 v e2=>hb ρ2 H2 v (e1.trans e2)⟩
   | ex c S2=>rw[hF]at hb;exact hb.elim
   | no=>rw[hF]at hb;exact hb.elim
theorem nj:∀τ S as S',jF τ S=.ok as S'->as.length=0:=λτ S as S' h=>by cases h;rfl
theorem kg{c:Ex}{d:qL}{n:Nat}(h:∀τ S as S',d τ S=.ok as S'->as.length=n):∀τ S as S',jA c d τ S=.ok as S'->as.length=n+1:=λτ S as S' e=>by
 unfold jA at e
 cases hc:c τ S with
 | ok a S1=>
  rw[hc]at e
  cases hd:d τ S1 with
  | ok bs S2=>
   have e:R.bind (d τ S1) (λas S2=>.ok (a::as) S2)=.ok as S':=e;rw[hd]at e;cases e;rw[aZ,h τ S1 bs _ hd]
  | ex _ _=>
   have e:R.bind (d τ S1) (λas S2=>.ok (a::as) S2)=.ok as S':=e;rw[hd]at e;cases e
  | no=>
   have e:R.bind (d τ S1) (λas S2=>.ok (a::as) S2)=.ok as S':=e;rw[hd]at e;cases e
 | ex _ _=>rw[hc]at e;cases e
 | no=>rw[hc]at e;cases e
end
section
variable {X:Cx}{pos:Pos}{a b c:aC}
noncomputable def kCh (f':A->A->jG->R A)(cc:Ex)(τ:List A)(b k:A)(S:jG):R A:=match k with
 | .bl true=>(cc τ S).bind λc S4=>f' b c S4
 | .bl false=>.ok (.bl false) S
 | _=>.no
noncomputable def W2 (f f':A->A->jG->R A)(ca cb cc:Ex):Ex:=λτ S=>(ca τ S).bind λa S1=>(cb τ S1).bind λb S2=>(f a b S2).bind λk S3=>kCh f' cc τ b k S3
theorem V7{f f':A->A->jG->R A}{ca cb cc:Ex}{H:Hp}{Q:VK}(h:tE X (W2 f f' ca cb cc) σ H Q):Le (r2 X f) (r2 X f') (tE X ca) (tE X cb) (tE X cc) σ H Q:=by
 obtain⟨ρ,S,τ,R,r,h⟩:=h;refine⟨ρ,S,τ,R,r,jK (jM h) .refl λa S1 h1 ρ1 H1 x e1 R1 v1=>⟨ρ1,S1,τ,R1,r.ext e1,jK (jM h1) e1 λb S2 h2 ρ2 H2 y e2 R2 v2=>?_⟩⟩;have e12:=e1.trans e2;refine⟨ρ2,S2,a,b,R2,v1.ext e2,v2,jK (jM h2) e12 λk S3 h3 ρ3 H3 z e3 R3 v3=>?_⟩;have e13:=e12.trans e3
 cases k with
 | bl k=>
  cases Dk v3
  refine⟨k,rfl,?_⟩
  cases k with
  | true=>
   rw[aM rfl];exact⟨ρ3,S3,τ,R3,r.ext e13,jK (jM h3) e13 λc S4 h4 ρ4 H4 w e4 R4 v4=>⟨ρ4,S4,b,c,R4,v2.ext (e3.trans e4),v4,jK h4 (e13.trans e4) λ_ _ q=>q.ext (e13.trans e4)⟩⟩
  | false=>
   rw[aK bI];exact h3 ρ3 H3 _ e13 R3 (.bl false)
 | _=>exact h3.elim
theorem Xe{f f':A->A->jG->R A}{ca cb cc:Ex}(ho:o_ X (compareOp op) (r2 X f))(ho':o_ X (compareOp op') (r2 X f'))(ha:AE X a ca)(hb:AE X b cb)(hc:AE X c cc)(hm:lastMarks [op,op'] [b,c]=false:=by with_unfolding_all rfl) :
  AE X (.Compare a [op,op'] [b,c] pos) (W2 f f' ca cb cc):=PE.imp (Ot ho ho' ha hb hc hm) λ_ _ _ h=>V7 h
noncomputable def XA (S:jG)(x:A):List A->Option Bool
 | []=>some false
 | z::zs=>(qU S 12 z x).bind λp=>(XA S x zs).map λq=>p || q
noncomputable def aIn (neg:Bool)(x y:A)(S:jG):R A:=opt (y.seq S) λys=>opt (XA S x ys) λb=>.ok (.bl (if neg then !b else b)) S
theorem Cb{H:Hp}{x:A}{v:af}(I:Inv X pins σ H s)(R:Rel X.K ρ H S)(hu:X.A.units+64<cLine)(hx:AV X.K ρ H x vx)(rx:RelV vx v) :
  ∀{ys:List A} {us:List V} {its:List af} {b:Bool},AVs X.K ρ H ys us->Vals us its->XA S x ys=some b->∃e:af->Bool,(∀w∈its,SeqAt.EqAt X.A.in1 s w v (e w))/\its.any e=b
 | _,_,_,b,.nil,.nil,h=>⟨λ_=>false,(λw hw=>by cases hw),a_ h⟩
 | z::zs,u::us,w0::its,b,.cons hz hzs,.cons r rs,h=>by
  classical
  obtain⟨p,hp,h⟩:=cC.mp h;obtain⟨q,hq,h⟩:=aX.mp h;obtain⟨e,he,ha⟩:=Cb I R hu hx rx hzs rs hq;have h0:=(Ju I R 12 X.A.in1 z x u vx w0 v p (by rw[in1_units];lia) hz hx r rx hp).2.1;subst h
  cases p with
  | true=>
   refine⟨λw=>if w=w0 then true else e w,λw hw=>?_,?_⟩
   ·by_cases hww:w=w0
    ·simp only[hww,cY];exact h0
    ·simp only[hww,bU]
     rcases bC.mp hw with z|z
     ·exact absurd z hww
     ·exact he w z
   ·simp
  | false=>
   by_cases hm:w0∈its
   ·refine⟨e,λw hw=>?_,?_⟩
    ·rcases bC.mp hw with z|z
     ·rw[z];exact he w0 hm
     ·exact he w z
    ·rw[fS,ha,gz]
     cases q with
     | true=>simp
     | false=>
      have:=List.any_eq_false.mp ha w0 hm;simpa using this
   ·refine⟨λw=>if w=w0 then false else e w,λw hw=>?_,?_⟩
    ·by_cases hww:w=w0
     ·simp only[hww,cY];exact h0
     ·simp only[hww,bU]
      rcases bC.mp hw with z|z
      ·exact absurd z hww
      ·exact he w z
    ·rw[fS,<- ha];simp only[cY,gz];have:∀l:List af,(∀w∈l,w≠w0)->l.any (λw=>if w=w0 then false else e w)=l.any e:=λl hl=>by
      induction l with
      | nil=>rfl
      | cons c l ih=>rw[fS,fS,ih λw hw=>hl w (aL _ hw),aK (hl c (aI ..))]
     exact this its λw hw z=>hm (z ▸ hw)
theorem ZX(hu:X.A.units+64<cLine):o_ X (compareOp .In) (r2 X (aIn false)):=λpins s σ H x y v u Q I rx ry h9=>by
 obtain⟨ρ,S,a,b,R,va,vb,h⟩:=h9;obtain⟨ys,hy,h⟩:=jN h;obtain⟨k,hk,h⟩:=jN h;obtain⟨p,us,rfl,hs,r⟩:=VV R vb hy
 cases ry
 rcases hs with hs|hs
 ·obtain⟨its,rv,pl,hz⟩:=I.list hs;obtain⟨e,he,ha⟩:=Cb I R hu va rx r rv hk;refine SeqAt.in_listAt e pl.isList (λw hw=>he w (by simpa using hw)) ⟨.bl _,H,I,rfl,?_⟩;rw[show its.toArray.any e=its.any e by simp,ha];exact h _ _ _ .refl R (.bl _)
 ·obtain⟨its,rv,pl,hz⟩:=I.tuple hs;obtain⟨e,he,ha⟩:=Cb I R hu va rx r rv hk;refine SeqAt.in_tupleAt e pl (λw hw=>he w (by simpa using hw)) ⟨.bl _,H,I,rfl,?_⟩;rw[show its.toArray.any e=its.any e by simp,ha];exact h _ _ _ .refl R (.bl _)
end
noncomputable def j4 (S:jG)(n:Nat):Option (List (List Int×A)):=match S[n]? with
 | some (.dct xs)=>some xs
 | _=>none
theorem n_{n:Nat}(h:j4 S n=some xs):S[n]?=some (.dct xs):=by
 unfold j4 at h;split at h
 ·rename_i e;cases h;exact e
 ·cases h
theorem wm{S:jG}{n:Nat}(h:S[n]?=some (.dct xs)):j4 S n=some xs:=by
 unfold j4;rw[h]
noncomputable def ly (kvs:List (List Int×A))(k:List Int):Option A:=(kvs.find? λkv=>decide (kv.1=k)).map (·.2)
noncomputable def putD (kvs:List (List Int×A))(k:List Int)(v:A):List (List Int×A):=
 if (ly kvs k).isSome=true then kvs.map (λkv=>if kv.1=k then(kv.1,v)else kv)else kvs++[(k,v)]
theorem B_:∀{a b:List Int},a.map (Sum.inl:Int->Key)=b.map Sum.inl->a=b
 | [],[],_=>rfl
 | [],_::_,e=>by simp at e
 | _::_,[],e=>by simp at e
 | x::xs,y::ys,e=>by
  rw[bE,bE]at e
  injection e with e1 e2
  injection e1 with e1
  rw[e1,B_ e2]
theorem HM(ns:List Int):(ns.map (Sum.inl:Int->Key)).map kV=ns.map V.int:=by rw[bu];rfl
section
variable {K:au}{ρ:List ak}{H:Hp}
theorem JD{p:List Int×A}{r:List (List Int×A)}{k:List Int}(e:p.1=k):ly (p::r) k=some p.2:=by simp[ly,cN,e]
theorem JG{p:List Int×A}{r:List (List Int×A)}{k:List Int}(e:¬p.1=k):ly (p::r) k=ly r k:=by simp[ly,cN,e]
theorem DV.look:∀{kvs:List (List Int×A)}{ks:List (List Key×V)}(k:List Int),DV K ρ H kvs ks->(ly kvs k).isSome=(qc ks (k.map Sum.inl)).isSome/\∀x,ly kvs k=some x->∃v,qc ks (k.map Sum.inl)=some v/\AV K ρ H x v
 | [],[],k,_=>⟨rfl,λx h=>nomatch h⟩
 | p::r,q::r',k,⟨⟨e,a⟩,t⟩=>by
  by_cases c:p.1=k
  ·have c':q.1=k.map Sum.inl:=by rw[e,c]
   rw[JD c,sZ c'];exact⟨rfl,λx h=>by cases h;exact⟨_,rfl,a⟩⟩
  ·have c':¬q.1=k.map Sum.inl:=λz=>c (B_ (e.symm.trans z));rw[JG c,tY c'];exact DV.look k t
theorem DV.repl{x:A}{v:V}(h:AV K ρ H x v)(k:List Int):∀{kvs:List (List Int×A)}{ks:List (List Key×V)},DV K ρ H kvs ks->DV K ρ H (kvs.map λkv=>if kv.1=k then(kv.1,x)else kv) (ks.map λkv=>if kv.1=k.map Sum.inl then(kv.1,v)else kv)
 | [],[],_=>trivial
 | p::r,q::r',⟨⟨e,a⟩,t⟩=>by
  refine⟨?_,DV.repl h k t⟩;dsimp only;by_cases c:p.1=k
  ·rw[aM c,aM (by rw[e,c])];exact⟨e,h⟩
  ·rw[aK c,aK (λz=>c (B_ (e.symm.trans z)))];exact⟨e,a⟩
theorem DV.snoc{x:A}{v:V}(h:AV K ρ H x v)(k:List Int):∀{kvs:List (List Int×A)}{ks:List (List Key×V)},DV K ρ H kvs ks->DV K ρ H (kvs++[(k,x)]) (ks++[(k.map Sum.inl,v)])
 | [],[],_=>⟨⟨rfl,h⟩,trivial⟩
 | p::r,q::r',⟨a,t⟩=>⟨a,DV.snoc h k t⟩
theorem DV.put{x:A}{v:V}(h:AV K ρ H x v)(k:List Int)(d:DV K ρ H kvs ks):DV K ρ H (putD kvs k x) (putK ks (k.map Sum.inl) v):=by
 unfold putD putK;rw[wo,<- (d.look k).1];by_cases c:(ly kvs k).isSome=true
 ·rw[aM c,aM c];exact DV.repl h k d
 ·rw[aK c,aK c];exact DV.snoc h k d
theorem DV.length:∀{kvs:List (List Int×A)}{ks:List (List Key×V)},DV K ρ H kvs ks->kvs.length=ks.length
 | [],[],_=>rfl
 | _::_,_::_,⟨_,t⟩=>dm (·+1) t.length
theorem Rel.dct{n:Nat}{a:ak}(R:Rel K ρ H S)(ha:ρ[n]?=some a)(hS:S[n]?=some (.dct xs)):∃vs,H a=some (.dT vs)/\DV K ρ H xs vs:=R.at n a _ ha hS
theorem Rel.aag{S:jG}{p:ak}(R:Rel K ρ H S)(hp:H p=none)(r:DV K ρ H xs vs):Ext ρ (ρ++[p]) H (upd H p (.dT vs))/\Rel K (ρ++[p]) (upd H p (.dT vs)) (S++[.dct xs])/\(ρ++[p])[S.length]?=some p:=by
 have ex:Ext ρ (ρ++[p]) H (upd H p (.dT vs)):=⟨⟨fQ _ _,λa u _ h=>by rw[jP (jY h hp)];exact h⟩,λa u h _=>by rw[jP (jY h hp)];exact h,λa h=>by
  rcases bF.mp h with z|z
  ·exact .inl z
  ·have e:a=p:=by simpa using z
   rw[e];exact .inr hp⟩
 have np:p∉ρ:=R.M5 hp;have last:(ρ++[p])[S.length]?=some p:=by rw[<- R.len];simp
 refine⟨ex,⟨by simp[R.len],?_,?_⟩,last⟩
 ·rw[dY];refine⟨R.nd,by simp,λa ha b hb e=>?_⟩;have:b=p:=by simpa using hb
  exact np (by rw[<- this,<- e];exact ha)
 ·intro n a o h1 h2;by_cases hn:n<S.length
  ·rw[bH (by rw[R.len];exact hn)]at h1;rw[bH hn]at h2;have na:a≠p:=λz=>np (by rw[<- z];exact aW h1);have:=R.at n a o h1 h2
   cases o with
   | lst ys=>obtain⟨ws,e,q⟩:=this;exact⟨ws,by rw[jP na];exact e,q.ext ex⟩
   | dct _|qV _=>obtain⟨ws,e,q⟩:=this;exact⟨ws,by rw[jP na];exact e,q.ext ex⟩
   | ins _ _=>obtain⟨oo,uu,e⟩:=this;exact⟨oo,uu,by rw[jP na];exact e⟩
  ·have e:n=S.length:=by
    have:=(aN.mp h2).1;simp at this;lia
   subst e;rw[last]at h1
   cases h1
   simp at h2;subst h2;exact⟨vs,lI,r.ext ex⟩
theorem Rel.putD{S:jG}{n:Nat}{a:ak}(R:Rel K ρ H S)(ha:ρ[n]?=some a)(hS:S[n]?=some (.dct xs))(r:DV K ρ H ys ws):Ext ρ ρ H (upd H a (.dT ws))/\Rel K ρ (upd H a (.dT ws)) (S.set n (.dct ys)):=by
 obtain⟨vs,e,_⟩:=R.at n a _ ha hS;have ex:Ext ρ ρ H (upd H a (.dT ws)):=⟨⟨fM _,λb u i h=>by
  have:b≠a:=by
   intro z;subst z;rw[e]at h;cases h;exact i
  rw[jP this];exact h⟩,λb u h n=>by
  rw[jP (λz=>n (by rw[z];exact aW ha))];exact h,λ_ h=>.inl h⟩
 refine⟨ex,by rw[b9];exact R.len,R.nd,λm b o h1 h2=>?_⟩;by_cases hm:m=n
 ·subst hm;rw[ha]at h1;cases h1;rw[bY (aN.mp hS).1]at h2
  cases h2
  exact⟨ws,lI,r.ext ex⟩
 ·rw[cE (c7 hm)]at h2;have nb:b≠a:=λz=>by
   subst z;obtain⟨l1,e1⟩:=aN.mp ha;obtain⟨l2,e2⟩:=aN.mp h1;exact hm ((dj R.nd).mp (e2.trans e1.symm))
  have:=R.at m b o h1 h2
  cases o with
  | lst ys=>obtain⟨ws',e',q⟩:=this;exact⟨ws',by rw[jP nb];exact e',q.ext ex⟩
  | dct _|qV _=>obtain⟨ws',e',q⟩:=this;exact⟨ws',by rw[jP nb];exact e',q.ext ex⟩
  | ins _ _=>obtain⟨oo,uu,e'⟩:=this;exact⟨oo,uu,by rw[jP nb];exact e'⟩
end
section
variable {X:Cx}{pos:Pos}{a b:aC}
theorem CC{H:Hp}{p q:ak}{n:Nat}{ns:List Int}(R:Rel X.K ρ H S)(hp:ρ[n]?=some p)(hn:j4 S n=some kvs)(hq:H q=some (.tup vs))(r:AVs X.K ρ H xs vs)(hi:A.ints xs=some ns) :
  ∃ks,H p=some (.dT ks)/\DV X.K ρ H kvs ks/\H q=some (.tup ((ns.map (Sum.inl:Int->Key)).map kV))/\vg H p (.ref q) (qc ks (ns.map Sum.inl)):=by
 obtain⟨ks,e,d⟩:=R.dct hp (n_ hn);have z:=yP r hi;subst z;rw[<- HM]at hq;exact⟨ks,e,d,hq,vg.t e hq⟩
noncomputable def vH (x y:A)(S:jG):R A:=match x,y with
 | .ref n,.tup xs=>opt (j4 S n) λkvs=>opt (A.ints xs) λns=>opt (ly kvs ns) λv=>.ok v S
 | _,_=>.no
theorem Ze(hu:X.A.units+64<cLine):Uq X (r2 X vH):=λvalue slice pins s σ H x y v u Q I rx ry ⟨ρ,S,a,b,R,va,vb,h⟩ hs=>by
 cases va with
 | @ref p n hp=>
  cases vb with
  | @tup q xs vs hq r=>
   obtain⟨kvs,hn,h⟩:=jN h;obtain⟨ns,hi,h⟩:=jN h;obtain⟨z,hz,h⟩:=jN h;obtain⟨ks,e,d,hq',g⟩:=CC R hp hn hq r hi;obtain⟨w,hw,aw⟩:=(d.look ns).2 z hz;rw[hw]at g;exact GX (by lia) value slice pins s σ H _ _ v u Q I rx ry ⟨p,w,rfl,g,h _ _ _ .refl R aw⟩ hs
  | _=>exact h.elim
 | _=>exact h.elim
theorem Au(hu:X.A.units+64<cLine){ca cb:Ex}(ha:AE X a ca)(hb:AE X b cb)(hs:yw b:=by exact λ_ _=>rfl):AE X (.Subscript a b pos) (jO vH ca cb):=PE.imp (Ph (Ze hu) ha hb hs) λσ H Q h=>uq h
noncomputable def KC (neg:Bool)(x y:A)(S:jG):R A:=match x,y with
 | .tup xs,.ref n=>opt (j4 S n) λkvs=>opt (A.ints xs) λns=>.ok (.bl (if neg then !(ly kvs ns).isSome else(ly kvs ns).isSome)) S
 | _,_=>.no
theorem EG(hu:X.A.units+64<cLine):o_ X (compareOp .NotIn) (r2 X (KC true)):=λpins s σ H x y v u Q I rx ry h9=>by
 obtain⟨ρ,S,a,b,R,va,vb,h⟩:=h9
 cases va with
 | @tup q xs vs hq r=>
  cases vb with
  | @ref p n hp=>
   obtain⟨kvs,hn,h⟩:=jN h;obtain⟨ns,hi,h⟩:=jN h;obtain⟨ks,e,d,hq',g⟩:=CC R hp hn hq r hi;exact KJ (by lia) pins s σ H _ _ v u Q I rx ry ⟨p,_,rfl,g,by rw[<- (d.look ns).1];exact h _ _ _ .refl R (.bl _)⟩
  | _=>exact h.elim
 | _=>exact h.elim
noncomputable def EL (o i v:A)(S:jG):R Unit:=match o,i with
 | .ref n,.tup xs=>opt (j4 S n) λkvs=>opt (A.ints xs) λns=>gd (kvs.length<sizeLine) (.ok () (S.set n (.dct (putD kvs ns v))))
 | _,_=>.no
noncomputable def Zy (X:Cx):JT:=λo i v H Q=>∃ρ S ao ai av,Rel X.K ρ H S/\AV X.K ρ H ao o/\AV X.K ρ H ai i/\AV X.K ρ H av v/\(EL ao ai av S).post (λ_ S'=>∀ρ' H',Ext ρ ρ' H H'->Rel X.K ρ' H' S'->Q H') (XE X ρ H)
theorem Ql(hu:X.A.units+64<cLine):JE X (Zy X):=λpins s σ H o i v ov iv u Q I ro ri rv h9=>by
 obtain⟨ρ,S,ao,ai,av,R,h1,h2,h3,h⟩:=h9
 cases h1 with
 | @ref p n hp=>
  cases h2 with
  | @tup q xs vs hq r=>
   obtain⟨kvs,hn,h⟩:=jN h;obtain⟨ns,hi,h⟩:=jN h;obtain⟨hl,h⟩:=kh h;obtain⟨ks,e,d,hq',g⟩:=CC R hp hn hq r hi;obtain⟨ex,R'⟩:=R.putD hp (n_ hn) (d.put h3 ns);exact set_dict (by lia) pins s σ H _ _ v ov iv u Q I ro ri rv ⟨p,_,rfl,Fe.t e hq' (by rw[<- d.length];exact hl),h _ _ ex R'⟩
  | _=>exact h.elim
 | _=>exact h.elim
noncomputable def B4 (co ci:Ex):Tg:=λa τ S=>(co τ S).bind λo S1=>(ci τ S1).bind λi S2=>(EL o i a S2).bind λ_ S3=>.ok τ S3
theorem uM(hu:X.A.units+64<cLine){co ci:Ex}(ho:AE X o co)(hi:AE X i ci)
  (ha:∀v,assign (.Subscript o i pos) X.env v=(do
   let ov <- holding [v] (eval o X.env)
   let iv <- holding [v,ov] (eval i X.env)
   standAt pos
   holding [v,ov,iv] (setItem ov iv v)
   release [v,ov,iv] []):=by intro _;rfl):AG X (.Subscript o i pos) (B4 co ci):=PG.imp (F4 ho hi (Ql hu) ha) λv σ H Q h9=>by
 obtain⟨ρ,S,τ,a,R,r,va,h⟩:=h9;refine⟨ρ,S,τ,R,r,jK (jM h) .refl λo S1 h1 ρ1 H1 x e1 R1 v1=>⟨ρ1,S1,τ,R1,r.ext e1,jK (jM h1) e1 λi S2 h2 ρ2 H2 y e2 R2 v2=>?_⟩⟩;refine⟨ρ2,S2,o,i,a,R2,v1.ext e2,v2,va.ext (e1.trans e2),jK (jM h2) (e1.trans e2) λ_ S3 h3 ρ3 H3 e3 R3=>?_⟩;exact h3 ρ3 H3 σ ((e1.trans e2).trans e3) R3 (r.ext ((e1.trans e2).trans e3))
noncomputable def uY:Ex:=λ_ S=>.ok (.ref S.length) (S++[.dct []])
theorem qq:AE X (.Dict [] [] pos) uY:=PE.imp Lz λσ H Q ⟨ρ,S,τ,R,r,h⟩ p hp=>by
 obtain⟨ex,R',hl⟩:=R.aag (xs:=[]) (vs:=[]) hp trivial;exact h _ _ _ ex R' (.ref hl)
noncomputable def dct? (a:A)(S:jG):Option Unit:=match a with
 | .ref n=>(j4 S n).map λ_=>()
 | _=>none
noncomputable def Wt (f:A->List A->jG->R A)(co:Ex)(d:qL):Ex:=λτ S=>(co τ S).bind λx S1=>opt (dct? x S1) λ_=>(d τ S1).bind λas S2=>f x as S2
theorem dct?_ty{K:au}{H:Hp}{x:A}{v:V}(R:Rel K ρ H S)(a:AV K ρ H x v)(e:dct? x S=some u):XZ K "dict" v H:=by
 cases a with
 | @ref p n h=>
  obtain⟨xs,hx,_⟩:=aX.mp e;obtain⟨vs,h1,_⟩:=R.dct h (n_ hx);exact .inr (.inr (.inl ⟨rfl,.inr ⟨vs,h1⟩⟩))
 | _=>cases e
theorem WL{e:aC}{id:String}{apos cpos:Pos}{f:A->List A->jG->R A}{co:Ex}{d:qL}(slot:Slot "dict" name id)(hty:typeOf (.builtin id)=pure (.type "method_descriptor"))(hm:TR X id (rM X f))(ho:AE X o co)(ha:AL X (e::es) d)
  (hbase:attributeBase o name X.env (eval o X.env)=eval o X.env:=by rfl)
  (hfew:((backTo cpos (starEach (e::es) X.env)).all (λx=>!x.1) && (backToKw cpos (keywordEach [] X.env)).all (λx=>x.1.isSome)
   && decide ((e::es).length+([]:List Keyword).length+(if ([]:List Keyword).isEmpty then 0 else 1)<30))=true:=by rfl)
  (hline:(apos.endLine == cpos.line)=true:=by rfl) (hs:starEach (e::es) X.env=(false,eval e X.env)::starEach es X.env:=by rfl) (hplain:(backTo cpos (starEach es X.env)).any (·.1)=false:=by rfl) :
  AE X (.Call (.Attribute o name apos) (e::es) [] cpos) (Wt f co d):=PE.imp (Lx PySem.F.plainAttrs_dict slot hty hm ho ha hbase hfew hline hs hplain) λσ H Q h9=>by
 obtain⟨ρ,S,τ,R,r,h⟩:=h9;refine⟨ρ,S,τ,R,r,jK (jM h) .refl λx S1 h1 ρ1 H1 v e1 R1 v1=>?_⟩;obtain⟨xs,hx,h1⟩:=jN h1;refine⟨dct?_ty R1 v1 hx,ρ1,S1,τ,R1,r.ext e1,jK (jM h1) e1 λas S2 h2 ρ2 H2 vs e2 R2 v2=>?_⟩;exact⟨ρ2,S2,x,as,R2,v1.ext e2,v2,jK h2 (e1.trans e2) λ_ _ z=>z.ext (e1.trans e2)⟩
noncomputable def Vg (o:A)(as:List A)(S:jG):R A:=match o,as with
 | .ref n,[.tup xs,y]=>opt (j4 S n) λkvs=>opt (A.ints xs) λk=>.ok ((ly kvs k).getD y) S
 | _,_=>.no
theorem Yd(hu:X.A.units+64<cLine):TR X "dict.get" (rM X Vg):=λpins s σ H x vs v us Q I rx rv h9=>by
 obtain⟨ρ,S,o,as,R,vo,va,h⟩:=h9
 cases vo with
 | @ref p n hp=>
  match as,va,h with
  | [],_,h=>exact h.elim
  | [z],_,h=>exact(by cases z<;>exact h.elim)
  | z::_::_::_,_,h=>exact(by cases z<;>exact h.elim)
  | [z,y],va,h=>
   obtain⟨w1,w2,rfl,hz,hy⟩:=WN va
   cases hz with
   | @tup q xs ws hq rr=>
    obtain⟨kvs,hn,h⟩:=jN h;obtain⟨ns,hi,h⟩:=jN h;have z:=yP rr hi;subst z;obtain⟨ks,h1,dv⟩:=R.dct hp (n_ hn);refine Rk (by lia) pins s σ H _ _ v us Q I rx rv ⟨p,q,ns.map Sum.inl,ks,w2,rfl,rfl,h1,by rw[HM];exact hq,h _ _ _ .refl R ?_⟩;obtain⟨l1,l2⟩:=dv.look ns
    cases e1:ly kvs ns with
    | none=>
     rw[e1]at l1
     cases e2:qc ks (ns.map Sum.inl)with
     | none=>exact hy
     | some _=>rw[e2]at l1;cases l1
    | some x1=>
     obtain⟨v1,e2,a1⟩:=l2 x1 e1;rw[e2];exact a1
   | _=>exact h.elim
 | _=>exact h.elim
end
section
variable {X:Cx}{pos:Pos}{a tg:aC}
noncomputable def Je (n k:Nat):Src:=⟨k,λi S=>(jE S n).bind λxs=>if i<k then xs[k-1-i]? else none,λ_=>true⟩
noncomputable def kRv (a:A)(S:jG):R Src:=match a with
 | .ref n=>opt (jE S n) λxs=>.ok (Je n xs.length) S
 | _=>.no
noncomputable def XX (c:Ex):Ic:=λτ S=>(c τ S).bind λa S1=>kRv a S1
theorem Xx{K:au}{ρ0:List ak}{H0:Hp}{p:ak}{n k:Nat}(hp:ρ0[n]?=some p):JR K (Je n k) (ZC K p k) ρ0 H0 where
 go:=λi S H ρ x e R g=>by
  obtain⟨xs,hn,g⟩:=cC.mp g;by_cases hi:i<k
  ·rw[aM hi]at g;obtain⟨vs,h1,r1⟩:=R.lst (e.get hp) (jU hn);obtain⟨v,ev,av⟩:=r1.get g;refine⟨⟨hi,vs,v,pW.of h1,ev⟩,λw H' z=>?_⟩;obtain⟨rfl,hz⟩:=z;rw[hz vs v (pW.of h1) ev];exact⟨.refl,R,av⟩
  ·rw[aK hi]at g;cases g
 stop:=λS H ρ e R hf=>aQ _
theorem Vi{p:Pos}{c:Ex}(hm:X.mg "reversed" = none)(ha:AE X a c)(hg:Gl X "reversed" := by rfl)(hs:starEach [a] X.env=[(false,eval a X.env)]:=by rfl):AI X tg (.Call (.Name "reversed" p) [a] [] pos) (XX c):=λpins s σ H Q I h9=>by
 obtain⟨ρ,S,τ,R,r,h⟩:=h9;refine VN hg hm (uy ha zZ hs) hs pins s σ H Q I ⟨ρ,S,τ,R,r,jK (jM h) .refl λx S1 h1 ρ1 H1 v e1 R1 v1=>?_⟩
 cases v1 with
 | @ref p n hp=>
  obtain⟨xs,hn,h1⟩:=jN h1;obtain⟨vs,g1,r1⟩:=R1.lst hp (jU hn);exact⟨_,vs,rfl,pW.of g1,h1 ρ1 H1 _ e1 R1 (by rw[<- r1.length];exact Xx hp)⟩
 | _=>exact h1.elim
theorem WT{c:Ex}{n:Nat}{xs:List A}(h:c τ S=.ok (.ref n) S1)(hn:jE S1 n=some xs):XX c τ S=.ok (Je n xs.length) S1:=by
 unfold XX;rw[h];show opt (jE S1 n) _=_;rw[hn];rfl
end
structure Out (ρ1:List ak)(H1:Hp)(D:ak)(accV:List V)(ρ:List ak)(H:Hp):Prop where
 e0:Ext0 ρ1 ρ H1 H
 fr:∀a u,a≠D->H1 a=some u->a∉ρ1->H a=some u
 nw:∀a∈ρ,a∈ρ1\/H1 a=none
 nD:D∉ρ
 hD:H D=some (.lst accV)
noncomputable def ZA (F:List A->jG->R A)(d:qL):Ex:=λτ S=>(d τ S).bind λas S1=>F as S1
noncomputable def bmV:List af:=[.type "ValueError",.type "Exception",.type "BaseException",.type "object"]
noncomputable def QK:List (Str ⊕ Ex)->List A->jG->R Unit
 | [],_,S=>.ok () S
 | .inl _::ps,τ,S=>QK ps τ S
 | .inr e::ps,τ,S=>(e τ S).bind λv S1=>match v with
  | .int i=>gd (i.natAbs.log2<64) (QK ps τ S1)
  | _=>.no
noncomputable def VC (c:Str)(ps:List (Str ⊕ Ex)):Sm:=λτ S=>.of (QK ps τ S) λ_ S1=>.ex c S1
noncomputable def SN (i:Nat):RS->RS
 | .nx τ S=>.nx (τ.set i .unb) S
 | .bk τ S=>.bk (τ.set i .unb) S
 | .ct τ S=>.ct (τ.set i .unb) S
 | .rt a S=>.rt a S
 | _=>.no
noncomputable def Y7 (i n:Nat)(cs:List Str)(c d:Sm):Sm:=λτ S=>match c τ S with
 | .ex x S1=>if x∈cs then SN i (d ((List.replicate n .unb).set i (.exn x)) S1)else .no
 | r=>r
noncomputable def ZJ (f:Str->Option Bool)(c:Ex):Ex:=λτ S=>(c τ S).bind λv S1=>match v with
 | .exn x=>opt (f x) λb=>.ok (.bl b) S1
 | _=>.no
structure ExcK (K:au)(U:ak)(c:Str)(C:ak):Prop where
 n:ClN K c C
 q:PySem.W.excIn K C bmV "ValueError.__new__" = true
 r:L2.mroIn K C=some (.ref U::bmV)
 x:XCls K C
 cl:(PySem.W.clsIn K C).isSome=true
 v:PySem.W.kitOne K (.ref C) (.type "ValueError")=some true
noncomputable def tbX (tb:List (Str×Bool)):Str->Option Bool:=λx=>tb.lookup x
noncomputable def Xc (F:List A->jG->R A)(d:qL):Ex:=λτ S=>match d τ S with
 | .ok as S1=>F as S1
 | _=>.no
section
variable {d:qL}
noncomputable def Yr (t:Te)(c d:Sm):Sm:=λτ S=>match t τ S with
 | .ok true S1=>c τ S1
 | .ok false S1=>d τ S1
 | _=>.no
end
noncomputable def Tf (i:Nat)(cs:List Str)(c d:Sm):Sm:=λτ S=>match c τ S with
 | .ex x S1=>if x∈cs then SN i (d (τ.set i (.exn x)) S1)else .no
 | r=>r
noncomputable def sNo:Sm:=λ_ _=>.no
theorem Uk{X:Cx}{st:aE}:AS X st sNo:=PS.imp Mx λD σ H ⟨ρ,S,τ,R,r,h⟩=>h.elim
theorem J2{K:au}{H:Hp}{a:ak}{ns:List Int}{F:List A->jG->R A}(hO:Rz H)(hS:pW K H a (ns.map V.int))(h:∃S',F [.frz (ns.map .int)] []=.ok (.bl true) S'):rf K 1 F [.ref a] H (λv _=>v=.bl true) λ_ _ _=>False:=by
 obtain⟨S',h⟩:=h;have fz:Fz K H a (ns.map V.int):=by
  rcases hS with(h|⟨o,h⟩)|h
  ·rcases hO a with z|⟨ob,xs,z⟩
   ·rw[h]at z;cases z
   ·rw[h]at z;cases z
  ·exact .inl ⟨o,h⟩
  ·exact .inr h
 exact⟨rfl,[],[],_,_,S',⟨rfl,dF,λn a o h=>by simp at h⟩,.cons (.frz fz (rC ns)) .nil,h,λρ' H' v _ _ hv=>Dk hv⟩
section
variable {P:aj}{w:ah}{K:au}{mg:Str->Option af}{base:aq}{f:ak}{fd:FuncData}{ps:List Str}{k n:Nat}
theorem Lj(h:n=ps.length):FnOk P w K mg base qj k f fd ps (rf K n λ_ _=>.no):=
 ⟨λ_ _ _ _ z=>z.1.trans h,λ_ _ _ _ _ _ _ _ _ _ _ _ _ z=>by obtain⟨_,_,_,_,_,_,_,_,e,_⟩:=z;cases e⟩
end
theorem MY{P:List af->Prop}(h:∀a0,P [a0]):∀us:List af,us.length=1->P us
 | [_],_=>h _
theorem Ew{P:List af->Prop}(h:∀a0 a1,P [a0,a1]):∀us:List af,us.length=2->P us
 | [_,_],_=>h _ _
theorem WX{n:Nat}{us:List af}(h:us.length=n+1):∃a t,us=a::t/\t.length=n:=by
 cases us with
 | nil=>simp at h
 | cons a t=>exact⟨a,t,rfl,by simpa using h⟩
theorem Zn{P:List af->Prop}(h:∀a0 a1 a2,P [a0,a1,a2]):∀us:List af,us.length=3->P us:=λus e=>by
 obtain⟨a0,t0,rfl,e0⟩:=WX e;obtain⟨a1,t1,rfl,e1⟩:=WX e0;obtain⟨a2,t2,rfl,e2⟩:=WX e1
 cases fK.mp e2
 exact h _ _ _
end Am
namespace Am
open PySem L2
section
variable {α β:Type}{a b:A}{S S1:jG}{τ:List A}{x:α}
@[simp] theorem R.oX {f:α->jG->R β}:(R.ok x S).bind f=f x S:=rfl
@[simp] theorem R.HV {f:α->jG->R β}{c:Str}:(R.ex c S:R α).bind f=.ex c S:=rfl
@[simp] theorem R.lC {f:α->jG->R β}:(R.ok x S).rj f=f x S:=rfl
@[simp] theorem RS.of_ok {f:α->jG->RS}:RS.of (R.ok x S) f=f x S:=rfl
@[simp] theorem RS.SO {f:α->jG->RS}{c:Str}:RS.of (R.ex c S:R α) f=.ex c S:=rfl
@[simp] theorem kK {f:β->R α}{y:β}:opt (some y) f=f y:=rfl
@[simp] theorem Im {r:R α}:gd True r=r:=aM trivial
theorem lz{c:Prop}[Decidable c]{r:R α}(h:c):gd c r=r:=aM h
@[simp] theorem IE {i:Nat}:jD i τ S=bif (τ.getD i .unb).qh then .no else .ok (τ.getD i .unb) S:=by unfold jD;cases(τ.getD i .unb).qh<;>rfl
@[simp] theorem II {xs:List A}:A.qh (.tup xs)=false:=rfl
@[simp] theorem Iz {xs:List A}:A.qh (.frz xs)=false:=rfl
@[simp] theorem Ho {i:Int}:A.qh (.int i)=false:=rfl
@[simp] theorem Om {i:Bool}:A.qh (.bl i)=false:=rfl
@[simp] theorem HZ {i:Str}:A.qh (.str i)=false:=rfl
@[simp] theorem Hf {i:Nat}:A.qh (.ref i)=false:=rfl
@[simp] theorem GO:A.qh .non=false:=rfl
@[simp] theorem I_ {i j:Int}:A.qh (.rng i j)=false:=rfl
@[simp] theorem Jw {c:Str}:A.qh (.exn c)=false:=rfl
@[simp] theorem SG:eC a τ S=.ok a S:=rfl
noncomputable def Xf (f:A->A->jG->R A)(cb:Ex)(τ:List A)(a:A)(S:jG):R A:=(cb τ S).bind (f a)
@[simp] theorem IB {f:A->A->jG->R A}{cb:Ex}:Xf f cb τ a S=(cb τ S).bind (f a):=rfl
@[simp] theorem HC {f:A->A->jG->R A}{ca cb:Ex}:jO f ca cb τ S=(ca τ S).bind (Xf f cb τ):=rfl
@[simp] theorem N1 {f:A->jG->R A}{ca:Ex}:Kg f ca τ S=(ca τ S).bind f:=rfl
@[simp] theorem GW {c:Ex}:AX c τ S=(c τ S).bind λa S1=>opt (a.TX S1) λb=>.ok b S1:=rfl
noncomputable def aB (a:A)(S:jG):R Bool:=match a with
 | .bl b=>.ok b S
 | _=>.no
@[simp] theorem TF {b:Bool}:aB (.bl b) S=.ok b S:=rfl
@[simp] theorem Pw {c:Ex}:vm c τ S=(c τ S).bind aB:=rfl
@[simp] theorem Hi {c:Te}:US c τ S=(c τ S).bind λb S1=>.ok (!b) S1:=rfl
noncomputable def VX (d:Te)(τ:List A)(b:Bool)(S:jG):R Bool:=match b with|true=>d τ S|false=>.ok false S
noncomputable def Z7 (d:Te)(τ:List A)(b:Bool)(S:jG):R Bool:=match b with|true=>.ok true S|false=>d τ S
@[simp] theorem Me {d:Te}:VX d τ true S=d τ S:=rfl
@[simp] theorem NZ {d:Te}:VX d τ false S=.ok false S:=rfl
@[simp] theorem TY {d:Te}:Z7 d τ true S=.ok true S:=rfl
@[simp] theorem Tp {d:Te}:Z7 d τ false S=d τ S:=rfl
@[simp] theorem Hh {c d:Te}:Rx c d τ S=(c τ S).bind (VX d τ):=rfl
@[simp] theorem MX {c d:Te}:bOr c d τ S=(c τ S).bind (Z7 d τ):=rfl
@[simp] theorem GN:sJ τ S=.ok true S:=rfl
noncomputable def Pz (d:Ex)(τ:List A)(a:A)(S:jG):R A:=match a with | .bl true=>d τ S | .bl false=>.ok (.bl false) S|_=>.no
noncomputable def WE (d:Ex)(τ:List A)(a:A)(S:jG):R A:=match a with | .bl true=>.ok (.bl true) S | .bl false=>d τ S|_=>.no
@[simp] theorem IL {d:Ex}:Pz d τ (.bl true) S=d τ S:=rfl
@[simp] theorem HQ {d:Ex}:Pz d τ (.bl false) S=.ok (.bl false) S:=rfl
@[simp] theorem Oq {d:Ex}:WE d τ (.bl true) S=.ok (.bl true) S:=rfl
@[simp] theorem Na {d:Ex}:WE d τ (.bl false) S=d τ S:=rfl
@[simp] theorem Jf {c d:Ex}:ML c d τ S=(c τ S).bind (Pz d τ):=by
 unfold ML
 cases c τ S with
 | ok a S1=>cases a<;>first|rfl|(rename_i b;cases b<;>rfl)
 | _=>rfl
@[simp] theorem Oe {c d:Ex}:eOr c d τ S=(c τ S).bind (WE d τ):=by
 unfold eOr
 cases c τ S with
 | ok a S1=>cases a<;>first|rfl|(rename_i b;cases b<;>rfl)
 | _=>rfl
noncomputable def Uc (a:A)(S:jG):R A:=match a with | .bl b=>.ok (.bl !b) S|_=>.no
@[simp] theorem ED {b:Bool}:Uc (.bl b) S=.ok (.bl !b) S:=rfl
@[simp] theorem Ik {c:Ex}:UA c τ S=(c τ S).bind Uc:=rfl
noncomputable def Wo (c d:Ex)(τ:List A)(b:Bool)(S:jG):R A:=match b with|true=>c τ S|false=>d τ S
@[simp] theorem MF {c d:Ex}:Wo c d τ true S=c τ S:=rfl
@[simp] theorem MJ {c d:Ex}:Wo c d τ false S=d τ S:=rfl
@[simp] theorem LM {t:Te}{c d:Ex}:eIf t c d τ S=(t τ S).bind (Wo c d τ):=rfl
@[simp] theorem Ir:jF τ S=.ok [] S:=rfl
noncomputable def Gg (a:A)(as:List A)(S:jG):R (List A):=.ok (a::as) S
noncomputable def Ug (d:qL)(τ:List A)(a:A)(S:jG):R (List A):=(d τ S).bind (Gg a)
@[simp] theorem BD {as:List A}:Gg a as S=.ok (a::as) S:=rfl
@[simp] theorem E1 {d:qL}:Ug d τ a S=(d τ S).bind (Gg a):=rfl
@[simp] theorem D6 {c:Ex}{d:qL}:jA c d τ S=(c τ S).bind (Ug d τ):=rfl
@[simp] theorem HH {d:qL}:lV d τ S=(d τ S).bind λas S1=>gd (as.length<=sizeLine) (.ok (.tup as) S1):=rfl
@[simp] theorem Ip {d:qL}:lX d τ S=(d τ S).bind newL:=rfl
theorem lJ{as:List A}(h:as.length<=16777216):newL as S=.ok (.ref S.length) (S++[.lst as]):=lz (by rw[eB];exact h)
@[simp] theorem D8 {f:List A->jG->R A}{d:qL}:j8 f d τ S=(d τ S).bind f:=rfl
noncomputable def Z3 (r:R A):R A:=match r with
 | .ok a S=>.ok a S
 | _=>.no
@[simp] theorem Lh:Z3 (.ok a S)=.ok a S:=rfl
noncomputable def kFn (f:List A->jG->R A)(as:List A)(S:jG):R A:=Z3 (f as S)
@[simp] theorem Ol {f:List A->jG->R A}{as:List A}:kFn f as S=Z3 (f as S):=rfl
@[simp] theorem OL {f:List A->jG->R A}{d:qL}:eFn f d τ S=(d τ S).bind (kFn f):=rfl
@[simp] theorem SA {g:A->jG->R A}:f1 g [a] S=g a S:=rfl
@[simp] theorem Ti {g:A->A->jG->R A}:f2 g [a,b] S=g a b S:=rfl
noncomputable def W0 (h:Pt)(τ:List A)(a:A)(l:Option Int)(S:jG):R A:=(h τ S).bind (Zv a l)
noncomputable def kSl (l h:Pt)(τ:List A)(a:A)(S:jG):R A:=(l τ S).bind (W0 h τ a)
@[simp] theorem IT {h:Pt}{l:Option Int}:W0 h τ a l S=(h τ S).bind (Zv a l):=rfl
@[simp] theorem O7 {l h:Pt}:kSl l h τ a S=(l τ S).bind (W0 h τ a):=rfl
@[simp] theorem MS {c:Ex}{l h:Pt}:eSl c l h τ S=(c τ S).bind (kSl l h τ):=rfl
@[simp] theorem Ed:Xl τ S=.ok none S:=rfl
noncomputable def aPt (a:A)(S:jG):R (Option Int):=match a with
 | .int i=>.ok (some i) S
 | _=>.no
@[simp] theorem Ib {i:Int}:aPt (.int i) S=.ok (some i) S:=rfl
@[simp] theorem EA {c:Ex}:YC c τ S=(c τ S).bind aPt:=rfl
noncomputable def UU (f:A->List A->jG->R A)(d:qL)(τ:List A)(o:A)(S:jG)(_:List A):R A:=(d τ S).bind (f o)
noncomputable def kMe (f:A->List A->jG->R A)(d:qL)(τ:List A)(o:A)(S:jG):R A:=opt (o.lst? S) (UU f d τ o S)
@[simp] theorem G_ {f:A->List A->jG->R A}{d:qL}{xs:List A}:UU f d τ a S xs=(d τ S).bind (f a):=rfl
@[simp] theorem M3 {f:A->List A->jG->R A}{d:qL}:kMe f d τ a S=opt (a.lst? S) (UU f d τ a S):=rfl
@[simp] theorem Pn {f:A->List A->jG->R A}{c:Ex}{d:qL}:Vp f c d τ S=(c τ S).bind (kMe f d τ):=rfl
@[simp] theorem Il {f:A->List A->jG->R A}{c:Ex}:ZN f c τ S=(c τ S).bind λo S1=>opt (o.lst? S1) λ_=>f o [] S1:=rfl
@[simp] theorem lst?_ref {n:Nat}:A.lst? S (.ref n)=jE S n:=rfl
noncomputable def RS.seq (r:RS)(d:Sm):RS:=match r with
 | .nx τ S=>d τ S
 | r=>r
@[simp] theorem RS.Ly {d:Sm}:RS.seq (.nx τ S) d=d τ S:=rfl
@[simp] theorem RS.Mz {d:Sm}:RS.seq (.rt a S) d=.rt a S:=rfl
@[simp] theorem RS.Nx {d:Sm}{c:Str}:RS.seq (.ex c S) d=.ex c S:=rfl
@[simp] theorem RS.LJ {d:Sm}:RS.seq (.bk τ S) d=.bk τ S:=rfl
@[simp] theorem RS.Ow {d:Sm}:RS.seq (.ct τ S) d=.ct τ S:=rfl
@[simp] theorem HU {c d:Sm}:jZ c d τ S=RS.seq (c τ S) d:=by unfold jZ RS.seq;cases c τ S<;>rfl
@[simp] theorem G4:oQ τ S=.nx τ S:=rfl
@[simp] theorem Bw:UM τ S=.bk τ S:=rfl
@[simp] theorem ET:YY τ S=.ct τ S:=rfl
@[simp] theorem DO {e:Ex}:pF e τ S=RS.of (e τ S) λ_ S1=>.nx τ S1:=rfl
@[simp] theorem HA {e:Ex}:lA e τ S=RS.of (e τ S) .rt:=rfl
@[simp] theorem Ff:YO τ S=.rt .non S:=rfl
noncomputable def Zg (c d:Sm)(τ:List A)(b:Bool)(S:jG):RS:=match b with|true=>c τ S|false=>d τ S
@[simp] theorem Uh {c d:Sm}:Zg c d τ true S=c τ S:=rfl
@[simp] theorem TJ {c d:Sm}:Zg c d τ false S=d τ S:=rfl
@[simp] theorem OF {t:Te}{c d:Sm}:wJ t c d τ S=RS.of (t τ S) (Zg c d τ):=rfl
noncomputable def XI (g:Tg)(τ:List A)(a:A)(S:jG):RS:=RS.of (g a τ S) .nx
@[simp] theorem Hq {g:Tg}:XI g τ a S=RS.of (g a τ S) .nx:=rfl
@[simp] theorem IQ {e:Ex}{g:Tg}:ku e g τ S=RS.of (e τ S) (XI g τ):=rfl
@[simp] theorem O1 {i:Nat}:kI i a τ S=.ok (τ.set i a) S:=rfl
noncomputable def U8 (a o:A)(τ:List A)(i:A)(S:jG):R (List A):=(EO o i a S).bind λ_ S3=>.ok τ S3
noncomputable def kSb (ci:Ex)(τ:List A)(a o:A)(S:jG):R (List A):=(ci τ S).bind (U8 a o τ)
@[simp] theorem Hr {o i:A}:U8 a o τ i S=(EO o i a S).bind λ_ S3=>.ok τ S3:=rfl
@[simp] theorem Ll {ci:Ex}{o:A}:kSb ci τ a o S=(ci τ S).bind (U8 a o τ):=rfl
@[simp] theorem Pf {co ci:Ex}:Wa co ci a τ S=(co τ S).bind (kSb ci τ a):=rfl
@[simp] theorem NF {n:Nat}{gs:PF}{xs:List A}:wK n gs (.tup xs) τ S=gd (xs.length=n) (gs xs τ S):=rfl
@[simp] theorem Pb:wF [] τ S=.ok τ S:=rfl
@[simp] theorem O6 {g:Tg}{gs:PF}{as:List A}:oG g gs (a::as) τ S=(g a τ S).bind (gs as):=rfl
noncomputable def sPr (i j:Nat)(τ:List A)(as:List A)(S:jG):RS:=match as with
 | [a,b]=>.nx ((τ.set i a).set j b) S
 | _=>.no
@[simp] theorem Ng {i j:Nat}:sPr i j τ [a,b] S=.nx ((τ.set i a).set j b) S:=rfl
@[simp] theorem IK {i j:Nat}{c:qL}:aaJ i j c τ S=RS.of (c τ S) (sPr i j τ):=rfl
noncomputable def NV (i:Nat)(τ:List A)(c:A)(S:jG):RS:=.nx (τ.set i c) S
noncomputable def Y6 (i:Nat)(f:A->A->jG->R A)(τ:List A)(b:A)(S:jG):RS:=.of (f (τ.getD i .unb) b S) (NV i τ)
@[simp] theorem Dq {i:Nat}:NV i τ a S=.nx (τ.set i a) S:=rfl
@[simp] theorem IG {i:Nat}{f:A->A->jG->R A}:Y6 i f τ a S=.of (f (τ.getD i .unb) a S) (NV i τ):=rfl
@[simp] theorem Iu {i:Nat}{f:A->A->jG->R A}{e:Ex}:Zd i f e τ S=bif (τ.getD i .unb).qh then .no else .of (e τ S) (Y6 i f τ):=by
 unfold Zd;cases(τ.getD i .unb).qh<;>rfl
noncomputable def ZH (o i:A)(τ:List A)(z:A)(S:jG):RS:=.of (EO o i z S) λ_ S6=>.nx τ S6
noncomputable def Z8 (f:A->A->jG->R A)(o i x:A)(τ:List A)(y:A)(S:jG):RS:=.of (f x y S) (ZH o i τ)
noncomputable def kS3 (ce:Ex)(f:A->A->jG->R A)(o i:A)(τ:List A)(x:A)(S:jG):RS:=.of (ce τ S) (Z8 f o i x τ)
noncomputable def ZY (ce:Ex)(f:A->A->jG->R A)(o:A)(τ:List A)(i:A)(S:jG):RS:=.of (Rm o i S) (kS3 ce f o i τ)
noncomputable def kS1 (ci ce:Ex)(f:A->A->jG->R A)(τ:List A)(o:A)(S:jG):RS:=.of (ci τ S) (ZY ce f o τ)
@[simp] theorem Lr {o i:A}:ZH o i τ a S=.of (EO o i a S) λ_ S6=>.nx τ S6:=rfl
@[simp] theorem OW {f:A->A->jG->R A}{o i x:A}:Z8 f o i x τ a S=.of (f x a S) (ZH o i τ):=rfl
@[simp] theorem MK {ce:Ex}{f:A->A->jG->R A}{o i:A}:kS3 ce f o i τ a S=.of (ce τ S) (Z8 f o i a τ):=rfl
@[simp] theorem Pq {ce:Ex}{f:A->A->jG->R A}{o:A}:ZY ce f o τ a S=.of (Rm o a S) (kS3 ce f o a τ):=rfl
@[simp] theorem Nd {ci ce:Ex}{f:A->A->jG->R A}:kS1 ci ce f τ a S=.of (ci τ S) (ZY ce f a τ):=rfl
@[simp] theorem Ef {co ci ce:Ex}{f:A->A->jG->R A}:Yx co ci ce f τ S=RS.of (co τ S) (kS1 ci ce f τ):=rfl
noncomputable def RS.end (r:RS):R A:=match r with
 | .rt a S'=>.ok a S'
 | .nx _ S'=>.ok .non S'
 | .ex c S'=>.ex c S'
 | _=>.no
@[simp] theorem RS.O2:RS.end (.rt a S)=.ok a S:=rfl
@[simp] theorem RS.K9:RS.end (.nx τ S)=.ok .non S:=rfl
@[simp] theorem RS.Lg {c:Str}:RS.end (.ex c S)=.ex c S:=rfl
theorem yD {N:List Str}{m:Sm}{as:List A}:mE N m as S=RS.end (m (as++List.replicate (N.length-as.length) .unb) S):=by
 unfold mE RS.end;cases m (as++List.replicate (N.length-as.length) .unb) S<;>rfl
@[simp] theorem LN {i j:Int}:nu (.int i) (.int j) S=.ok (.int (i+j)) S:=rfl
@[simp] theorem Og {i j:Int}:aSub (.int i) (.int j) S=.ok (.int (i-j)) S:=rfl
@[simp] theorem OA {i j:Int}:ZI (.int i) (.int j) S=.ok (.int (i+j)) S:=rfl
theorem Li{i j:Int}(h:-18446744073709551616<i)(h':i<18446744073709551616):BY (.int i) (.int j) S=.ok (.int (i * j)) S:=lz (by unfold Jr;simp;left;exact⟨by lia,by lia⟩)
theorem MO{i j:Int}(h:0<j)(h':j<1073741824):Hx (.int i) (.int j) S=.ok (.int (i / j)) S:=lz ⟨h,by lia⟩
theorem EE{i j:Int}(h:0<j):B8 (.int i) (.int j) S=.ok (.int (i % j)) S:=lz h
@[simp] theorem SK {i j:Int}:XQ (.int i) (.int j) S=.ok (.bl (decide (i<j))) S:=rfl
@[simp] theorem Sv {i j:Int}:Zo (.int i) (.int j) S=.ok (.bl (decide (i<=j))) S:=rfl
@[simp] theorem TM {i j:Int}:VG (.int i) (.int j) S=.ok (.bl (decide (j<i))) S:=rfl
@[simp] theorem SM {i j:Int}:XF (.int i) (.int j) S=.ok (.bl (decide (j<=i))) S:=rfl
@[simp] theorem TL {i j:Bool}:SX false (.bl i) (.bl j) S=.ok (.bl (i == j)) S:=rfl
@[simp] theorem OG {i j:Bool}:SX true (.bl i) (.bl j) S=.ok (.bl (i != j)) S:=rfl
@[simp] theorem ON {i:Int}:xR (.int i) S=.ok (.int (-i)) S:=rfl
@[simp] theorem M8 {xs:List A}:tN (.tup xs) S=.ok (.int xs.length) S:=rfl
@[simp] theorem Ob {xs:List A}:tN (.frz xs) S=.ok (.int xs.length) S:=rfl
@[simp] theorem Np {n:Nat}:tN (.ref n) S=opt (jE S n) λxs=>.ok (.int xs.length) S:=rfl
@[simp] theorem Lo {i:Int}:aaD (.int i) S=.ok (.int (if i<0 then -i else i)) S:=rfl
@[simp] theorem Jy {i j:Int}:M7 (.int i) (.int j) S=.ok (.int (if j>i then j else i)) S:=rfl
@[simp] theorem Jp {i j:Int}:NO (.int i) (.int j) S=.ok (.int (if j<i then j else i)) S:=rfl
@[simp] theorem Jm {i:Int}:zF (.int i) S=.ok (.int i) S:=rfl
@[simp] theorem Hu {i:Bool}:zF (.bl i) S=.ok (.int (if i then 1 else 0)) S:=rfl
@[simp] theorem Bc {i j:Int}:r8 (.int i) (.int j) S=.ok (.rng i j) S:=rfl
@[simp] theorem S_ {xs:List A}{i:Int}:sL (.tup xs) (.int i) S=opt (sd xs i) λx=>.ok x S:=rfl
@[simp] theorem TN {xs:List A}{i:Int}:sL (.frz xs) (.int i) S=opt (sd xs i) λx=>.ok x S:=rfl
@[simp] theorem Ud {n:Nat}{i:Int}:sL (.ref n) (.int i) S=opt (jE S n) λxs=>opt (sd xs i) λx=>.ok x S:=rfl
@[simp] theorem Lv {n:Nat}{k:Int}:EO (.ref n) (.int k) a S=opt (jE S n) λxs=>opt (A2 xs.length k) λj=>.ok () (S.set n (.lst (xs.set j a))):=rfl
@[simp] theorem Nv {n:Nat}{i:Int}:Rm (.ref n) (.int i) S=opt (jE S n) λxs=>gd (0<=i) (opt (xs[i.toNat]?) λx=>.ok x S):=rfl
theorem JN{i j:Int}(h:Af i j):tM (.rng i j) S=.ok (.ref S.length) (S++[.lst ((kP i j).map .int)]):=lz h
theorem F1{i j:Int}(h:Af i j):oO (.rng i j) S=.ok (.tup ((kP i j).map .int)) S:=lz h
@[simp] theorem Jo {xs:List A}:tM (.tup xs) S=.ok (.ref S.length) (S++[.lst xs]):=rfl
@[simp] theorem G3 {xs:List A}:tM (.frz xs) S=.ok (.ref S.length) (S++[.lst xs]):=rfl
@[simp] theorem HW {n:Nat}:tM (.ref n) S=opt (jE S n) λxs=>.ok (.ref S.length) (S++[.lst xs]):=rfl
@[simp] theorem Fl {xs:List A}:oO (.tup xs) S=.ok (.tup xs) S:=rfl
@[simp] theorem ES {n:Nat}:oO (.ref n) S=opt (jE S n) λxs=>.ok (.tup xs) S:=rfl
@[simp] theorem N9 {xs:List A}:YH (.tup xs) S=.ok (.tup xs.reverse) S:=rfl
@[simp] theorem M9 {n:Nat}:YH (.ref n) S=opt (jE S n) λxs=>.ok (.ref S.length) (S++[.lst xs.reverse]):=rfl
@[simp] theorem Tv {n:Nat}{l u:Option Int}:Zv (.ref n) l u S=opt (jE S n) λxs=>.ok (.ref S.length) (S++[.lst (RB xs l u)]):=rfl
@[simp] theorem zV {n:Nat}:uL (.ref n) [a] S=opt (jE S n) λxs=>gd (xs.length<sizeLine) (.ok .non (S.set n (.lst (xs++[a])))):=rfl
@[simp] theorem Ml {b:Bool}:A.TX (.bl b) S=some b:=rfl
@[simp] theorem IY {i:Int}:A.TX (.int i) S=some (i != 0):=rfl
theorem FT{o:O}:(S++[o])[S.length]?=some o:=by simp
@[simp] theorem jS {xs:List A}:jE (S++[.lst xs]) S.length=some xs:=vM FT
theorem kD{o:O}{n:Nat}(h:jE S n=some xs):jE (S++[o]) n=some xs:=by
 have h':=jU h;exact vM (by rw[bH (aN.mp h').1];exact h')
theorem nX{n:Nat}(h:jE S n=some xs):n<S.length:=(aN.mp (jU h)).1
theorem oV{n:Nat}(h:n<S.length):jE (S.set n (.lst ys)) n=some ys:=vM (bY h)
theorem oK{n:Nat}(h:n≠m):jE (S.set n (.lst ys)) m=jE S m:=by unfold jE;rw[cE h]
theorem F7{xs:List A}{i:Int}{k:Nat}{x:A}(h:i=k)(hx:xs[k]?=some x):sd xs i=some x:=by rw[h];exact Qg hx
theorem zz{n:Nat}{i:Int}{k:Nat}(h:i=k)(hk:k<n):A2 n i=some k:=by
 subst h;unfold A2;rw[aM (by lia),aM (by lia)];simp
end
structure Kp (b:Nat->Prop)(S S':jG):Prop where
 len:S.length<=S'.length
 obj:∀(n:Nat) (o:O),¬b n->S[n]?=some o->S'[n]?=some o
noncomputable abbrev lB:=Kp λ_=>False
theorem Kp.lst{b:Nat->Prop}(h:Kp b S S')(n:Nat)(xs:List A)(hb:¬b n)(e:jE S n=some xs):jE S' n=some xs:=vM (h.obj n _ hb (jU e))
theorem Kp.dct{b:Nat->Prop}(h:Kp b S S')(n:Nat)(xs:List (List Int×A))(hb:¬b n)(e:j4 S n=some xs):j4 S' n=some xs:=wm (h.obj n _ hb (n_ e))
theorem Kp.refl{b:Nat->Prop}:Kp b S S:=⟨aQ _,λ_ _ _ h=>h⟩
theorem Kp.trans{b:Nat->Prop}(h:Kp b S S1)(h':Kp b S1 S2):Kp b S S2:=⟨bJ h.len h'.len,λn xs hb e=>h'.obj n xs hb (h.obj n xs hb e)⟩
theorem BZ{S:jG}{n:Nat}(e:S[n]?=some o):n<S.length:=(aN.mp e).1
theorem Kp.lay{b:Nat->Prop}{o:O}(h:Kp b S S1):Kp b S (S1++[o]):=⟨bJ h.len (by simp),λn xs hb e=>by
 have:=h.obj n xs hb e;rw[bH (BZ this)];exact this⟩
theorem Kp.FY{b:Nat->Prop}{S S1:jG}(h:Kp b S S1)(hm:b m\/S.length<=m):Kp b S (S1.set m o):=⟨by rw[b9];exact h.len,λn xs hb e=>by
 have:m≠n:=λz=>by
  subst z
  rcases hm with z|z
  ·exact hb z
  ·exact absurd (BZ e) (by lia)
 rw[cE this];exact h.obj n xs hb e⟩
theorem Kp.set{b:Nat->Prop}{S S1:jG}(h:Kp b S S1)(hm:b m\/S.length<=m):Kp b S (S1.set m (.lst ys)):=h.FY hm
theorem Kp.mono{b c:Nat->Prop}{S:jG}(h:Kp b S S1)(hb:∀n,n<S.length->b n->c n):Kp c S S1:=⟨h.len,λn xs hc e=>h.obj n xs (λz=>hc (hb n (BZ e) z)) e⟩
theorem Kp.of0{b:Nat->Prop}(h:lB S S1):Kp b S S1:=h.mono λ_ _ z=>z.elim
theorem Kp.old{b c:Nat->Prop}{S:jG}(h:Kp b S S1)(h':Kp c S1 S2)(hc:∀n,n<S.length->¬b n->¬c n):Kp b S S2:=⟨bJ h.len h'.len,λn xs hb e=>h'.obj n xs (hc n (BZ e) hb) (h.obj n xs hb e)⟩
theorem vK{t:Te}{c:Sm}(Inv:List A->jG->Prop)(μ:List A->jG->Nat)(Post:RS->Prop)
  (h:∀τ S,Inv τ S->(∃S1,t τ S=.ok false S1/\Post (.nx τ S1))\/(∃S1,t τ S=.ok true S1/\((∃τ' S',c τ S1=.nx τ' S'/\Inv τ' S'/\μ τ' S'<μ τ S)\/(∃a S',c τ S1=.rt a S'/\Post (.rt a S'))))) :
  ∀n τ S,Inv τ S->μ τ S<n->Post (nP t c n τ S)
 | 0,_,_,_,hn=>absurd hn (eY _)
 | n+1,τ,S,hi,hn=>by
  unfold nP
  rcases h τ S hi with⟨S1,e,q⟩|⟨S1,e,⟨τ',S',e2,hi',hm⟩|⟨a,S',e2,q⟩⟩
  ·rw[e];exact q
  ·rw[e];show Post (match c τ S1 with
    | .nx τ' S'=>nP t c n τ' S'
    | .ct τ' S'=>nP t c n τ' S'
    | .bk τ' S'=>.nx τ' S'
    | r=>r)
   rw[e2];exact vK Inv μ Post h n τ' S' hi' (by lia)
  ·rw[e];show Post (match c τ S1 with
    | .nx τ' S'=>nP t c n τ' S'
    | .ct τ' S'=>nP t c n τ' S'
    | .bk τ' S'=>.nx τ' S'
    | r=>r)
   rw[e2];exact q
theorem De{s:Src}{g:Tg}{c:Sm}(Inv:Nat->List A->jG->Prop)(Post:RS->Prop)
  (step:∀i τ S,i<s.k->Inv i τ S->∃x τ1 S1,s.get i S=some x/\g x τ S=.ok τ1 S1/\((∃τ' S',c τ1 S1=.nx τ' S'/\Inv (i+1) τ' S')\/(∃a S',c τ1 S1=.rt a S'/\Post (.rt a S'))))
  (fin:∀τ S,Inv s.k τ S->s.fin S=true/\Post (.nx τ S)):∀k i τ S,k+i=s.k->Inv i τ S->Post (qJ s g c k i τ S)
 | 0,i,τ,S,hk,hi=>by
  have:i=s.k:=by lia
  subst this;obtain⟨hf,q⟩:=fin τ S hi;unfold qJ;rw[aM hf];exact q
 | k+1,i,τ,S,hk,hi=>by
  obtain⟨x,τ1,S1,hx,hg,h⟩:=step i τ S (by lia) hi;unfold qJ;rw[hx];show Post (RS.of (g x τ S) λτ1 S1=>match c τ1 S1 with
   | .nx τ' S'=>qJ s g c k (i+1) τ' S'
   | .ct τ' S'=>qJ s g c k (i+1) τ' S'
   | .bk τ' S'=>.nx τ' S'
   | r=>r)
  rw[hg];show Post (match c τ1 S1 with
   | .nx τ' S'=>qJ s g c k (i+1) τ' S'
   | .ct τ' S'=>qJ s g c k (i+1) τ' S'
   | .bk τ' S'=>.nx τ' S'
   | r=>r)
  rcases h with⟨τ',S',e,hi'⟩|⟨a,S',e,q⟩
  ·rw[e];exact De Inv Post step fin k (i+1) τ' S' (by lia) hi'
  ·rw[e];exact q
theorem HS{lo hi:Int}{c:Sm}{src:Ic}{τ:List A}(hs:src τ S=.ok (t8 lo hi) S1)(Inv:Nat->List A->jG->Prop)(Post:RS->Prop)(h0:Inv 0 τ S1)
  (step:∀(i:Nat) τ S,(i:Int)<hi-lo->Inv i τ S->(∃τ' S',c (τ.set j (.int (lo+i))) S=.nx τ' S'/\Inv (i+1) τ' S')\/(∃a S',c (τ.set j (.int (lo+i))) S=.rt a S'/\Post (.rt a S')))
  (fin:∀τ S,Inv (hi-lo).toNat τ S->Post (.nx τ S)):Post (mw src (kI j) c τ S):=by
 unfold mw;rw[hs];refine De (s:=t8 lo hi) Inv Post (λi τ S hi' h=>?_) (λτ S h=>⟨rfl,fin τ S h⟩) _ 0 τ S1 rfl h0;have hi':i<(hi-lo).toNat:=hi';exact⟨.int (lo+i),_,S,aM hi',rfl,step i τ S (by lia) h⟩
theorem Vd{xs:List A}{g:Tg}{c:Sm}{src:Ic}(hs:src τ S=.ok (Dy xs) S1)(Inv:Nat->List A->jG->Prop)(Post:RS->Prop)(h0:Inv 0 τ S1)
  (step:∀(i:Nat) x τ S,xs[i]?=some x->Inv i τ S->∃τ1 S1,g (.tup [.int i,x]) τ S=.ok τ1 S1/\((∃τ' S',c τ1 S1=.nx τ' S'/\Inv (i+1) τ' S')\/(∃a S',c τ1 S1=.rt a S'/\Post (.rt a S'))))
  (fin:∀τ S,Inv xs.length τ S->Post (.nx τ S)):Post (mw src g c τ S):=by
 unfold mw;rw[hs];refine De (s:=Dy xs) Inv Post (λi τ S hi' h=>?_) (λτ S h=>⟨rfl,fin τ S h⟩) _ 0 τ S1 rfl h0;have hi':i<xs.length:=hi';obtain⟨τ1,S1,e,q⟩:=step i xs[i] τ S (aF hi') h;exact⟨.tup [.int i,xs[i]],τ1,S1,by show(xs[i]?).map _=_;rw[aF hi'];rfl,e,q⟩
theorem pU{n:Nat}{xs:List A}{g:Tg}{c:Sm}{src:Ic}(hs:src τ S=.ok (kY n xs.length) S1)(Inv:Nat->List A->jG->Prop)(Post:RS->Prop)(h0:Inv 0 τ S1)(hl:∀i τ S,Inv i τ S->jE S n=some xs)
  (step:∀(i:Nat) x τ S,xs[i]?=some x->Inv i τ S->∃τ1 S1,g x τ S=.ok τ1 S1/\((∃τ' S',c τ1 S1=.nx τ' S'/\Inv (i+1) τ' S')\/(∃a S',c τ1 S1=.rt a S'/\Post (.rt a S'))))
  (fin:∀τ S,Inv xs.length τ S->Post (.nx τ S)):Post (mw src g c τ S):=by
 unfold mw;rw[hs];refine De (s:=kY n xs.length) Inv Post (λi τ S hi' h=>?_) (λτ S h=>⟨?_,fin τ S h⟩) _ 0 τ S1 rfl h0
 ·have hi':i<xs.length:=hi';obtain⟨τ1,S1,e,q⟩:=step i xs[i] τ S (aF hi') h;exact⟨xs[i],τ1,S1,by show(jE S n).bind _=_;rw[hl i τ S h];exact aF hi',e,q⟩
 ·show(match jE S n with
   | some ys=>decide (ys.length<=xs.length)
   | none=>false)=true
  rw[hl _ τ S h];exact bh (aQ _)
@[simp] theorem EN {c:Ex}{τ:List A}{S S1:jG}{j:Int}(h:c τ S=.ok (.int j) S1)(hb:bnd j):zf c τ S=.ok (t8 0 j) S1:=by
 unfold zf;rw[h];exact lz hb
theorem O_{c d:Ex}{i j:Int}(h:c τ S=.ok (.int i) S1)(h':d τ S1=.ok (.int j) S2)(hb:bnd i)(hb':bnd j):zX c d τ S=.ok (t8 i j) S2:=by
 unfold zX;rw[h];show(d τ S1).bind _=_;rw[h'];exact lz ⟨hb,hb'⟩
theorem mT{c:Ex}{n:Nat}{xs:List A}(h:c τ S=.ok (.ref n) S1)(hl:jE S1 n=some xs):nE c τ S=.ok (kY n xs.length) S1:=by
 unfold nE;rw[h];show opt (jE S1 n) _=_;rw[hl];rfl
theorem V6{c:Ex}(h:c τ S=.ok (.tup xs) S1):Qh c τ S=.ok (Dy xs) S1:=by unfold Qh;rw[h];rfl
theorem vU{s:Src}{g:Tg}{t:Te}{e:Ex}{P:jG->Prop}{T:List A->Prop}(it:Nat->A)(p:Nat->Bool)(f:Nat->A)
  (hget:∀i S,i<s.k->P S->s.get i S=some (it i)) (hfin:∀S,P S->s.fin S=true)
  (step:∀i τ S,i<s.k->T τ->P S->∃τ1 S1 S2,g (it i) τ S=.ok τ1 S1/\t τ1 S1=.ok (p i) S2/\T τ1/\(p i=false->P S2)/\(p i=true->∃S3,e τ1 S2=.ok (f i) S3/\P S3)) :
  ∀k i τ S,k+i=s.k->T τ->P S->∃S',ny s g t e k i τ S=.ok (((List.range' i k).filter p).map f) S'/\P S'
 | 0,i,τ,S,hk,hT,hP=>⟨S,by unfold ny;rw[aM (hfin S hP)];rfl,hP⟩
 | k+1,i,τ,S,hk,hT,hP=>by
  obtain⟨τ1,S1,S2,hg,ht,hT1,hF,hTr⟩:=step i τ S (by lia) hT hP;unfold ny;rw[hget i S (by lia) hP,kK,hg,R.lC,ht,R.lC,List.range'_succ,cX]
  cases hp:p i with
  | false=>
   obtain⟨S',h1,h2⟩:=vU it p f hget hfin step k (i+1) τ1 S2 (by lia) hT1 (hF hp);exact⟨S',by simpa using h1,h2⟩
  | true=>
   obtain⟨S3,he,hP3⟩:=hTr hp;obtain⟨S',h1,h2⟩:=vU it p f hget hfin step k (i+1) τ1 S3 (by lia) hT1 hP3;refine⟨S',?_,h2⟩;show(e τ1 S2).rj _=_;rw[he,R.lC,h1];rfl
theorem Ba{s:Src}{src:Ic}{t:Te}{e:Ex}{S1:jG}(hs:src τ S=.ok s S1)(it:Nat->A)(p:Nat->Bool)(f:Nat->A)(hget:∀i,i<s.k->s.get i S1=some (it i))(hfin:s.fin S1=true)
  (ht:∀i,i<s.k->t (it i::mz cap τ) S1=.ok (p i) S1) (he:∀i,i<s.k->p i=true->e (it i::mz cap τ) S1=.ok (f i) S1) (hl:s.k<=16777216) :
  kZ (none::cap) src (kI 0) t e τ S=.ok (.ref S1.length) (S1++[.lst (((List.range s.k).filter p).map f)]):=by
 unfold kZ;rw[hs,R.oX];obtain⟨S',h1,h2⟩:=vU (s:=s) (g:=kI 0) (t:=t) (e:=e) (P:=λS=>S=S1) (T:=λτ'=>∃y,τ'=y::mz cap τ) it p f (λi S hi h=>by subst h;exact hget i hi) (λS h=>by subst h;exact hfin)
  (λi τ' S hi ⟨y,hy⟩ h=>by
   subst h hy;exact⟨it i::mz cap τ,S,S,rfl,ht i hi,⟨_,rfl⟩,λ_=>rfl,λhp=>⟨S,he i hi hp,rfl⟩⟩) s.k 0 (mz (none::cap) τ) S1 rfl ⟨_,rfl⟩ rfl
 subst h2;rw[h1,R.lC,f7];refine lJ ?_;rw[aH];refine bJ (dI _ _) ?_;rw[List.length_range'];exact hl
theorem rP{α β:Type}(xs:List α)(p:α->Bool)(f:α->β):∀(d:α) ,(((List.range xs.length).filter λi=>p (xs.getD i d)).map λi=>f (xs.getD i d))=(xs.filter p).map f:=by
 intro d
 induction xs with
 | nil=>rfl
 | cons x xs ih=>
  rw[aZ,gS,cX,cX];have e:((List.filter (λi=>p ((x::xs).getD i d)) (List.map Nat.succ (List.range xs.length))).map λi=>f ((x::xs).getD i d))=(xs.filter p).map f:=by
   rw[ju,bu];rw[<- ih];rfl
  show List.map _ (if p x=true then _ else _)=List.map f (if p x=true then _ else _);by_cases hp:p x=true
  ·rw[aM hp,aM hp,bE,bE,e];rfl
  ·rw[aK hp,aK hp,e]
theorem MW{lo hi:Int}{src:Ic}{t:Te}{e:Ex}{S1:jG}(hs:src τ S=.ok (t8 lo hi) S1)(p:Int->Bool)(f:Int->A)
  (ht:∀k,lo<=k->k<hi->t (.int k::mz cap τ) S1=.ok (p k) S1) (he:∀k,lo<=k->k<hi->p k=true->e (.int k::mz cap τ) S1=.ok (f k) S1) (hl:(hi-lo).toNat<=16777216) :
  kZ (none::cap) src (kI 0) t e τ S=.ok (.ref S1.length) (S1++[.lst (((kP lo hi).filter p).map f)]):=by
 rw[Ba hs (λi=>.int (lo+i)) (λi=>p (lo+i)) (λi=>f (lo+i)) (λi hi'=>aM hi') rfl (λi hi'=>ht _ (by lia) (by have:i<(hi-lo).toNat:=hi';lia)) (λi hi'=>he _ (by lia) (by have:i<(hi-lo).toNat:=hi';lia)) hl];unfold kP;rw[ju,bu];rfl
@[simp] theorem My {cap:List (Option Nat)}{τ:List A}:mz (none::cap) τ=.unb::mz cap τ:=rfl
@[simp] theorem MA {cap:List (Option Nat)}{τ:List A}{j:Nat}:mz (some j::cap) τ=τ.getD j .unb::mz cap τ:=rfl
@[simp] theorem EJ {τ:List A}:mz [] τ=[]:=rfl
theorem EI{x:A}:sd (x::xs) 0=some x:=F7 (k:=0) rfl rfl
theorem Tq{x:A}:sd (x::y::xs) 1=some y:=F7 (k:=1) rfl rfl
theorem CP{ns:List Int}{i:Int}{k:Nat}{x:Int}(h:i=k)(hx:ns[k]?=some x):sd (ns.map A.int) i=some (.int x):=F7 h (by rw[aR,hx];rfl)
theorem Ci{j:Int}(h:-4611686018427387904<=j)(h':j<4611686018427387904):bnd j:=⟨by lia,by lia⟩
theorem E8{i j:Int}(h1:-1000000<=i)(h2:i<=1000000)(h3:-1000000<=j)(h4:j<=1000000)(h5:j-i<=1000):Af i j:=⟨⟨by lia,by lia,by lia,by lia⟩,by lia⟩
theorem ints_map:∀(ns:List Int),A.ints (ns.map .int)=some ns
 | []=>rfl
 | n::ns=>by show(A.ints (ns.map .int)).map (n::·)=_;rw[ints_map ns];rfl
theorem uP{n:Nat}:∀(xs ys:List Int),qe (qU S (n+1)) (xs.map .int) (ys.map .int)=some (decide (xs=ys))
 | [],[]=>rfl
 | [],_::_=>rfl
 | _::_,[]=>rfl
 | x::xs,y::ys=>by
  show(qU S (n+1) (.int x) (.int y)).bind _=_;show Option.bind (some (x == y)) _=_;show Option.map _ (qe (qU S (n+1)) (xs.map .int) (ys.map .int))=_;rw[uP xs ys];show some (x == y && decide (xs=ys))=_;by_cases h1:x=y<;>by_cases h2:xs=ys<;>simp[h1,h2]
@[simp] theorem T9 {S:jG}{x y:Bool}:sM false (.bl x) (.bl y) S=.ok (.bl (x == y)) S:=rfl
@[simp] theorem Uo {S:jG}{x y:Bool}:sM true (.bl x) (.bl y) S=.ok (.bl (!(x == y))) S:=rfl
@[simp] theorem Tr {S:jG}{x y:Int}:sM false (.int x) (.int y) S=.ok (.bl (x == y)) S:=rfl
@[simp] theorem SJ {S:jG}{x y:Int}:sM true (.int x) (.int y) S=.ok (.bl (!(x == y))) S:=rfl
@[simp] theorem G5 {S:jG}:SX false .non .non S=.ok (.bl true) S:=rfl
@[simp] theorem G7 {S:jG}{xs:List A}:SX false (.tup xs) .non S=.ok (.bl false) S:=rfl
@[simp] theorem Hv {S:jG}{n:Nat}:SX false (.ref n) .non S=.ok (.bl false) S:=rfl
@[simp] theorem Ea {S:jG}:SX true .non .non S=.ok (.bl false) S:=rfl
@[simp] theorem Du {S:jG}{xs:List A}:SX true (.tup xs) .non S=.ok (.bl true) S:=rfl
@[simp] theorem Eb {S:jG}{n:Nat}:SX true (.ref n) .non S=.ok (.bl true) S:=rfl
@[simp] theorem Js {S:jG}{x:A}{c:String}:Q3 x (.ty c) S=opt (x.kd S) λk=>opt (KU k c) λb=>.ok (.bl b) S:=rfl
@[simp] theorem Sy {S:jG}{b:Bool}:A.kd (.bl b) S=some .bl:=rfl
@[simp] theorem K8 {S:jG}{b:Int}:A.kd (.int b) S=some .int:=rfl
@[simp] theorem MB {S:jG}{b:List A}:A.kd (.tup b) S=some .tup:=rfl
@[simp] theorem Mc {S:jG}:A.kd .non S=some .non:=rfl
@[simp] theorem LU {S:jG}{b:Str}:A.kd (.str b) S=some .str:=rfl
@[simp] theorem NR {S:jG}{n:Nat}:A.kd (.ref n) S=(jE S n).map λ_=>.lst:=rfl
@[simp] theorem Mt {S:jG}:newL [] S=.ok (.ref S.length) (S++[.lst []]):=lJ (by simp)
@[simp] theorem OU {S:jG}{x0:A}:newL [x0] S=.ok (.ref S.length) (S++[.lst [x0]]):=lJ (by simp)
@[simp] theorem OX {S:jG}{x0 x1:A}:newL [x0,x1] S=.ok (.ref S.length) (S++[.lst [x0,x1]]):=lJ (by simp)
@[simp] theorem Nl {S:jG}{x0 x1 x2:A}:newL [x0,x1,x2] S=.ok (.ref S.length) (S++[.lst [x0,x1,x2]]):=lJ (by simp)
@[simp] theorem Nk {S:jG}{x0 x1 x2 x3:A}:newL [x0,x1,x2,x3] S=.ok (.ref S.length) (S++[.lst [x0,x1,x2,x3]]):=lJ (by simp)
@[simp] theorem OZ {S:jG}{x0 x1 x2 x3 x4:A}:newL [x0,x1,x2,x3,x4] S=.ok (.ref S.length) (S++[.lst [x0,x1,x2,x3,x4]]):=lJ (by simp)
@[simp] theorem La {S:jG}{x0 x1 x2 x3 x4 x5:A}:newL [x0,x1,x2,x3,x4,x5] S=.ok (.ref S.length) (S++[.lst [x0,x1,x2,x3,x4,x5]]):=lJ (by simp)
@[simp] theorem PC {S:jG}{x0 x1 x2 x3 x4 x5 x6:A}:newL [x0,x1,x2,x3,x4,x5,x6] S=.ok (.ref S.length) (S++[.lst [x0,x1,x2,x3,x4,x5,x6]]):=lJ (by simp)
@[simp] theorem LC {S:jG}{x0 x1 x2 x3 x4 x5 x6 x7:A}:newL [x0,x1,x2,x3,x4,x5,x6,x7] S=.ok (.ref S.length) (S++[.lst [x0,x1,x2,x3,x4,x5,x6,x7]]):=lJ (by simp)
@[simp] theorem Mu {S:jG}{x0 x1 x2 x3 x4 x5 x6 x7 x8:A}:newL [x0,x1,x2,x3,x4,x5,x6,x7,x8] S=.ok (.ref S.length) (S++[.lst [x0,x1,x2,x3,x4,x5,x6,x7,x8]]):=lJ (by simp)
@[simp] theorem Ia {S:jG}{x0 x1 x2 x3 x4 x5 x6 x7 x8 x9:A}:newL [x0,x1,x2,x3,x4,x5,x6,x7,x8,x9] S=.ok (.ref S.length) (S++[.lst [x0,x1,x2,x3,x4,x5,x6,x7,x8,x9]]):=lJ (by simp)
theorem sU{α:Type}{n:Nat}{r:R α}(h:n<=16777216):gd (n<=sizeLine) r=r:=lz (by rw[eB];exact h)
theorem xY{α:Type}{n:Nat}{r:R α}(h:n<16777216):gd (n<sizeLine) r=r:=lz (by rw[eB];exact h)
theorem Sq {x:A}{xs:List A}:(x::xs).getD 0 .unb=x:=rfl
theorem Ur {x:A}{xs:List A}{n:Nat}:(x::xs).getD (n+1) .unb=xs.getD n .unb:=rfl
theorem XD {x y:A}{xs:List A}:(x::xs).set 0 y=y::xs:=rfl
theorem sets {x y:A}{xs:List A}{n:Nat}:(x::xs).set (n+1) y=x::xs.set n y:=rfl
theorem rep0 {x:A}:List.replicate 0 x=[]:=rfl
theorem reps {x:A}{n:Nat}:List.replicate (n+1) x=x::List.replicate n x:=rfl
theorem Yk {x:A}{xs ys:List A}:(x::xs)++ys=x::(xs++ys):=rfl
theorem Yh {ys:List A}:[]++ys=ys:=rfl
theorem XS{S:jG}{n:Nat}{xs ys:List A}(h:jE S n=some xs)(h':jE S m=some ys)(hl:xs.length+ys.length<=16777216):nu (.ref n) (.ref m) S=.ok (.ref S.length) (S++[.lst (xs++ys)]):=by
 show opt (jE S n) _=_;rw[h,kK,h',kK];exact lz (by rw[eB];exact hl)
theorem kC:type_of% (anI @R.oX (anI @R.HV (anI @R.lC (anI @RS.of_ok (anI @RS.SO (anI @kK (anI @Im (anI @IE (anI @II (anI @Iz (anI @Ho (anI @Om (anI @HZ (anI @Hf (anI @GO (anI @I_ (anI @Jw (anI @SG (anI @HC (anI @N1 (anI @GW (anI @TF (anI @Pw (anI @Hi (anI @Hh (anI @MX (anI @GN (anI @IL (anI @HQ (anI @Oq (anI @Na (anI @Jf (anI @Oe (anI @ED (anI @Ik (anI @LM (anI @Ir (anI @D6 (anI @HH (anI @Ip (anI @D8 (anI @Lh (anI @OL (anI @SA (anI @Ti (anI @MS (anI @Ed (anI @Ib (anI @EA (anI @Pn (anI @Il (anI @lst?_ref (anI @RS.Ly (anI @RS.Mz (anI @RS.Nx (anI @RS.LJ (anI @RS.Ow (anI @HU (anI @G4 (anI @Bw (anI @ET (anI @DO (anI @HA (anI @Ff (anI @OF (anI @IQ (anI @O1 (anI @Pf (anI @NF (anI @Pb (anI @O6 (anI @Ng (anI @IK (anI @Iu (anI @Ef (anI @RS.O2 (anI @RS.K9 (anI @RS.Lg (anI @LN (anI @Og (anI @OA (anI @SK (anI @Sv (anI @TM (anI @SM (anI @TL (anI @OG (anI @ON (anI @M8 (anI @Ob (anI @Np (anI @Lo (anI @Jy (anI @Jp (anI @Jm (anI @Hu (anI @Bc (anI @S_ (anI @TN (anI @Ud (anI @Lv (anI @Nv (anI @Jo (anI @G3 (anI @HW (anI @Fl (anI @ES (anI @N9 (anI @M9 (anI @Tv (anI @zV (anI @Ml (anI @IY (anI @jS (anI @My (anI @MA (anI @EJ (anI @T9 (anI @Uo (anI @Tr (anI @SJ (anI @G5 (anI @G7 (anI @Hv (anI @Ea (anI @Du (anI @Eb (anI @Js (anI @Sy (anI @K8 (anI @MB (anI @Mc (anI @LU (anI @NR (anI @Mt (anI @OU (anI @OX (anI @Nl (anI @Nk (anI @OZ (anI @La (anI @PC (anI @LC (anI @Mu (anI @Ia (anI @Sq (anI @Ur (anI @XD (anI @sets (anI @rep0 (anI @reps (anI @Yk (anI @Yh (anI @yD (anI @IB (anI @Me (anI @NZ (anI @TY (anI @Tp (anI @MF (anI @MJ (anI @BD (anI @E1 (anI @Ol (anI @IT (anI @O7 (anI @G_ (anI @M3 (anI @Uh (anI @TJ (anI @Hq (anI @Hr (anI @Ll (anI @Dq (anI @IG (anI @Nd (anI @Pq (anI @MK (anI @OW (@Lr)))))))))))))))))))))))))))))))))))))))))))))))))))))))))))))))))))))))))))))))))))))))))))))))))))))))))))))))))))))))))))))))))))))))))))))))))))))))))))))))))))))))))))))))))))):=anI @R.oX (anI @R.HV (anI @R.lC (anI @RS.of_ok (anI @RS.SO (anI @kK (anI @Im (anI @IE (anI @II (anI @Iz (anI @Ho (anI @Om (anI @HZ (anI @Hf (anI @GO (anI @I_ (anI @Jw (anI @SG (anI @HC (anI @N1 (anI @GW (anI @TF (anI @Pw (anI @Hi (anI @Hh (anI @MX (anI @GN (anI @IL (anI @HQ (anI @Oq (anI @Na (anI @Jf (anI @Oe (anI @ED (anI @Ik (anI @LM (anI @Ir (anI @D6 (anI @HH (anI @Ip (anI @D8 (anI @Lh (anI @OL (anI @SA (anI @Ti (anI @MS (anI @Ed (anI @Ib (anI @EA (anI @Pn (anI @Il (anI @lst?_ref (anI @RS.Ly (anI @RS.Mz (anI @RS.Nx (anI @RS.LJ (anI @RS.Ow (anI @HU (anI @G4 (anI @Bw (anI @ET (anI @DO (anI @HA (anI @Ff (anI @OF (anI @IQ (anI @O1 (anI @Pf (anI @NF (anI @Pb (anI @O6 (anI @Ng (anI @IK (anI @Iu (anI @Ef (anI @RS.O2 (anI @RS.K9 (anI @RS.Lg (anI @LN (anI @Og (anI @OA (anI @SK (anI @Sv (anI @TM (anI @SM (anI @TL (anI @OG (anI @ON (anI @M8 (anI @Ob (anI @Np (anI @Lo (anI @Jy (anI @Jp (anI @Jm (anI @Hu (anI @Bc (anI @S_ (anI @TN (anI @Ud (anI @Lv (anI @Nv (anI @Jo (anI @G3 (anI @HW (anI @Fl (anI @ES (anI @N9 (anI @M9 (anI @Tv (anI @zV (anI @Ml (anI @IY (anI @jS (anI @My (anI @MA (anI @EJ (anI @T9 (anI @Uo (anI @Tr (anI @SJ (anI @G5 (anI @G7 (anI @Hv (anI @Ea (anI @Du (anI @Eb (anI @Js (anI @Sy (anI @K8 (anI @MB (anI @Mc (anI @LU (anI @NR (anI @Mt (anI @OU (anI @OX (anI @Nl (anI @Nk (anI @OZ (anI @La (anI @PC (anI @LC (anI @Mu (anI @Ia (anI @Sq (anI @Ur (anI @XD (anI @sets (anI @rep0 (anI @reps (anI @Yk (anI @Yh (anI @yD (anI @IB (anI @Me (anI @NZ (anI @TY (anI @Tp (anI @MF (anI @MJ (anI @BD (anI @E1 (anI @Ol (anI @IT (anI @O7 (anI @G_ (anI @M3 (anI @Uh (anI @TJ (anI @Hq (anI @Hr (anI @Ll (anI @Dq (anI @IG (anI @Nd (anI @Pq (anI @MK (anI @OW (@Lr)))))))))))))))))))))))))))))))))))))))))))))))))))))))))))))))))))))))))))))))))))))))))))))))))))))))))))))))))))))))))))))))))))))))))))))))))))))))))))))))))))))))))))))))))))
theorem bools:(∀b:Bool,cond false b b=b)/\(∀(α:Type) (x y:α),cond false x y=y)/\(∀(α:Type) (x y:α),cond true x y=x):=⟨λ_=>rfl,λ_ _ _=>rfl,λ_ _ _=>rfl⟩
theorem mY:(∀(x:Str) (xs:List Str),(x::xs).length=xs.length+1)/\([]:List Str).length=0/\(∀(x:A) (xs:List A),(x::xs).length=xs.length+1)/\([]:List A).length=0:=⟨λ_ _=>rfl,rfl,λ_ _=>rfl,rfl⟩
section
variable {τ:List A}{S:jG}
theorem IZ {f:List A->jG->R A}{d:qL}:ZA f d τ S=(d τ S).bind f:=rfl
noncomputable def kRz (c:Str):Unit->jG->RS:=λ_ S1=>.ex c S1
theorem Pj {c:Str}{u:Unit}:kRz c u S=.ex c S:=rfl
theorem Bp {c:Str}{ps:List (Str ⊕ Ex)}:VC c ps τ S=RS.of (QK ps τ S) (kRz c):=rfl
theorem G6:QK [] τ S=.ok () S:=rfl
theorem Jj {x:Str}{ps:List (Str ⊕ Ex)}:QK (.inl x::ps) τ S=QK ps τ S:=rfl
noncomputable def kFs (ps:List (Str ⊕ Ex))(τ:List A):A->jG->R Unit:=λv S1=>match v with
 | .int i=>gd (i.natAbs.log2<64) (QK ps τ S1)
 | _=>.no
theorem Jh {e:Ex}{ps:List (Str ⊕ Ex)}:QK (.inr e::ps) τ S=(e τ S).bind (kFs ps τ):=rfl
noncomputable def RS.try (i n:Nat)(cs:List Str)(d:Sm):RS->RS
 | .ex x S1=>if x∈cs then SN i (d ((List.replicate n .unb).set i (.exn x)) S1)else .no
 | r=>r
theorem HB {i n:Nat}{cs:List Str}{c d:Sm}:Y7 i n cs c d τ S=RS.try i n cs d (c τ S):=by
 unfold Y7 RS.try;cases c τ S<;>rfl
theorem Oa {i n:Nat}{cs:List Str}{d:Sm}:RS.try i n cs d (.nx τ S)=.nx τ S:=rfl
theorem Lu {i n:Nat}{cs:List Str}{d:Sm}{a:A}:RS.try i n cs d (.rt a S)=.rt a S:=rfl
theorem NK {i n:Nat}{x:Str}{cs:List Str}{d:Sm}:RS.try i n (x::cs) d (.ex x S)=SN i (d ((List.replicate n .unb).set i (.exn x)) S):=aM (.head _)
theorem Mr {i:Nat}{a:A}:SN i (.rt a S)=.rt a S:=rfl
theorem O9 {i:Nat}:SN i (.nx τ S)=.nx (τ.set i .unb) S:=rfl
noncomputable def Yv (f:Str->Option Bool):A->jG->R A:=λv S1=>match v with
 | .exn x=>opt (f x) λb=>.ok (.bl b) S1
 | _=>.no
theorem Hz {f:Str->Option Bool}{c:Ex}:ZJ f c τ S=(c τ S).bind (Yv f):=rfl
theorem M0 {x:Str}{b:Bool}{tb:List (Str×Bool)}:Yv (tbX ((x,b)::tb)) (.exn x) S=.ok (.bl b) S:=by
 show opt (List.lookup x ((x,b)::tb)) _=_;rw[gg,bO];rfl
noncomputable def R.Oi {α β:Type}(r:R α)(f:α->jG->R β):R β:=match r with
 | .ok a S=>f a S
 | _=>.no
theorem Em {α β:Type}{a:α}{f:α->jG->R β}:R.Oi (.ok a S) f=f a S:=rfl
theorem Ji {f:List A->jG->R A}{d:qL}:Xc f d τ S=R.Oi (d τ S) f:=by unfold Xc R.Oi;cases d τ S<;>rfl
noncomputable def RS.Zz {α:Type}(r:R α)(f:α->jG->RS):RS:=match r with
 | .ok a S=>f a S
 | _=>.no
theorem OP {α:Type}{a:α}{f:α->jG->RS}:RS.Zz (.ok a S) f=f a S:=rfl
theorem IJ {t:Te}{c d:Sm}:Yr t c d τ S=RS.Zz (t τ S) (Zg c d τ):=by
 unfold Yr RS.Zz
 cases t τ S with
 | ok b S1=>cases b<;>rfl
 | ex _ _=>rfl
 | no=>rfl
noncomputable def RS.Nu (i:Nat)(cs:List Str)(d:Sm)(τ:List A):RS->RS
 | .ex x S1=>if x∈cs then SN i (d (τ.set i (.exn x)) S1)else .no
 | r=>r
theorem DZ {i:Nat}{cs:List Str}{c d:Sm}:Tf i cs c d τ S=RS.Nu i cs d τ (c τ S):=by
 unfold Tf RS.Nu;cases c τ S<;>rfl
theorem Ig {i:Nat}{cs:List Str}{d:Sm}{τ':List A}:RS.Nu i cs d τ (.nx τ' S)=.nx τ' S:=rfl
theorem ID {i:Nat}{cs:List Str}{d:Sm}{a:A}:RS.Nu i cs d τ (.rt a S)=.rt a S:=rfl
theorem Hy {i:Nat}{x:Str}{cs:List Str}{d:Sm}:RS.Nu i (x::cs) d τ (.ex x S)=SN i (d (τ.set i (.exn x)) S):=aM (.head _)
theorem E2:A.Zx []=some []:=rfl
theorem Bs {b:Bool}{xs:List A}:A.Zx (.bl b::xs)=(A.Zx xs).map (b::·):=rfl
end
theorem pS:type_of% (anI @IZ (anI @Bp (anI @Pj (anI @G6 (anI @Jj (anI @Jh (anI @HB (anI @Oa (anI @Lu (anI @NK (anI @Mr (anI @O9 (anI @Hz (anI @M0 (anI @E2 (anI @Bs (anI @Em (anI @Ji (anI @OP (anI @IJ (anI @DZ (anI @Ig (anI @ID (anI @Hy (trivial))))))))))))))))))))))))):=anI @IZ (anI @Bp (anI @Pj (anI @G6 (anI @Jj (anI @Jh (anI @HB (anI @Oa (anI @Lu (anI @NK (anI @Mr (anI @O9 (anI @Hz (anI @M0 (anI @E2 (anI @Bs (anI @Em (anI @Ji (anI @OP (anI @IJ (anI @DZ (anI @Ig (anI @ID (anI @Hy (trivial))))))))))))))))))))))))
end Am
namespace L2
open PySem PySem.Spec PyProof.Rows
section
variable {P:aj}{w:ah}{A:az}{E:af->aA->Prop}{s:aA}{it d:ak}{i ep:Nat}{es:Array DictEntry}{o:Obj}
theorem UW{Q:Option af->aA->Prop}(hi:s.heap.IsKeyIter it d i es.size ep)(ho:s.heap.get? d=some o)(hd:o.data=.dict es ep)(lt:i<es.size)
  (q:∀h',h'.IsKeyIter it d (i+1) es.size ep->Heap.SameBut it s.heap h'->Q (some es[i].key) { s with heap:=h' }):wpAny (model P w) A (pyNext (.ref it)) Q E s:=by
 have ty:=hi.typeIs;obtain⟨oi,hoi,hci,hdi⟩:=id hi;have own:Builtin.Dict_items.ownsTuple "dict_keyiterator" = false:=by decide
 have nn:¬((Value.ref d == Value.none)=true):=bI;have n0:¬((i:Int)<0):=by lia
 unfold pyNext;refine aG (iG (dw (name:=Str.ofString "__next__") ty cR (cV cR ty gA ?_ (gr _))));refine aG (aV (aG (aG ?_)))
 first
  | refine aG (dQ ty (aV (aG (i9 hoi hdi ?_))))
  | refine aG (fq ty (aV (aG (i9 hoi hdi ?_))))
 simp only[own,bU,bf];show wpAny (model P w) _ (if (Value.ref d == Value.none)=true then _ else _) _ _ s;rw[aK nn];refine aG (aV (aG (jc ho hd ?_)));rw[aK (show ¬_ by simp)];refine aG (aV (aG (wpAny_dictEpoch ho hd ?_)));rw[aK (show ¬_ by simp)];refine aV ?_;simp only[n0,bU,dg,Array.getElem?_eq_getElem lt];refine aG ?_
 first
  | refine aG (dQ ty (aV (aG (iB ty ?_))))
  | refine aG (fq ty (aV (aG (iB ty ?_))))
 show wpAny (model P w) _ (setField (.ref it) 1 (rawInt ((i:Int)+1)) >>= _) _ _ s;refine aG (gW hoi hdi (show _ by simp) ?_);have hi':(s.heap.update it (Obj.mapFields λfs=>fs.setIfInBounds 1 (rawInt ((i:Int)+1)))).IsKeyIter it d (i+1) es.size ep:=
  ⟨_,fW _ hoi (iz (eL hdi _)),(ja ..).trans hci,by
   rw[eL hdi];simp[rawInt]⟩
 have ty':Shared.TypeIs { s with heap:=s.heap.update it (Obj.mapFields λfs=>fs.setIfInBounds 1 (rawInt ((i:Int)+1)))} (.ref it) "dict_keyiterator" := Heap.IsKeyIter.typeIs (s:={ s with heap:=_ }) hi';refine aG (dM (aG (iB ty' ?_)));show wpAny (model P w) _ (pure es[i].key) _ _ _;exact aV (aV ⟨_,rfl,aV (q _ hi' (fF ..))⟩)
theorem Rv{Q:Option af->aA->Prop}(hh:A.handled=none)(hi:s.heap.IsKeyIter it d i es.size ep)(ho:s.heap.get? d=some o)(hd:o.data=.dict es ep)(ge:es.size<=i)
  (q:∀h',Heap.ExtBut it s.heap h'->Q none { s with heap:=h' }):wpAny (model P w) A (pyNext (.ref it)) Q E s:=by
 have ty:=hi.typeIs;obtain⟨oi,hoi,hci,hdi⟩:=id hi;have own:Builtin.Dict_items.ownsTuple "dict_keyiterator" = false:=by decide
 have nn:¬((Value.ref d == Value.none)=true):=bI;have n0:¬((i:Int)<0):=by lia
 unfold pyNext;refine aG (iG (dw (name:=Str.ofString "__next__") ty cR (cV cR ty gA ?_ (gr _))));refine aG (aV (aG (aG ?_)))
 first
  | refine aG (dQ ty (aV (aG (i9 hoi hdi ?_))))
  | refine aG (fq ty (aV (aG (i9 hoi hdi ?_))))
 simp only[own,bU,bf];show wpAny (model P w) _ (if (Value.ref d == Value.none)=true then _ else _) _ _ s;rw[aK nn];refine aG (aV (aG (jc ho hd ?_)));rw[aK (show ¬_ by simp)];refine aG (aV (aG (wpAny_dictEpoch ho hd ?_)));rw[aK (show ¬_ by simp)];refine aV ?_;simp only[n0,bU,dg,ig ge];refine aG ?_
 first
  | refine aG (dQ ty (aV ?_))
  | refine aG (fq ty (aV ?_))
 show wpAny (model P w) _ (setField (.ref it) 0 .none >>= _) _ _ s;refine aG (gW hoi hdi (show _ by simp) ?_);show wpAny (model P w) _ (newExc (.type "StopIteration") [] >>= _) _ _ _;refine aG ?_;simp only[newExc,newTuple];refine aG (cZ (aG (m:=firstArgMember _ _) (iI (a:=Value.none) (by first|rfl|(simp only[firstArgMember];rfl)) (cZ ?_ (by size_fits)))) (by size_fits));simp only[raiseNew];have hn:A.in1.handled=none:=hh;refine aG (wpAny_handled (?_));rw[hn];refine aG (aV (wpAny_throw (?_)));refine aG (wpAny_isInstance (b:=true) (T := "StopIteration") ⟨_,bD _ rfl,rfl⟩ isSubtype_stop (aV (q _ (((fF ..).extBut.push _).push _))))
theorem Gw{Q:af->aA->Prop}(ty:s.TypeIs (.ref d) "dict")(hs:(d == sysModules)=false)(ho:s.heap.get? d=some o)(hd:o.data=.dict es ep)
  (q:Q (.ref s.heap.objs.size) { s with heap:=s.heap.push { cls:=.type "dict_keyiterator",data:=.fields #[.ref d,.int 0 0,.int es.size 0,.int ep 0]}}):wpAny (model P w) A (pyIter (.ref d)) Q E s:=by
 refine wpAny_pyIter_slot ty PySem.F.slot_dict_iter (cV PySem.F.slot_dict_iter ty PySem.F.entry_dict_iter ?_ (PySem.F.args_dict_iter_1 _));delta Builtin.«dict.__iter__»;refine aG ?_;delta Builtin.Dict.dictSlotNone;refine aG (wpAny_notOrdered_dict ty ?_);show wpAny (model P w) _ (pure (Value.ref d)) _ _ s;refine aV ?_;show wpAny (model P w) _ (Builtin.Dict.showsAll d >>= _) _ _ s;delta Builtin.Dict.showsAll;have nd:¬((d == sysModules)=true):=by rw[hs];exact bI
 rw[aK nd];refine aG (aV (aG (jc ho hd (aG (wpAny_dictEpoch ho hd ?_)))));refine aG (cZ (aV ⟨_,rfl, "dict_keyiterator",_,⟨_,bD _ rfl,rfl⟩,cR.lookup,?_⟩));simpa[rawInt]using q
end
section
variable {P:aj}{w:ah}
theorem KS{A:az}(hh:A.handled=none)(it d:ak)(ne:d≠it){es:Array DictEntry}{o:Obj}(hd:o.data=.dict es ep) :
  Walks P w A it [it,d] [it] es.size (λi v=>(es[i]?).map (λe=>e.key)=some v) (λi h=>h.IsKeyIter it d i es.size ep/\h.get? d=some o) where
 sub:=λb hb=>by
  rw[aP.mp hb];exact aI ..
 frame:=λ_ _ _ st hk=>⟨st.1.at λx e=>hk it (aI ..) x e,hk d (aL _ (aI ..)) o st.2⟩
 item:=λi s Q E lt st q=>UW st.1 st.2 hd lt λh' k1 k2=>q _ h' s.toks (by rw[Array.getElem?_eq_getElem lt];rfl) ⟨k1,k2.extBut d o ne st.2⟩ λb x nb e=>k2.extBut b x (λz=>nb (aP.mpr z)) e
 done:=λs Q E st q=>Rv hh st.1 st.2 hd (aQ _) λh' k=>q h' s.toks λb x nb e=>k b x (λz=>nb (aP.mpr z)) e
 self:=λ_ _ _ _ st q=>wpAny_pyIter_keyiter st.1 q
theorem Qq{es:Array DictEntry}{o:Obj}(hs:(d == sysModules)=false)(hc:o.cls=.type "dict")(hd:o.data=.dict es ep) :
  PySem.W.KdlSrc P w "dict" d d es.size (λi v=>(es[i]?).map (λe=>e.key)=some v) (λh=>h.get? d=some o) where
 type:=λ_ hm=>⟨o,hm,hc⟩
 there:=λ_ hm=>⟨bw hm,bw hm⟩
 keep:=λ_ _ hm hk=>hk d (.inl rfl) o hm
 notList:=by decide
 notTuple:=by decide
 hint:=λ_ _ _ _ hm hq=>PySem.W.kdl_hint_dict ⟨o,hm,hc⟩ hq
 iter:=λ_ s hh hm=>⟨_,_,(λ_ _ hq=>Gw ⟨o,hm,hc⟩ hs hm hd hq),KS hh _ d (bG (bw hm)) hd,⟨⟨_,bD _ rfl,rfl,rfl⟩,aS _ hm⟩⟩
end
section
variable {X:Cx}
theorem UY{H:Hp}{s:aA}{kvs:List (List Key×V)}(I:Inv X pins σ H s)(ed:H d=some (.dT kvs)) :
  ∃(ob:Obj) (es:Array DictEntry) (ep:Nat) (rs:List ak),s.heap.get? d=some ob/\ob.cls=.type "dict" /\ ob.data=.dict es ep/\(d == sysModules)=false/\kvs.length<=sizeLine/\rs.length=kvs.length/\es.size=kvs.length /\
   (∀i:Nat,(es[i]?).map (λe:DictEntry=>e.key)=(rs[i]?).map Value.ref)/\∀(i:Nat) r p,rs[i]?=some r->kvs[i]?=some p->H r=some (.tup (p.1.map kV)):=by
 obtain⟨z,hd,xs,rel,dd⟩:=LQ I.hok ed;obtain⟨ob,es,ep,g1,g2,g3,g4,g5,g6⟩:=id dd;obtain⟨kl,kt⟩:=kt_at rel;have hes:es.size=xs.length:=by have:=dm List.length g4;simpa using this
 refine⟨ob,es,ep,xs.map λy=>y.2.1,g1,g2.1,g3,hd,z,by rw[aH,kl],by rw[hes,kl],λi=>?_,λi r p e1 e2=>?_⟩
 ·rw[<- eU,g4,aR,aR,gb,gb]
  cases xs[i]?<;>rfl
 ·obtain⟨y,h1,h2,h3,h4⟩:=kt i p e2;rw[aR,h1]at e1
  cases e1
  exact h3
theorem CL(hc:X.calm=true):kH X (.builtin "sorted") (λxs H Q=>∃(d:ak) (kvs:List (List Key×V)) (kss:List (List Int)),xs=[.ref d]/\H d=some (.dT kvs)/\kvs.map (λp=>p.1)=kss.map (λks=>ks.map Sum.inl)/\(∀ks∈kss,ks≠[]) /\
  ∀(rs:List ak) l g,rs.length=kss.length->(∀(i:Nat) (r:ak) (ks:List Int),rs[i]?=some r->kss[i]?=some ks->H r=some (.tup (ks.map V.int)))->H l=none->Sx.Cl g 0 kss.length->Sx.So (Sx.AJ kss) g 0 kss.length ->
   Q (.ref l) (upd H l (.lst (((List.range kss.length).map λi=>rs.getD (g i) 0).map V.ref)))):=by
 intro pins s σ H xs us Q I r h;obtain⟨d,kvs,kss,rfl,ed,ek,hne,q⟩:=h;obtain⟨u,rfl,rx⟩:=vals1 r
 cases rx
 obtain⟨ob,es,ep,rs,g1,g2,g3,g4,g5,g6,g7,g8,g9⟩:=UY I ed;have kl:kvs.length=kss.length:=by have:=dm List.length ek;simpa using this
 have tp:∀(i:Nat) (r:ak) (ks:List Int),rs[i]?=some r->kss[i]?=some ks->H r=some (.tup (ks.map V.int)):=λi r ks e1 e2=>by
  have lt:i<kvs.length:=by rw[kl];exact(aN.mp e2).1
  have h1:=g9 i r kvs[i] e1 (aF lt);have h2:(kvs.map (λp=>p.1))[i]?=(kss.map (λks=>ks.map Sum.inl))[i]?:=by rw[ek]
  rw[aR,aR,e2,aF lt]at h2;have h3:kvs[i].1=ks.map Sum.inl:=a_ h2;rw[h3,bu]at h1;exact h1
 refine gp kind_sorted plain_sorted entry_sorted (args_sorted1 _) ?_;unfold Builtin.«sorted»;refine aG (m:=checkCount "sorted" 1 1 _) (aV ?_);refine aG (PySem.W.kdu_collect (Qq g4 g2 g3) (show X.A.in1.handled=none from I.ok.hd hc) g1 (by rw[g7];exact g5) λh' tk acc hk hacc=>?_);have ea:acc.toList=rs.map Value.ref:=by
  refine c5 λj=>?_;rw[eU,aR,<- g8 j]
  cases e:acc[j]? with
  | some v=>exact(hacc.2 j v e).symm
  | none=>
   have:acc.size<=j:=Array.getElem?_eq_none_iff.mp e;rw[ig (by rw[<- hacc.1];exact this)];rfl
 rw[ea];exact KP (s:=s) (I.kept (t':=tk) hk) (by rw[g6,kl]) (by rw[g6];exact g5) (λi r ks e1 e2=>⟨nq.of (tp i r ks e1 e2),hne ks (aW e2)⟩) λl g h1 h2 h3=>q rs l g (by rw[g6,kl]) tp h1 h2 h3
end
section
variable {P:aj}{w:ah}{A:az}{E:af->aA->Prop}{s:aA}
theorem J5:typeLookup (.type "list") "keys" = pure none:=am_miss_of_fast (by kernel_rfl)
theorem Kw{a:ak}{o:Obj}{k:Nat}{Q:Option af->aA->Prop}(hx:s.heap.get? a=some o)(hc:o.cls=.type "list")(hdat:o.data=.seq xs k)(hd:o.dict=none)(hA:A.handled=none)
  (h:∀h' tk,(∀b ob,s.heap.get? b=some ob->h'.get? b=some ob)->Q none { s with heap:=h',toks:=tk }):wpAny (model P w) A (getAttr? (.ref a) "keys") Q E s:=by
 obtain⟨c,dct,dat,sl⟩:=o;simp only at hc hdat hd;subst hc hdat hd;obtain⟨hp,g,d,tk,os⟩:=s;have hT:∀tk',(⟨hp,g,d,tk',os⟩:aA).TypeIs (.ref a) "list" := λ_=>⟨_,hx,rfl⟩;have f1:=sub_AttributeError;have f3:=gB.lookup;have f4:=gB.bind (.ref a);have f5:=am_list_getattr_none;unfold getAttr? getAttrBy? getAttrBy
 repeat (any_goals (first|assumption|exact hT _|((with_reducible show wpAny _ _ (call (Value.builtin "list.__getattribute__") _ _) _ _ _);refine iY gB (hT _) am_entry_list_getattribute (F.args_list_getattribute_2 _ _) (meets_getattribute_miss_list a xs k sl "keys" _ J5 (by decide) (by size_fits)) ⟨hx,hA,λh' tk' e hx'=>?_⟩)|wp_step))
 obtain⟨t',u',he⟩:=hx'.there;show wpAny _ _ (getattributeRaised _ _ _ _ _ _ _) _ _ _;unfold getattributeRaised
 repeat (any_goals (first|assumption|wp_step))
 exact h _ _ hx'.keeps
theorem BB:entryFor table "dict.update.loop" = some Builtin.«dict.update.loop»:=entryFor_of_tree (by kernel_rfl)
theorem uw:plainId "dict.update.loop" = true:=by decide +kernel
noncomputable def LS (h:aq)(d I:ak)(its:List af)(ps:List (Int×af)):Prop:=∀(i:Nat) (v:af),its[i]?=some v->∃(b:ak) (p:Int×af) (t:Tok),v=.ref b/\b≠d/\b≠I/\ps[i]?=some p/\IsTup h b #[.int p.1 t,p.2]
theorem LS.mono{h h':aq}(x:LS h d I its ps)(k:∀b o,b≠d->b≠I->h.get? b=some o->h'.get? b=some o):LS h' d I its ps:=λi v hv=>by
 obtain⟨b,p,t,h1,h2,h3,h4,o,h5,h6⟩:=x i v hv;exact⟨b,p,t,h1,h2,h3,h4,o,k b o h2 h3 h5,h6⟩
noncomputable def VO (ps:List (Int×af)):List (Key×af):=ps.foldl (λacc p=>stored acc (Sum.inl p.1) p.2) []
theorem NT(ps:List (Int×af))(i:Nat)(p:Int×af)(h:ps[i]?=some p):VO (ps.take (i+1))=stored (VO (ps.take i)) (Sum.inl p.1) p.2:=by
 unfold VO;rw[cH,h,cQ];rfl
theorem IM:∀(ps:List (Int×af)) (acc:List (Key×af)),(ps.foldl (λacc p=>stored acc (Sum.inl p.1) p.2) acc).length<=acc.length+ps.length
 | [],acc=>aQ _
 | p::ps,acc=>by
  have:=IM ps (stored acc (Sum.inl p.1) p.2);have h:(stored acc (Sum.inl p.1) p.2).length<=acc.length+1:=by
   unfold stored;split
   ·rw[aH];lia
   ·rw[aO];exact aQ _
  rw[eX,aZ];lia
theorem MR{R:Result->aA->Prop}{I l:ak}{St:Nat->aq->Prop}{its:List af}{ps:List (Int×af)}(W:Walks P w A.in1 I [I,l] [I] its.length (λi v=>its[i]?=some v) St)(hdI:d≠I)(hdl:d≠l)(hl:ps.length=its.length)(hz:ps.length<=sizeLine) :
  ∀(k i:Nat) (s:aA),its.length-i=k->i<=its.length->St i s.heap->s.heap.DictOf (kL P w) d (VO (ps.take i))->LS s.heap d I its ps ->
   (∀h' tk,h'.DictOf (kL P w) d (VO ps)->(∀b o,b≠d->b≠I->s.heap.get? b=some o->h'.get? b=some o)->R (.ok (.ret .none)) { s with heap:=h',toks:=tk }) ->
   codeAny (model P w) A (.builtin "dict.update.loop" ⟨[.ref d,.ref I,rawInt i,.none],[]⟩) R s:=by
 intro k
 induction k with
 | zero=>
  intro i s hk hi hst hD hP hR;have hin:i=its.length:=by lia
  subst hin;refine gH BB ?_;rw[f9 uw _];show wpAny _ A.in1 (pyNext (.ref I) >>= _) _ _ s;refine aG (W.done s _ _ hst λh' tk hm=>?_);show wpAny _ A.in1 (Builtin.Dict.addKeywords d [] >>= _) _ _ _;refine aG (aV (aV (hR h' tk ?_ λb o _ h2 e=>hm b o (by simpa using h2) e)));rw[<- hl,cP]at hD;obtain⟨o,es,ep,ho,rest⟩:=hD;exact⟨o,es,ep,hm d o (by simpa using hdI) ho,rest⟩
 | succ k ih=>
  intro i s hk hi hst hD hP hR;have hlt:i<its.length:=by lia
  refine gH BB ?_;rw[f9 uw _];show wpAny _ A.in1 (pyNext (.ref I) >>= _) _ _ s;refine aG (W.item i s _ _ hlt hst λv h' tk hv hst' hm=>?_);have hP':LS h' d I its ps:=hP.mono λb o h1 h2 e=>hm b o (by simpa using h2) e;obtain⟨b,p,t,rfl,hbd,hbI,hp,o,ho,hc,n,hd⟩:=hP' i v hv;have hD':h'.DictOf (kL P w) d (VO (ps.take i)):=by
   obtain⟨o,es,ep,ho,rest⟩:=hD;exact⟨o,es,ep,hm d o (by simpa using hdI) ho,rest⟩
  have hT:Shared.TypeIs { s with heap:=h',toks:=tk } (.ref b) "tuple" := ⟨o,ho,hc⟩;have hpair:∀(A:az) (E:af->aA->Prop) (Q:List af->aA->Prop),Q [.int p.1 t,p.2] { s with heap:=h',toks:=tk }->wpAny (model P w) A (Builtin.Dict.pairItems (.ref b)) Q E { s with heap:=h',toks:=tk }:=λA E Q q=>by
   unfold Builtin.Dict.pairItems;refine aG (gU hT ?_);rw[aM (by decide)];refine aG (iZ ho hd (aV q))
  have hlen:(VO (ps.take i)).length<=sizeLine:=by
   refine bJ (IM (ps.take i) []) ?_;rw[ck,bK];lia
  refine aG (dM (aG (wpAny_tryCatch (hpair _ _ _ ?_))));show wpAny _ _ (holding [Value.int p.1 t,p.2] (dictSet d (.int p.1 t) p.2)) _ _ _;refine dM (wpAny_dictSet_pairs (hsz:=hlen) (knd:=kL P w) (k:=Sum.inl p.1) (s:={ s with heap:=h',toks:=tk }) (show Value.isInt p.1 (.int p.1 t)=true by simp[Value.isInt]) hD' λh2 hD2 hs=>?_);refine aV ⟨plainId_quiet uw _,?_⟩;have hsame:∀b o,b≠d->b≠I->s.heap.get? b=some o->h2.get? b=some o:=λb o h3 h4 e=>by rw[hs.2 b h3];exact hm b o (by simpa using h4) e
  refine ih (i+1) _ (by lia) hlt (W.frame _ _ _ hst' λb hb o e=>?_) (by rw[NT ps i p hp];exact hD2) (hP.mono hsame) λh3 tk3 hD3 hs3=>hR h3 tk3 hD3 λb o h4 h5 e=>hs3 b o h4 h5 (hsame b o h4 h5 e);have hne:b≠d:=by
   intro z;subst z
   rcases bC.mp hb with z|z
   ·exact hdI z
   ·exact hdl (by simpa using z)
  show h2.get? b=some o;rw[hs.2 b hne];exact e
theorem A0{H:Hp}{X:Cx}(I:Inv X pins σ H s):∀(rs:List ak) (ps:List (Int×V)),rs.length=ps.length->(∀(i:Nat) (r:ak) (q:Int×V),rs[i]?=some r->ps[i]?=some q->nq X.K H r [.int q.1,q.2]) ->
  ∃qs:List (Int×af),KV ps qs/\∀(i:Nat) (r:ak),rs[i]?=some r->∃q t,qs[i]?=some q/\IsTup s.heap r #[.int q.1 t,q.2]
 | [],[],_,_=>⟨[],.nil,λi r h=>by simp at h⟩
 | [],_::_,h,_=>nomatch h
 | _::_,[],h,_=>nomatch h
 | r::rs,p::ps,hl,hh=>by
  obtain⟨qs,h1,h2⟩:=A0 I rs ps (by simpa using hl) λi r q e1 e2=>hh (i+1) r q (by simpa using e1) (by simpa using e2);obtain⟨its,rv,tp,_⟩:=I.tuple (hh 0 r p rfl rfl);obtain⟨u1,u2,rfl,r1,r2⟩:=vals2 rv;obtain⟨t,rfl⟩:∃t,u1=Value.int p.1 t:=r1;refine⟨(p.1,u2)::qs,.cons ⟨rfl,r2⟩ h1,λi r' e=>?_⟩
  cases i with
  | zero=>cases e;exact⟨(p.1,u2),t,rfl,tp⟩
  | succ i=>exact h2 i r' (by simpa using e)
noncomputable def ptP (ps:List (Int×V)):List (Key×V):=ps.foldl (λacc p=>putK acc (Sum.inl p.1) p.2) []
theorem Yb:∀{ps:List (Int×V)}{qs:List (Int×af)},KV ps qs->∀{as:List (Key×V)}{bs:List (Key×af)},KV as bs->KV (ps.foldl (λacc p=>putK acc (Sum.inl p.1) p.2) as) (qs.foldl (λacc p=>stored acc (Sum.inl p.1) p.2) bs):=by
 intro ps qs h;unfold KV at h
 induction h with
 | nil=>exact λh=>h
 | @cons p q ps qs h t ih=>
  intro as bs h2;rw[eX,eX];obtain⟨e,r⟩:=h;rw[e];exact ih (h2.put _ r)
theorem HY:∀(ps:List (Int×V)) (acc:List (Key×V)),(ps.foldl (λacc p=>putK acc (Sum.inl p.1) p.2) acc).length<=acc.length+ps.length
 | [],acc=>aQ _
 | p::ps,acc=>by
  have:=HY ps (putK acc (Sum.inl p.1) p.2);have:=t6 acc (Sum.inl p.1) p.2;rw[eX,aZ];lia
end
section
variable {X:Cx}
theorem FZ(hc:X.calm=true):kH X (.type "dict") (λxs H Q=>∃(p:ak) (rs:List ak) (ps:List (Int×V)),xs=[.ref p]/\pW X.K H p (rs.map V.ref)/\rs.length=ps.length /\
  (∀(i:Nat) (r:ak) (q:Int×V),rs[i]?=some r->ps[i]?=some q->nq X.K H r [.int q.1,q.2])/\∀l,H l=none->Q (.ref l) (upd H l (.dK (ptP ps)))):=by
 intro pins s σ H xs us Q I r h;obtain⟨p,rs,ps,rfl,hq,hlen,hT,q⟩:=h;obtain⟨u,rfl,rx⟩:=vals1 r
 cases rx
 obtain⟨its,rv,pl,hz⟩:=I.list hq;have ei:=xg rv;subst ei;rw[aH]at hz;obtain⟨qs,kv,tp⟩:=A0 I rs ps hlen hT;have ql:ps.length=qs.length:=kv.length;obtain⟨o,n,ho,hcl,hdn,hd⟩:=pl;have lp:p<s.heap.objs.size:=bw ho;refine callType_codes (Q₁:=λobj s₁=>obj=.ref s.heap.objs.size/\s₁={ s with heap:=s.heap.push { cls:=.type "dict",data:=.dict #[]}}) F.kt_called_dict (F.kt_typeCall_dict_1 _) F.entry_dict_init (kt_code_dict_new _ ⟨rfl,rfl⟩) ?_;rintro obj s₁ ⟨rfl,rfl⟩;have hnew:(s.heap.push { cls:=.type "dict",data:=.dict #[]}).DictOf (kL X.prog X.w) s.heap.objs.size []:=Heap.DictOf.new s.heap;have ho':(s.heap.push { cls:=.type "dict",data:=.dict #[]}).get? p=some o:=aS _ ho;have hTy:Shared.TypeIs { s with heap:=s.heap.push { cls:=.type "dict",data:=.dict #[]}} (.ref p) "list" := ⟨o,ho',hcl⟩;refine⟨hnew.typeIs,F.args_dict_init_2 _ _,?_⟩;unfold Builtin.«dict.__init__»;refine aG ?_;unfold Builtin.Dict.selfAndRest;refine aG (wpAny_notOrdered_dict hnew.typeIs ?_);show wpAny _ _ (pure (s.heap.objs.size,[Value.ref p])) _ _ _;refine aV ?_;show wpAny _ _ (Builtin.Dict.updateFrom "dict.__init__" s.heap.objs.size (.ref p) [] .none) _ _ _;unfold Builtin.Dict.updateFrom;refine aG (gU hTy ?_);rw[aM (by decide)];refine aG (Kw ho' hcl hd hdn (show X.A.in1.in1.handled=none from I.ok.hd hc) λh' tk hk=>?_);rw[aM (by rfl)];refine aG (eN ?_);have hl2:h'.IsList p (rs.map Value.ref).toArray:=⟨o,hk p o ho',hcl,n,hd⟩;refine aG (wpAny_pyIter_list (s:={ s with heap:=h',toks:=tk }) hl2 ?_);refine aV ⟨plainId_quiet uw _,?_⟩;have sz:s.heap.objs.size<h'.objs.size:=bw (hk _ _ (bD _ rfl));have W:Walks X.prog X.w X.A.in1.in1 h'.objs.size [h'.objs.size,p] [h'.objs.size] (rs.map Value.ref).length (λi v=>(rs.map Value.ref)[i]?=some v) (λi h=>h.IsListIter h'.objs.size p i/\h.IsList p (rs.map Value.ref).toArray):=by
  have W:=Walks.list (prog:=X.prog) (w:=X.w) (A:=X.A.in1.in1) (I.ok.hd hc) h'.objs.size p (bG (bw (hk p o ho'))) (rs.map Value.ref).toArray;rw[bg]at W;simp only[eV]at W;exact W
 refine MR (d:=s.heap.objs.size) (its:=rs.map Value.ref) (ps:=qs) W (bG sz) (c7 (bG lp)) (by rw[aH];lia) (by lia) (rs.map Value.ref).length 0 _ (by lia) (bM _)
  ⟨⟨_,bD _ rfl,rfl,rfl⟩,hl2.push _⟩ ?_ (λi v hv=>?_) λh2 tk2 hD hs=>⟨rfl,.ref s.heap.objs.size,_,I.laid (t':=tk2) (o:=.dK (ptP ps)) (λb ob eb=>?_) (aQ _) ?_,rfl,q _ (I.hok.fresh (aQ _))⟩
 ·obtain⟨o,es,ep,e,rest⟩:=hnew;exact⟨o,es,ep,aS _ (hk _ _ e),rest⟩
 ·rw[aR]at hv;obtain⟨r,hr,rfl⟩:=aX.mp hv;obtain⟨q,t,h1,o2,h2,h3⟩:=tp i r hr;have lr:=bw h2;exact⟨r,q,t,rfl,bG lr,bG (lt_trans lr sz),h1,o2,aS _ (hk _ _ (aS _ h2)),h3⟩
 ·have lb:=bw eb;exact hs b ob (bG lb) (bG (lt_trans lb sz)) (aS _ (hk _ _ (aS _ eb)))
 ·refine Mq (bJ (HY ps []) (by rw[bK];lia)) ?_ (Yb kv .nil) hD;exact d8.mpr (c7 (bG I.big))
noncomputable def RN (ns:List Int):Sx.Ord where
 lt i j:=decide (ns.getD i 0<ns.getD j 0)
 K6 i:=bq (by lia)
 tr i j k h1 h2:=bh (by have:=bR h1;have:=bR h2;lia)
 neg i j k h:=by
  have:=bR h;by_cases c:ns.getD i 0<ns.getD j 0
  ·exact .inl (bh c)
  ·exact .inr (bh (by lia))
theorem yF:∀{vs:List af}{ns:List Int},IntsAre vs ns->vs.length=ns.length/\∀i,i<vs.length->∃t,vs.getD i .none=.int (ns.getD i 0) t
 | _,_,.nil=>⟨rfl,λi h=>absurd h (eY _)⟩
 | _,_,.cons n t h=>by
  obtain⟨h1,h2⟩:=yF h;refine⟨dm (·+1) h1,λi hi=>?_⟩
  cases i with
  | zero=>exact⟨t,rfl⟩
  | succ i=>exact h2 i (by simpa using hi)
theorem Aa{f:Nat->Int}{h:Nat->af}:∀(l:List Nat),(∀i∈l,∃t,h i=.int (f i) t)->Vals (l.map λi=>V.int (f i)) (l.map h)
 | [],_=>.nil
 | i::l,e=>.cons (e i (aI ..)) (Aa l λj hj=>e j (aL _ hj))
theorem GF{s:aA}{H:Hp}{Q:VK}{h':aq}{tk:Nat}{vs:List af}{ns:List Int}(I1:Inv X pins σ H { s with heap:=h',toks:=tk })(hi:IntsAre vs ns)(hz:vs.length<=sizeLine)
  (q:∀l g,H l=none->Sx.Cl g 0 ns.length->Sx.So (RN ns) g 0 ns.length->Q (.ref l) (upd H l (.lst ((List.range ns.length).map λi=>V.int (ns.getD (g i) 0))))) :
  wpAny (model X.prog X.w) X.A.in1 (do
   let l <- newList vs
   let _ <- holding [l] (call (Value.builtin "list.sort") [l] [])
   ret l) (λfin s'=>∃v,fin=Fin.done (Flow.ret v)/\EP X pins σ Q v s') X.xe { s with heap:=h',toks:=tk }:=by
 obtain⟨hN,at_⟩:=yF hi;refine aG (jh ?_);have hoL:(h'.push (seqObj "list" vs.toArray 0)).get? h'.objs.size=some (seqObj "list" vs.toArray 0):=bD _ rfl;show wpAny _ _ _ _ _ { s with toks:=tk,heap:=h'.push (seqObj "list" vs.toArray 0)};refine aG (dM (cV slot_list_sort ⟨_,hoL,rfl⟩ entry_list_sort (Sx.wM (o:=RN ns) (kd:=oneType') hoL hz (λh2 Q' q'=>?_) (λh2 i j hi' hj E' Q' q'=>?_) λg hc hs=>⟨_,rfl,?_⟩) (args_list_sort _)))
 ·obtain⟨a,b,r,rfl⟩:∃a b r,vs=a::b::r:=by
   cases vs with
   | nil=>simp at h2
   | cons a vs=>cases vs with
    | nil=>simp at h2
    | cons b r=>exact⟨a,b,r,rfl⟩
  exact iI (keyKind_ints hi) q'
 ·obtain⟨t,e1⟩:=at_ i hi';obtain⟨u,e2⟩:=at_ j hj;show wpAny _ _ (keyLt' oneType' (vs.getD i .none) (vs.getD j .none)) Q' E' _;rw[e1,e2,keyLt'_oneType];exact Sx.IP true q'
 ·rw[hN]at hc hs ⊢;obtain⟨e,he⟩:=sortedHeap_at (out:=((List.range ns.length).map λi=>vs.getD (g i) .none).toArray) hoL;have old:∀b ob,h'.get? b=some ob->(sortedHeap (h'.push (seqObj "list" vs.toArray 0)) h'.objs.size vs ((List.range ns.length).map λi=>vs.getD (g i) .none).toArray).get? b=some ob:=λb ob eb=>by
   rw[sortedHeap_old (bG (bw eb)) (by rw[eG];exact dX (bw eb))];exact aS _ eb
  refine aV ⟨_,rfl,.ref h'.objs.size,_,I1.laid (t':=tk) (o:=.lst ((List.range ns.length).map λi=>V.int (ns.getD (g i) 0))) old (aQ _) ?_,rfl,q _ g (I1.hok.fresh (aQ _)) hc hs⟩;refine⟨by rw[aH,cA];lia,(List.range ns.length).map λi=>vs.getD (g i) .none,e,Aa _ λi hi=>at_ _ (by have:=(hc i (bM _) (cO.mp hi)).2;lia),he⟩
theorem JC{P:aj}{w:ah}{vs:List (Key×af)}:∀{acc:List af}{ns:List Int},vs.map (·.1)=ns.map Sum.inl->acc.length=vs.length->(∀(j:Nat) v,acc[j]?=some v->∃k x,vs[j]?=some (k,x)/\(kL P w).is k v=true)->IntsAre acc ns:=by
 intro acc ns hk hl h
 induction acc generalizing vs ns with
 | nil=>cases vs with
  | nil=>cases ns with
   | nil=>exact .nil
   | cons=>cases hk
  | cons=>cases hl
 | cons a acc ih=>cases vs with
  | nil=>cases hl
  | cons v vs=>cases ns with
   | nil=>cases hk
   | cons n ns=>
    rw[bE,bE,List.cons.injEq]at hk;obtain⟨k,x,e1,e2⟩:=h 0 a rfl
    cases e1
    obtain⟨e3,e4⟩:=hk;have e3:k=Sum.inl n:=e3;subst e3;obtain⟨t,rfl⟩:=Value.isInt_shape (k:=n) (v:=a) e2;exact .cons n t (ih e4 (by simpa using hl) λj v e=>h (j+1) v (by simpa using e))
theorem CF(hc:X.calm=true):kH X (.builtin "sorted") (λxs H Q=>∃(d:ak) (kvs:List (Key×V)) (ns:List Int),xs=[.ref d]/\H d=some (.dK kvs)/\kvs.map (λp=>p.1)=ns.map Sum.inl /\
  ∀l g,H l=none->Sx.Cl g 0 ns.length->Sx.So (RN ns) g 0 ns.length->Q (.ref l) (upd H l (.lst ((List.range ns.length).map λi=>V.int (ns.getD (g i) 0))))):=by
 intro pins s σ H xs us Q I r h;obtain⟨d,kvs,ns,rfl,ed,ek,q⟩:=h;obtain⟨u,rfl,rx⟩:=vals1 r
 cases rx
 obtain⟨z,hd,vs,rel,dd⟩:=TV I.hok ed;obtain⟨ep,da⟩:=dd.dictAt;have kl:kvs.length=vs.length:=rel.length;have ke:vs.map (·.1)=kvs.map (·.1):=by
  clear ek z dd da kl ed;unfold KV at rel
  induction rel with
  | nil=>rfl
  | cons h _ ih=>rw[bE,bE,ih,h.1]
 refine gp kind_sorted plain_sorted entry_sorted (args_sorted1 _) ?_;unfold Builtin.«sorted»;refine aG (m:=checkCount "sorted" 1 1 _) (aV ?_);refine aG (PySem.W.kdu_collect (PySem.W.kdl_dict hd) (show X.A.in1.handled=none from I.ok.hd hc) da (by lia) λh' tk acc hk hacc=>?_);have al:acc.toList.length=vs.length:=by rw[d9];exact hacc.1
 exact GF (s:=s) (I.kept (t':=tk) hk) (JC (P:=X.prog) (w:=X.w) (ke.trans ek) al λj v e=>hacc.2 j v (by rw[eU]at e;exact e)) (by lia) q
end
end L2
namespace Sx
open PySem PyProof.Rows
section
variable {prog:aj}{w:ah}{A:az}{E:af->aA->Prop}{s:aA}
theorem NH{ns:List Int}(h:IntsAre vs ns)(h':IntsAre vs ms):ns=ms:=by
 induction h generalizing ms with
 | nil=>cases h';rfl
 | cons n t _ ih=>cases h' with
  | cons _ _ h2=>rw[ih h2]
theorem VD{a c:ak}{as cs:List af}{ns:List Int}(ha:IsTup s.heap a as.toArray)(hc:IsTup s.heap c cs.toArray)(hi:IntsAre as ns)(hj:IntsAre cs ms)(hu:A.units<cLine)(hne:ns≠ms):SeqAt.EqAt A s (.ref a) (.ref c) false:=by
 have hac:a≠c:=λz=>by
  subst z;obtain⟨o,ho,_,n,hd⟩:=ha;obtain⟨o',ho',_,n',hd'⟩:=hc;rw[ho]at ho'
  cases ho'
  rw[hd]at hd'
  injection hd' with e1 e2
  have:as=cs:=by have:=dm Array.toList e1;simpa using this
  subst this;exact hne (NH hi hj)
 have r1:=L2.uF hi;have r2:=L2.uF hj;have fl:∀l:List Int,(l.map L2.V.int).all L2.zu=true:=λl=>by rw[gT,eF];intro _ _;rfl
 have h:=SeqAt.RcAt.tuples ha hc hu (L2.MU r1 r2 (fl ns) (fl ms));have e:((List.range (min as.toArray.size cs.toArray.size)).all (L2.Zi (ns.map L2.V.int) (ms.map L2.V.int)) && as.toArray.size == cs.toArray.size)=false:=by
  have q:L2.PD (ns.map L2.V.int) (ms.map L2.V.int)=false:=by rw[L2.EK,bq hne]
  rw[<- q,bg,bg,<- r1.length,<- r2.length];by_cases hl:(ns.map L2.V.int).length=(ms.map L2.V.int).length
  ·rw[hl,Nat.min_self,bO,Bool.and_true];exact L2.V8 _ hl.symm rfl
  ·rw[L2.Qd hl,beq_false_of_ne hl,jv]
 rw[e]at h;exact .of_refs hac h
theorem Gs{l k a c:ak}{x:af}{as cs:List af}{ns:List Int}{Q:Bool->aA->Prop}(hl:IsTup s.heap l #[.ref a,x])(hk:IsTup s.heap k #[.ref c,y])(ha:IsTup s.heap a as.toArray)(hc:IsTup s.heap c cs.toArray)(hi:IntsAre as ns)(hj:IntsAre cs ms)(hu:A.units<cLine)(hne:ns≠ms)(h:Q (HT.lexLt ns ms) s) :
  wpAny (model prog w) A (keyLt' (tuples' false) (.ref l) (.ref k)) Q E s:=by
 rw[wW];obtain⟨o1,ho1,_,n1,hd1⟩:=hl;obtain⟨o2,ho2,_,n2,hd2⟩:=hk;refine aG (fh ho1 hd1 ?_);refine aG (fh ho2 hd2 ?_);show wpAny (model prog w) A (forIn (([Value.ref a,x].zip [Value.ref c,y]).zipIdx) ((none,()):Option Bool×Unit) _ >>= _) _ _ s;rw[show([Value.ref a,x].zip [Value.ref c,y]).zipIdx=[((Value.ref a,Value.ref c),0),((x,y),1)]from rfl,gG];refine aG (aG ?_);dsimp only;refine aG (VD ha hc hi hj hu hne prog w _ _ ?_);simp only[dh,cY];refine aG ?_;rw[oneLt'_eq];simp only[Bool.false_and,bf,bU];refine aG (HT.Gu ha hc (by simpa using hi) (by simpa using hj) hu ?_);refine dU ?_;exact aV (aV (aV h))
theorem Gj{l:ak}{v:af}{Q:Bool->aA->Prop}(hl:IsTup s.heap l #[u,v])(h:Q false s):wpAny (model prog w) A (keyLt' (tuples' false) (.ref l) (.ref l)) Q E s:=by
 rw[wW];obtain⟨o1,ho1,_,n1,hd1⟩:=hl;refine aG (fh ho1 hd1 ?_);refine aG (fh ho1 hd1 ?_);show wpAny (model prog w) A (forIn (([u,v].zip [u,v]).zipIdx) ((none,()):Option Bool×Unit) _ >>= _) _ _ s;rw[show([u,v].zip [u,v]).zipIdx=[((u,u),0),((v,v),1)]from rfl,gG];refine aG (aG ?_);dsimp only;refine aG (SeqAt.EqAt.same u prog w _ _ ?_);simp only[cW,bf,bU];refine aV ?_;dsimp only;rw[gG];refine aG ?_;dsimp only;refine aG (SeqAt.EqAt.same v prog w _ _ ?_);simp only[cW,bf,bU];refine aV ?_;dsimp only;rw[jx];refine aV ?_;dsimp only;exact aV h
theorem Gz{vs:List af}(h0:vs≠[])(ht:∀v∈vs,∃(l a:ak) (xs ys:List af),v=.ref l/\IsTup s.heap l (.ref a::xs).toArray/\IsTup s.heap a ys.toArray){Q:SortKind->aA->Prop}(q:Q (tuples' false) s) :
  wpAny (model prog w) A (keyKind' vs.toArray) Q E s:=by
 have ch:∀v,∃a:ak,v∈vs->∃(l:ak) (xs ys:List af),v=.ref l/\IsTup s.heap l (.ref a::xs).toArray/\IsTup s.heap a ys.toArray:=λv=>by
  by_cases c:v∈vs
  ·obtain⟨l,a,xs,ys,e⟩:=ht v c;exact⟨a,λ_=>⟨l,xs,ys,e⟩⟩
  ·exact⟨0,λz=>absurd z c⟩
 obtain⟨F,hF⟩:=Classical.axiomOfChoice ch;rw[keyKind'_eq];refine aG (yz (λv=>some (Value.ref (F v))) vs (λv hv Q' q'=>?_) _ ?_)
 ·obtain⟨l,xs,ys,rfl,⟨o,ho,hc,n,hd⟩,_⟩:=hF v hv;rw[EC];refine aG (gU (T := "tuple") ⟨o,ho,hc⟩ ?_);rw[aK (by decide)];exact aG (fh ho hd (aV q'))
 ·rw[aM (by simp)];refine aG (eN ?_);have e1:(vs.map λv=>some (Value.ref (F v))).toArray.filterMap id=(vs.map λv=>Value.ref (F v)).toArray:=by
   rw[List.filterMap_toArray,List.filterMap_map];congr 1;rw[show(id ∘ λv=>some (Value.ref (F v)))=λv=>some (Value.ref (F v))from rfl];exact congrFun List.filterMap_eq_map' vs
  rw[e1,oneTypeOnly'_eq];refine aG (aG (yz (λ_=>Value.type "tuple") _ (λv hv Q' q'=>?_) _ ?_))
  ·obtain⟨u,hu,rfl⟩:=bz.mp hv;obtain⟨_,_,ys,_,_,o,ho,hc,n,hd⟩:=hF u hu;exact gU (T := "tuple") ⟨o,ho,hc⟩ q'
  ·rw[bu];obtain⟨v0,vs',rfl⟩:∃v0 vs',vs=v0::vs':=by
    cases vs with
    | nil=>exact absurd rfl h0
    | cons a b=>exact⟨a,b,rfl⟩
   have ha:((List.map ((λ_=>Value.type "tuple") ∘ λv=>Value.ref (F v)) (v0::vs')).toArray.all λx=>x == Value.type "tuple")=true:=by
    simp only[List.all_toArray,gT,eF];intro _ _;rfl
   have hz:(List.map ((λ_=>Value.type "tuple") ∘ λv=>Value.ref (F v)) (v0::vs')).toArray[0]?=some (Value.type "tuple"):=by simp
   rw[hz];simp only[ha,cY];exact aV (aV q)
end
end Sx
namespace L2
open PySem PySem.Spec PyProof.Rows
section
variable {X:Cx}
theorem Gy{s:aA}{H:Hp}{Q:VK}{h':aq}{tk:Nat}{rs:List ak}{kss:List (List Int)}(I1:Inv X pins σ H { s with heap:=h',toks:=tk })(hlen:rs.length=kss.length)(hz:rs.length<=sizeLine)(hu:X.A.units+64<cLine)
  (hnd:∀i j (hi:i<kss.length) (hj:j<kss.length),kss[i]=kss[j]->i=j)
  (hT:∀(i:Nat) (r:ak) (ks:List Int),rs[i]?=some r->kss[i]?=some ks->∃(a:ak) (v:V),nq X.K H r [.ref a,v]/\nq X.K H a (ks.map V.int))
  (q:∀l g,H l=none->Sx.Cl g 0 kss.length->Sx.So (Sx.AJ kss) g 0 kss.length->Q (.ref l) (upd H l (.lst (((List.range kss.length).map λi=>rs.getD (g i) 0).map V.ref)))) :
  wpAny (model X.prog X.w) X.A.in1 (do
   let l <- newList (rs.map Value.ref)
   let _ <- holding [l] (call (Value.builtin "list.sort") [l] [])
   ret l) (λfin s'=>∃v,fin=Fin.done (Flow.ret v)/\EP X pins σ Q v s') X.xe { s with heap:=h',toks:=tk }:=by
 have hN:(rs.map Value.ref).length=kss.length:=by rw[aH,hlen]
 refine aG (jh ?_);have hoL:(h'.push (seqObj "list" (rs.map Value.ref).toArray 0)).get? h'.objs.size=some (seqObj "list" (rs.map Value.ref).toArray 0):=bD _ rfl;show wpAny _ _ _ _ _ { s with toks:=tk,heap:=h'.push (seqObj "list" (rs.map Value.ref).toArray 0)};have keep:∀(r:ak) (its:Array af),IsTup h' r its->IsTup (Sx.AY (h'.push (seqObj "list" (rs.map Value.ref).toArray 0)) h'.objs.size (rs.map Value.ref)) r its:=λr its ⟨o,ho,hc,n,hd⟩=>by
  refine⟨o,?_,hc,n,hd⟩;have lt:r<h'.objs.size:=bw ho;rw[Sx.IV (bG lt) (by rw[eG];exact dX lt)];exact aS _ ho
 have tup:∀(i:Nat) (r:ak) (ks:List Int),rs[i]?=some r->kss[i]?=some ks->∃(a:ak) (u:af) (its:List af),IntsAre its ks/\IsTup (Sx.AY (h'.push (seqObj "list" (rs.map Value.ref).toArray 0)) h'.objs.size (rs.map Value.ref)) r #[.ref a,u]/\IsTup (Sx.AY (h'.push (seqObj "list" (rs.map Value.ref).toArray 0)) h'.objs.size (rs.map Value.ref)) a its.toArray:=λi r ks e1 e2=>by
  obtain⟨a,v,t1,t2⟩:=hT i r ks e1 e2;obtain⟨its,rv,p1,_⟩:=I1.tuple t1;obtain⟨jts,rw_,p2,_⟩:=I1.tuple t2
  cases rv with
  | cons g1 rv=>cases rv with
   | cons g2 rv=>
    cases rv
    have g1:_=Value.ref a:=g1;subst g1;exact⟨a,_,jts,intsAre_of rw_,keep _ _ p1,keep _ _ p2⟩
 refine aG (dM (cV slot_list_sort ⟨_,hoL,rfl⟩ entry_list_sort (Sx.wM (o:=Sx.AJ kss) (kd:=tuples' false) hoL (by rw[hN];lia) (λh2 Q' q'=>?_) (λh2 i j hi hj E' Q' q'=>?_) λg hc hs=>⟨_,rfl,?_⟩) (args_list_sort _)))
 ·refine Sx.Gz (λz=>by rw[z]at h2;simp at h2) (λv hv=>?_) q';obtain⟨i,hi⟩:=eZ hv;rw[aR]at hi;obtain⟨r,hr,rfl⟩:=aX.mp hi;have lt:=(aN.mp hr).1;have e2:kss[i]?=some kss[i]:=aF (by lia);obtain⟨a,u,its,_,h3,h4⟩:=tup i r _ hr e2;exact⟨r,a,_,its,rfl,h3,h4⟩
 ·rw[hN]at hi hj;have e1:rs[i]?=some (rs[i]'(by lia)):=aF _;have e2:rs[j]?=some (rs[j]'(by lia)):=aF _;have k1:kss[i]?=some kss[i]:=aF hi;have k2:kss[j]?=some kss[j]:=aF hj;obtain⟨a1,u1,x1,y1,b1,c1⟩:=tup i _ _ e1 k1;obtain⟨a2,u2,x2,y2,b2,c2⟩:=tup j _ _ e2 k2;have v1:(rs.map Value.ref).getD i .none=.ref (rs[i]'(by lia)):=by rw[aJ,aR,e1];rfl
  have v2:(rs.map Value.ref).getD j .none=.ref (rs[j]'(by lia)):=by rw[aJ,aR,e2];rfl
  show wpAny _ _ (keyLt' (tuples' false) ((rs.map Value.ref).getD i .none) ((rs.map Value.ref).getD j .none)) Q' E' _;rw[v1,v2];have d1:kss.getD i []=kss[i]:=by rw[aJ,k1];rfl
  have d2:kss.getD j []=kss[j]:=by rw[aJ,k2];rfl
  have this:(Sx.AJ kss).lt i j=HT.lexLt kss[i] kss[j]:=by show HT.lexLt _ _=_;rw[d1,d2]
  by_cases hij:i=j
  ·subst hij;rw[this,Sx.yC]at q';exact Sx.Gj b1 q'
  ·rw[this]at q';exact Sx.Gs b1 b2 c1 c2 y1 y2 (by show X.A.units+1+1<cLine;lia) (λz=>hij (hnd i j hi hj z)) q'
 ·rw[hN]at hc hs ⊢;obtain⟨e,he⟩:=sortedHeap_at (out:=((List.range kss.length).map λi=>(rs.map Value.ref).getD (g i) .none).toArray) hoL;have old:∀b ob,h'.get? b=some ob->(sortedHeap (h'.push (seqObj "list" (rs.map Value.ref).toArray 0)) h'.objs.size (rs.map Value.ref) ((List.range kss.length).map λi=>(rs.map Value.ref).getD (g i) .none).toArray).get? b=some ob:=λb ob eb=>by
   rw[sortedHeap_old (bG (bw eb)) (by rw[eG];exact dX (bw eb))];exact aS _ eb
  refine aV ⟨_,rfl,.ref h'.objs.size,_,I1.laid (t':=tk) (o:=.lst (((List.range kss.length).map λi=>rs.getD (g i) 0).map V.ref)) old (aQ _) ?_,rfl,q _ g (I1.hok.fresh (aQ _)) hc hs⟩;refine⟨by rw[aH,aH,cA];lia,((List.range kss.length).map λi=>rs.getD (g i) 0).map Value.ref,e,xE _,?_⟩;rw[he];congr 2;rw[bu];congr 1;refine cJ λi hi=>?_;have:=(hc i (bM _) (cO.mp hi)).2;have lt:g i<rs.length:=by lia
  show(rs.map Value.ref).getD (g i) .none=Value.ref (rs.getD (g i) 0);rw[aJ,aR,aF lt,aJ,aF lt];rfl
theorem CO(hu:X.A.units+64<cLine):kH X (.builtin "sorted") (λxs H Q=>∃(p:ak) (rs:List ak) (kss:List (List Int)),xs=[.ref p]/\pW X.K H p (rs.map V.ref)/\rs.length=kss.length/\(∀i j (hi:i<kss.length) (hj:j<kss.length),kss[i]=kss[j]->i=j) /\
  (∀(i:Nat) (r:ak) (ks:List Int),rs[i]?=some r->kss[i]?=some ks->∃(a:ak) (v:V),nq X.K H r [.ref a,v]/\nq X.K H a (ks.map V.int)) /\
  ∀l g,H l=none->Sx.Cl g 0 kss.length->Sx.So (Sx.AJ kss) g 0 kss.length->Q (.ref l) (upd H l (.lst (((List.range kss.length).map λi=>rs.getD (g i) 0).map V.ref)))):=by
 intro pins s σ H xs us Q I r h;obtain⟨p,rs,kss,rfl,hq,hlen,hnd,hT,q⟩:=h;obtain⟨u,rfl,rx⟩:=vals1 r
 cases rx
 obtain⟨its,rv,pl,hz⟩:=I.list hq;have ei:=xg rv;subst ei;obtain⟨o,ho,hcl,n,hd⟩:=pl.isList;rw[aH]at hz;have hN:(rs.map Value.ref).length=kss.length:=by rw[aH,hlen]
 refine gp kind_sorted plain_sorted entry_sorted (args_sorted1 _) ?_;unfold Builtin.«sorted»;refine aG (m:=checkCount "sorted" 1 1 _) (aV ?_);refine aG (wpAny_collect_seq p (.inl rfl) ho hcl hd (λh' hk=>Gy (s:=s) (I.kept (t':=s.toks) hk) hlen hz hu hnd hT q) (by rw[bg,hN];lia))
end
end L2
namespace Am
open PySem PySem.Spec PyProof.Rows L2
noncomputable def lY (S:jG)(n:Nat):Option (List (Int×A)):=match S[n]? with
 | some (.qV xs)=>some xs
 | _=>none
theorem pV{n:Nat}(h:lY S n=some xs):S[n]?=some (.qV xs):=by
 unfold lY at h;split at h
 ·rename_i e;cases h;exact e
 ·cases h
theorem Cg{S:jG}{n:Nat}(h:S[n]?=some (.qV xs)):lY S n=some xs:=by
 unfold lY;rw[h]
noncomputable def nB (kvs:List (Int×A))(k:Int):Option A:=(kvs.find? λkv=>decide (kv.1=k)).map (·.2)
noncomputable def wQ (kvs:List (Int×A))(k:Int)(v:A):List (Int×A):=
 if (nB kvs k).isSome=true then kvs.map (λkv=>if kv.1=k then(kv.1,v)else kv)else kvs++[(k,v)]
section
variable {K:au}{ρ:List ak}{H:Hp}
theorem K2{p:Int×A}{r:List (Int×A)}{k:Int}(e:p.1=k):nB (p::r) k=some p.2:=by simp[nB,cN,e]
theorem Kh{p:Int×A}{r:List (Int×A)}{k:Int}(e:¬p.1=k):nB (p::r) k=nB r k:=by simp[nB,cN,e]
theorem YI{a b:Int}(e:(Sum.inl a:Key)=Sum.inl b):a=b:=by injection e
theorem DI.look:∀{kvs:List (Int×A)}{ks:List (Key×V)}(k:Int),DI K ρ H kvs ks->(nB kvs k).isSome=(qc ks (Sum.inl k:Key)).isSome/\∀x,nB kvs k=some x->∃v,qc ks (Sum.inl k:Key)=some v/\AV K ρ H x v
 | [],[],k,_=>⟨rfl,λx h=>nomatch h⟩
 | p::r,q::r',k,⟨⟨e,a⟩,t⟩=>by
  by_cases c:p.1=k
  ·have c':q.1=(Sum.inl k:Key):=by rw[e,c]
   rw[K2 c,sZ c'];exact⟨rfl,λx h=>by cases h;exact⟨_,rfl,a⟩⟩
  ·have c':¬q.1=(Sum.inl k:Key):=λz=>c (YI (e.symm.trans z));rw[Kh c,tY c'];exact DI.look k t
theorem DI.repl{x:A}{v:V}(h:AV K ρ H x v)(k:Int):∀{kvs:List (Int×A)}{ks:List (Key×V)},DI K ρ H kvs ks->DI K ρ H (kvs.map λkv=>if kv.1=k then(kv.1,x)else kv) (ks.map λkv=>if kv.1=(Sum.inl k:Key)then(kv.1,v)else kv)
 | [],[],_=>trivial
 | p::r,q::r',⟨⟨e,a⟩,t⟩=>by
  refine⟨?_,DI.repl h k t⟩;dsimp only;by_cases c:p.1=k
  ·rw[aM c,aM (by rw[e,c])];exact⟨e,h⟩
  ·rw[aK c,aK (λz=>c (YI (e.symm.trans z)))];exact⟨e,a⟩
theorem DI.snoc{x:A}{v:V}(h:AV K ρ H x v)(k:Int):∀{kvs:List (Int×A)}{ks:List (Key×V)},DI K ρ H kvs ks->DI K ρ H (kvs++[(k,x)]) (ks++[(Sum.inl k,v)])
 | [],[],_=>⟨⟨rfl,h⟩,trivial⟩
 | p::r,q::r',⟨a,t⟩=>⟨a,DI.snoc h k t⟩
theorem DI.put{x:A}{v:V}(h:AV K ρ H x v)(k:Int)(d:DI K ρ H kvs ks):DI K ρ H (wQ kvs k x) (putK ks (Sum.inl k:Key) v):=by
 unfold wQ putK;rw[wo,<- (d.look k).1];by_cases c:(nB kvs k).isSome=true
 ·rw[aM c,aM c];exact DI.repl h k d
 ·rw[aK c,aK c];exact DI.snoc h k d
theorem DI.length:∀{kvs:List (Int×A)}{ks:List (Key×V)},DI K ρ H kvs ks->kvs.length=ks.length
 | [],[],_=>rfl
 | _::_,_::_,⟨_,t⟩=>dm (·+1) t.length
theorem DI.keys:∀{kvs:List (Int×A)}{ks:List (Key×V)},DI K ρ H kvs ks->ks.map (·.1)=kvs.map λkv=>(Sum.inl kv.1:Key)
 | [],[],_=>rfl
 | _::_,_::_,⟨⟨e,_⟩,t⟩=>by rw[bE,bE,e,DI.keys t]
theorem Rel.qV{n:Nat}{a:ak}(R:Rel K ρ H S)(ha:ρ[n]?=some a)(hS:S[n]?=some (.qV xs)):∃vs,H a=some (.dK vs)/\DI K ρ H xs vs:=R.at n a _ ha hS
theorem Rel.Ys{S:jG}{p:ak}(R:Rel K ρ H S)(hp:H p=none)(r:DI K ρ H xs vs):Ext ρ (ρ++[p]) H (upd H p (.dK vs))/\Rel K (ρ++[p]) (upd H p (.dK vs)) (S++[.qV xs])/\(ρ++[p])[S.length]?=some p:=by
 have ex:Ext ρ (ρ++[p]) H (upd H p (.dK vs)):=⟨⟨fQ _ _,λa u _ h=>by rw[jP (jY h hp)];exact h⟩,λa u h _=>by rw[jP (jY h hp)];exact h,λa h=>by
  rcases bF.mp h with z|z
  ·exact .inl z
  ·have e:a=p:=by simpa using z
   rw[e];exact .inr hp⟩
 have np:p∉ρ:=R.M5 hp;have last:(ρ++[p])[S.length]?=some p:=by rw[<- R.len];simp
 refine⟨ex,⟨by simp[R.len],?_,?_⟩,last⟩
 ·rw[dY];refine⟨R.nd,by simp,λa ha b hb e=>?_⟩;have:b=p:=by simpa using hb
  exact np (by rw[<- this,<- e];exact ha)
 ·intro n a o h1 h2;by_cases hn:n<S.length
  ·rw[bH (by rw[R.len];exact hn)]at h1;rw[bH hn]at h2;have na:a≠p:=λz=>np (by rw[<- z];exact aW h1);have:=R.at n a o h1 h2
   cases o with
   | lst ys=>obtain⟨ws,e,q⟩:=this;exact⟨ws,by rw[jP na];exact e,q.ext ex⟩
   | dct _|qV _=>obtain⟨ws,e,q⟩:=this;exact⟨ws,by rw[jP na];exact e,q.ext ex⟩
   | ins _ _=>obtain⟨oo,uu,e⟩:=this;exact⟨oo,uu,by rw[jP na];exact e⟩
  ·have e:n=S.length:=by
    have:=(aN.mp h2).1;simp at this;lia
   subst e;rw[last]at h1
   cases h1
   simp at h2;subst h2;exact⟨vs,lI,r.ext ex⟩
theorem Rel.wQ{S:jG}{n:Nat}{a:ak}(R:Rel K ρ H S)(ha:ρ[n]?=some a)(hS:S[n]?=some (.qV xs))(r:DI K ρ H ys ws):Ext ρ ρ H (upd H a (.dK ws))/\Rel K ρ (upd H a (.dK ws)) (S.set n (.qV ys)):=by
 obtain⟨vs,e,_⟩:=R.at n a _ ha hS;have ex:Ext ρ ρ H (upd H a (.dK ws)):=⟨⟨fM _,λb u i h=>by
  have:b≠a:=by
   intro z;subst z;rw[e]at h;cases h;exact i
  rw[jP this];exact h⟩,λb u h n=>by
  rw[jP (λz=>n (by rw[z];exact aW ha))];exact h,λ_ h=>.inl h⟩
 refine⟨ex,by rw[b9];exact R.len,R.nd,λm b o h1 h2=>?_⟩;by_cases hm:m=n
 ·subst hm;rw[ha]at h1;cases h1;rw[bY (aN.mp hS).1]at h2
  cases h2
  exact⟨ws,lI,r.ext ex⟩
 ·rw[cE (c7 hm)]at h2;have nb:b≠a:=λz=>by
   subst z;obtain⟨l1,e1⟩:=aN.mp ha;obtain⟨l2,e2⟩:=aN.mp h1;exact hm ((dj R.nd).mp (e2.trans e1.symm))
  have:=R.at m b o h1 h2
  cases o with
  | lst ys=>obtain⟨ws',e',q⟩:=this;exact⟨ws',by rw[jP nb];exact e',q.ext ex⟩
  | dct _|qV _=>obtain⟨ws',e',q⟩:=this;exact⟨ws',by rw[jP nb];exact e',q.ext ex⟩
  | ins _ _=>obtain⟨oo,uu,e'⟩:=this;exact⟨oo,uu,by rw[jP nb];exact e'⟩
end
section
variable {X:Cx}{pos:Pos}{a b:aC}
noncomputable def zo (x y:A)(S:jG):R A:=match x,y with
 | .ref n,.int k=>opt (lY S n) λkvs=>opt (nB kvs k) λv=>.ok v S
 | _,_=>.no
theorem JQ{x:A}{P:A->jG->Prop}{E:Str->jG->Prop}(h:(zo x y S).post P E):∃n k kvs v,x=.ref n/\y=.int k/\lY S n=some kvs/\nB kvs k=some v/\P v S:=by
 unfold zo at h;split at h
 ·obtain⟨kvs,h1,h⟩:=jN h;obtain⟨v,h2,h⟩:=jN h;exact⟨_,_,kvs,v,rfl,rfl,h1,h2,h⟩
 ·exact h.elim
theorem Xg(hu:X.A.units+64<cLine):Uq X (r2 X zo):=λvalue slice pins s σ H x y v u Q I rx ry ⟨ρ,S,a,b,R,va,vb,h⟩ hs=>by
 obtain⟨n,k,kvs,z,ha,hb,hn,hz,hP⟩:=JQ h;subst ha hb
 cases vb
 cases va with
 | @ref p _ hp=>
  obtain⟨ks,e,d⟩:=R.qV hp (pV hn);obtain⟨w,hw,aw⟩:=(d.look k).2 z hz;have g:vg H p (kV (Sum.inl k)) (qc ks (Sum.inl k)):=vg.k e;rw[hw]at g;exact GX (by lia) value slice pins s σ H _ _ v u Q I rx ry ⟨p,w,rfl,g,hP _ _ _ .refl R aw⟩ hs
theorem MP(hu:X.A.units+64<cLine){ca cb:Ex}(ha:AE X a ca)(hb:AE X b cb)(hs:yw b:=by exact λ_ _=>rfl):AE X (.Subscript a b pos) (jO zo ca cb):=PE.imp (Ph (Xg hu) ha hb hs) λσ H Q h=>uq h
noncomputable def Bf (o i v:A)(S:jG):R Unit:=match o,i with
 | .ref n,.int k=>opt (lY S n) λkvs=>gd (kvs.length<sizeLine) (.ok () (S.set n (.qV (wQ kvs k v))))
 | _,_=>.no
theorem Gq{x v:A}{S:jG}{P:Unit->jG->Prop}{E:Str->jG->Prop}(h:(Bf x y v S).post P E):∃n k kvs,x=.ref n/\y=.int k/\lY S n=some kvs/\kvs.length<sizeLine/\P () (S.set n (.qV (wQ kvs k v))):=by
 unfold Bf at h;split at h
 ·obtain⟨kvs,h1,h⟩:=jN h;obtain⟨h2,h⟩:=kh h;exact⟨_,_,kvs,rfl,rfl,h1,h2,h⟩
 ·exact h.elim
noncomputable def ZP (X:Cx):JT:=λo i v H Q=>∃ρ S ao ai av,Rel X.K ρ H S/\AV X.K ρ H ao o/\AV X.K ρ H ai i/\AV X.K ρ H av v/\(Bf ao ai av S).post (λ_ S'=>∀ρ' H',Ext ρ ρ' H H'->Rel X.K ρ' H' S'->Q H') (XE X ρ H)
theorem QV(hu:X.A.units+64<cLine):JE X (ZP X):=λpins s σ H o i v ov iv u Q I ro ri rv h9=>by
 obtain⟨ρ,S,ao,ai,av,R,h1,h2,h3,h⟩:=h9;obtain⟨n,k,kvs,ha,hb,hn,hl,hP⟩:=Gq h;subst ha hb
 cases h2
 cases h1 with
 | @ref p _ hp=>
  obtain⟨ks,e,d⟩:=R.qV hp (pV hn);obtain⟨ex,R'⟩:=R.wQ hp (pV hn) (d.put h3 k);exact set_dict (by lia) pins s σ H _ _ v ov iv u Q I ro ri rv ⟨p,_,rfl,Fe.k (k:=Sum.inl k) e (by rw[<- d.length];exact hl),hP _ _ ex R'⟩
noncomputable def J0 (co ci:Ex):Tg:=λa τ S=>(co τ S).bind λo S1=>(ci τ S1).bind λi S2=>(Bf o i a S2).bind λ_ S3=>.ok τ S3
theorem Ii(hu:X.A.units+64<cLine){co ci:Ex}(ho:AE X o co)(hi:AE X i ci)
  (ha:∀v,assign (.Subscript o i pos) X.env v=(do
   let ov <- holding [v] (eval o X.env)
   let iv <- holding [v,ov] (eval i X.env)
   standAt pos
   holding [v,ov,iv] (setItem ov iv v)
   release [v,ov,iv] []):=by intro _;rfl):AG X (.Subscript o i pos) (J0 co ci):=PG.imp (F4 ho hi (QV hu) ha) λv σ H Q h9=>by
 obtain⟨ρ,S,τ,a,R,r,va,h⟩:=h9;refine⟨ρ,S,τ,R,r,jK (jM h) .refl λo S1 h1 ρ1 H1 x e1 R1 v1=>⟨ρ1,S1,τ,R1,r.ext e1,jK (jM h1) e1 λi S2 h2 ρ2 H2 y e2 R2 v2=>?_⟩⟩;refine⟨ρ2,S2,o,i,a,R2,v1.ext e2,v2,va.ext (e1.trans e2),jK (jM h2) (e1.trans e2) λ_ S3 h3 ρ3 H3 e3 R3=>?_⟩;exact h3 ρ3 H3 σ ((e1.trans e2).trans e3) R3 (r.ext ((e1.trans e2).trans e3))
noncomputable def Gm:Ex:=λ_ S=>.ok (.ref S.length) (S++[.qV []])
theorem OI:AE X (.Dict [] [] pos) Gm:=PE.imp Lc λσ H Q ⟨ρ,S,τ,R,r,h⟩ p hp=>by
 obtain⟨ex,R',hl⟩:=R.Ys (xs:=[]) (vs:=[]) hp trivial;exact h _ _ _ ex R' (.ref hl)
noncomputable def dk? (a:A)(S:jG):Option Unit:=match a with
 | .ref n=>(lY S n).map λ_=>()
 | _=>none
noncomputable def Ko (f:A->List A->jG->R A)(co:Ex)(d:qL):Ex:=λτ S=>(co τ S).bind λx S1=>opt (dk? x S1) λ_=>(d τ S1).bind λas S2=>f x as S2
theorem dk?_ty{K:au}{H:Hp}{x:A}{v:V}(R:Rel K ρ H S)(a:AV K ρ H x v)(e:dk? x S=some u):XZ K "dict" v H:=by
 cases a with
 | @ref p n h=>
  obtain⟨xs,hx,_⟩:=aX.mp e;obtain⟨vs,h1,_⟩:=R.qV h (pV hx);exact .inr (.inr (.inl ⟨rfl,.inl ⟨vs,h1⟩⟩))
 | _=>cases e
theorem NI{e:aC}{id:String}{apos cpos:Pos}{f:A->List A->jG->R A}{co:Ex}{d:qL}(slot:Slot "dict" name id)(hty:typeOf (.builtin id)=pure (.type "method_descriptor"))(hm:TR X id (rM X f))(ho:AE X o co)(ha:AL X (e::es) d)
  (hbase:attributeBase o name X.env (eval o X.env)=eval o X.env:=by rfl)
  (hfew:((backTo cpos (starEach (e::es) X.env)).all (λx=>!x.1) && (backToKw cpos (keywordEach [] X.env)).all (λx=>x.1.isSome)
   && decide ((e::es).length+([]:List Keyword).length+(if ([]:List Keyword).isEmpty then 0 else 1)<30))=true:=by rfl)
  (hline:(apos.endLine == cpos.line)=true:=by rfl) (hs:starEach (e::es) X.env=(false,eval e X.env)::starEach es X.env:=by rfl) (hplain:(backTo cpos (starEach es X.env)).any (·.1)=false:=by rfl) :
  AE X (.Call (.Attribute o name apos) (e::es) [] cpos) (Ko f co d):=PE.imp (Lx PySem.F.plainAttrs_dict slot hty hm ho ha hbase hfew hline hs hplain) λσ H Q h9=>by
 obtain⟨ρ,S,τ,R,r,h⟩:=h9;refine⟨ρ,S,τ,R,r,jK (jM h) .refl λx S1 h1 ρ1 H1 v e1 R1 v1=>?_⟩;obtain⟨xs,hx,h1⟩:=jN h1;refine⟨dk?_ty R1 v1 hx,ρ1,S1,τ,R1,r.ext e1,jK (jM h1) e1 λas S2 h2 ρ2 H2 vs e2 R2 v2=>?_⟩;exact⟨ρ2,S2,x,as,R2,v1.ext e2,v2,jK h2 (e1.trans e2) λ_ _ z=>z.ext (e1.trans e2)⟩
noncomputable def ye (o:A)(as:List A)(S:jG):R A:=match o,as with
 | .ref n,[.int k,y]=>opt (lY S n) λkvs=>.ok ((nB kvs k).getD y) S
 | _,_=>.no
theorem FN{x:A}{P:A->jG->Prop}{E:Str->jG->Prop}(h:(ye x as S).post P E):∃n k y kvs,x=.ref n/\as=[.int k,y]/\lY S n=some kvs/\P ((nB kvs k).getD y) S:=by
 unfold ye at h;split at h
 ·obtain⟨kvs,h1,h⟩:=jN h;exact⟨_,_,_,kvs,rfl,rfl,h1,h⟩
 ·exact h.elim
theorem LA(hu:X.A.units+64<cLine):TR X "dict.get" (rM X ye):=λpins s σ H x vs v us Q I rx rv h9=>by
 obtain⟨ρ,S,o,as,R,vo,va,h⟩:=h9;obtain⟨n,k,y,kvs,ho,has,hn,hP⟩:=FN h;subst ho has;obtain⟨w1,w2,rfl,hz,hy⟩:=WN va
 cases hz
 cases vo with
 | @ref p _ hp=>
  obtain⟨ks,h1,dv⟩:=R.qV hp (pV hn)
  cases rx
  obtain⟨u1,u2,rfl,r1,r2⟩:=vals2 rv;refine UC (by lia) I (vg.k (k:=Sum.inl k) h1) r1 r2 λw' s' I' rw'=>⟨_,H,I',rw',hP _ _ _ .refl R ?_⟩;obtain⟨l1,l2⟩:=dv.look k
  cases e1:nB kvs k with
  | none=>
   rw[e1]at l1
   cases e2:qc ks (Sum.inl k:Key)with
   | none=>exact hy
   | some _=>rw[e2]at l1;cases l1
  | some x1=>
   obtain⟨v1,e2,a1⟩:=l2 x1 e1;rw[e2];exact a1
end
section
variable {X:Cx}
noncomputable def Wh (n:Nat)(S:jG):R A:=opt (j4 S n) λkvs=>match (kvs.map Prod.fst).all (λks=>!ks.isEmpty)with
 | true=>.ok (.ref S.length) (S++[.lst ((mL (kvs.map Prod.fst)).map λks=>.tup (ks.map .int))])
 | false=>.no
noncomputable def xD (x:A)(S:jG):R A:=match x with
 | .ref n=>Wh n S
 | _=>.no
theorem HD{K:au}{H:Hp}:∀{kvs:List (List Int×A)}{ks:List (List Key×V)},DV K ρ H kvs ks->ks.map (λp=>p.1)=(kvs.map Prod.fst).map (λks=>ks.map Sum.inl)
 | [],[],_=>rfl
 | a::kvs,b::ks,⟨z,t⟩=>by
  have:=HD t;show b.1::ks.map _=a.1.map Sum.inl::_;rw[this,z.1]
theorem GQ(hc:X.calm=true):kH X (.builtin "sorted") (rN X (f1 xD)):=kH.imp (CL hc) λvs H Q h0=>by
 obtain⟨w,rfl,ρ,S,x,R,hv,h⟩:=Tj h0;clear h0
 cases hv with
 | ref hp=>
  rename_i p n;obtain⟨kvs,hn,h⟩:=jN h;obtain⟨ks,g1,dv⟩:=R.dct hp (n_ hn)
  cases hb:(kvs.map Prod.fst).all (λks=>!ks.isEmpty)with
  | false=>rw[hb]at h;exact h.elim
  | true=>
   rw[hb]at h;refine⟨p,ks,kvs.map Prod.fst,rfl,g1,HD dv,λk hk z=>?_,λrs l g hl hh hl' hc hs=>?_⟩
   ·have:=eF.mp hb k hk;rw[z]at this
    cases this
   have av:AVs X.K ρ H ((mL (kvs.map Prod.fst)).map λks=>.tup (ks.map .int)) (((List.range (kvs.map Prod.fst).length).map λi=>rs.getD (g i) 0).map V.ref):=by
    rw[<- Mw hc hs,bu,bu];refine BP λi hi=>?_;have lt:=(hc i (bM _) (cO.mp hi)).2;have e1:rs[g i]?=some (rs.getD (g i) 0):=by rw[aJ,aF (by rw[hl];exact lt)];rfl
    have e2:(kvs.map Prod.fst)[g i]?=some ((kvs.map Prod.fst).getD (g i) []):=by rw[aJ,aF lt];rfl
    exact .tup (hh _ _ _ e1 e2) (rC _)
   exact o5 R av .refl h l hl'
 | _=>exact h.elim
end
noncomputable def QN:List A->Option (List (Int×A))
 | []=>some []
 | .tup [.int k,x]::r=>(QN r).map λps=>(k,x)::ps
 | _=>none
noncomputable def Rt (ps:List (Int×A)):List (Int×A):=ps.foldl (λacc p=>wQ acc p.1 p.2) []
section
variable {K:au}{ρ:List ak}{H:Hp}
theorem Si{x:A}(r:AVs K ρ H [x,y] vs):∃v w,vs=[v,w]/\AV K ρ H x v/\AV K ρ H y w:=by
 cases r with
 | cons h t=>cases t with
  | cons h' t'=>cases t';exact⟨_,_,rfl,h,h'⟩
theorem Lf{x:A}(e:QN (x::xs)=some ps):∃k y ps',x=.tup [.int k,y]/\QN xs=some ps'/\ps=(k,y)::ps':=by
 unfold QN at e;split at e
 ·rename_i e2;cases e2
 ·rename_i k y r e2
  cases e2
  obtain⟨ps',h1,h2⟩:=aX.mp e;exact⟨_,_,_,rfl,h1,h2.symm⟩
 ·cases e
theorem Yo:∀{xs:List A}{vs:List V}{ps:List (Int×A)},AVs K ρ H xs vs->QN xs=some ps ->
  ∃(rs:List ak) (qs:List (Int×V)),vs=rs.map V.ref/\rs.length=qs.length/\(∀(i:Nat) (r:ak) (q:Int×V),rs[i]?=some r->qs[i]?=some q->nq K H r [.int q.1,q.2]) /\
   ∀as bs,DI K ρ H as bs->DI K ρ H (ps.foldl (λacc p=>wQ acc p.1 p.2) as) (qs.foldl (λacc p=>putK acc (Sum.inl p.1) p.2) bs):=by
 intro xs
 induction xs with
 | nil=>intro vs ps r e;cases r;cases e;exact⟨[],[],rfl,rfl,λi r q h=>by simp at h,λas bs h=>h⟩
 | cons x xs ih=>
  intro vs ps r e;obtain⟨k,y,ps',rfl,e1,rfl⟩:=Lf e
  cases r with
  | cons h t=>
   obtain⟨rs,qs,rfl,hl,hh,hd⟩:=ih t e1
   cases h with
   | @tup a _ us h r=>
    obtain⟨v,w,rfl,h1,h2⟩:=Si r
    cases h1
    refine⟨a::rs,(k,w)::qs,rfl,by rw[aZ,aZ,hl],λi r q e1 e2=>?_,λas bs d=>hd _ _ (d.put h2 k)⟩
    cases i with
    | zero=>cases e1;cases e2;exact nq.of h
    | succ i=>exact hh i r q (by simpa using e1) (by simpa using e2)
end
section
variable {X:Cx}
noncomputable def Fp (x:A)(S:jG):R A:=match x with
 | .ref n=>opt (jE S n) λxs=>opt (QN xs) λps=>.ok (.ref S.length) (S++[.qV (Rt ps)])
 | _=>.no
theorem P5(hc:X.calm=true):kH X (.type "dict") (rN X (f1 Fp)):=kH.imp (FZ hc) λvs H Q h0=>by
 obtain⟨w,rfl,ρ,S,x,R,hv,h⟩:=Tj h0;clear h0
 cases hv with
 | ref hp=>
  rename_i p n;obtain⟨xs,hn,h⟩:=jN h;obtain⟨ps,hb,h⟩:=jN h;obtain⟨us,h1,r⟩:=R.lst hp (jU hn);obtain⟨rs,qs,rfl,hl,hh,hd⟩:=Yo r hb;refine⟨p,rs,qs,rfl,pW.of h1,hl,hh,λl hl'=>?_⟩;obtain⟨ex,R',hl⟩:=R.Ys (xs:=Rt ps) (vs:=ptP qs) hl' (hd [] [] trivial);exact h _ _ _ ex R' (.ref hl)
 | _=>exact h.elim
noncomputable def yW (x:A)(S:jG):R A:=match x with
 | .ref n=>opt (lY S n) λkvs=>.ok (.ref S.length) (S++[.lst ((sortI (kvs.map Prod.fst)).map .int)])
 | _=>.no
theorem QL{ns:List Int}{g:Nat->Nat}(c:Sx.Cl g 0 ns.length)(so:Sx.So (RN ns) g 0 ns.length):(List.range ns.length).map (λi=>ns.getD (g i) 0)=sortI ns:=by
 refine Rg ?_ ?_ (Aj ns)
 ·refine List.Perm.trans ?_ (sortI_perm ns).symm;have p:=sD (N:=ns.length) (g:=g) (λi hi=>(c i (bM _) hi).2) λi j hij hj z=>by
   have:=so i j (bM _) hij hj;rw[z]at this;exact this.K6
  have:=p.map λi=>ns.getD i 0;rw[bu,range_getD]at this;exact this
 ·rw[c9];intro i j hi hj hij;rw[aH,cA]at hi hj;rw[c8,c8,eT,eT];have:=di (so i j (bM _) hij hj).ge;lia
theorem RC(hc:X.calm=true):kH X (.builtin "sorted") (rN X (f1 yW)):=kH.imp (CF hc) λvs H Q h0=>by
 obtain⟨w,rfl,ρ,S,x,R,hv,h⟩:=Tj h0;clear h0
 cases hv with
 | ref hp=>
  rename_i p n;obtain⟨kvs,hn,h⟩:=jN h;obtain⟨ks,g1,dv⟩:=R.qV hp (pV hn);refine⟨p,ks,kvs.map Prod.fst,rfl,g1,by rw[dv.keys,bu];rfl,λl g hl' hc hs=>?_⟩;have av:AVs X.K ρ H ((sortI (kvs.map Prod.fst)).map .int) ((List.range (kvs.map Prod.fst).length).map λi=>V.int ((kvs.map Prod.fst).getD (g i) 0)):=by
   rw[<- QL hc hs,bu];exact BP λi _=>.int _
  exact o5 R av .refl h l hl'
 | _=>exact h.elim
@[irreducible] noncomputable def big:Nat:=2 ^ 4096
theorem uS:big=2 ^ 4096:=by unfold big;rfl
theorem EB{i:Int}(h:i.natAbs<big):Builtin.Int.intBits i<=2 ^ 20:=by
 rw[uS]at h;exact bJ (intBits_le h) (by decide)
noncomputable def Hg (a b:A)(S:jG):R A:=match a,b with
 | .int i,.int j=>gd (i.natAbs<big/\j.natAbs<big) (.ok (.int (i * j)) S)
 | _,_=>.no
theorem Vv:o_ X (binaryOp .Mult) (r2 X Hg):=λpins s σ H x y v u Q I rx ry h9=>by
 obtain⟨ρ,S,a,b,R,va,vb,h⟩:=h9
 cases va with
 | int i=>cases vb with
  | int j=>
   obtain⟨⟨h1,h2⟩,h⟩:=kh h;obtain⟨t,rfl⟩:∃t,v=Value.int i t:=rx;obtain⟨t',rfl⟩:∃t,u=Value.int j t:=ry;exact mul_int ⟨.int _,H,I.tok _,⟨_,rfl⟩,h _ _ _ .refl R (.int _)⟩ (IntMulOk.of_bits (EB h1) (EB h2))
  | _=>exact h.elim
 | _=>exact h.elim
end
theorem PU:bootBuiltins "dict" = some (.type "dict"):=by decide +kernel
noncomputable def kA (p:Int×Int):A:=.ktu [.int p.1,.int p.2]
noncomputable def MT (K:au):af->Option (Int×Int)
 | .ref b=>match K.lookup b with
  | some ⟨.type "tuple",none,.seq its _,_⟩=>match its.toList with
   | [.int i _,.int j _]=>some (i,j)
   | _=>none
  | _=>none
 | _=>none
noncomputable def FP (K:au):List af->Option (List (Int×Int))
 | []=>some []
 | v::vs=>(MT K v).bind λp=>(FP K vs).map λps=>p::ps
noncomputable def PJ (K:au)(a:ak):Option (List (Int×Int)):=match K.lookup a with
 | some ⟨.type "list",none,.seq its _,_⟩=>if its.size<=sizeLine then FP K its.toList else none
 | _=>none
theorem NG{K:au}{v:af}{p:Int×Int}(h:MT K v=some p):∃b,v=.ref b/\KTp K b [.int p.1,.int p.2]:=by
 unfold MT at h;split at h
 ·rename_i b;refine⟨b,rfl,?_⟩;split at h
  ·rename_i its n sl e;split at h
   ·rename_i i t j u e2
    cases h
    refine⟨_,its,n,e,rfl,rfl,rfl,?_,?_⟩
    ·rw[<- d9,e2];show 2<=sizeLine;decide
    ·rw[e2];exact .cons ⟨t,rfl⟩ (.cons ⟨u,rfl⟩ .nil)
   ·cases h
  ·cases h
 ·cases h
theorem J3{K:au}{H:Hp}:∀{vs:List af}{ps:List (Int×Int)},FP K vs=some ps->∃us:List V,Vals us vs/\AVs K ρ H (ps.map kA) us:=by
 intro vs
 induction vs with
 | nil=>intro ps h;cases h;exact⟨[],.nil,.nil⟩
 | cons v vs ih=>
  intro ps h;obtain⟨p,h1,h⟩:=cC.mp h;obtain⟨qs,h2,rfl⟩:=aX.mp h;obtain⟨us,h3,h4⟩:=ih h2;obtain⟨b,rfl,h5⟩:=NG h1;exact⟨.ref b::us,.cons rfl h3,.cons (.ktu h5 (.cons (.int _) (.cons (.int _) .nil))) h4⟩
theorem Vx{K:au}{H:Hp}{a:ak}{ps:List (Int×Int)}(h:PJ K a=some ps):AV K ρ H (.frz (ps.map kA)) (.ref a):=by
 unfold PJ at h;split at h
 ·rename_i its n sl e;split at h
  ·rename_i hz;obtain⟨us,h1,h2⟩:=J3 (ρ:=ρ) (H:=H) h;exact .frz (.inr ⟨_,its,n,e,rfl,rfl,rfl,hz,h1⟩) h2
  ·cases h
 ·cases h
theorem El{X:Cx}{x:Str}{a:ak}{ps:List (Int×Int)}(hm:X.mg x=some (.ref a))(hk:PJ X.K a=some ps)(hg:Gl X x:=by rfl)(hd:(x == ("__debug__" : Str))=false:=by decide):AE X (.Name x pos) (eC (.frz (ps.map kA))):=
 PE.imp (Qx (v:=.ref a) hg hm rfl hd) λσ H Q h9=>by
  obtain⟨ρ,S,τ,R,r,h⟩:=h9;exact h ρ H _ .refl R (Vx hk)
noncomputable def zQ {α:Type}(x:List Int×α):List (List Int×α)->List (List Int×α)
 | []=>[x]
 | y::ys=>if HT.lexLt y.1 x.1=true then y::zQ x ys else x::y::ys
noncomputable def mR {α:Type}:List (List Int×α)->List (List Int×α)
 | []=>[]
 | x::xs=>zQ x (mR xs)
section
variable {α:Type}
theorem Bh(x:List Int×α):∀ys:List (List Int×α),(zQ x ys).Perm (x::ys)
 | []=>eS _
 | y::ys=>by
  unfold zQ;by_cases h:HT.lexLt y.1 x.1=true
  ·rw[aM h];exact((Bh x ys).cons y).trans (List.Perm.swap x y ys)
  ·rw[aK h]
theorem oU:∀xs:List (List Int×α),(mR xs).Perm xs
 | []=>eS _
 | x::xs=>(Bh x (mR xs)).trans ((oU xs).cons x)
theorem Dr(x:List Int×α):∀ys:List (List Int×α),(zQ x ys).map Prod.fst=C4 x.1 (ys.map Prod.fst)
 | []=>rfl
 | y::ys=>by
  unfold zQ;rw[bE];unfold C4;by_cases h:HT.lexLt y.1 x.1=true
  ·rw[aM h,aM h,bE,Dr]
  ·rw[aK h,aK h];rfl
theorem Bk:∀xs:List (List Int×α),(mR xs).map Prod.fst=mL (xs.map Prod.fst)
 | []=>rfl
 | x::xs=>by
  show(zQ x (mR xs)).map Prod.fst=C4 x.1 (mL (xs.map Prod.fst));rw[Dr,Bk]
theorem C_:∀{l:List (List Int×α)},(l.map Prod.fst).Nodup->∀a∈l,∀b∈l,a.1=b.1->a=b
 | [],_,_,h,_,_,_=>nomatch h
 | x::l,nd,a,ha,b,hb,e=>by
  obtain⟨h1,h2⟩:=cM.mp nd
  rcases bC.mp ha with ea|ha'
  ·rcases bC.mp hb with eb|hb'
   ·rw[ea,eb]
   ·subst ea;exact absurd (e ▸ fG hb') h1
  ·rcases bC.mp hb with eb|hb'
   ·subst eb;exact absurd (e ▸ fG ha') h1
   ·exact C_ h2 a ha' b hb' e
theorem yV{xs ys:List (List Int×α)}(nd:(ys.map Prod.fst).Nodup)(p:xs.Perm ys)(h:(xs.map Prod.fst).Pairwise Cs):xs=mR ys:=by
 refine dN (le:=λ(a b:List Int×α)=>Cs a.1 b.1) (λ(a b:List Int×α) ha hb h1 h2=>C_ nd a (p.mem_iff.mp ha) b ((oU ys).mem_iff.mp hb) (Sx.wG (show HT.lexLt b.1 a.1=false from h1) (show HT.lexLt a.1 b.1=false from h2)).symm) ?_ ?_ (p.trans (oU ys).symm)
 ·exact cG.mp h
 ·have:=rK (ys.map Prod.fst);rw[<- Bk]at this;exact cG.mp this
theorem QJ{ps:List (List Int×α)}{d:α}{g:Nat->Nat}(nd:(ps.map Prod.fst).Nodup)(c:Sx.Cl g 0 (ps.map Prod.fst).length)(so:Sx.So (Sx.AJ (ps.map Prod.fst)) g 0 (ps.map Prod.fst).length):(List.range (ps.map Prod.fst).length).map (λi=>ps.getD (g i) ([],d))=mR ps:=by
 refine yV nd ?_ ?_
 ·have p:=sD (N:=(ps.map Prod.fst).length) (g:=g) (λi hi=>(c i (bM _) hi).2) λi j hij hj z=>by
   have:=so i j (bM _) hij hj;rw[z]at this;exact this.K6
  have:=p.map λi=>ps.getD i ([],d);rw[bu,aH,range_getD]at this;rw[aH];exact this
 ·rw[bu];have e:(Prod.fst ∘ λi=>ps.getD (g i) ([],d))=λi=>(ps.map Prod.fst).getD (g i) []:=funext λi=>by
   show(ps.getD (g i) ([],d)).1=_;rw[aJ,aJ,aR]
   cases ps[g i]?<;>rfl
  rw[e,Mw c so];exact rK _
end
noncomputable def W3:List A->Option (List (List Int×A))
 | []=>some []
 | .tup [.tup xs,y]::r=>match A.ints xs with
  | some ks=>(W3 r).map λrs=>(ks,y)::rs
  | _=>none
 | _=>none
theorem N5{K:au}{H:Hp}:∀{xs:List A}{vs:List V}{ps:List (List Int×A)},AVs K ρ H xs vs->W3 xs=some ps ->
  ∃rs:List ak,vs=rs.map V.ref/\rs.length=ps.length/\∀(i:Nat) (r:ak) (e:List Int×A),rs[i]?=some r->ps[i]?=some e->(∃(a:ak) (v:V),nq K H r [.ref a,v]/\nq K H a (e.1.map V.int))/\AV K ρ H (.tup [.tup (e.1.map .int),e.2]) (.ref r)
 | [],_,_,.nil,e=>by cases e;exact⟨[],rfl,rfl,λi r ks h=>by simp at h⟩
 | x::xs,_,ps,.cons h t,e=>by
  unfold W3 at e;split at e
  ·rename_i z;cases z
  ·rename_i ys y r' z
   cases z
   cases e1:A.ints ys with
   | none=>rw[e1]at e;cases e
   | some ks=>
    rw[e1]at e;obtain⟨ps',e2,rfl⟩:=aX.mp e;obtain⟨rs,rfl,hl,hh⟩:=N5 t e2
    cases h with
    | tup h r=>cases r with
     | cons h1 r=>cases r with
      | cons h2 r=>
       cases r
       cases h1 with
       | tup h3 r3=>
        have ev:=yP r3 e1;subst ev;rename_i p _ q;refine⟨_::rs,rfl,by rw[aZ,aZ,hl],λi r' e' g1 g2=>?_⟩
        cases i with
        | zero=>
         cases g1
         cases g2
         exact⟨⟨_,_,nq.of h,nq.of h3⟩,.tup h (.cons (.tup h3 (rC _)) (.cons h2 .nil))⟩
        | succ i=>exact hh i r' e' (by simpa using g1) (by simpa using g2)
  ·cases e
section
variable {X:Cx}
noncomputable def yG (x:A)(S:jG):R A:=match x with
 | .ref n=>opt (jE S n) λxs=>opt (W3 xs) λps=>gd (ps.map Prod.fst).Nodup (.ok (.ref S.length) (S++[.lst ((mR ps).map λe=>.tup [.tup (e.1.map .int),e.2])]))
 | _=>.no
theorem EY(hu:X.A.units+64<cLine):kH X (.builtin "sorted") (rN X (f1 yG)):=kH.imp (CO hu) λvs H Q h0=>by
 obtain⟨w,rfl,ρ,S,x,R,hv,h⟩:=Tj h0;clear h0
 cases hv with
 | ref hp=>
  rename_i p n;obtain⟨xs,hn,h⟩:=jN h;obtain⟨ps,hb,h⟩:=jN h;obtain⟨nd,h⟩:=kh h;obtain⟨us,h1,r⟩:=R.lst hp (jU hn);obtain⟨rs,rfl,hl,hh⟩:=N5 r hb;have at_:∀(i:Nat) (ks:List Int),(ps.map Prod.fst)[i]?=some ks->∃e,ps[i]?=some e/\e.1=ks:=λi ks h=>by
   rw[aR]at h;exact aX.mp h
  refine⟨p,rs,ps.map Prod.fst,rfl,pW.of h1,by rw[aH,hl],λi j hi hj z=>(dj nd).mp z,λi r ks e1 e2=>?_,λl g hl' hc hs=>?_⟩
  ·obtain⟨e,g1,rfl⟩:=at_ i ks e2;exact(hh i r e e1 g1).1
  have av:AVs X.K ρ H ((mR ps).map λe=>.tup [.tup (e.1.map .int),e.2]) (((List.range (ps.map Prod.fst).length).map λi=>rs.getD (g i) 0).map V.ref):=by
   rw[<- QJ (d:=.non) nd hc hs,bu,bu];refine BP λi hi=>?_;have lt:=(hc i (bM _) (cO.mp hi)).2;rw[aH]at lt;have e1:rs[g i]?=some (rs.getD (g i) 0):=by rw[aJ,aF (by lia)];rfl
   have e2:ps[g i]?=some (ps.getD (g i) ([],.non)):=by rw[aJ,aF lt];rfl
   exact(hh _ _ _ e1 e2).2
  exact o5 R av .refl h l hl'
 | _=>exact h.elim
end
noncomputable def Df (K:au)(x:Str)(st:aE):Prop:=∃(f:ak) (fd:FuncData),PySem.W.nsIn K mainGlobals x=some (some (.ref f))/\Fun K x x st f fd
inductive En (P:aj) (w:ah) (K:au) (mg:Str->Option af) (base:aq):Prop
 | mk (h:aq) (X:K.In h) (G:h.Ns mainGlobals mg)
section
variable {P:aj}{w:ah}{K:au}{mg:Str->Option af}{base:aq}{x:Str}{st:aE}{ps:List Str}{k:Nat}{F:List A->jG->R A}
theorem En.at(E:En P w K mg base){f:ak}(h:PySem.W.nsIn K mainGlobals x=some (some (.ref f))):mg x=some (.ref f):=by
 obtain⟨_,X,G⟩:=E;exact ji X G h
theorem Df.of{f:ak}{kV pm ct:af}(a:PySem.W.nsIn K mainGlobals x=some (some (.ref f)))(l:K.lookup f=some ⟨oc,od,.func (PySem.W.fnOf x x (uD st) (qG st) (jQ st) .none kV doc pm an cdv ct),osl⟩)(c:PySem.W.codeIn K cdv x=true)(k:PySem.W.keepIn K (.ref f)=true):Df K x st:=⟨f,_,a,Vr l c k⟩
noncomputable abbrev Bi (x:Str)(st:aE)(ps:List Str):Prop:=∀us:List af,us.length=ps.length->∀(kV doc pm:af) (an:Option ak) (cdv ct:af),bindArgs (PySem.W.fnOf x x (uD st) (qG st) (jQ st) .none kV doc pm an cdv ct) ⟨us,[]⟩=pure (ps.zip us)
theorem Df.get(d:Df K x st)(E:En P w K mg base)(b:Bi x st ps):∃f fd,Fun K x x st f fd/\mg x=some (.ref f)/\PySem.W.keepIn K (.ref f)=true/\Binds K fd ps []:=by
 obtain⟨f,fd,a,F⟩:=d;exact⟨f,fd,F,E.at a,F.kp,F.binds λkV doc pm an cdv ct us hl=>b us hl kV doc pm an cdv ct⟩
theorem Df.kA(d:Df K x st)(E:En P w K mg base)(h:∀{f fd},Fun K x x st f fd->FnOk P w K mg base qj k f fd ps (rf K ps.length F))(b:Bi x st ps):mW P w K mg base k x ps F:=by
 obtain⟨f,fd,a,c,e,g⟩:=d.get E b;exact⟨f,fd,h a,c,e,g⟩
theorem Df.rA(d:Df K x st)(E:En P w K mg base)(h:∀{f fd},Fun K x x st f fd->mg x=some (.ref f)->PySem.W.keepIn K (.ref f)=true->Binds K fd ps []->FnOk P w K mg base qj k f fd ps (rf K ps.length F))(b:Bi x st ps):mW P w K mg base k x ps F:=by
 obtain⟨f,fd,a,c,e,g⟩:=d.get E b;exact⟨f,fd,h a c e g,c,e,g⟩
end
section
variable {X:Cx}{pos p:Pos}{e1 e2 e3:aC}{x p1 p2 p3:Str}{k K0:Nat}{F:List A->jG->R A}{c1 c2 c3:Ex}
theorem xH(G:mW X.prog X.w X.K X.mg X.base k x [p1] F)(hr:Room K0 X.A)(h1:AE X e1 c1)(hk:k<=K0:=by decide)(hg:Gl X x:=by rfl)(hdb:(x == ("__debug__" : Str))=false:=by decide)(s1:starEach [e1] X.env=(false,eval e1 X.env)::starEach [] X.env:=by rfl)(hp:(backTo pos (starEach [] X.env)).any (·.1)=false:=by rfl):AE X (.Call (.Name x p) [e1] [] pos) (eFn F (jA c1 jF)):=rR G (hr.mono hk) (jC h1 jJ s1) (kg nj) hg hdb s1 hp
theorem uW(G:mW X.prog X.w X.K X.mg X.base k x [p1,p2] F)(hr:Room K0 X.A)(h1:AE X e1 c1)(h2:AE X e2 c2)(hk:k<=K0:=by decide)(hg:Gl X x:=by rfl)(hdb:(x == ("__debug__" : Str))=false:=by decide)(s1:starEach [e1,e2] X.env=(false,eval e1 X.env)::starEach [e2] X.env:=by rfl)(s2:starEach [e2] X.env=(false,eval e2 X.env)::starEach [] X.env:=by rfl)(hp:(backTo pos (starEach [e2] X.env)).any (·.1)=false:=by rfl):AE X (.Call (.Name x p) [e1,e2] [] pos) (eFn F (jA c1 (jA c2 jF))):=rR G (hr.mono hk) (jC h1 (jC h2 jJ s2) s1) (kg (kg nj)) hg hdb s1 hp
theorem PK(G:mW X.prog X.w X.K X.mg X.base k x [p1,p2,p3] F)(hr:Room K0 X.A)(h1:AE X e1 c1)(h2:AE X e2 c2)(h3:AE X e3 c3)(hk:k<=K0:=by decide)(hg:Gl X x:=by rfl)(hdb:(x == ("__debug__" : Str))=false:=by decide)(s1:starEach [e1,e2,e3] X.env=(false,eval e1 X.env)::starEach [e2,e3] X.env:=by rfl)(s2:starEach [e2,e3] X.env=(false,eval e2 X.env)::starEach [e3] X.env:=by rfl)(s3:starEach [e3] X.env=(false,eval e3 X.env)::starEach [] X.env:=by rfl)(hp:(backTo pos (starEach [e2,e3] X.env)).any (·.1)=false:=by rfl):AE X (.Call (.Name x p) [e1,e2,e3] [] pos) (eFn F (jA c1 (jA c2 (jA c3 jF)))):=rR G (hr.mono hk) (jC h1 (jC h2 (jC h3 jJ s3) s2) s1) (kg (kg (kg nj))) hg hdb s1 hp
theorem vh{N P:List Str}{sc:Scope}(a:sc.kind=.function)(b:sc.isCoroutine=false)(c:sc.isGenerator=false)(h:N.Nodup/\N.take P.length=P/\(∀x∈P,sc.names.lookup x=some .local\/sc.names.lookup x=some .cell)/\∀y∈sc.names,y.2≠.free):FnScope N P sc:=⟨a,b,c,h.1,h.2.1,h.2.2.1,h.2.2.2⟩
end
end Am
namespace Bl
open L2
noncomputable def cnt:List Int->Int->Int
 | [],_=>0
 | x::l,j=>(if j<=x then 1 else 0)+cnt l j
noncomputable def Below (xs ys:List Int):Prop:=∀(i:Nat) (j:Int),cnt (xs.take i) j<=cnt (ys.take i) j
theorem take_snoc{l:List Int}{i:Nat}(h:i<l.length):l.take (i+1)=l.take i++[l[i]]:=by
 rw[List.take_succ,aF h];rfl
theorem Jl{l:List Int}{p:Nat}(h:p<l.length)(v:Int)(i:Nat)(j:Int) :
  cnt ((l.set p v).take i) j=cnt (l.take i) j+(if p<i then(if j<=v then 1 else 0)-(if j<=l[p]then 1 else 0)else 0):=by
 induction l generalizing p i with
 | nil=>cases h
 | cons x l ih=>
  cases i with
  | zero=>simp[cnt]
  | succ i=>
   cases p with
   | zero=>
    show(if j<=v then 1 else 0)+cnt (l.take i) j=(if j<=x then 1 else 0)+cnt (l.take i) j+_;rw[aM (Nat.succ_pos _)];show _=(if j<=x then 1 else 0)+cnt (l.take i) j+((if j<=v then 1 else 0)-(if j<=x then 1 else 0));lia
   | succ p=>
    show(if j<=x then 1 else 0)+cnt ((l.set p v).take i) j=(if j<=x then 1 else 0)+cnt (l.take i) j+_;have hp:p<l.length:=ir h;rw[ih hp];by_cases z:p<i
    ·rw[aM z,aM (Nat.succ_lt_succ z)];show _=(if j<=x then 1 else 0)+cnt (l.take i) j+((if j<=v then 1 else 0)-(if j<=l[p]then 1 else 0));lia
    ·rw[aK z,aK (λy=>z (ir y))];lia
theorem Er{l:List Int}{p q:Nat}(hp:p<l.length)(hq:q<l.length)(hpq:p<q)(h:l[p]<l[q]):Below l ((l.set p l[q]).set q l[p]):=by
 intro i j;have hq':q<(l.set p l[q]).length:=by rw[b9];exact hq
 rw[Jl hq',Jl hp];have e:(l.set p l[q])[q]=l[q]:=by rw[List.getElem_set_ne (bG hpq)]
 rw[e]
 (repeat' split)<;>lia
noncomputable def pK (a b:List Int):Prop:=a.length=b.length/\∀(p:Nat) (h:p<a.length),b[(a[p]-1).toNat]?=some ((p:Int)+1)
end Bl
namespace Am
open PySem L2 Bl
theorem YE{S:jG}{n:Nat}{x:A}{k:Nat}(h:jE S n=some [x])(hk:k<=16777216):BY (.ref n) (.int k) S=.ok (.ref S.length) (S++[.lst (List.replicate k x)]):=by
 show opt (jE S n) _=_;rw[h,kK];have e:(List.replicate k [x]).flatten=List.replicate k x:=by
  induction k with
  | zero=>rfl
  | succ k ih=>rw[dc,dW,ih (by lia)];rfl
 rw[lz ⟨by lia,by lia,by rw[eB,dg];simpa using hk⟩,dg,e]
theorem Mn{xs:List Int}{n:Int}(h:xs.Perm (kP 1 (n+1)))(hn:0<=n):(xs.length:Int)=n:=by
 rw[h.length_eq,qd];lia
theorem Dv{xs:List Int}{n x:Int}(h:xs.Perm (kP 1 (n+1)))(hx:x∈xs):1<=x/\x<=n:=by
 have:=oB.mp (h.mem_iff.mp hx);lia
end Am
namespace Tb
noncomputable def fg (r:List Int)(x:Int):Nat:=r.findIdx λy=>decide (x<y)
noncomputable def put:List (List Int)->Int->List (List Int)
 | [],x=>[[x]]
 | r::rs,x=>if fg r x=r.length then(r++[x])::rs else r.set (fg r x) x::put rs (r.getD (fg r x) 0)
noncomputable def row:List (List Int)->Int->Nat
 | [],_=>0
 | r::rs,x=>if fg r x=r.length then 0 else row rs (r.getD (fg r x) 0)+1
theorem Qw{r:List Int}{x:Int}(h:fg r x=r.length):put (r::rs) x=(r++[x])::rs:=aM h
theorem Vw{r:List Int}{x:Int}(h:fg r x≠r.length):put (r::rs) x=r.set (fg r x) x::put rs (r.getD (fg r x) 0):=aK h
theorem GR{r:List Int}{x:Int}(h:fg r x=r.length):row (r::rs) x=0:=aM h
theorem Pp{r:List Int}{x:Int}(h:fg r x≠r.length):row (r::rs) x=row rs (r.getD (fg r x) 0)+1:=aK h
theorem OO:∀(T:List (List Int)) (x:Int),row T x<=T.length
 | [],_=>aQ _
 | r::rs,x=>by
  by_cases h:fg r x=r.length
  ·rw[GR h];exact bM _
  ·rw[Pp h,aZ];exact Nat.succ_le_succ (OO rs _)
noncomputable def bump:List Nat->Nat->List Nat
 | [],_=>[1]
 | n::ns,0=>(n+1)::ns
 | n::ns,i+1=>n::bump ns i
theorem A3:∀(T:List (List Int)) (x:Int),(put T x).map List.length=bump (T.map List.length) (row T x)
 | [],_=>rfl
 | r::rs,x=>by
  by_cases h:fg r x=r.length
  ·rw[Qw h,GR h,bE,bE,aO];rfl
  ·rw[Vw h,Pp h,bE,bE,b9,A3 rs];rfl
theorem Fi:∀(ns:List Nat) (i:Nat),i<=ns.length->(bump ns i).length=if i=ns.length then ns.length+1 else ns.length
 | [],i,h=>by
  have:i=0:=by simpa using h
  subst this;rfl
 | n::ns,0,_=>by rw[aK (by simp)];rfl
 | n::ns,i+1,h=>by
  have h':i<=ns.length:=Nat.le_of_succ_le_succ h;show(bump ns i).length+1=_;rw[Fi ns i h'];by_cases e:i=ns.length
  ·rw[aM e,aM (by rw[aZ,e])];rfl
  ·rw[aK e,aK (by rw[aZ];lia)];rfl
theorem CU(T:List (List Int))(x:Int):(put T x).length=if row T x=T.length then T.length+1 else T.length:=by
 have:=dm List.length (A3 T x);rw[aH,Fi _ _ (by rw[aH];exact OO T x),aH]at this;exact this
noncomputable def add:List (List Int)->Nat->Int->List (List Int)
 | [],_,k=>[[k]]
 | q::qs,0,k=>(q++[k])::qs
 | q::qs,i+1,k=>q::add qs i k
noncomputable def gs (r:List Int)(x:Int):List Nat:=(List.range r.length).filter λk=>decide (x<r.getD k 0)
end Tb
namespace Am
open PySem L2
noncomputable def Rows (S:jG):List Nat->List (List Int)->Prop
 | [],[]=>True
 | r::rs,x::T=>jE S r=some (x.map .int)/\Rows S rs T
 | _,_=>False
structure Tab (S:jG)(n:Nat)(rs:List Nat)(T:List (List Int)):Prop where
 top:jE S n=some (rs.map .ref)
 rows:Rows S rs T
 nd:(n::rs).Nodup
theorem zN{s:Src}{g:Tg}{e:Ex}{T:List A->Prop}(P:Nat->List A->jG->Prop)
  (step:∀i acc τ S,i<s.k->T τ->P i acc S->∃x τ1 S1 y S3,s.get i S=some x/\g x τ S=.ok τ1 S1/\T τ1/\e τ1 S1=.ok y S3/\P (i+1) (acc++[y]) S3) (hfin:∀acc S,P s.k acc S->s.fin S=true) :
  ∀k i acc τ S,k+i=s.k->T τ->P i acc S->∃ys S',ny s g sJ e k i τ S=.ok ys S'/\P s.k (acc++ys) S'
 | 0,i,acc,τ,S,hk,hT,hP=>by
  have:i=s.k:=by lia
  subst this;exact⟨[],S,by unfold ny;rw[aM (hfin acc S hP)],by rw[cL];exact hP⟩
 | k+1,i,acc,τ,S,hk,hT,hP=>by
  obtain⟨x,τ1,S1,y,S3,hx,hg,hT1,he,hP3⟩:=step i acc τ S (by lia) hT hP;obtain⟨ys,S',h1,h2⟩:=zN P step hfin k (i+1) (acc++[y]) τ1 S3 (by lia) hT1 hP3;refine⟨y::ys,S',?_,by rw[cu]at h2;exact h2⟩;unfold ny;rw[hx,kK,hg,R.lC];show(e τ1 S1).rj _=_;rw[he,R.lC,h1];rfl
theorem eq_nil{a:Nat}{xs:List A}(h:jE S a=some xs)(h':jE S b=some []):qU S 12 (.ref a) (.ref b)=some xs.isEmpty:=by
 show(jE S a).bind (λxs=>(jE S b).bind λys=>qe (qU S 11) xs ys)=_;rw[h,dz,h',dz]
 cases xs<;>rfl
theorem Vc{a:A}{k:Bool}(h:qU S 12 a b=some k):sM false a b S=.ok (.bl k) S:=by unfold sM;rw[h];rfl
theorem Ah{a:A}{k:Bool}(h:qU S 12 a b=some k):sM true a b S=.ok (.bl (!k)) S:=by unfold sM;rw[h];rfl
theorem Nc{xs:List A}{n:Nat}{src:Ic}{t:Te}{e:Ex}{S:jG}(hs:src τ S=.ok (kY n xs.length) S)(hx:jE S n=some xs)(p:A->Bool)(f:A->A)
  (ht:∀x∈xs,t (x::mz cap τ) S=.ok (p x) S) (he:∀x∈xs,p x=true->e (x::mz cap τ) S=.ok (f x) S) (hl:xs.length<=16777216) :
  kZ (none::cap) src (kI 0) t e τ S=.ok (.ref S.length) (S++[.lst ((xs.filter p).map f)]):=by
 have hm:∀i,i<xs.length->xs.getD i .unb∈xs:=λi hi=>by
  rw[aJ,aF hi];exact dJ hi
 rw[Ba hs (λi=>xs.getD i .unb) (λi=>p (xs.getD i .unb)) (λi=>f (xs.getD i .unb)) (λi hi=>by
  have hi:i<xs.length:=hi;show(jE S n).bind _=_;rw[hx,dz,aJ,aF hi];rfl) (by
   show(match jE S n with
    | some ys=>decide (ys.length<=xs.length)
    | none=>false)=true
   rw[hx];simp) (λi hi=>ht _ (hm i hi)) (λi hi=>he _ (hm i hi)) hl]
 have:=rP xs p f .unb;show R.ok _ (S++[O.lst (((List.range xs.length).filter _).map _)])=_;rw[this]
theorem getD_at{r:List Int}{k:Nat}(h:k<r.length):r[k]?=some (r.getD k 0):=by rw[aJ,aF h];rfl
end Am
namespace Wd
open Bl L2
noncomputable def ex (l:List Int)(k:Nat):List Int:=(l.set (k-1) (l.getD k 0)).set k (l.getD (k-1) 0)
noncomputable def led (l:List Int)(w:List Nat):List Int:=w.foldl ex l
theorem ni{l:List Int}{k:Nat}(h:k<l.length):l.getD k 0=l[k]:=by rw[aJ,aF h];rfl
theorem DW{l:List Int}{k:Nat}(h0:1<=k)(h:k<l.length):ex l k=(l.set (k-1) l[k]).set k (l[k-1]'(by lia)):=by
 unfold ex;rw[ni h,ni (show k-1<l.length by lia)]
theorem mG(l:List Int)(k:Nat):(ex l k).length=l.length:=by unfold ex;rw[b9,b9]
theorem C7:∀(w:List Nat) (l:List Int),(led l w).length=l.length
 | [],_=>rfl
 | k::w,l=>by show(led (ex l k) w).length=_;rw[C7 w,mG]
theorem Cv{l:List Int}{k:Nat}(h0:1<=k)(h:k<l.length):(ex l k).Perm l:=by
 rw[DW h0 h];exact List.set_set_perm (by lia) h
theorem uz(a b:List Nat)(l:List Int):led l (a++b)=led (led l a) b:=cQ
theorem up{l:List Int}{k:Nat}(h0:1<=k)(h:k<l.length)(hr:l[k-1]'(by lia)<l[k]):Below l (ex l k):=by
 rw[DW h0 h];exact Er (by lia) h (by lia) hr
noncomputable def jW:List Int->List Nat->Prop
 | _,[]=>True
 | l,k::w=>1<=k/\k<l.length/\l.getD (k-1) 0<l.getD k 0/\jW (ex l k) w
theorem jW.snoc:∀{w:List Nat}{l:List Int}{k:Nat},jW l w->1<=k->k<l.length->(led l w).getD (k-1) 0<(led l w).getD k 0->jW l (w++[k])
 | [],l,k,_,h0,h1,h2=>⟨h0,h1,h2,trivial⟩
 | m::w,l,k,h,h0,h1,h2=>⟨h.1,h.2.1,h.2.2.1,jW.snoc h.2.2.2 h0 (by rw[mG];exact h1) h2⟩
theorem jW.valid:∀{w:List Nat}{l:List Int},jW l w->∀k∈w,1<=k/\k<l.length
 | [],_,_,k,hk=>by cases hk
 | m::w,l,h,k,hk=>by
  rcases bC.mp hk with z|z
  ·rw[z];exact⟨h.1,h.2.1⟩
  ·have:=jW.valid h.2.2.2 k z;rw[mG]at this;exact this
noncomputable def sw (k:Nat)(x:Int):Int:=if x=k then(k:Int)+1 else if x=(k:Int)+1 then k else x
theorem ex_map(f:Int->Int){l:List Int}{k:Nat}(h0:1<=k)(h:k<l.length):ex (l.map f) k=(ex l k).map f:=by
 rw[DW h0 h,DW h0 (by rw[aH];exact h),iU,iU,c8,c8]
theorem yo(f:Int->Int):∀{w:List Nat}{l:List Int},(∀k∈w,1<=k/\k<l.length)->led (l.map f) w=(led l w).map f
 | [],_,_=>rfl
 | k::w,l,h=>by
  have hk:=h k (aI ..);show led (ex (l.map f) k) w=(led (ex l k) w).map f;rw[ex_map f hk.1 hk.2,yo f λm hm=>by rw[mG];exact h m (aL _ hm)]
theorem nJ{n p:Nat}(h:p<n):(kP 1 ((n:Int)+1))[p]?=some ((p:Int)+1):=by
 unfold kP;rw[aR,ef (by lia)];simp;lia
theorem jR(n:Nat):(kP 1 ((n:Int)+1)).length=n:=by rw[qd];lia
theorem oN{l:List Int}{k:Nat}(h0:1<=k)(h:k<l.length)(p:Nat):(ex l k)[p]?=if p=k then l[k-1]? else if p=k-1 then l[k]? else l[p]?:=by
 rw[DW h0 h,List.getElem?_set];by_cases h1:k=p
 ·rw[aM h1,aM h1.symm,aM (by rw[b9];lia),aF]
 ·rw[aK h1,aK (λz=>h1 z.symm),List.getElem?_set];by_cases h2:k-1=p
  ·rw[aM h2,aM h2.symm,aM (by lia),aF]
  ·rw[aK h2,aK (λz=>h2 z.symm)]
theorem NJ{n k:Nat}(h0:1<=k)(h:k<n):ex (kP 1 ((n:Int)+1)) k=(kP 1 ((n:Int)+1)).map (sw k):=by
 apply c5;intro p;rw[oN h0 (by rw[jR];exact h),aR];by_cases hp:p<n
 ·rw[nJ hp,nJ h,nJ (show k-1<n by lia)];show _=some (sw k ((p:Int)+1));unfold sw;by_cases h1:p=k
  ·rw[aM h1,aK (by lia),aM (by lia)];congr 1;lia
  ·rw[aK h1];by_cases h2:p=k-1
   ·rw[aM h2,aM (by lia)]
   ·rw[aK h2,aK (by lia),aK (by lia)]
 ·have e:(kP 1 ((n:Int)+1))[p]?=none:=bW (by rw[jR];lia);rw[aK (by lia),aK (by lia),e];rfl
theorem Bu{A B:List Int}{k:Nat}(h0:1<=k)(h:k<A.length)(hb:pK A B):pK (ex A k) (B.map (sw k)):=by
 refine⟨by rw[mG,aH];exact hb.1,λp hp=>?_⟩;rw[mG]at hp;have hg:(ex A k)[p]'(by rw[mG];exact hp)=if p=k then A[k-1]'(by lia)else if p=k-1 then A[k]else A[p]:=by
  have:=oN h0 h p;rw[aF (by rw[mG];exact hp)]at this;by_cases h1:p=k
  ·rw[aM h1,aF (show k-1<A.length by lia)]at this;rw[aM h1];exact a_ this
  ·rw[aK h1]at this;rw[aK h1];by_cases h2:p=k-1
   ·rw[aM h2,aF h]at this;rw[aM h2];exact a_ this
   ·rw[aK h2,aF hp]at this;rw[aK h2];exact a_ this
 rw[hg,aR];by_cases h1:p=k
 ·rw[aM h1,hb.2 (k-1) (by lia)];show some (sw k _)=_;unfold sw;rw[aM (by lia)];congr 1;lia
 ·rw[aK h1];by_cases h2:p=k-1
  ·rw[aM h2,hb.2 k h];show some (sw k _)=_;unfold sw;rw[aK (by lia),aM (by lia)];congr 1;lia
  ·rw[aK h2,hb.2 p hp];show some (sw k _)=_;unfold sw;rw[aK (by lia),aK (by lia)]
theorem mQ{n:Nat}:∀(w:List Nat),(∀k∈w,1<=k/\k<n)->pK (led (kP 1 ((n:Int)+1)) w.reverse) (led (kP 1 ((n:Int)+1)) w)
 | [],_=>⟨rfl,λp hp=>by
  have hp:p<n:=by rw[show([]:List Nat).reverse=[]from rfl]at hp;have:p<(kP 1 ((n:Int)+1)).length:=hp;rw[jR]at this;exact this
  have e:(kP 1 ((n:Int)+1))[p]'(by rw[jR];exact hp)=(p:Int)+1:=by
   have:=nJ hp;rw[aF (by rw[jR];exact hp)]at this;exact a_ this
  show(kP 1 ((n:Int)+1))[(((kP 1 ((n:Int)+1))[p]'(by rw[jR];exact hp))-1).toNat]?=_;rw[e,show((p:Int)+1-1).toNat=p by lia];exact nJ hp⟩
 | k::w,h=>by
  have hk:=h k (aI ..);have hw:=λm hm=>h m (aL k hm);have ih:=mQ w hw;rw[dG,uz];show pK (ex (led (kP 1 ((n:Int)+1)) w.reverse) k) (led (ex (kP 1 ((n:Int)+1)) k) w);rw[NJ hk.1 hk.2,yo (sw k) (λm hm=>by rw[jR];exact hw m hm)];exact Bu hk.1 (by rw[C7,jR];exact hk.2) ih
end Wd
namespace Iv
open L2 Bl
noncomputable def inv:List Int->Nat
 | []=>0
 | x::l=>l.countP (λy=>decide (y<x))+inv l
noncomputable def n8 (a b:List Int):Nat:=(a.map λx=>b.countP λy=>decide (y<x)).sum
theorem vq(x:Int)(a b:List Int):n8 (x::a) b=b.countP (λy=>decide (y<x))+n8 a b:=rfl
theorem mF:∀(a b:List Int),inv (a++b)=inv a+inv b+n8 a b
 | [],b=>by show inv b=0+inv b+0;lia
 | x::a,b=>by
  show(a++b).countP _+inv (a++b)=(a.countP _+inv a)+inv b+n8 (x::a) b;rw[List.countP_append,mF a b,vq];lia
theorem vO:∀{a b:List Nat},a.Perm b->a.sum=b.sum
 | _,_,.nil=>rfl
 | _,_,.cons x h=>by rw[gC,gC,vO h]
 | _,_,.swap x y l=>by rw[gC,gC,gC,gC];lia
 | _,_,.trans h k=>(vO h).trans (vO k)
theorem Rr{a:List Int}(b:List Int)(h:a.Perm a'):n8 a b=n8 a' b:=vO (h.map _)
theorem RH(a:List Int){b:List Int}(h:b.Perm b'):n8 a b=n8 a b':=by
 unfold n8;congr 1;refine cJ λx _=>h.countP_eq _
theorem CD{M:List Int}{x y:Int}(h:∀m∈M,m<x\/y<m)(hxy:x<y):M.countP (λm=>decide (m<x))=M.countP (λm=>decide (m<y)):=by
 refine List.countP_congr λm hm=>?_;rw[decide_eq_true_iff,decide_eq_true_iff]
 rcases h m hm with z|z<;>lia
theorem xZ:∀{M:List Int}{x y:Int},(∀m∈M,m<x\/y<m)->x<y->n8 M [x]=n8 M [y]
 | [],_,_,_,_=>rfl
 | m::M,x,y,h,hxy=>by
  rw[vq,vq,xZ (λm' hm=>h m' (aL _ hm)) hxy];congr 1;have:=h m (aI ..);simp only[jk,List.countP_nil];by_cases c:x<m
  ·rw[bh c,bh (show y<m by lia)]
  ·rw[bq c,bq (show ¬y<m by lia)]
theorem mid{M:List Int}{x y:Int}(h:∀m∈M,m<x\/y<m)(hxy:x<y):inv ([y]++M++[x])=inv ([x]++M++[y])+1:=by
 rw[mF,mF,mF ([x]++M),mF [x]];have e1:n8 [y] M=n8 [x] M:=by
  show M.countP _+0=M.countP _+0;rw[CD h hxy]
 have e2:n8 ([y]++M) [x]=1+n8 M [x]:=by
  show[x].countP _+n8 M [x]=_;rw[jk,bh hxy];rfl
 have e3:n8 ([x]++M) [y]=n8 M [y]:=by
  show[y].countP _+n8 M [y]=_;rw[jk,bq (by lia:¬y<x)];simp
 rw[e1,e2,e3,xZ h hxy];show 0+inv M+_+0+_=0+inv M+_+0+_+1;lia
theorem NS(M:List Int)(x y:Int):([y]++M++[x]).Perm ([x]++M++[y]):=by
 refine(List.perm_append_comm (l₁:=[y]++M) (l₂:=[x])).trans ?_;show(x::(y::M)).Perm (x::(M++[y]));exact .cons x (List.perm_append_comm (l₁:=[y]) (l₂:=M))
theorem step{P M R:List Int}{x y:Int}(h:∀m∈M,m<x\/y<m)(hxy:x<y):inv (P++([y]++M++[x])++R)=inv (P++([x]++M++[y])++R)+1:=by
 have p:=NS M x y;rw[mF,mF P,mF (P++([x]++M++[y])),mF P,mid h hxy,RH P p,Rr R (p.append_left P)];lia
theorem F5:∀(l:List Int),inv l<=l.length * l.length
 | []=>aQ _
 | x::l=>by
  show l.countP _+inv l<=(l.length+1) * (l.length+1);have h1:=List.countP_le_length (p:=λy=>decide (y<x)) (l:=l);have h2:=F5 l;rw[Nat.add_mul,Nat.mul_add];lia
noncomputable def sw (a:List Int)(i j:Nat):List Int:=(a.set i (a.getD j 0)).set j (a.getD i 0)
theorem z8(a:List Int)(i j:Nat):(sw a i j).length=a.length:=by unfold sw;rw[b9,b9]
theorem split{a:List Int}(hij:i<j)(hj:j<a.length):∃P M R:List Int,a=P++([a.getD i 0]++M++[a.getD j 0])++R/\P=a.take i/\(∀m∈M,∃k,i<k/\k<j/\a[k]?=some m)/\sw a i j=P++([a.getD j 0]++M++[a.getD i 0])++R:=by
 have gi:a.getD i 0=a[i]:=by rw[aJ,aF (by lia)];rfl
 have gj:a.getD j 0=a[j]:=by rw[aJ,aF hj];rfl
 obtain⟨M,hM⟩:∃M,M=(a.drop (i+1)).take (j-i-1):=⟨_,rfl⟩;have lM:M.length=j-i-1:=by rw[hM,ck,fL];lia
 have ea:a=a.take i++([a.getD i 0]++M++[a.getD j 0])++a.drop (j+1):=by
  have h1:a.drop i=a[i]::a.drop (i+1):=c_ (by lia);have h2:a.drop (i+1)=M++a.drop j:=by
   rw[hM];have:=iA (j-i-1) (a.drop (i+1));rw[List.drop_drop,show i+1+(j-i-1)=j by lia]at this;exact this.symm
  have h3:a.drop j=a[j]::a.drop (j+1):=c_ hj
  conv=>lhs;rw[<- iA i a,h1,h2,h3]
  rw[gi,gj];simp
 refine⟨a.take i,M,a.drop (j+1),ea,rfl,λm hm=>?_,?_⟩
 ·rw[hM]at hm;obtain⟨k,hk⟩:=eZ hm;have hlt:k<j-i-1:=by
   have:=(aN.mp hk).1;rw[ck]at this;lia
  rw[gv hlt,i7]at hk;exact⟨i+1+k,by lia,by lia,hk⟩
 ·have key:∀(P R:List Int) (x y x' y':Int),P.length=i->((P++([x]++M++[y])++R).set i y').set j x'=P++([y']++M++[x'])++R:=λP R x y x' y' lP=>by
   rw[cu,fY _ _ (by lia),lP,iT];show(P++(y'::((M++[y])++R))).set j x'=_;rw[fY _ _ (by lia),lP,show j-i=(j-i-1)+1 by lia,List.set_cons_succ,cu,fY _ _ (by lia),lM,iT];simp
  have:=key (a.take i) (a.drop (j+1)) (a.getD i 0) (a.getD j 0) (a.getD i 0) (a.getD j 0) (by rw[ck];lia);rw[<- ea]at this;exact this
end Iv
namespace Fw
open PySem L2 Bl
open Wd (ex led)
noncomputable abbrev rg (n:Nat):List Int:=kP 1 ((n:Int)+1)
theorem v_{l:List Int}{k:Nat}(h0:1<=k)(h:k<l.length):ex (ex l k) k=l:=by
 apply c5;intro p;have h':k<(ex l k).length:=by rw[Wd.mG];exact h
 rw[Wd.oN h0 h',Wd.oN h0 h,Wd.oN h0 h,Wd.oN h0 h];by_cases c3:p=k
 ·rw[aM c3,aK (by lia),aM rfl,c3]
 ·rw[aK c3];by_cases c2:p=k-1
  ·rw[aM c2,aM rfl,c2]
  ·rw[aK c2,aK c3,aK c2]
theorem Y9{l:List Int}{k:Nat}(h0:1<=k)(h:k<l.length):(ex l k).getD k 0=l.getD (k-1) 0:=by
 rw[aJ,Wd.oN h0 h,aM rfl,aJ]
theorem Yu{l:List Int}{k:Nat}(h0:1<=k)(h:k<l.length):(ex l k).getD (k-1) 0=l.getD k 0:=by
 rw[aJ,Wd.oN h0 h,aK (by lia),aM rfl,aJ]
theorem Gr{l:List Int}{k:Nat}(h0:1<=k)(h:k<l.length)(hr:l.getD (k-1) 0<l.getD k 0):Iv.inv (ex l k)=Iv.inv l+1:=by
 obtain⟨P,M,R,e,_,hM,es⟩:=Iv.split (a:=l) (i:=k-1) (j:=k) (by lia) h;have:=Iv.step (P:=P) (M:=M) (R:=R) (x:=l.getD (k-1) 0) (y:=l.getD k 0) (λm hm=>by obtain⟨_,_,_,_⟩:=hM m hm;lia) hr;rw[<- es,<- e]at this;exact this
theorem nZ{l:List Int}{k:Nat}(h0:1<=k)(h:k<l.length)(hr:l.getD k 0<l.getD (k-1) 0):Iv.inv l=Iv.inv (ex l k)+1:=by
 have:=Gr (l:=ex l k) h0 (by rw[Wd.mG];exact h) (by rw[Y9 h0 h,Yu h0 h];exact hr);rw[v_ h0 h]at this;exact this
noncomputable def Va (n:Nat)(w:List Nat):Prop:=∀k∈w,1<=k/\k<n
theorem Va.tail{n k:Nat}{w:List Nat}(h:Va n (k::w)):Va n w:=λj hj=>h j (aL _ hj)
theorem Va.head{n k:Nat}{w:List Nat}(h:Va n (k::w)):1<=k/\k<n:=h k (aI ..)
theorem Aw:∀{w:List Nat}{l:List Int},Va l.length w->led (led l w) w.reverse=l
 | [],l,_=>rfl
 | k::w,l,h=>by
  rw[dG,Wd.uz];show led (led (led (ex l k) w) w.reverse) [k]=l;rw[Aw (w:=w) (l:=ex l k) (by rw[Wd.mG];exact h.tail)];exact v_ h.head.1 h.head.2
theorem C5:∀{l:List Int},l.Pairwise (·<=·)->Iv.inv l=0
 | [],_=>rfl
 | x::l,h=>by
  show l.countP (λy=>decide (y<x))+Iv.inv l=0;rw[C5 (bN.mp h).2,List.countP_eq_zero.mpr λa ha z=>by have:=bR z;have:=(bN.mp h).1 a ha;lia]
theorem vC(n:Nat):Iv.inv (rg n)=0:=C5 (Cr _ _)
noncomputable def yS (l:List Int)(k:Nat):Prop:=1<=k/\k<l.length/\l.getD k 0<l.getD (k-1) 0
theorem NN{l:List Int}(h:∀k,¬yS l k):l.Pairwise (·<=·):=by
 have key:∀d i,i+d<l.length->l.getD i 0<=l.getD (i+d) 0:=by
  intro d
  induction d with
  | zero=>intro i _;exact Int.le_refl _
  | succ d ih=>
   intro i hi;have h1:=ih i (by lia);have h2:¬l.getD (i+d+1) 0<l.getD (i+d) 0:=λz=>h (i+d+1) ⟨by lia,hi,z⟩;rw[<- iH];lia
 rw[c9];intro i j hi hj hij;have:=key (j-i) i (by lia);rw[show i+(j-i)=j by lia,Wd.ni hi,Wd.ni hj]at this;exact this
theorem IS{l:List Int}{n:Nat}(p:l.Perm (rg n))(h:∀k,¬yS l k):l=rg n:=
 dN (λx y _ _ h1 h2=>Int.le_antisymm h1 h2) (NN h) (Cr _ _) p
theorem IX{l:List Int}(h:0<Iv.inv l):∃k,yS l k:=by
 refine Classical.byContradiction λz=>?_;rw[C5 (NN λk hk=>z ⟨k,hk⟩)]at h;exact absurd h (fR _)
noncomputable def Dn:List Int->List Nat->Prop
 | l,[]=>∀k,¬yS l k
 | l,k::ks=>(yS l k/\∀j,yS l j->k<=j)/\Dn (ex l k) ks
theorem n5{l:List Int}{n k:Nat}(p:l.Perm (rg n))(h0:1<=k)(h:k<l.length):(ex l k).Perm (rg n):=(Wd.Cv h0 h).trans p
theorem Dn.len:∀{ks:List Nat}{l:List Int},Dn l ks->ks.length=Iv.inv l
 | [],l,h=>(C5 (NN h)).symm
 | k::ks,l,h=>by
  have:=h.2.len;rw[nZ h.1.1.1 h.1.1.2.1 h.1.1.2.2,aZ];lia
theorem Dn.va:∀{ks:List Nat}{l:List Int},Dn l ks->Va l.length ks
 | [],l,_=>λk hk=>absurd hk (by simp)
 | k::ks,l,h=>λj hj=>by
  rcases bC.mp hj with rfl|z
  ·exact⟨h.1.1.1,h.1.1.2.1⟩
  ·have:=h.2.va j z
   rwa [Wd.mG]at this
theorem Dn.led:∀{ks:List Nat}{l:List Int}{n:Nat},Dn l ks->l.Perm (rg n)->led l ks=rg n
 | [],l,n,h,p=>IS p h
 | k::ks,l,n,h,p=>Dn.led (ks:=ks) h.2 (n5 p h.1.1.1 h.1.1.2.1)
theorem GU:∀(m:Nat) (l:List Int),Iv.inv l<=m->∃ks,Dn l ks
 | 0,l,h=>⟨[],λk hk=>by have:=nZ hk.1 hk.2.1 hk.2.2;lia⟩
 | m+1,l,h=>by
  by_cases c:∃k,yS l k
  ·obtain⟨k,hk,hmin⟩:∃k,yS l k/\∀j,yS l j->k<=j:=by
    obtain⟨k,hk⟩:=c
    induction k using Nat.strongRecOn with
    | ind k ih=>
     by_cases z:∃j,yS l j/\j<k
     ·obtain⟨j,hj,hlt⟩:=z;exact ih j hlt hj
     ·exact⟨k,hk,λj hj=>iD λy=>z ⟨j,hj,y⟩⟩
   have:=nZ hk.1 hk.2.1 hk.2.2;obtain⟨ks,hks⟩:=GU m (ex l k) (by lia);exact⟨k::ks,⟨hk,hmin⟩,hks⟩
  ·exact⟨[],λk hk=>c ⟨k,hk⟩⟩
theorem Ks{a c:List Int}{n:Nat}(pa:a.Perm (rg n))(h1:pK a b)(h2:pK b c):a=c:=by
 have l1:=h1.1;have l2:=h2.1;refine List.ext_getElem (by lia) λq hq hq'=>?_;have e1:=h1.2 q hq;have hm:=(oB.mp (pa.mem_iff.mp (dJ hq)));obtain⟨hb,eb⟩:=aN.mp e1;have e2:=h2.2 _ hb;rw[eb,show((q:Int)+1-1).toNat=q by lia,aF hq']at e2;have:=a_ e2;lia
structure Two (n:Nat)(o u:List Int):Prop where
 po:o.Perm (rg n)
 pu:u.Perm (rg n)
 ou:pK o u
theorem Two.lu{n:Nat}{u:List Int}(t:Two n o u):u.length=n:=by rw[t.pu.length_eq,Wd.jR]
theorem Two.lo{n:Nat}{o:List Int}(t:Two n o u):o.length=n:=by rw[t.po.length_eq,Wd.jR]
theorem Two.led{n:Nat}(t:Two n o u)(h:Dn u ks):Wd.led (rg n) ks=o:=by
 have v:Va n ks:=by have:=h.va;rwa [t.lu]at this
 have e:=h.led t.pu;have e2:u=Wd.led (rg n) ks.reverse:=by rw[<- e,Aw (by rw[t.lu];exact v)]
 have b:=Wd.mQ ks v;rw[<- show u=Wd.led (kP 1 ((n:Int)+1)) ks.reverse from e2]at b;exact(Ks t.po t.ou b).symm
theorem Two.uo{n:Nat}(t:Two n o u):pK u o:=by
 obtain⟨ks,h⟩:=GU _ u (aQ _);have v:Va n ks:=by have:=h.va;rwa [t.lu]at this
 have e:=h.led t.pu;have e2:u=Wd.led (rg n) ks.reverse:=by rw[<- e,Aw (by rw[t.lu];exact v)]
 have b:=Wd.mQ ks v;rw[<- show u=Wd.led (kP 1 ((n:Int)+1)) ks.reverse from e2,show Wd.led (kP 1 ((n:Int)+1)) ks=o from t.led h]at b;exact b
theorem Two.flip{n:Nat}(t:Two n o u):Two n u o:=⟨t.pu,t.po,t.uo⟩
theorem Two.step{n k:Nat}{o:List Int}(t:Two n o u)(h0:1<=k)(h:k<n):Two n (o.map (Wd.sw k)) (ex u k):=by
 have lu:=t.lu;have b:=Wd.Bu h0 (by lia) t.uo;have p1:=n5 t.pu h0 (by lia);have p2:(o.map (Wd.sw k)).Perm (rg n):=(t.po.map _).trans (by rw[<- Wd.NJ h0 h];exact Wd.Cv h0 (by rw[Wd.jR];exact h));exact(Two.mk p1 p2 b).flip
end Fw
namespace Po
open Am
noncomputable abbrev Pl:=List (Int×Int)
noncomputable def val (d:Pl)(k:Int):Int:=((d.find? λp=>decide (p.1=k)).map (·.2)).getD 0
noncomputable def has (d:Pl)(k:Int):Bool:=d.any λp=>decide (p.1=k)
noncomputable def put (d:Pl)(k v:Int):Pl:=if has d k=true then d.map (λp=>if p.1=k then(p.1,v)else p)else d++[(k,v)]
noncomputable def acc (d:Pl)(k v:Int):Pl:=put d k (val d k+v)
noncomputable def cf:Pl->Int->Int
 | [],_=>0
 | p::l,k=>(if p.1=k then p.2 else 0)+cf l k
theorem pB{p:Int×Int}{k:Int}:val (p::d) k=if p.1=k then p.2 else val d k:=by
 unfold val;rw[cN];by_cases h:p.1=k
 ·rw[bh h,aM h];rfl
 ·rw[bq h,aK h]
theorem Ai{p:Int×Int}{k:Int}:has (p::d) k=(decide (p.1=k) || has d k):=rfl
theorem vJ{d:Pl}{k:Int}:has d k=true ↔ k∈d.map Prod.fst:=by
 unfold has;rw[gh,bz];constructor
 ·rintro⟨p,h1,h2⟩;exact⟨p,h1,bR h2⟩
 ·rintro⟨p,h1,h2⟩;exact⟨p,h1,bh h2⟩
theorem O4{k:Int}(h:has d k=false):val d k=0:=by
 induction d with
 | nil=>rfl
 | cons p d ih=>
  rw[Ai,iK]at h;rw[pB,aK (di h.1),ih h.2]
theorem Qy{k v j:Int}(h:has d k=false):val (d++[(k,v)]) j=if j=k then v else val d j:=by
 induction d with
 | nil=>
  show val [(k,v)] j=_;rw[pB];by_cases c:k=j
  ·rw[aM c,aM c.symm]
  ·rw[aK c,aK (λz=>c z.symm)]
 | cons p d ih=>
  rw[Ai,iK]at h;have:=di h.1;rw[List.cons_append,pB,pB,ih h.2];by_cases c:p.1=j
  ·rw[aM c,aM c,aK (λz=>this (c.trans z))]
  ·rw[aK c,aK c]
theorem Rj{d:Pl}{k v j:Int}:val (d.map λp=>if p.1=k then(p.1,v)else p) j=if j=k/\has d k=true then v else val d j:=by
 induction d with
 | nil=>
  rw[aK (λz=>by cases z.2)];rfl
 | cons p d ih=>
  rw[bE,pB,pB,ih,Ai];by_cases c:p.1=k
  ·rw[aM c,bh c,Bool.true_or];by_cases e:j=k
   ·rw[aM (show p.1=j by lia),aM ⟨e,rfl⟩]
   ·rw[aK (show ¬p.1=j by lia),aK (λz=>e z.1),aK (λz=>e z.1),aK (show ¬p.1=j by lia)]
  ·rw[aK c,bq c,gz];by_cases e:p.1=j
   ·rw[aM e,aM e,aK (λz=>c (e.trans z.1))]
   ·rw[aK e,aK e]
theorem RE{k v j:Int}:val (put d k v) j=if j=k then v else val d j:=by
 unfold put
 cases h:has d k with
 | true=>
  rw[aM rfl,Rj,h];by_cases c:j=k
  ·rw[aM ⟨c,rfl⟩,aM c]
  ·rw[aK (λz=>c z.1),aK c]
 | false=>rw[aK (by simp),Qy h]
theorem Rh{k v j:Int}:val (acc d k v) j=val d j+if k=j then v else 0:=by
 unfold acc;rw[RE];by_cases c:j=k
 ·subst c;rw[aM rfl,aM rfl]
 ·rw[aK c,aK (λz=>c z.symm),c6]
theorem NX{d:Pl}{k v:Int}:(put d k v).map Prod.fst=if has d k=true then d.map Prod.fst else d.map Prod.fst++[k]:=by
 unfold put;split
 ·rw[bu];apply cJ;intro p _;show(if p.1=k then(p.1,v)else p).1=p.1;split<;>rfl
 ·rw[bP];rfl
theorem U4{d:Pl}{k v:Int}(h:(d.map Prod.fst).Nodup):((put d k v).map Prod.fst).Nodup:=by
 rw[NX];split
 ·exact h
 ·rename_i c;rw[dY];refine⟨h,bZ _ _,λa ha b hb z=>c ?_⟩;rw[aP]at hb;rw[vJ,<- hb,<- z];exact ha
theorem RM{d:Pl}{k v:Int}:(put d k v).length<=d.length+1:=by
 unfold put;split
 ·rw[aH];lia
 ·rw[aO];exact aQ _
noncomputable def Bd (c:Nat)(d:Pl):Prop:=∀p∈d,p.2.natAbs<=c
theorem Bd.val{c:Nat}(h:Bd c d)(k:Int):(val d k).natAbs<=c:=by
 induction d with
 | nil=>exact bM _
 | cons p d ih=>
  rw[pB];split
  ·exact h p (aI ..)
  ·exact ih λq hq=>h q (aL _ hq)
noncomputable def qk (d ps:Pl):Pl:=ps.foldl (λd p=>acc d p.1 p.2) d
theorem Lq(d:Pl):qk d []=d:=rfl
theorem Ag(d ps qs:Pl):qk d (ps++qs)=qk (qk d ps) qs:=by unfold qk;rw[cQ]
theorem vI(ps:Pl):∀(d:Pl) (k:Int),val (qk d ps) k=val d k+cf ps k:=by
 induction ps with
 | nil=>intro d k;rw[Lq];show _=_+0;rw[c6]
 | cons p ps ih=>
  intro d k;show val (qk (acc d p.1 p.2) ps) k=_;rw[ih,Rh];show _=_+(_+_);rw[fV]
theorem uB(ps:Pl):∀{d:Pl},(d.map Prod.fst).Nodup->((qk d ps).map Prod.fst).Nodup:=by
 induction ps with
 | nil=>intro d h;exact h
 | cons p ps ih=>intro d h;exact ih (U4 h)
theorem p_(ps:Pl):∀(d:Pl),(qk d ps).length<=d.length+ps.length:=by
 induction ps with
 | nil=>intro d;exact aQ _
 | cons p ps ih=>
  intro d;have h1:=ih (acc d p.1 p.2);have h2:(acc d p.1 p.2).length<=d.length+1:=RM;show(qk (acc d p.1 p.2) ps).length<=_;rw[aZ];lia
structure Ok (l:Pl):Prop where
 up:l.Pairwise λp q=>p.1<q.1
 nz:∀p∈l,p.2≠0
theorem Ok.tail{p:Int×Int}{l:Pl}(h:Ok (p::l)):Ok l:=⟨(bN.mp h.up).2,λq hq=>h.nz q (aL _ hq)⟩
theorem DM{l:Pl}{k:Int}(h:∀p∈l,k<p.1):cf l k=0:=by
 induction l with
 | nil=>rfl
 | cons p l ih=>
  show(if p.1=k then p.2 else 0)+cf l k=0;have:=h p (aI ..);rw[aK (by lia),ih λq hq=>h q (aL _ hq)];rfl
theorem Ok.head{p:Int×Int}{l:Pl}(h:Ok (p::l)):cf (p::l) p.1=p.2:=by
 show(if p.1=p.1 then p.2 else 0)+cf l p.1=p.2;rw[aM rfl,DM (bN.mp h.up).1,c6]
theorem Ok.low{p:Int×Int}{l:Pl}(h:Ok (p::l)){k:Int}(hk:k<p.1):cf (p::l) k=0:=DM λq hq=>by
 rcases bC.mp hq with rfl|z
 ·exact hk
 ·have:=(bN.mp h.up).1 q z;lia
theorem uniq:∀{l m:Pl},Ok l->Ok m->(∀k,cf l k=cf m k)->l=m
 | [],[],_,_,_=>rfl
 | [],q::m,_,h,e=>by
  have:=e q.1;rw[h.head]at this;exact absurd this.symm (h.nz q (aI ..))
 | p::l,[],h,_,e=>by
  have:=e p.1;rw[h.head]at this;exact absurd this (h.nz p (aI ..))
 | p::l,q::m,h,h',e=>by
  have n1:=h.nz p (aI ..);have n2:=h'.nz q (aI ..);have e1:p.1=q.1:=by
   rcases Int.lt_trichotomy p.1 q.1 with c|c|c
   ·have:=e p.1;rw[h.head,h'.low c]at this;exact absurd this n1
   ·exact c
   ·have:=e q.1;rw[h'.head,h.low c]at this;exact absurd this.symm n2
  have e2:p.2=q.2:=by
   have:=e p.1;rw[h.head,e1,h'.head]at this;exact this
  have e3:p=q:=Prod.ext e1 e2;subst e3;rw[uniq h.tail h'.tail λk=>by
   have:(if p.1=k then p.2 else 0)+cf l k=(if p.1=k then p.2 else 0)+cf m k:=e k;lia]
noncomputable def HG (d:Pl):Pl:=((sortI (d.map Prod.fst)).filter λk=>val d k != 0).map λk=>(k,val d k)
theorem Se{ks:List Int}(h:ks.Nodup):(sortI ks).Pairwise (· < ·):=by
 have p:=Aj ks;have n:(sortI ks).Nodup:=(sortI_perm ks).nodup_iff.mpr h;have:(sortI ks).Pairwise λa b=>a<=b/\a≠b:=p.and n;exact this.imp λ⟨a,b⟩=>by lia
theorem BN{d:Pl}(h:(d.map Prod.fst).Nodup):Ok (HG d):=by
 refine⟨?_,λp hp=>?_⟩
 ·unfold HG;rw[cG];exact(Se h).filter _
 ·obtain⟨k,hk,rfl⟩:=bz.mp hp;have:=(cK.mp hk).2;simpa using this
theorem LW{k:Int}:∀{ks:List Int},ks.Nodup->cf (ks.map λj=>(j,val d j)) k=if k∈ks then val d k else 0
 | [],_=>by rw[aK (by simp)];rfl
 | j::ks,h=>by
  obtain⟨h1,h2⟩:=cM.mp h;show(if j=k then val d j else 0)+cf (ks.map λj=>(j,val d j)) k=_;rw[LW h2];by_cases c:j=k
  ·subst c;rw[aM rfl,aK h1,aM (aI ..),c6]
  ·rw[aK c,cg];by_cases e:k∈ks
   ·rw[aM e,aM (aL _ e)]
   ·rw[aK e,aK λz=>(bC.mp z).elim (λz=>c z.symm) e]
theorem Cq{d:Pl}(h:(d.map Prod.fst).Nodup)(k:Int):cf (HG d) k=val d k:=by
 unfold HG;rw[LW (((sortI_perm _).nodup_iff.mpr h).filter _)];split
 ·rfl
 ·rename_i c
  cases e:has d k with
  | false=>exact(O4 e).symm
  | true=>
   by_cases z:val d k=0
   ·exact z.symm
   ·exact absurd (cK.mpr ⟨(sortI_perm _).mem_iff.mpr (vJ.mp e),by simpa using z⟩) c
theorem UQ{d e:Pl}(h:(d.map Prod.fst).Nodup)(h':(e.map Prod.fst).Nodup)(hv:∀k,val d k=val e k):HG d=HG e:=
 uniq (BN h) (BN h') λk=>by rw[Cq h,Cq h',hv]
theorem Ok.nd{l:Pl}(h:Ok l):(l.map Prod.fst).Nodup:=by
 unfold List.Nodup;rw[cG];exact h.up.imp λa=>by lia
theorem Nr{l:Pl}(h:(l.map Prod.fst).Nodup)(k:Int):val l k=cf l k:=by
 induction l with
 | nil=>rfl
 | cons p l ih=>
  obtain⟨h1,h2⟩:=cM.mp h;rw[pB];show _=(if p.1=k then p.2 else 0)+cf l k;rw[<- ih h2];by_cases c:p.1=k
  ·have:has l k=false:=by
    cases e:has l k with
    | false=>rfl
    | true=>exact absurd (vJ.mp e) (by rw[<- c];exact h1)
   rw[aM c,aM c,O4 this,c6]
  ·rw[aK c,aK c,cg]
noncomputable def Mp (d ps:Pl):Pl:=ps.foldl (λd p=>put d p.1 p.2) d
theorem HX:∀(ps d:Pl),((d++ps).map Prod.fst).Nodup->Mp d ps=d++ps
 | [],d,_=>by rw[cL];rfl
 | p::ps,d,h=>by
  have hn:has d p.1=false:=by
   cases e:has d p.1 with
   | false=>rfl
   | true=>
    rw[bP,dY]at h;exact absurd rfl (h.2.2 _ (vJ.mp e) p.1 (fG (aI ..)))
  have e:put d p.1 p.2=d++[p]:=by unfold put;rw[hn];rfl
  show Mp (put d p.1 p.2) ps=_;rw[e,HX ps (d++[p]) (by rw[cu];exact h),cu];rfl
theorem QM{l:Pl}(h:Ok l):Mp [] l=l:=HX l [] h.nd
noncomputable def plus (a b:Pl):Pl:=HG (qk a b)
noncomputable def pD (a b:Pl):Pl:=HG (qk [] (a++b))
theorem Sj{a:Pl}(h:Ok a):plus a b=pD a b:=by
 refine UQ (uB _ h.nd) (uB _ dF) λk=>?_;rw[vI,vI,Nr h.nd];have:∀(a b:Pl),cf (a++b) k=cf a k+cf b k:=λa b=>by
  induction a with
  | nil=>exact(cg _).symm
  | cons p a ih=>
   show _+cf (a++b) k=_+_+_;rw[ih,fV]
 rw[this];show _=0+_;rw[cg]
theorem E9(a b:Pl):Ok (pD a b):=BN (uB _ dF)
noncomputable def Dj (a b:Pl):Pl:=a.flatMap λp=>b.map λq=>(p.1+q.1,p.2 * q.2)
noncomputable def times (a b:Pl):Pl:=HG (qk [] (Dj a b))
theorem rJ(a b:Pl):Ok (times a b):=BN (uB _ dF)
theorem Oj(a:Pl)(p:Int×Int)(b:Pl):Dj (a++[p]) b=Dj a b++b.map λq=>(p.1+q.1,p.2 * q.2):=by
 unfold Dj;rw[iQ,jd,List.flatMap_nil,cL]
theorem yr(a b:Pl):(Dj a b).length=a.length * b.length:=by
 induction a with
 | nil=>simp[Dj]
 | cons p a ih=>
  show((b.map _)++Dj a b).length=_;rw[aO,aH,ih,aZ,eg];lia
theorem Bd.Dj{c:Nat}{a:Pl}(h:Bd c a)(h':Bd c' b):Bd (c * c') (Dj a b):=λr hr=>by
 obtain⟨p,hp,hr⟩:=fN.mp hr;obtain⟨q,hq,rfl⟩:=bz.mp hr;show(p.2 * q.2).natAbs<=_;rw[Int.natAbs_mul];exact dR (h p hp) (h' q hq)
theorem HJ(d:Pl):(HG d).length<=d.length:=by
 unfold Po.HG;rw[aH];refine bJ (dI _ _) ?_;rw[(sortI_perm _).length_eq,aH];exact aQ _
noncomputable def turn (a:Pl):Pl:=a.reverse.map λp=>(-p.1,p.2)
noncomputable def iv (d:Pl):List (Int×A):=d.map λp=>(p.1,.int p.2)
noncomputable def pA (p:Int×Int):A:=.tup [.int p.1,.int p.2]
noncomputable def pl (l:Pl):List A:=l.map pA
theorem Dg(d:Pl)(k:Int):nB (iv d) k=(d.find? λp=>decide (p.1=k)).map λp=>.int p.2:=by
 unfold nB iv;rw[iu,gb];rfl
theorem Nj(d:Pl)(k:Int):(nB (iv d) k).getD (.int 0)=.int (val d k):=by
 rw[Dg];unfold val
 cases d.find? λp=>decide (p.1=k)<;>rfl
theorem ER{d:Pl}{k:Int}(h:k∈d.map Prod.fst):nB (iv d) k=some (.int (val d k)):=by
 have:=vJ.mpr h;unfold has at this;rw[Dg];unfold val
 cases e:d.find? λp=>decide (p.1=k)with
 | some p=>rfl
 | none=>
  obtain⟨p,hp,hd⟩:=gh.mp this;exact absurd hd (gJ.mp e p hp)
theorem Ga(d:Pl)(k v:Int):wQ (iv d) k (.int v)=iv (put d k v):=by
 have e:(nB (iv d) k).isSome=has d k:=by
  rw[Dg,gY];unfold has;rw[Bool.eq_iff_iff,je,gh]
 unfold wQ put;rw[e];unfold iv;split
 ·rw[bu,bu];apply cJ;intro p _;show(if p.1=k then(p.1,A.int v)else(p.1,.int p.2))=_;show _=((if p.1=k then(p.1,v)else p).1,A.int (if p.1=k then(p.1,v)else p).2);split<;>rfl
 ·rw[bP];rfl
theorem P7(d:Pl):(iv d).map Prod.fst=d.map Prod.fst:=by
 unfold iv;rw[bu];rfl
theorem To:∀l:Pl,QN (pl l)=some (iv l)
 | []=>rfl
 | p::l=>by
  show(QN (pl l)).map _=_;rw[To l];rfl
theorem Q8(l:Pl):Rt (iv l)=iv (Mp [] l):=by
 have:∀(l d:Pl),(iv l).foldl (λacc p=>wQ acc p.1 p.2) (iv d)=iv (Mp d l):=by
  intro l
  induction l with
  | nil=>intro d;rfl
  | cons p l ih=>
   intro d;show(iv l).foldl _ (wQ (iv d) p.1 (.int p.2))=_;rw[Ga,ih];rfl
 exact this l []
end Po
namespace Am
open PySem L2 Po
noncomputable abbrev PO:Tg:=wK 2 (oG (kI 0) (oG (kI 1) wF))
theorem ze{s:Src}{src:Ic}{e:Ex}{S1:jG}(hs:src τ S=.ok s S1)(a b f:Nat->A)(hget:∀i,i<s.k->s.get i S1=some (.tup [a i,b i]))(hfin:s.fin S1=true)
  (he:∀i,i<s.k->e (a i::b i::mz cap τ) S1=.ok (f i) S1) (hl:s.k<=16777216) :
  kZ (none::none::cap) src PO sJ e τ S=.ok (.ref S1.length) (S1++[.lst ((List.range s.k).map f)]):=by
 unfold kZ;rw[hs,R.oX];obtain⟨S',h1,h2⟩:=vU (s:=s) (g:=PO) (t:=sJ) (e:=e) (P:=λS=>S=S1) (T:=λτ'=>∃y z,τ'=y::z::mz cap τ) (λi=>.tup [a i,b i]) (λ_=>true) f (λi S hi h=>by subst h;exact hget i hi) (λS h=>by subst h;exact hfin)
  (λi τ' S hi ⟨y,z,hy⟩ h=>by
   subst h hy;exact⟨a i::b i::mz cap τ,S,S,rfl,rfl,⟨_,_,rfl⟩,λh=>(nomatch h),λhp=>⟨S,he i hi,rfl⟩⟩) s.k 0 (mz (none::none::cap) τ) S1 rfl ⟨_,_,rfl⟩ rfl
 subst h2;rw[h1,R.lC,f7,gu.mpr (λ_ _=>rfl)];refine lJ ?_;rw[aH,List.length_range'];exact hl
theorem Tz{l:Pl}{i:Nat}(h:i<l.length):(pl l)[i]?=some (.tup [.int (l.getD i (0,0)).1,.int (l.getD i (0,0)).2]):=by
 unfold pl;rw[aR,aF h,aJ,aF h];rfl
theorem rS(l:Pl):(pl l).length=l.length:=aH ..
theorem Lm{l:Pl}{n:Nat}{src:Ic}{e:Ex}{S1:jG}(hs:src τ S=.ok (kY n (pl l).length) S1)(hx:jE S1 n=some (pl l))(f:Int×Int->A)
  (he:∀p:Int×Int,e (.int p.1::.int p.2::mz cap τ) S1=.ok (f p) S1) (hl:l.length<=16777216) :
  kZ (none::none::cap) src PO sJ e τ S=.ok (.ref S1.length) (S1++[.lst (l.map f)]):=by
 rw[ze hs (λi=>.int (l.getD i (0,0)).1) (λi=>.int (l.getD i (0,0)).2) (λi=>f (l.getD i (0,0))) (λi hi=>by
  have hi:i<(pl l).length:=hi;rw[rS]at hi;show(jE S1 n).bind _=_;rw[hx,dz,Tz hi]) (by
   show(match jE S1 n with
    | some ys=>decide (ys.length<=(pl l).length)
    | none=>false)=true
   rw[hx];simp) (λi _=>he _) (by show(pl l).length<=_;rw[rS];exact hl)]
 have:=range_getD l (0,0);show R.ok _ (S1++[O.lst ((List.range (pl l).length).map _)])=_;rw[rS]
 conv=>rhs;rw[<- this,bu]
 rfl
theorem LL{l:Pl}{n:Nat}{src:Ic}{e:Ex}{S1:jG}(hs:src τ S=.ok (Je n (pl l).length) S1)(hx:jE S1 n=some (pl l))(f:Int×Int->A)
  (he:∀p:Int×Int,e (.int p.1::.int p.2::mz cap τ) S1=.ok (f p) S1) (hl:l.length<=16777216) :
  kZ (none::none::cap) src PO sJ e τ S=.ok (.ref S1.length) (S1++[.lst (l.reverse.map f)]):=by
 have rg:∀i,i<l.length->l.reverse.getD i (0,0)=l.getD (l.length-1-i) (0,0):=λi hi=>by
  rw[aJ,aJ,List.getElem?_reverse hi]
 rw[ze hs (λi=>.int (l.reverse.getD i (0,0)).1) (λi=>.int (l.reverse.getD i (0,0)).2) (λi=>f (l.reverse.getD i (0,0))) (λi hi=>by
  have hi:i<(pl l).length:=hi;rw[rS]at hi;show(jE S1 n).bind _=_;rw[hx,dz,rS,aM hi,Tz (by lia),rg i hi]) rfl (λi _=>he _) (by show(pl l).length<=_;rw[rS];exact hl)]
 have:=range_getD l.reverse (0,0);show R.ok _ (S1++[O.lst ((List.range (pl l).length).map _)])=_;rw[rS]
 conv=>rhs;rw[<- this,bu,fH]
 rfl
theorem JS{xs:List A}{n:Nat}{src:Ic}{t:Te}{e:Ex}{S1:jG}(hs:src τ S=.ok (kY n xs.length) S1)(hx:jE S1 n=some xs)(p:A->Bool)(f:A->A)
  (ht:∀x∈xs,t (x::mz cap τ) S1=.ok (p x) S1) (he:∀x∈xs,p x=true->e (x::mz cap τ) S1=.ok (f x) S1) (hl:xs.length<=16777216) :
  kZ (none::cap) src (kI 0) t e τ S=.ok (.ref S1.length) (S1++[.lst ((xs.filter p).map f)]):=by
 have:=Nc (S:=S1) (src:=λ_ _=>.ok (kY n xs.length) S1) (τ:=τ) rfl hx p f ht he hl;unfold kZ at this ⊢;rw[hs];exact this
theorem MN{S:jG}:lY (S++[.qV d]) S.length=some d:=Cg FT
theorem Wr{o:O}{n:Nat}(h:lY S n=some d):lY (S++[o]) n=some d:=by
 have h':=pV h;exact Cg (by rw[bH (aN.mp h').1];exact h')
theorem TZ{S:jG}{n:Nat}(h:lY S n=some d):n<S.length:=(aN.mp (pV h)).1
theorem O8{S:jG}{n:Nat}(h:n<S.length):lY (S.set n (.qV d)) n=some d:=Cg (bY h)
theorem Hl{n:Nat}(h:lY S n=some d)(h':jE S m=some xs):n≠m:=λz=>by
 subst z;have e1:=pV h;rw[jU h']at e1
 cases e1
theorem Ht{f:A->List A->jG->R A}{co:Ex}{d:qL}:Ko f co d τ S=(co τ S).bind λx S1=>opt (dk? x S1) λ_=>(d τ S1).bind λas S2=>f x as S2:=rfl
theorem Of{n:Nat}:dk? (.ref n) S=(lY S n).map λ_=>():=rfl
theorem E6{n:Nat}{k:Int}:ye (.ref n) [.int k,y] S=opt (lY S n) λkvs=>.ok ((nB kvs k).getD y) S:=rfl
theorem HR{co ci:Ex}{a:A}:J0 co ci a τ S=(co τ S).bind λo S1=>(ci τ S1).bind λi S2=>(Bf o i a S2).bind λ_ S3=>.ok τ S3:=rfl
theorem Fd{n:Nat}{k:Int}{v:A}{S:jG}:Bf (.ref n) (.int k) v S=opt (lY S n) λkvs=>gd (kvs.length<sizeLine) (.ok () (S.set n (.qV (wQ kvs k v)))):=rfl
theorem Ja{n:Nat}{k:Int}:zo (.ref n) (.int k) S=opt (lY S n) λkvs=>opt (nB kvs k) λv=>.ok v S:=rfl
theorem KD{S:jG}:Gm τ S=.ok (.ref S.length) (S++[.qV []]):=rfl
theorem J9{n:Nat}{S:jG}:yW (.ref n) S=opt (lY S n) λkvs=>.ok (.ref S.length) (S++[.lst ((sortI (kvs.map Prod.fst)).map .int)]):=rfl
theorem KZ{n:Nat}{S:jG}:Fp (.ref n) S=opt (jE S n) λxs=>opt (QN xs) λps=>.ok (.ref S.length) (S++[.qV (Rt ps)]):=rfl
theorem Z0{i j:Int}(h:i.natAbs<big)(h':j.natAbs<big):Hg (.int i) (.int j) S=.ok (.int (i * j)) S:=lz ⟨h,h'⟩
theorem LI(d:Pl):(iv d).length=d.length:=aH ..
noncomputable abbrev VJ:Sm:=ku (jO nu (Ko ye (jD 2) (jA (jD 3) (jA (eC (.int 0)) (jF)))) (jD 4)) (J0 (jD 2) (jD 3))
theorem acc_step{S:jG}{D:Pl}{k v:Int}(hd:lY S d=some (iv D))(hl:D.length<16777216):VJ [x0,x1,.ref d,.int k,.int v] S=.nx [x0,x1,.ref d,.int k,.int v] (S.set d (.qV (iv (acc D k v)))):=by
 unfold VJ;simp only[kC,bools,Ht,Of,hd,dZ,E6,Nj,HR,Fd,xY (show(iv D).length<16777216 by rw[LI];exact hl),Ga];rfl
noncomputable abbrev PL:Tg:=wK 2 (oG (kI 3) (oG (kI 4) wF))
theorem RQ{n:Nat}{D l:Pl}{src:Ic}(hs:src [x0,x1,.ref d,x3,x4] S=.ok (kY n (pl l).length) S1)(hn:jE S1 n=some (pl l))(hd:lY S1 d=some (iv D))(hl:D.length+l.length<16777216) :
  ∃y3 y4 S',mw src PL VJ [x0,x1,.ref d,x3,x4] S=.nx [x0,x1,.ref d,y3,y4] S'/\lY S' d=some (iv (qk D l))/\Kp (·=d) S1 S':=by
 have nd:=Hl hd hn;refine pU (n:=n) (xs:=pl l) hs (λi τ T=>(∃y3 y4,τ=[x0,x1,.ref d,y3,y4])/\lY T d=some (iv (qk D (l.take i)))/\Kp (·=d) S1 T)
  (λr=>∃y3 y4 S',r=.nx [x0,x1,.ref d,y3,y4] S'/\lY S' d=some (iv (qk D l))/\Kp (·=d) S1 S') ⟨⟨_,_,rfl⟩,hd,Kp.refl⟩ (λi τ T h=>h.2.2.lst _ _ (c7 nd) hn) ?_ ?_
 ·rintro i z τ T hz ⟨⟨y3,y4,rfl⟩,hD,kp⟩;unfold pl at hz;rw[aR]at hz;obtain⟨p,hp,rfl⟩:=aX.mp hz;refine⟨[x0,x1,.ref d,.int p.1,.int p.2],T,rfl,.inl ?_⟩;have hlen:=p_ (l.take i) D;have hi:=(aN.mp hp).1;rw[ck]at hlen;refine⟨_,_,acc_step hD (by lia),⟨_,_,rfl⟩,?_,kp.FY (.inl rfl)⟩;rw[O8 (TZ hD),cH,hp,Ag];rfl
 ·rintro τ T ⟨⟨y3,y4,rfl⟩,hD,kp⟩;rw[rS,cP]at hD;exact⟨y3,y4,T,rfl,hD,kp⟩
noncomputable abbrev P1:Sm:=ku (jO nu (Ko ye (jD 2) (jA (jO nu (jD 3) (jD 5)) (jA (eC (.int 0)) (jF)))) (jO Hg (jD 4) (jD 6))) (J0 (jD 2) (jO nu (jD 3) (jD 5)))
noncomputable abbrev g56:Tg:=wK 2 (oG (kI 5) (oG (kI 6) wF))
theorem N6{S:jG}{D:Pl}{k v j u:Int}(hd:lY S d=some (iv D))(hl:D.length<16777216)(hv:v.natAbs<big)(hu:u.natAbs<big):P1 [x0,x1,.ref d,.int k,.int v,.int j,.int u] S=.nx [x0,x1,.ref d,.int k,.int v,.int j,.int u] (S.set d (.qV (iv (acc D (k+j) (v * u))))):=by
 unfold P1;simp only[kC,bools,Ht,Of,hd,dZ,E6,Nj,Z0 hv hu,HR,Fd,xY (show(iv D).length<16777216 by rw[LI];exact hl),Ga];rfl
theorem Qu{n:Nat}{D l:Pl}{k v:Int}(hn:jE S n=some (pl l))(hd:lY S d=some (iv D))(hl:D.length+l.length<16777216)(hv:v.natAbs<big)(hu:∀p∈l,p.2.natAbs<big) :
  ∃y5 y6 S',mw (nE (jD 1)) g56 P1 [x0,.ref n,.ref d,.int k,.int v,x5,x6] S=.nx [x0,.ref n,.ref d,.int k,.int v,y5,y6] S'/\lY S' d=some (iv (qk D (l.map λq=>(k+q.1,v * q.2))))/\Kp (·=d) S S':=by
 have nd:=Hl hd hn;refine pU (n:=n) (xs:=pl l) (S1:=S) (mT (by simp only[kC,bools]) hn) (λi τ T=>(∃y5 y6,τ=[x0,.ref n,.ref d,.int k,.int v,y5,y6])/\lY T d=some (iv (qk D ((l.take i).map λq=>(k+q.1,v * q.2))))/\Kp (·=d) S T)
  (λr=>∃y5 y6 S',r=.nx [x0,.ref n,.ref d,.int k,.int v,y5,y6] S'/\lY S' d=some (iv (qk D (l.map λq=>(k+q.1,v * q.2))))/\Kp (·=d) S S') ⟨⟨_,_,rfl⟩,hd,Kp.refl⟩ (λi τ T h=>h.2.2.lst _ _ (c7 nd) hn) ?_ ?_
 ·rintro i z τ T hz ⟨⟨y5,y6,rfl⟩,hD,kp⟩;unfold pl at hz;rw[aR]at hz;obtain⟨p,hp,rfl⟩:=aX.mp hz;refine⟨[x0,.ref n,.ref d,.int k,.int v,.int p.1,.int p.2],T,rfl,.inl ?_⟩;have hlen:=p_ ((l.take i).map λq=>(k+q.1,v * q.2)) D;have hi:=(aN.mp hp).1;rw[aH,ck]at hlen;refine⟨_,_,N6 hD (by lia) hv (hu p (aW hp)),⟨_,_,rfl⟩,?_,kp.FY (.inl rfl)⟩;rw[O8 (TZ hD),cH,hp,bP,Ag];rfl
 ·rintro τ T ⟨⟨y5,y6,rfl⟩,hD,kp⟩;rw[rS,cP]at hD;exact⟨y5,y6,T,rfl,hD,kp⟩
noncomputable abbrev Vo:Sm:=mw (nE (jD 1)) g56 P1
theorem GJ(f:Int×Int->A)(hf:∀p τ S,PL (f p) τ S=PL (pA p) τ S){n:Nat}{a b:Pl}(hn:jE S n=some (a.map f))(hm:jE S m=some (pl b))(hd:lY S d=some [])(hl:a.length * b.length<16777216)(ha:∀p∈a,p.2.natAbs<big)(hb:∀p∈b,p.2.natAbs<big) :
  ∃y3 y4 y5 y6 S',mw (nE (jD 0)) PL Vo [.ref n,.ref m,.ref d,x3,x4,x5,x6] S=.nx [.ref n,.ref m,.ref d,y3,y4,y5,y6] S'/\lY S' d=some (iv (qk [] (Dj a b)))/\Kp (·=d) S S':=by
 have nd:=Hl hd hn;have md:=Hl hd hm;refine pU (n:=n) (xs:=a.map f) (S1:=S) (mT (by simp only[kC,bools]) hn) (λi τ T=>(∃y3 y4 y5 y6,τ=[.ref n,.ref m,.ref d,y3,y4,y5,y6])/\lY T d=some (iv (qk [] (Dj (a.take i) b)))/\Kp (·=d) S T)
  (λr=>∃y3 y4 y5 y6 S',r=.nx [.ref n,.ref m,.ref d,y3,y4,y5,y6] S'/\lY S' d=some (iv (qk [] (Dj a b)))/\Kp (·=d) S S') ⟨⟨_,_,_,_,rfl⟩,hd,Kp.refl⟩ (λi τ T h=>h.2.2.lst _ _ (c7 nd) hn) ?_ ?_
 ·rintro i z τ T hz ⟨⟨y3,y4,y5,y6,rfl⟩,hD,kp⟩;rw[aR]at hz;obtain⟨p,hp,rfl⟩:=aX.mp hz;refine⟨[.ref n,.ref m,.ref d,.int p.1,.int p.2,y5,y6],T,hf _ _ _,.inl ?_⟩;have hlen:=p_ (Dj (a.take i) b) [];have hi:=(aN.mp hp).1;rw[yr,ck,Nat.min_eq_left (jm hi),bK,cF]at hlen;have hmul:i * b.length+b.length<=a.length * b.length:=by rw[<- eg];exact bL _ hi
  obtain⟨z5,z6,T',e,hD',kp'⟩:=Qu (x0:=.ref n) (x5:=y5) (x6:=y6) (k:=p.1) (v:=p.2) (kp.lst _ _ (c7 md) hm) hD (by lia) (ha p (aW hp)) hb;refine⟨_,_,e,⟨_,_,_,_,rfl⟩,?_,kp.trans kp'⟩;rw[hD',cH,hp,Option.toList_some,Oj,Ag]
 ·rintro τ T ⟨⟨y3,y4,y5,y6,rfl⟩,hD,kp⟩;rw[aH,cP]at hD;exact⟨y3,y4,y5,y6,T,rfl,hD,kp⟩
noncomputable abbrev aan:Ex:=kZ [none,some 0] (nE (j8 (f1 yW) (jA (jD 0) (jF)))) (kI 0) (vm (jO (sM true) (jO zo (jD 1) (jD 0)) (eC (.int 0)))) (lV (jA (jD 0) (jA (jO zo (jD 1) (jD 0)) (jF))))
theorem WI{S:jG}{D:Pl}(hd:lY S d=some (iv D))(hl:D.length<=16777216):∃S',aan [.ref d] S=.ok (.ref (S.length+1)) S'/\jE S' (S.length+1)=some (pl (HG D))/\lB S S':=by
 have hd1:lY (S++[.lst ((sortI (D.map Prod.fst)).map .int)]) d=some (iv D):=Wr hd;have ls:(S++[O.lst ((sortI (D.map Prod.fst)).map A.int)]).length=S.length+1:=by simp
 have cc:=JS (n:=S.length) (xs:=(sortI (D.map Prod.fst)).map A.int) (cap:=[some 0]) (src:=nE (j8 (f1 yW) (jA (jD 0) (jF)))) (t:=vm (jO (sM true) (jO zo (jD 1) (jD 0)) (eC (.int 0)))) (e:=lV (jA (jD 0) (jA (jO zo (jD 1) (jD 0)) (jF)))) (τ:=[.ref d]) (S:=S) (S1:=S++[.lst ((sortI (D.map Prod.fst)).map .int)])
  (mT (by simp only[kC,bools,J9,hd,P7]) jS) jS (λx=>match x with | .int k=>val D k != 0|_=>false) (λx=>match x with | .int k=>pA (k,val D k)|_=>.non) (λx hx=>by
   obtain⟨k,hk,rfl⟩:=bz.mp hx;have hk:=(sortI_perm _).mem_iff.mp hk;simp only[kC,bools,Ja,hd1,ER hk];rfl) (λx hx _=>by
   obtain⟨k,hk,rfl⟩:=bz.mp hx;have hk:=(sortI_perm _).mem_iff.mp hk;simp only[kC,bools,Ja,hd1,ER hk];exact sU (show 2<=16777216 by decide)) (by rw[aH,(sortI_perm _).length_eq,aH];exact hl)
 refine⟨_,cc.trans (by rw[ls]),?_,Kp.refl.lay.lay⟩;rw[<- ls,jS];congr 1;unfold pl HG;rw[bu,ju,bu];rfl
end Am
namespace Su
open Am Po PySem L2
noncomputable abbrev En:=List Int×Nat×Pl
noncomputable abbrev Es:=List En
noncomputable def ent (e:En):A:=.tup [.tup (e.1.map .int),.ref e.2.1]
noncomputable def kv (e:En):List Int×A:=(e.1,.ref e.2.1)
noncomputable def At (S:jG)(es:Es):Prop:=∀e∈es,jE S e.2.1=some (pl e.2.2)
noncomputable abbrev Ps:=List (List Int×Pl)
noncomputable def sm (es:Es):Ps:=es.map λe=>(e.1,e.2.2)
theorem m5(es:Es):(sm es).length=es.length:=aH ..
theorem CG(a b:Es):sm (a++b)=sm a++sm b:=bP
noncomputable def vS (D:Ps)(o:List Int):Pl:=((D.find? λe=>decide (e.1=o)).map (·.2)).getD []
noncomputable def hS (D:Ps)(o:List Int):Bool:=D.any λe=>decide (e.1=o)
noncomputable def z0 (D:Ps)(o:List Int)(p:Pl):Ps:=if hS D o=true then D.map (λe=>if e.1=o then(e.1,p)else e)else D++[(o,p)]
noncomputable def xG (D:Ps)(o:List Int)(p:Pl):Ps:=z0 D o (pD (vS D o) p)
noncomputable def adds (D l:Ps):Ps:=l.foldl (λD e=>xG D e.1 e.2) D
theorem zq(D a b:Ps):adds D (a++b)=adds (adds D a) b:=by unfold adds;rw[cQ]
noncomputable def toS (D:Ps):Ps:=((mL (D.map Prod.fst)).filter λo=>!(vS D o).isEmpty).map λo=>(o,vS D o)
noncomputable def fE (D:Es)(o:List Int):Option En:=D.find? λe=>decide (e.1=o)
noncomputable def oF (D:Es)(o:List Int)(r:Nat)(p:Pl):Es:=if (fE D o).isSome=true then D.map (λe=>if e.1=o then(e.1,r,p)else e)else D++[(o,r,p)]
theorem QA(D:Es)(o:List Int):(sm D).find? (λe=>decide (e.1=o))=(fE D o).map λe=>(e.1,e.2.2):=by
 unfold sm fE;rw[iu];rfl
theorem JV(D:Es)(o:List Int):vS (sm D) o=((fE D o).map λe=>e.2.2).getD []:=by
 unfold vS;rw[QA,gb];rfl
theorem aaf(D:Es)(o:List Int):hS (sm D) o=(fE D o).isSome:=by
 unfold hS sm fE;rw[List.any_map,Bool.eq_iff_iff,je,gh];rfl
theorem Gv(D:Es)(o:List Int)(r:Nat)(p:Pl):sm (oF D o r p)=z0 (sm D) o p:=by
 unfold oF z0;rw[aaf];unfold sm;split
 ·rw[bu,bu];apply cJ;intro e _;show((if e.1=o then(e.1,r,p)else e).1,(if e.1=o then(e.1,r,p)else e).2.2)=if e.1=o then(e.1,p)else(e.1,e.2.2)
  split<;>rfl
 ·rw[bP];rfl
theorem qE(D:Es)(o:List Int):ly (D.map kv) o=(fE D o).map λe=>.ref e.2.1:=by
 unfold ly fE;rw[iu,gb];rfl
theorem FW(D:Es)(o:List Int)(r:Nat)(p:Pl):putD (D.map kv) o (.ref r)=(oF D o r p).map kv:=by
 unfold putD oF;rw[qE,gY];split
 ·rw[bu,bu];apply cJ;intro e _;show(if e.1=o then(e.1,A.ref r)else(e.1,.ref e.2.1))=kv (if e.1=o then(e.1,r,p)else e);split<;>rfl
 ·rw[bP];rfl
theorem sF{D:Es}{r:Nat}{p:Pl}{e:En}(h:e∈oF D o r p):e∈D\/e=(o,r,p):=by
 unfold oF at h;split at h
 ·obtain⟨e',h1,rfl⟩:=bz.mp h;split
  ·rename_i c;exact .inr (by rw[c])
  ·exact .inl h1
 ·rcases bF.mp h with z|z
  ·exact .inl z
  ·exact .inr (aP.mp z)
theorem CU{D:Es}{r:Nat}{p:Pl}:(oF D o r p).length<=D.length+1:=by
 unfold oF;split
 ·rw[aH];lia
 ·rw[aO];exact aQ _
theorem qW{D:Es}{e:En}(h:fE D o=some e):e∈D/\e.1=o:=⟨gq h,by
 unfold fE at h;have:=iN h;simpa using this⟩
theorem At.put{D:Es}{r:Nat}{p:Pl}(h:At S D)(hr:jE S r=some (pl p)):At S (oF D o r p):=λe he=>by
 rcases sF he with z|z
 ·exact h e z
 ·rw[z];exact hr
theorem At.kp{D:Es}{b:Nat->Prop}(h:At S D)(k:Kp b S S')(hb:∀e∈D,¬b e.2.1):At S' D:=λe he=>k.lst _ _ (hb e he) (h e he)
theorem At.u_{D:Es}(h:At S D)(k:lB S S'):At S' D:=h.kp k λ_ _ z=>z
theorem At.app{a:Es}(h:At S a)(h':At S b):At S (a++b):=λe he=>(bF.mp he).elim (h e) (h' e)
theorem om{n:Nat}(h:j4 S n=some d)(h':jE S m=some xs):n≠m:=λz=>by
 subst z;have e1:=n_ h;rw[jU h']at e1
 cases e1
theorem At.Dh{D:Es}(h:At S D)(k:Kp (·=d) S S')(hd:j4 S d=some kvs):At S' D:=h.kp k λe he z=>om hd (h e he) z.symm
noncomputable def Vl (k b:Nat)(D:Es):Prop:=∀e∈D,Ok e.2.2/\e.2.2.length<=k/\b<=e.2.1
theorem Vl.mono{k:Nat}{D:Es}(h:Vl k b D)(hk:k<=k'):Vl k' b D:=λe he=>⟨(h e he).1,bJ (h e he).2.1 hk,(h e he).2.2⟩
theorem Vl.v{k:Nat}{D:Es}(h:Vl k b D)(o:List Int):Ok (vS (sm D) o)/\(vS (sm D) o).length<=k:=by
 rw[JV]
 cases e:fE D o with
 | none=>exact⟨⟨List.Pairwise.nil,λ_ z=>nomatch z⟩,bM _⟩
 | some e'=>exact⟨(h e' (qW e).1).1,(h e' (qW e).1).2.1⟩
theorem JW(a b:Pl):(pD a b).length<=a.length+b.length:=by
 refine bJ (HJ _) (bJ (p_ _ _) ?_);rw[aO,bK];lia
theorem A7(a b:Pl):(times a b).length<=a.length * b.length:=by
 refine bJ (HJ _) (bJ (p_ _ _) ?_);rw[yr,bK];lia
theorem Vl.add{k r:Nat}{D:Es}{p:Pl}(h:Vl k b D)(hp:p.length<=j)(hr:b<=r):Vl (k+j) b (oF D o r (pD (vS (sm D) o) p)):=λe he=>by
 rcases sF he with z|z
 ·exact(h.mono (Nat.le_add_right _ _)) e z
 ·rw[z];refine⟨E9 _ _,?_,hr⟩;have:=JW (vS (sm D) o) p;have:=(h.v o).2;show(pD (vS (sm D) o) p).length<=_;lia
theorem oh{S:jG}:j4 (S++[.dct xs]) S.length=some xs:=wm FT
theorem yE{o:O}{n:Nat}(h:j4 S n=some xs):j4 (S++[o]) n=some xs:=by
 have h':=n_ h;exact wm (by rw[bH (aN.mp h').1];exact h')
theorem zS{S:jG}{n:Nat}(h:j4 S n=some xs):n<S.length:=(aN.mp (n_ h)).1
theorem CY{S:jG}{n:Nat}(h:n<S.length):j4 (S.set n (.dct ys)) n=some ys:=wm (bY h)
theorem Q7{f:A->List A->jG->R A}{co:Ex}{d:qL}:Wt f co d τ S=(co τ S).bind λx S1=>opt (dct? x S1) λ_=>(d τ S1).bind λas S2=>f x as S2:=rfl
theorem RO{n:Nat}:dct? (.ref n) S=(j4 S n).map λ_=>():=rfl
theorem rm{S:jG}:uY τ S=.ok (.ref S.length) (S++[.dct []]):=rfl
theorem uv{co ci:Ex}{a:A}:B4 co ci a τ S=(co τ S).bind λo S1=>(ci τ S1).bind λi S2=>(EL o i a S2).bind λ_ S3=>.ok τ S3:=rfl
theorem PV{n:Nat}{o:List Int}:Vg (.ref n) [.tup (o.map .int),y] S=opt (j4 S n) λkvs=>.ok ((ly kvs o).getD y) S:=by
 show opt (j4 S n) (λkvs=>opt (A.ints (o.map .int)) λk=>.ok ((ly kvs k).getD y) S)=_;rw[ints_map];rfl
theorem Ad{n:Nat}{o:List Int}{v:A}{S:jG}:EL (.ref n) (.tup (o.map .int)) v S=opt (j4 S n) λkvs=>gd (kvs.length<sizeLine) (.ok () (S.set n (.dct (putD kvs o v)))):=by
 show opt (j4 S n) (λkvs=>opt (A.ints (o.map .int)) λns=>gd (kvs.length<sizeLine) (.ok () (S.set n (.dct (putD kvs ns v)))))=_;rw[ints_map];rfl
theorem uE{n:Nat}{o:List Int}:vH (.ref n) (.tup (o.map .int)) S=opt (j4 S n) λkvs=>opt (ly kvs o) λv=>.ok v S:=by
 show opt (j4 S n) (λkvs=>opt (A.ints (o.map .int)) λns=>opt (ly kvs ns) λv=>.ok v S)=_;rw[ints_map];rfl
theorem get_or{S:jG}{D:Es}(hd:j4 S d=some (D.map kv))(hA:At S D):∃x:Nat,(ly (D.map kv) o).getD (.ref S.length)=.ref x/\jE (S++[.lst []]) x=some (pl (vS (sm D) o)):=by
 rw[qE,JV]
 cases e:fE D o with
 | none=>exact⟨S.length,rfl,jS⟩
 | some e'=>exact⟨e'.2.1,rfl,kD (hA e' (qW e).1)⟩
theorem QB{α:Type}{xs:List α}(g:α->A){n:Nat}{src:Ic}{t:Te}{e:Ex}(hs:src τ S=.ok (kY n (xs.map g).length) S1)(hx:jE S1 n=some (xs.map g))(d:α)(p:α->Bool)(f:α->A)
  (step:∀x∈xs,∀T,lB S1 T->∃T1,t (g x::mz cap τ) T=.ok (p x) T1/\lB S1 T1/\(p x=true->∃T2,e (g x::mz cap τ) T1=.ok (f x) T2/\lB S1 T2)) (hl:xs.length<=16777216) :
  ∃S',kZ (none::cap) src (kI 0) t e τ S=.ok (.ref S'.length) (S'++[.lst ((xs.filter p).map f)])/\lB S1 S':=by
 have hm:∀i,i<xs.length->xs.getD i d∈xs:=λi hi=>by
  rw[aJ,aF hi];exact dJ hi
 have hk:(xs.map g).length=xs.length:=aH ..;obtain⟨S',h1,h2⟩:=vU (s:=kY n (xs.map g).length) (g:=kI 0) (t:=t) (e:=e) (P:=λT=>lB S1 T) (T:=λτ'=>∃y,τ'=y::mz cap τ) (λi=>g (xs.getD i d)) (λi=>p (xs.getD i d)) (λi=>f (xs.getD i d)) (λi T hi h=>by
   have hi:i<(xs.map g).length:=hi;show(jE T n).bind _=_;rw[h.lst _ _ (λz=>z) hx,dz,aR,aF (by lia),aJ,aF (by lia)];rfl) (λT h=>by
   show(match jE T n with
    | some ys=>decide (ys.length<=(xs.map g).length)
    | none=>false)=true
   rw[h.lst _ _ (λz=>z) hx];simp)
  (λi τ' T hi ⟨y,hy⟩ h=>by
   have hi:i<(xs.map g).length:=hi;subst hy;obtain⟨T1,e1,k1,e2⟩:=step _ (hm i (by lia)) T h;exact⟨g (xs.getD i d)::mz cap τ,T,T1,rfl,e1,⟨_,rfl⟩,λ_=>k1,e2⟩) (xs.map g).length 0 (mz (none::cap) τ) S1 rfl ⟨_,rfl⟩ Kp.refl
 refine⟨S',?_,h2⟩;unfold kZ;rw[hs,R.oX];show(ny (kY n (xs.map g).length) (kI 0) t e (xs.map g).length 0 (mz (none::cap) τ) S1).rj _=_;rw[h1,R.lC,<- f7,hk,rP xs p f d];refine lJ ?_;rw[aH];exact bJ (dI _ _) hl
theorem Ei{D:Es}{o:List Int}(h:o∈D.map Prod.fst):∃e,fE D o=some e:=by
 unfold fE
 cases e:D.find? λe=>decide (e.1=o)with
 | some x=>exact⟨x,rfl⟩
 | none=>
  obtain⟨x,hx,rfl⟩:=bz.mp h;exact absurd (bh rfl) (gJ.mp e x hx)
noncomputable def zh (k:List Int):A:=.tup (k.map .int)
theorem Ec{S:jG}{D:Es}(hd:j4 S d=some (D.map kv))(hne:∀e∈D,e.1≠[]):xD (.ref d) S=.ok (.ref S.length) (S++[.lst ((mL (D.map Prod.fst)).map zh)]):=by
 have ek:(D.map kv).map Prod.fst=D.map Prod.fst:=by rw[bu];rfl
 show opt (j4 S d) _=_;rw[hd,kK];have:((D.map kv).map Prod.fst).all (λks=>!ks.isEmpty)=true:=by
  rw[ek,gT,eF];intro e he;have:=hne e he;show(!(e.1).isEmpty)=true
  cases h:e.1 with
  | nil=>exact absurd h this
  | cons=>rfl
 rw[ek]at this ⊢;rw[this];rfl
noncomputable def qo (D:Es)(p:Pl->Bool):Es:=((mL (D.map Prod.fst)).filter λo=>p (vS (sm D) o)).map λo=>(o,((fE D o).map λe=>e.2.1).getD 0,vS (sm D) o)
theorem uI(D:Es):sm (qo D λp=>!p.isEmpty)=toS (sm D):=by
 unfold qo toS sm;rw[bu,bu];rfl
theorem uR{D:Es}{p:Pl->Bool}{e:En}(h:e∈qo D p):e∈D/\p e.2.2=true:=by
 obtain⟨o,ho,rfl⟩:=bz.mp h;obtain⟨h1,h2⟩:=cK.mp ho;obtain⟨e,he⟩:=Ei ((j6 _).mem_iff.mp h1);rw[JV,he]at h2;rw[JV,he];obtain⟨m,rfl⟩:=qW he;exact⟨m,h2⟩
theorem Et{S:jG}{D:Es}{src:Ic}{t:Te}{e:Ex}(hd:j4 S d=some (D.map kv))(hA:At S D)(hs:src τ S=.ok (kY S.length ((mL (D.map Prod.fst)).map zh).length) (S++[.lst ((mL (D.map Prod.fst)).map zh)]))(p:Pl->Bool)
  (ht:∀(o:List Int) (r:Nat) (q:Pl) (T:jG),j4 T d=some (D.map kv)->ly (D.map kv) o=some (.ref r)->jE T r=some (pl q)->∃T1,t (zh o::mz cap τ) T=.ok (p q) T1/\lB T T1)
  (he:∀(o:List Int) (r:Nat) (T:jG),j4 T d=some (D.map kv)->ly (D.map kv) o=some (.ref r)->e (zh o::mz cap τ) T=.ok (.tup [zh o,.ref r]) T) (hl:D.length<=16777216) :
  ∃(n:Nat) (S':jG),kZ (none::cap) src (kI 0) t e τ S=.ok (.ref n) S'/\jE S' n=some ((qo D p).map ent)/\At S' (qo D p)/\S.length<n/\lB S S':=by
 have kx:lB S (S++[.lst ((mL (D.map Prod.fst)).map zh)]):=Kp.refl.lay;obtain⟨S',e1,k1⟩:=QB zh (t:=t) (e:=e) (cap:=cap) hs jS [] (λo=>p (vS (sm D) o)) (λo=>ent (o,((fE D o).map λe=>e.2.1).getD 0,vS (sm D) o)) (λo ho T kT=>by
  obtain⟨e',he'⟩:=Ei ((j6 _).mem_iff.mp ho);have lk:ly (D.map kv) o=some (.ref e'.2.1):=by rw[qE,he'];rfl
  have kST:=kx.trans kT;have dT:=kST.dct _ _ (λz=>z) hd;have lT:=kST.lst _ _ (λz=>z) (hA e' (qW he').1);obtain⟨T1,h1,h2⟩:=ht o e'.2.1 e'.2.2 T dT lk lT;rw[JV,he'];exact⟨T1,h1,kT.trans h2,λ_=>⟨T1,he o e'.2.1 T1 (h2.dct _ _ (λz=>z) dT) lk,kT.trans h2⟩⟩) (by
  rw[(j6 _).length_eq,aH];exact hl)
 have kS:=kx.trans k1;refine⟨S'.length,_,e1,?_,(?_:At S' (qo D p)).u_ Kp.refl.lay,?_,kS.lay⟩
 ·rw[jS];unfold qo;rw[bu];rfl
 ·exact λe h=>kS.lst _ _ (λz=>z) (hA e (uR h).1)
 ·have:=k1.len;rw[aO]at this;exact this
noncomputable def Cw (F:List A->jG->R A):Prop:=∀{S:jG}{d r:Nat}{D:Es}{o:List Int}{p:Pl}{k b:Nat},j4 S d=some (D.map kv)->At S D->Vl k b D->jE S r=some (pl p)->D.length<16777216->k+p.length<16777216 ->
  ∃(L:Nat) (S':jG),F [.ref d,.tup (o.map .int),.ref r] S=.ok .non S'/\j4 S' d=some ((oF D o L (pD (vS (sm D) o) p)).map kv)/\At S' (oF D o L (pD (vS (sm D) o) p))/\S.length<=L/\Kp (·=d) S S'
noncomputable def Kl (F:List A->jG->R A):Prop:=∀{S:jG}{n m:Nat}{a b:Pl},jE S n=some (pl a)->jE S m=some (pl b)->a.length * b.length<16777216->(∀p∈a,p.2.natAbs<big)->(∀p∈b,p.2.natAbs<big) ->
  ∃(L:Nat) (S':jG),F [.ref n,.ref m] S=.ok (.ref L) S'/\jE S' L=some (pl (times a b))/\S.length<=L/\lB S S'
noncomputable def Ap (D:Es):Prop:=D.Pairwise λe f=>e.1≠f.1/\e.2.1≠f.2.1
theorem Ap.put{D:Es}{r:Nat}{p:Pl}(h:Ap D)(hr:∀e∈D,e.2.1≠r):Ap (oF D o r p):=by
 unfold oF;split
 ·unfold Ap;rw[cG];refine gD (λ{e f} he hf z=>?_) h;by_cases c1:e.1=o
  ·have c2:¬f.1=o:=λz2=>z.1 (c1.trans z2.symm);rw[aM c1,aK c2];exact⟨z.1,λy=>hr f hf y.symm⟩
  ·rw[aK c1];by_cases c2:f.1=o
   ·rw[aM c2];exact⟨z.1,hr e he⟩
   ·rw[aK c2];exact z
 ·rename_i c;unfold Ap;rw[cj];refine⟨h,bZ _ _,λe he f hf=>?_⟩;rw[aP.mp hf];refine⟨λz=>c ?_,hr e he⟩;unfold fE;rw[je];exact⟨e,he,bh z⟩
theorem Ap.at{D:Es}(h:Ap D):∀e∈D,∀f∈D,e.1≠f.1->e.2.1≠f.2.1:=by
 unfold Ap at h
 induction h with
 | nil=>exact λe he=>nomatch he
 | @cons a D ha _ ih=>
  intro e he f hf z
  rcases bC.mp he with h1|h1<;>rcases bC.mp hf with h2|h2
  ·exact absurd (by rw[h1,h2]) z
  ·rw[h1];exact(ha f h2).2
  ·rw[h2];exact(ha e h1).2.symm
  ·exact ih e h1 f h2 z
theorem Ap.nd{D:Es}(h:Ap D):(D.map Prod.fst).Nodup:=by
 unfold List.Nodup;rw[cG];exact h.imp λz=>z.1
theorem Ap.out{D:Es}(h:Ap D)(p:Pl->Bool):Ap (qo D p):=by
 unfold Ap qo;rw[cG];have n:(mL (D.map Prod.fst)).Pairwise (·≠·):=(j6 _).nodup_iff.mpr h.nd;refine gD (λ{a b} ha hb z=>?_) (n.filter _);obtain⟨e,he⟩:=Ei ((j6 _).mem_iff.mp (cK.mp ha).1);obtain⟨f,hf⟩:=Ei ((j6 _).mem_iff.mp (cK.mp hb).1);obtain⟨m1,e1⟩:=qW he;obtain⟨m2,e2⟩:=qW hf;refine⟨z,?_⟩;rw[he,hf];exact h.at e m1 f m2 (by rw[e1,e2];exact z)
structure Fil (T:jG)(d b i j:Nat)(P:Ps)(D:Es):Prop where
 dd:j4 T d=some (D.map kv)
 aa:At T D
 ss:sm D=P
 vv:Vl (i * j) b D
 kk:∀e∈D,e.1≠[]
 ll:D.length<=i
 pw:Ap D
theorem Fil.mono{P:Ps}{D:Es}(h:Fil T d b i j P D)(hi:i<=i'):Fil T d b i' j P D:=⟨h.dd,h.aa,h.ss,h.vv.mono (bL _ hi),h.kk,bJ h.ll hi,h.pw⟩
theorem Fil.new(hd:j4 S d=some []):Fil S d b 0 j [] []:=⟨hd,(λ_ h=>nomatch h),rfl,(λ_ h=>nomatch h),(λ_ h=>nomatch h),aQ _,List.Pairwise.nil⟩
theorem Fil.u_{P:Ps}{D:Es}(h:Fil S d b i j P D)(k:lB S T):Fil T d b i j P D:=⟨k.dct _ _ (λz=>z) h.dd,h.aa.u_ k,h.ss,h.vv,h.kk,h.ll,h.pw⟩
theorem Fil.add{F:List A->jG->R A}(hF:Cw F){T:jG}{r:Nat}{P:Ps}{D:Es}{o:List Int}{p:Pl}(h:Fil T d b i j P D)(hr:jE T r=some (pl p))(hp:p.length<=j)(ho:o≠[])(hb:b<=T.length)(hl:i * j+j<16777216)(hi:i<16777216) :
  ∃(D':Es) (T':jG),F [.ref d,.tup (o.map .int),.ref r] T=.ok .non T'/\Fil T' d b (i+1) j (xG P o p) D'/\Kp (·=d) T T':=by
 have hl0:=h.ll;obtain⟨L,T',e,h1,h2,h3,h4⟩:=hF (o:=o) h.dd h.aa h.vv hr (by lia) (by lia);refine⟨_,T',e,⟨h1,h2,by rw[Gv,h.ss];rfl,?_,λe he=>?_,?_,h.pw.put λe he z=>by have:=nX (h.aa e he);lia⟩,h4⟩
 ·have:=h.vv.add (o:=o) (p:=p) (j:=j) hp (show b<=L by lia);rw[eg];exact this
 ·rcases sF he with z|z
  ·exact h.kk e z
  ·rw[z];exact ho
 ·have:=CU (D:=D) (o:=o) (r:=L) (p:=pD (vS (sm D) o) p);lia
theorem R0{n i0 w:Nat}{P:Ps}{es:Es}{src:Ic}{c:Sm}(G:En->Ps->Ps)(hs:src (x0::x1::.ref d::x3::x4::xs) S=.ok (kY n (es.map ent).length) S1)(hn:jE S1 n=some (es.map ent))(hd:Fil S1 d b i0 j P D0)
  (step:∀(i:Nat) (e:En) (T:jG) (Q:Ps) (D:Es),i<es.length->e∈es->Kp (·=d) S1 T->Fil T d b (i0+w * i) j Q D->∃(D':Es) (T':jG),c (x0::x1::.ref d::.tup (e.1.map .int)::.ref e.2.1::xs) T=.nx (x0::x1::.ref d::.tup (e.1.map .int)::.ref e.2.1::xs) T'/\Fil T' d b (i0+w * (i+1)) j (G e Q) D'/\Kp (·=d) T T') :
  ∃(y3 y4:A) (D:Es) (S':jG),mw src PL c (x0::x1::.ref d::x3::x4::xs) S=.nx (x0::x1::.ref d::y3::y4::xs) S'/\Fil S' d b (i0+w * es.length) j (es.foldl (λQ e=>G e Q) P) D/\Kp (·=d) S1 S':=by
 have hle:(es.map ent).length=es.length:=aH ..;refine pU (n:=n) (xs:=es.map ent) (S1:=S1) hs (λi τ T=>(∃y3 y4,τ=x0::x1::.ref d::y3::y4::xs)/\(∃D,Fil T d b (i0+w * i) j ((es.take i).foldl (λQ e=>G e Q) P) D)/\Kp (·=d) S1 T)
  (λr=>∃(y3 y4:A) (D:Es) (S':jG),r=.nx (x0::x1::.ref d::y3::y4::xs) S'/\Fil S' d b (i0+w * es.length) j (es.foldl (λQ e=>G e Q) P) D/\Kp (·=d) S1 S') ⟨⟨_,_,rfl⟩,⟨D0,hd⟩,Kp.refl⟩ (λi τ T h=>h.2.2.lst _ _ (c7 (om hd.dd hn)) hn) ?_ ?_
 ·rintro i z τ T hz ⟨⟨y3,y4,rfl⟩,⟨D,f⟩,kp⟩;rw[aR]at hz;obtain⟨e,he,rfl⟩:=aX.mp hz;refine⟨x0::x1::.ref d::.tup (e.1.map .int)::.ref e.2.1::xs,T,rfl,.inl ?_⟩;obtain⟨D',T',e1,f',k'⟩:=step i e T _ D (aN.mp he).1 (aW he) kp f;refine⟨_,T',e1,⟨_,_,rfl⟩,⟨D',?_⟩,kp.trans k'⟩;rw[cH,he,cQ];exact f'
 ·rintro τ T ⟨⟨y3,y4,rfl⟩,⟨D,f⟩,kp⟩;rw[hle,cP]at f;exact⟨y3,y4,D,T,rfl,f,kp⟩
theorem Ka(P:Ps)(es:Es):es.foldl (λQ e=>xG Q e.1 e.2.2) P=adds P (sm es):=by
 unfold adds sm;rw[jy]
theorem xy(q:Pl)(P:Ps)(es:Es):es.foldl (λQ e=>xG Q e.1 (times q e.2.2)) P=adds P ((sm es).map λe=>(e.1,times q e.2)):=by
 unfold adds sm;rw[jy,jy]
theorem RA{F:List A->jG->R A}(hF:Cw F){S1:jG}{n i0:Nat}{P:Ps}{es:Es}{src:Ic}(hs:src (x0::x1::.ref d::x3::x4::xs) S=.ok (kY n (es.map ent).length) S1)(hn:jE S1 n=some (es.map ent))(hA:At S1 es)(hd:Fil S1 d b i0 j P D0)(hb:b<=S1.length)
  (hj:∀e∈es,e.2.2.length<=j/\e.1≠[]) (hl:(i0+es.length) * j+j<16777216) (hl':i0+es.length<16777216) :
  ∃(y3 y4:A) (D:Es) (S':jG),mw src PL (pF (eFn F (jA (jD 2) (jA (jD 3) (jA (jD 4) jF))))) (x0::x1::.ref d::x3::x4::xs) S=.nx (x0::x1::.ref d::y3::y4::xs) S'/\Fil S' d b (i0+es.length) j (adds P (sm es)) D/\Kp (·=d) S1 S':=by
 have:=R0 (w:=1) (c:=pF (eFn F (jA (jD 2) (jA (jD 3) (jA (jD 4) jF))))) (λe Q=>xG Q e.1 e.2.2) hs hn hd λi e T Q D hi hm kp f=>by
  have hle':=kp.len;rw[dS]at f ⊢;have hmul:(i0+i) * j<=(i0+es.length) * j:=bL _ (by lia);obtain⟨D',T',e1,f',k'⟩:=f.add hF (o:=e.1) ((hA.Dh kp hd.dd) e hm) (hj e hm).1 (hj e hm).2 (by lia) (by lia) (by lia);exact⟨D',T',by simp only[kC,bools,e1],f',k'⟩
 rw[dS,Ka]at this;exact this
theorem wI{n i0 w:Nat}{P:Ps}{es:Es}{src:Ic}{c:Sm}{g:Tg}(Fm:A->A->List A->List A)(Z:List A->Prop)(G:En->Ps->Ps)(hg:∀(e:En) (y z:A) (xs:List A) (T:jG),g (ent e) (Fm y z xs) T=.ok (Fm (.tup (e.1.map .int)) (.ref e.2.1) xs) T)
  {x3 x4:A} {xs0:List A} (hz:Z xs0) (hs:src (Fm x3 x4 xs0) S=.ok (kY n (es.map ent).length) S1) (hn:jE S1 n=some (es.map ent)) (hd:Fil S1 d b i0 j P D0)
  (step:∀(i:Nat) (e:En) (T:jG) (Q:Ps) (D:Es) (xs:List A),i<es.length->e∈es->Z xs->Kp (·=d) S1 T->Fil T d b (i0+w * i) j Q D->∃(D':Es) (T':jG) (xs':List A),Z xs'/\c (Fm (.tup (e.1.map .int)) (.ref e.2.1) xs) T=.nx (Fm (.tup (e.1.map .int)) (.ref e.2.1) xs') T'/\Fil T' d b (i0+w * (i+1)) j (G e Q) D'/\Kp (·=d) T T') :
  ∃(y3 y4:A) (xs:List A) (D:Es) (S':jG),Z xs/\mw src g c (Fm x3 x4 xs0) S=.nx (Fm y3 y4 xs) S'/\Fil S' d b (i0+w * es.length) j (es.foldl (λQ e=>G e Q) P) D/\Kp (·=d) S1 S':=by
 have hle:(es.map ent).length=es.length:=aH ..;refine pU (n:=n) (xs:=es.map ent) (S1:=S1) hs (λi τ T=>(∃y3 y4 xs,τ=Fm y3 y4 xs/\Z xs)/\(∃D,Fil T d b (i0+w * i) j ((es.take i).foldl (λQ e=>G e Q) P) D)/\Kp (·=d) S1 T)
  (λr=>∃(y3 y4:A) (xs:List A) (D:Es) (S':jG),Z xs/\r=.nx (Fm y3 y4 xs) S'/\Fil S' d b (i0+w * es.length) j (es.foldl (λQ e=>G e Q) P) D/\Kp (·=d) S1 S') ⟨⟨_,_,_,rfl,hz⟩,⟨D0,hd⟩,Kp.refl⟩ (λi τ T h=>h.2.2.lst _ _ (c7 (om hd.dd hn)) hn) ?_ ?_
 ·rintro i z τ T hz ⟨⟨y3,y4,xs,rfl,hx⟩,⟨D,f⟩,kp⟩;rw[aR]at hz;obtain⟨e,he,rfl⟩:=aX.mp hz;refine⟨Fm (.tup (e.1.map .int)) (.ref e.2.1) xs,T,hg _ _ _ _ _,.inl ?_⟩;obtain⟨D',T',xs',hx',e1,f',k'⟩:=step i e T _ D xs (aN.mp he).1 (aW he) hx kp f;refine⟨_,T',e1,⟨_,_,_,rfl,hx'⟩,⟨D',?_⟩,kp.trans k'⟩;rw[cH,he,cQ];exact f'
 ·rintro τ T ⟨⟨y3,y4,xs,rfl,hx⟩,⟨D,f⟩,kp⟩;rw[hle,cP]at f;exact⟨y3,y4,xs,D,T,hx,rfl,f,kp⟩
end Su
namespace Su
open Am Po PySem L2
noncomputable def cS (l:Ps)(o:List Int)(t:Int):Int:=match l with
 | []=>0
 | e::l=>(if e.1=o then cf e.2 t else 0)+cS l o t
theorem zd(a b:Ps)(o:List Int)(t:Int):cS (a++b) o t=cS a o t+cS b o t:=by
 induction a with
 | nil=>exact(cg _).symm
 | cons e a ih=>
  show _+cS (a++b) o t=_+_+_;rw[ih,fV]
theorem xS(a b:Pl)(k:Int):cf (a++b) k=cf a k+cf b k:=by
 induction a with
 | nil=>exact(cg _).symm
 | cons p a ih=>
  show _+cf (a++b) k=_+_+_;rw[ih,fV]
theorem Oc(a b:Pl)(k:Int):cf (pD a b) k=cf a k+cf b k:=by
 unfold pD;rw[Cq (uB _ (d:=[]) dF),vI,xS];show 0+_=_;rw[cg]
theorem wu(a b:Pl)(k:Int):cf (times a b) k=cf (Dj a b) k:=by
 unfold times;rw[Cq (uB _ (d:=[]) dF),vI];show 0+_=_;rw[cg]
theorem HN(s:Int):∀(b:Pl) (k c:Int),cf (b.map λq=>(c+q.1,s * q.2)) k=s * cf b (k-c)
 | [],k,c=>(iw s).symm
 | q::b,k,c=>by
  show(if c+q.1=k then s * q.2 else 0)+cf (b.map λq=>(c+q.1,s * q.2)) k=s * ((if q.1=k-c then q.2 else 0)+cf b (k-c));rw[HN s b k c,Int.mul_add];by_cases h:c+q.1=k
  ·rw[aM h,aM (by lia)]
  ·rw[aK h,aK (by lia),iw]
noncomputable abbrev AF:Pl:=[((-1:Int),(1:Int)),((1:Int),(-1:Int))]
theorem YU(b:Pl)(k:Int):cf (times AF b) k=cf b (k+1)-cf b (k-1):=by
 rw[wu];show cf ((b.map λq=>((-1:Int)+q.1,(1:Int) * q.2))++((b.map λq=>((1:Int)+q.1,(-1:Int) * q.2))++[])) k=_;rw[cL,xS,HN,HN,Int.one_mul,show k - -1=k+1 by lia];lia
theorem Vh{D:Ps}{p:Pl}:vS (z0 D o p) o'=if o'=o then p else vS D o':=by
 have cons:∀(e:List Int×Pl) (D:Ps) (x:List Int),vS (e::D) x=if e.1=x then e.2 else vS D x:=λe D x=>by
  unfold vS;rw[cN];by_cases h:e.1=x
  ·rw[bh h,aM h];rfl
  ·rw[bq h,aK h]
 unfold z0
 cases h:hS D o with
 | true=>
  rw[aM rfl]
  induction D with
  | nil=>cases h
  | cons e D ih=>
   rw[bE,cons,cons];have hc:hS (e::D) o=(decide (e.1=o) || hS D o):=rfl;rw[hc]at h;by_cases c:e.1=o
   ·rw[aM c];show(if e.1=o' then p else _)=_;by_cases c2:o'=o
    ·rw[aM (c.trans c2.symm),aM c2]
    ·rw[aK (λz=>c2 (z.symm.trans c)),aK c2,aK (λz=>c2 (z.symm.trans c))];clear ih h hc
     induction D with
     | nil=>rfl
     | cons f D ih2=>
      rw[bE,cons,cons,ih2];by_cases c3:f.1=o
      ·rw[aM c3];show(if f.1=o' then p else _)=_;rw[aK (λz=>c2 (z.symm.trans c3)),aK (λz=>c2 (z.symm.trans c3))]
      ·rw[aK c3]
   ·rw[aK c];rw[bq c,gz]at h;rw[ih h];by_cases c2:e.1=o'
    ·rw[aM c2,aK (λz=>c (c2.trans z)),aM c2]
    ·rw[aK c2,aK c2]
 | false=>
  rw[aK (by simp)]
  induction D with
  | nil=>
   show vS [(o,p)] o'=_;rw[cons];by_cases c:o=o'
   ·rw[aM c,aM c.symm]
   ·rw[aK c,aK (λz=>c z.symm)]
  | cons e D ih=>
   have hc:hS (e::D) o=(decide (e.1=o) || hS D o):=rfl;rw[hc,iK]at h;rw[List.cons_append,cons,cons,ih h.2];have:=di h.1;by_cases c:e.1=o'
   ·rw[aM c,aM c,aK (λz=>this (c.trans z))]
   ·rw[aK c,aK c]
theorem Ms(l:Ps):∀(D:Ps) (o:List Int) (t:Int),cf (vS (adds D l) o) t=cf (vS D o) t+cS l o t:=by
 induction l with
 | nil=>intro D o t;exact(c6 _).symm
 | cons e l ih=>
  intro D o t;show cf (vS (adds (xG D e.1 e.2) l) o) t=_+((if e.1=o then cf e.2 t else 0)+cS l o t);rw[ih];unfold xG;rw[Vh];by_cases h:o=e.1
  ·rw[aM h,aM h.symm,Oc,h,fV]
  ·rw[aK h,aK (λz=>h z.symm),cg]
structure Gd (D:Ps):Prop where
 nd:(D.map Prod.fst).Nodup
 ok:∀e∈D,Ok e.2
theorem Ve{D:Ps}{o:List Int}:hS D o=true ↔ o∈D.map Prod.fst:=by
 unfold hS;rw[gh,bz];constructor
 ·rintro⟨p,h1,h2⟩;exact⟨p,h1,bR h2⟩
 ·rintro⟨p,h1,h2⟩;exact⟨p,h1,bh h2⟩
theorem J7{D:Ps}{o:List Int}{p:Pl}:(z0 D o p).map Prod.fst=if hS D o=true then D.map Prod.fst else D.map Prod.fst++[o]:=by
 unfold z0;split
 ·rw[bu];apply cJ;intro e _;show(if e.1=o then(e.1,p)else e).1=e.1;split<;>rfl
 ·rw[bP];rfl
theorem Gd.put{D:Ps}{p:Pl}(h:Gd D)(hp:Ok p):Gd (z0 D o p):=by
 refine⟨?_,λe he=>?_⟩
 ·rw[J7];split
  ·exact h.nd
  ·rename_i c;rw[dY];refine⟨h.nd,bZ _ _,λa ha b hb z=>c ?_⟩;rw[aP]at hb;rw[Ve,<- hb,<- z];exact ha
 ·unfold z0 at he;split at he
  ·obtain⟨f,hf,rfl⟩:=bz.mp he;split
   ·exact hp
   ·exact h.ok f hf
  ·rcases bF.mp he with z|z
   ·exact h.ok e z
   ·rw[aP.mp z];exact hp
theorem Gd.adds(l:Ps):∀{D:Ps},Gd D->Gd (adds D l):=by
 induction l with
 | nil=>intro D h;exact h
 | cons e l ih=>intro D h;exact ih (h.put (E9 _ _))
theorem Gd.nil:Gd []:=⟨dF,λ_ h=>nomatch h⟩
theorem vp{D:Ps}:(∃e∈D,e.1=o/\vS D o=e.2)\/(o∉D.map Prod.fst/\vS D o=[]):=by
 unfold vS
 cases h:D.find? λe=>decide (e.1=o)with
 | some e=>
  have h1:=iN h;exact .inl ⟨e,gq h,by simpa using h1,rfl⟩
 | none=>
  refine .inr ⟨λz=>?_,rfl⟩;obtain⟨e,he,ee⟩:=bz.mp z;exact gJ.mp h e he (bh ee)
theorem Gd.v{D:Ps}(h:Gd D)(o:List Int):Ok (vS D o):=by
 rcases vp (D:=D) (o:=o)with⟨e,h1,_,h2⟩|⟨_,h2⟩
 ·rw[h2];exact h.ok e h1
 ·rw[h2];exact⟨List.Pairwise.nil,λ_ z=>nomatch z⟩
theorem Cs.anti{a:List Int}(h1:Cs a b)(h2:Cs b a):a=b:=(Sx.wG h1 h2).symm
theorem Q5{D:Ps}(h:Gd D)(h':Gd E)(hv:∀o,vS D o=vS E o):toS D=toS E:=by
 have key:∀(D:Ps),Gd D->∀o,o∈(mL (D.map Prod.fst)).filter (λo=>!(vS D o).isEmpty) ↔ (vS D o)≠[]:=λD h o=>by
  rw[cK,(j6 _).mem_iff];constructor
  ·rintro⟨_,h2⟩ z;rw[z]at h2;cases h2
  ·intro z;refine⟨?_,by cases e:vS D o with|nil=>exact absurd e z|cons=>rfl⟩
   rcases vp (D:=D) (o:=o)with⟨e,h1,h2,_⟩|⟨_,h2⟩
   ·exact bz.mpr ⟨e,h1,h2⟩
   ·exact absurd h2 z
 have pw:∀(D:Ps),((mL (D.map Prod.fst)).filter (λo=>!(vS D o).isEmpty)).Pairwise Cs:=λD=>(rK _).filter _;have nd:∀(D:Ps),Gd D->((mL (D.map Prod.fst)).filter (λo=>!(vS D o).isEmpty)).Nodup:=λD h=>((j6 _).nodup_iff.mpr h.nd).filter _;have e:(mL (D.map Prod.fst)).filter (λo=>!(vS D o).isEmpty)=(mL (E.map Prod.fst)).filter (λo=>!(vS E o).isEmpty):=by
  refine dN (λa b _ _ h1 h2=>Cs.anti h1 h2) (pw D) (pw E) ((i8 (nd D h) (nd E h')).mpr λo=>?_);rw[key D h,key E h',hv]
 unfold toS;rw[e];apply cJ;intro o _;rw[hv]
theorem D9{D:Ps}(h:Gd D)(h':Gd E)(hc:∀o t,cf (vS D o) t=cf (vS E o) t):toS D=toS E:=Q5 h h' λo=>uniq (h.v o) (h'.v o) (hc o)
theorem F0{f:List Int->Pl}{o:List Int}{t:Int}:∀{ks:List (List Int)},ks.Nodup->cS (ks.map λk=>(k,f k)) o t=if o∈ks then cf (f o) t else 0
 | [],_=>by rw[aK (by simp)];rfl
 | j::ks,h=>by
  obtain⟨h1,h2⟩:=cM.mp h;show(if j=o then cf (f j) t else 0)+cS (ks.map λk=>(k,f k)) o t=_;rw[F0 h2];by_cases c:j=o
  ·subst c;rw[aM rfl,aK h1,aM (aI ..),c6]
  ·rw[aK c,cg];by_cases e:o∈ks
   ·rw[aM e,aM (aL _ e)]
   ·rw[aK e,aK λz=>(bC.mp z).elim (λz=>c z.symm) e]
theorem CW{D:Ps}(h:Gd D)(o:List Int)(t:Int):cS (toS D) o t=cf (vS D o) t:=by
 unfold toS;rw[F0 (((j6 _).nodup_iff.mpr h.nd).filter _)];split
 ·rfl
 ·rename_i c
  rcases vp (D:=D) (o:=o)with⟨e,h1,h2,h3⟩|⟨_,h2⟩
  ·by_cases z:vS D o=[]
   ·rw[z];rfl
   ·refine absurd (cK.mpr ⟨(j6 _).mem_iff.mpr (bz.mpr ⟨e,h1,h2⟩),?_⟩) c
    cases e:vS D o with|nil=>exact absurd e z|cons=>rfl
  ·rw[h2];rfl
noncomputable def m9 (o:List Int)(k:Nat):Bool:=decide (o.getD (k-1) 0>o.getD k 0)
noncomputable def Yl (k:Nat)(l:Ps):Ps:=l.flatMap λe=>(Wd.ex e.1 k,e.2)::(if m9 e.1 k=true then[(e.1,times AF e.2)]else[])
noncomputable def bx (k:Nat)(l:Ps):Ps:=toS (adds [] (Yl k l))
noncomputable def Go (N k:Nat)(o:List Int):Prop:=o.length=N/\o.getD (k-1) 0≠o.getD k 0
theorem O3{N k:Nat}{o:List Int}(h:o.length=N)(h1:1<=k)(h2:k<N):Wd.ex (Wd.ex o k) k=o:=Fw.v_ h1 (by lia)
theorem JA{k:Nat}{o:List Int}(h1:1<=k)(h2:k<o.length):(Wd.ex o k).getD (k-1) 0=o.getD k 0/\(Wd.ex o k).getD k 0=o.getD (k-1) 0:=by
 constructor
 ·rw[aJ,Wd.oN h1 h2,aK (by lia),aM rfl,aJ]
 ·rw[aJ,Wd.oN h1 h2,aM rfl,aJ]
theorem Go.ex{N k:Nat}(h:Go N k o)(h1:1<=k)(h2:k<N):Go N k (Wd.ex o k)/\m9 (Wd.ex o k) k=!m9 o k:=by
 obtain⟨hl,hn⟩:=h;obtain⟨e1,e2⟩:=JA (o:=o) h1 (by lia);refine⟨⟨by rw[Wd.mG];exact hl,by rw[e1,e2];exact λz=>hn z.symm⟩,?_⟩;unfold m9;rw[e1,e2];by_cases c:o.getD (k-1) 0>o.getD k 0
 ·rw[bh c,bq (by lia)];rfl
 ·rw[bq c,bh (by lia)];rfl
theorem CQ{l:Ps}{t:Int}(h:∀e∈l,e.1≠o):cS l o t=0:=by
 induction l with
 | nil=>rfl
 | cons e l ih=>
  show(if e.1=o then _ else 0)+cS l o t=0;rw[aK (h e (aI ..)),ih λf hf=>h f (aL _ hf)];rfl
theorem SQ{N k:Nat}(h1:1<=k)(h2:k<N):∀{l:Ps},(∀e∈l,Go N k e.1)->∀{o:List Int}(t:Int),Go N k o->cS (Yl k l) o t=cS l (Wd.ex o k) t+(if m9 o k=true then cS l o (t+1)-cS l o (t-1)else 0)
 | [],_,o,t,_=>by show(0:Int)=0+if _ then(0:Int)-0 else 0;split<;>rfl
 | e::l,h,o,t,ho=>by
  have he:=h e (aI ..);have ih:=SQ h1 h2 (l:=l) (λf hf=>h f (aL _ hf)) t ho;have hx:(Wd.ex e.1 k=o) ↔ (e.1=Wd.ex o k):=⟨λz=>by rw[<- z,O3 he.1 h1 h2],λz=>by rw[z,O3 ho.1 h1 h2]⟩;show cS (((Wd.ex e.1 k,e.2)::(if m9 e.1 k=true then[(e.1,times AF e.2)]else[]))++Yl k l) o t=_;rw[zd,ih];show(if Wd.ex e.1 k=o then cf e.2 t else 0)+cS (if m9 e.1 k=true then[(e.1,times AF e.2)]else[]) o t+_=((if e.1=Wd.ex o k then cf e.2 t else 0)+cS l (Wd.ex o k) t)+(if m9 o k=true then((if e.1=o then cf e.2 (t+1)else 0)+cS l o (t+1))-((if e.1=o then cf e.2 (t-1)else 0)+cS l o (t-1))else 0);have h3:cS (if m9 e.1 k=true then[(e.1,times AF e.2)]else[]) o t=if m9 o k=true then((if e.1=o then cf e.2 (t+1)else 0)-(if e.1=o then cf e.2 (t-1)else 0))else 0:=by
   by_cases c:e.1=o
   ·rw[c,aM rfl,aM rfl]
    cases m9 o k with
    | false=>rfl
    | true=>
     rw[aM rfl,aM rfl];show(if o=o then cf (times AF e.2) t else 0)+0=_;rw[aM rfl,YU,c6]
   ·rw[aK c,aK c];have:cS (if m9 e.1 k=true then[(e.1,times AF e.2)]else[]) o t=0:=CQ λf hf=>by
     split at hf
     ·rw[aP.mp hf];exact c
     ·cases hf
    rw[this];split<;>rfl
  rw[h3];by_cases c:Wd.ex e.1 k=o
  ·rw[aM c,aM (hx.mp c)];split<;>lia
  ·rw[aK c,aK (λz=>c (hx.mpr z))];split<;>lia
theorem rG{P:List Int->Prop}(l:Ps):∀{D:Ps},(∀e∈D,P e.1)->(∀e∈l,P e.1)->∀e∈adds D l,P e.1:=by
 induction l with
 | nil=>intro D h _;exact h
 | cons f l ih=>
  intro D h h';refine ih (λe he=>?_) λe he=>h' e (aL _ he);have he:e∈z0 D f.1 (pD (vS D f.1) f.2):=he;unfold z0 at he;split at he
  ·obtain⟨g,hg,rfl⟩:=bz.mp he;split
   ·exact h g hg
   ·exact h g hg
  ·rcases bF.mp he with z|z
   ·exact h e z
   ·rw[aP.mp z];exact h' f (aI ..)
theorem tZ{P:List Int->Prop}{D:Ps}(h:∀e∈D,P e.1):∀e∈toS D,P e.1:=λe he=>by
 obtain⟨o,ho,rfl⟩:=bz.mp he;obtain⟨f,hf,e⟩:=bz.mp ((j6 _).mem_iff.mp (cK.mp ho).1);show P o;rw[<- e];exact h f hf
noncomputable def gX (k:Nat)(e:En)(Q:Ps):Ps:=if m9 e.1 k=true then xG (xG Q (Wd.ex e.1 k) e.2.2) e.1 (times AF e.2.2)else xG Q (Wd.ex e.1 k) e.2.2
theorem Iq(k:Nat):∀(es:Es) (P:Ps),es.foldl (λQ e=>gX k e Q) P=adds P (Yl k (sm es))
 | [],P=>rfl
 | e::es,P=>by
  show es.foldl (λQ e=>gX k e Q) (gX k e P)=adds P (((Wd.ex e.1 k,e.2.2)::(if m9 e.1 k=true then[(e.1,times AF e.2.2)]else[]))++Yl k (sm es));rw[Iq k es,zq];congr 1;unfold gX
  cases m9 e.1 k<;>rfl
theorem YX{p:Pl}(h:Ok p)(hb:Bd C p)(t:Int):(cf p t).natAbs<=C:=by
 rw[<- Nr h.nd];exact hb.val t
theorem Ok.GC{l:Pl}(h:Ok l){p:Int×Int}(hp:p∈l):cf l p.1=p.2:=by
 induction l with
 | nil=>cases hp
 | cons q l ih=>
  rcases bC.mp hp with z|z
  ·rw[z];exact h.head
  ·show(if q.1=p.1 then q.2 else 0)+cf l p.1=p.2;have:=(bN.mp h.up).1 p z;rw[aK (by lia),ih h.tail z,cg]
end Su
namespace He
open PySem L2 Am
open Fw (Two rg yS)
open Bl (pK)
open Su (m9)
noncomputable abbrev Fn:=List Int->Int->Int
noncomputable def dl (g:Int->Int)(t:Int):Int:=g (t+1)-g (t-1)
noncomputable def X (k:Nat)(f:Fn):Fn:=λo t=>f (Wd.ex o k) t+if m9 o k=true then dl (f o) t else 0
theorem lE{n:Nat}{v:List Int}(h:Two n o u)(h':Two n o v):u=v:=by
 have l1:=h.lu;have l2:=h'.lu;have l3:=h.lo;apply c5;intro q;by_cases hq:q<n
 ·obtain⟨p,hp,ep⟩:∃p,∃hp:p<o.length,o[p]=(q:Int)+1:=by
   have:(q:Int)+1∈o:=h.po.mem_iff.mpr (oB.mpr ⟨by lia,by lia⟩);obtain⟨p,hp,ep⟩:=List.getElem_of_mem this;exact⟨p,hp,ep⟩
  have a1:=h.ou.2 p hp;have a2:=h'.ou.2 p hp;rw[ep,show((q:Int)+1-1).toNat=q by lia]at a1 a2;rw[a1,a2]
 ·rw[bW (by lia),bW (by lia)]
noncomputable def bk (o:List Int):List Int:=(List.range o.length).map λi:Nat=>((o.idxOf ((i:Int)+1):Nat):Int)+1
theorem mq{n:Nat}{o:List Int}(h:o.Perm (rg n)):Two n o (bk o):=by
 have lo:o.length=n:=by rw[h.length_eq,Wd.jR]
 have nd:o.Nodup:=h.nodup_iff.mpr (p9 _ _);have mem:∀i,i<n->(i:Int)+1∈o:=λi hi=>h.mem_iff.mpr (oB.mpr ⟨by lia,by lia⟩);have ix:∀i,i<n->o.idxOf ((i:Int)+1)<n:=λi hi=>by rw[<- lo];exact fB.mpr (mem i hi)
 have get:∀i (hi:i<n),o[o.idxOf ((i:Int)+1)]'(by rw[lo];exact ix i hi)=(i:Int)+1:=λi hi=>i_ _;refine⟨h,?_,?_,λp hp=>?_⟩
 ·have p:=Am.sD (N:=n) (g:=λi=>o.idxOf ((i:Int)+1)) ix λi j hij hj z=>by
   have a:=get i (by lia);have b:=get j hj;simp only[z]at a;rw[b]at a;lia
  have p2:=p.map λi:Nat=>(i:Int)+1;rw[bu]at p2;unfold bk;rw[lo];refine List.Perm.trans p2 ?_;have:(List.range n).map (λi:Nat=>(i:Int)+1)=rg n:=by
   apply c5;intro q;rw[aR];by_cases c:q<n
   ·rw[ef c,Wd.nJ c];rfl
   ·rw[bW (by rw[cA];lia),bW (by rw[Wd.jR];lia)];rfl
  rw[this]
 ·unfold bk;rw[aH,cA]
 ·have m:=oB.mp (h.mem_iff.mp (dJ hp));have hq:(o[p]-1).toNat<o.length:=by lia
  unfold bk;rw[aR,ef hq];show some (((o.idxOf (((o[p]-1).toNat:Int)+1):Nat):Int)+1)=_;rw[show((o[p]-1).toNat:Int)+1=o[p]by lia,nd.idxOf_getElem]
theorem qB{n:Nat}{o:List Int}(h:o.Perm (rg n)):bk (bk o)=o:=lE (mq (mq h).pu) (mq h).flip
theorem l9{n:Nat}{o:List Int}(h:o.Perm (rg n)):(bk o).Perm (rg n):=(mq h).pu
theorem ND{n k:Nat}{o:List Int}(h:o.Perm (rg n))(h0:1<=k)(h1:k<n):bk (o.map (Wd.sw k))=Wd.ex (bk o) k:=by
 have t:=(mq h).step h0 h1;exact lE (mq t.po) t
theorem XR{n k:Nat}{o:List Int}(h:o.Perm (rg n))(h0:1<=k)(h1:k<n):bk (Wd.ex o k)=(bk o).map (Wd.sw k):=by
 have t:=((mq h).flip.step h0 h1).flip;exact lE (mq t.po) t
theorem um{n k p:Nat}{o u:List Int}(t:Two n o u)(h1:1<=k)(h2:k<=n)(hp:o.getD p 0=(k:Int))(hpn:p<n):u.getD (k-1) 0=(p:Int)+1:=by
 have lo:=t.lo;have lp:p<o.length:=by lia
 have:=t.ou.2 p lp;rw[Wd.ni lp]at hp;rw[hp,show((k:Int)-1).toNat=k-1 by lia]at this;rw[aJ,this];rfl
theorem nb{n k:Nat}{o:List Int}(h:o.Perm (rg n))(h0:1<=k)(h1:k<n):o.getD (k-1) 0≠o.getD k 0:=λz=>by
 have lo:o.length=n:=by rw[h.length_eq,Wd.jR]
 have nd:o.Nodup:=h.nodup_iff.mpr (p9 _ _);rw[Wd.ni (by lia),Wd.ni (by lia)]at z;have:=(dj nd).mp z;lia
noncomputable def Pr (o:List Int)(k j:Nat):Prop:=(o.getD (k-1) 0=j/\o.getD k 0=(j:Int)+1)\/(o.getD (k-1) 0=(j:Int)+1/\o.getD k 0=j)
theorem LZ{n k:Nat}{u:List Int}(h:u.Perm (rg n))(h0:1<=j)(h1:j<n):(Pr u j k->m9 (u.map (Wd.sw k)) j=!m9 u j)/\(¬Pr u j k->m9 (u.map (Wd.sw k)) j=m9 u j):=by
 have lu:u.length=n:=by rw[h.length_eq,Wd.jR]
 have ne:=nb h h0 h1;have e1:(u.map (Wd.sw k)).getD (j-1) 0=Wd.sw k (u.getD (j-1) 0):=by
  rw[Wd.ni (by rw[aH];lia),Wd.ni (by lia),c8]
 have e2:(u.map (Wd.sw k)).getD j 0=Wd.sw k (u.getD j 0):=by
  rw[Wd.ni (by rw[aH];lia),Wd.ni (by lia),c8]
 unfold m9 Pr;rw[e1,e2];generalize u.getD (j-1) 0=a at *
 generalize u.getD j 0=b at *
 constructor
 ·rintro(⟨z1,z2⟩|⟨z1,z2⟩)
  ·subst z1;subst z2;unfold Wd.sw;rw[aM rfl,aK (by lia),aM rfl,bh (by lia),bq (by lia)];rfl
  ·subst z1;subst z2;unfold Wd.sw;rw[aK (by lia),aM rfl,aM rfl,bq (by lia),bh (by lia)];rfl
 ·intro z;rw[jl];unfold Wd.sw;split<;>split<;>(try split)<;>(try split)<;>lia
theorem yJ{n k:Nat}(t:Two n o u)(h0:1<=k)(h1:k<n)(h2:1<=j)(h3:j<n)(h:Pr o k j):Pr u j k:=by
 rcases h with⟨z1,z2⟩|⟨z1,z2⟩
 ·have a:=um t h2 (by lia) z1 (by lia);have b:=um t (k:=j+1) (by lia) (by lia) (by rw[z2];lia) h1;rw[Nat.add_sub_cancel]at b;exact .inl ⟨by rw[a];lia,by rw[b]⟩
 ·have a:=um t (k:=j+1) (by lia) (by lia) (by rw[z1];lia) (show k-1<n by lia);have b:=um t h2 (by lia) z2 h1;rw[Nat.add_sub_cancel]at a;exact .inr ⟨by rw[b],by rw[a];lia⟩
theorem VH{n k:Nat}(t:Two n o u)(h0:1<=k)(h1:k<n)(h2:1<=j)(h3:j<n)(h:Pr o k j):m9 u j=m9 o k:=by
 have a:∀x y:List Int,∀i m:Nat,x.getD (i-1) 0=(m:Int)->x.getD i 0=(m:Int)+1->m9 x i=false:=λx y i m p q=>by
  unfold m9;rw[p,q];exact bq (by lia)
 have b:∀x y:List Int,∀i m:Nat,x.getD (i-1) 0=(m:Int)+1->x.getD i 0=(m:Int)->m9 x i=true:=λx y i m p q=>by
  unfold m9;rw[p,q];exact bh (by lia)
 rcases h with⟨z1,z2⟩|⟨z1,z2⟩
 ·rw[a o [] k j z1 z2]
  rcases yJ t h0 h1 h2 h3 (.inl ⟨z1,z2⟩)with⟨y1,y2⟩|⟨y1,y2⟩
  ·exact a u [] j k y1 y2
  ·have:=um t h2 (by lia) z1 (by lia);lia
 ·rw[b o [] k j z1 z2]
  rcases yJ t h0 h1 h2 h3 (.inr ⟨z1,z2⟩)with⟨y1,y2⟩|⟨y1,y2⟩
  ·have:=um t h2 (by lia) z2 h1;lia
  ·exact b u [] j k y1 y2
noncomputable def L (j:Nat)(f:Fn):Fn:=λo t=>f (o.map (Wd.sw j)) t+if m9 (bk o) j=true then dl (f o) t else 0
theorem HP{n k:Nat}{o:List Int}(h:o.Perm (rg n))(h0:1<=k)(h1:k<n)(hp:Pr o k j):o.map (Wd.sw j)=Wd.ex o k:=by
 have lo:o.length=n:=by rw[h.length_eq,Wd.jR]
 have nd:o.Nodup:=h.nodup_iff.mpr (p9 _ _);apply c5;intro p;rw[Wd.oN h0 (by lia),aR];unfold Pr at hp;rw[Wd.ni (by lia),Wd.ni (by lia)]at hp;by_cases c1:p=k
 ·subst c1;rw[aM rfl,aF (by lia),aF (by lia),dZ];congr 1;unfold Wd.sw
  rcases hp with⟨z1,z2⟩|⟨z1,z2⟩
  ·rw[z1,z2,aK (by lia),aM rfl]
  ·rw[z1,z2,aM rfl]
 ·rw[aK c1];by_cases c2:p=k-1
  ·subst c2;rw[aM rfl,aF (by lia),aF (by lia),dZ];congr 1;unfold Wd.sw
   rcases hp with⟨z1,z2⟩|⟨z1,z2⟩
   ·rw[z1,z2,aM rfl]
   ·rw[z1,z2,aK (by lia),aM rfl]
  ·rw[aK c2];by_cases c3:p<o.length
   ·rw[aF c3,dZ];congr 1;have n1:o[p]≠o[k]:=λz=>c1 ((dj nd).mp z);have n2:o[p]≠o[k-1]:=λz=>c2 ((dj nd).mp z);unfold Wd.sw
    rcases hp with⟨z1,z2⟩|⟨z1,z2⟩
    ·rw[aK (by rw[<- z1];exact n2),aK (by rw[<- z2];exact n1)]
    ·rw[aK (by rw[<- z2];exact n1),aK (by rw[<- z1];exact n2)]
   ·rw[bW (by lia)];rfl
theorem Ua(j:Nat)(o:List Int):(o.map (Wd.sw j)).map (Wd.sw j)=o:=by
 rw[bu];have:(Wd.sw j ∘ Wd.sw j)=id:=funext λx=>by
  show Wd.sw j (Wd.sw j x)=x;unfold Wd.sw;split<;>(try split)<;>(try split)<;>lia
 rw[this,jz]
theorem comm{n k:Nat}(f:Fn){o:List Int}(h:o.Perm (rg n))(h0:1<=k)(h1:k<n)(h2:1<=j)(h3:j<n)(t:Int):X k (L j f) o t=L j (X k f) o t:=by
 have lo:o.length=n:=by rw[h.length_eq,Wd.jR]
 have tw:=mq h;have e1:(Wd.ex o k).map (Wd.sw j)=Wd.ex (o.map (Wd.sw j)) k:=(Wd.ex_map _ h0 (by lia)).symm;have e2:=XR h h0 h1;have f1:=LZ (k:=j) h h0 h1;have f2:=LZ (k:=k) tw.pu h2 h3;unfold X L dl;dsimp only;rw[e1,e2];by_cases c:Pr o k j
 ·have c':=yJ tw h0 h1 h2 h3 c;have e3:=HP h h0 h1 c;rw[f1.1 c,f2.1 c',VH tw h0 h1 h2 h3 c,<- e3]
 ·have c':¬Pr (bk o) j k:=λz=>c (yJ tw.flip h2 h3 h0 h1 z);rw[f1.2 c,f2.2 c']
  cases m9 o k<;>cases m9 (bk o) j
  ·simp only[bf,bU]
  ·simp only[bf,cY,bU];lia
  ·simp only[bf,cY,bU];lia
  ·simp only[cY];lia
noncomputable def lD (n:Nat)(f g:Fn):Prop:=∀o:List Int,o.Perm (rg n)->∀t,f o t=g o t
theorem lD.refl{n:Nat}{f:Fn}:lD n f f:=λ_ _ _=>rfl
theorem lD.symm{n:Nat}{f g:Fn}(h:lD n f g):lD n g f:=λo p t=>(h o p t).symm
theorem lD.trans{n:Nat}{f g e:Fn}(h:lD n f g)(h':lD n g e):lD n f e:=λo p t=>(h o p t).trans (h' o p t)
theorem n5{n k:Nat}{o:List Int}(h:o.Perm (rg n))(h0:1<=k)(h1:k<n):(Wd.ex o k).Perm (rg n):=(Wd.Cv h0 (by rw[h.length_eq,Wd.jR];exact h1)).trans h
theorem TQ{n k:Nat}{o:List Int}(h:o.Perm (rg n))(h0:1<=k)(h1:k<n):(o.map (Wd.sw k)).Perm (rg n):=((mq h).step h0 h1).po
theorem Qz{n k:Nat}{f g:Fn}(h:lD n f g)(h0:1<=k)(h1:k<n):lD n (X k f) (X k g):=λo p t=>by
 unfold X dl;rw[h _ (n5 p h0 h1),h o p,h o p]
theorem XG{n k:Nat}{f g:Fn}(h:lD n f g)(h0:1<=k)(h1:k<n):lD n (L k f) (L k g):=λo p t=>by
 unfold L dl;rw[h _ (TQ p h0 h1),h o p,h o p]
noncomputable def Va (n:Nat)(w:List Nat):Prop:=∀k∈w,1<=k/\k<n
noncomputable def Xw (w:List Nat)(f:Fn):Fn:=w.foldl (λf k=>X k f) f
noncomputable def Lw (w:List Nat)(f:Fn):Fn:=w.foldl (λf k=>L k f) f
theorem vX{n:Nat}:∀{w:List Nat}{f g:Fn},Va n w->lD n f g->lD n (Xw w f) (Xw w g)
 | [],_,_,_,h=>h
 | k::w,_,_,v,h=>vX (w:=w) (λj hj=>v j (aL _ hj)) (Qz h (v k (aI ..)).1 (v k (aI ..)).2)
theorem zp{n:Nat}:∀{w:List Nat}{f g:Fn},Va n w->lD n f g->lD n (Lw w f) (Lw w g)
 | [],_,_,_,h=>h
 | k::w,_,_,v,h=>zp (w:=w) (λj hj=>v j (aL _ hj)) (XG h (v k (aI ..)).1 (v k (aI ..)).2)
theorem YK{n:Nat}(h2:1<=j)(h3:j<n):∀{w:List Nat}{f:Fn},Va n w->lD n (Xw w (L j f)) (L j (Xw w f))
 | [],_,_=>.refl
 | k::w,f,v=>by
  have v1:=v k (aI ..);have v2:Va n w:=λj hj=>v j (aL _ hj);show lD n (Xw w (X k (L j f))) (L j (Xw w (X k f)));exact(vX v2 (λo p t=>comm f p v1.1 v1.2 h2 h3 t)).trans (YK h2 h3 v2)
theorem OC{n:Nat}{w:List Nat}(v:Va n w):∀{u:List Nat}{f:Fn},Va n u->lD n (Xw w (Lw u f)) (Lw u (Xw w f))
 | [],_,_=>.refl
 | j::u,f,vu=>by
  have v1:=vu j (aI ..);have v2:Va n u:=λi hi=>vu i (aL _ hi);show lD n (Xw w (Lw u (L j f))) (Lw u (L j (Xw w f)));exact(OC v v2).trans (zp v2 (YK v1.1 v1.2 v))
noncomputable def D (u:List Int)(g:Int->Int):Fn:=λo t=>if o=u then g t else 0
theorem ZW{n k:Nat}{u:List Int}(g:Int->Int)(hu:u.Perm (rg n))(h0:1<=k)(h1:k<n):lD n (X k (D u g)) λo t=>D (Wd.ex u k) g o t+if m9 u k=true then D u (dl g) o t else 0:=λo p t=>by
 have lo:o.length=n:=by rw[p.length_eq,Wd.jR]
 have lu:u.length=n:=by rw[hu.length_eq,Wd.jR]
 have iff:Wd.ex o k=u ↔ o=Wd.ex u k:=⟨λz=>by rw[<- z,Fw.v_ h0 (by lia)],λz=>by rw[z,Fw.v_ h0 (by lia)]⟩;unfold X D dl;dsimp only;by_cases c:o=u
 ·subst c;rw[aM rfl,aM rfl,aM rfl];congr 1;by_cases c2:Wd.ex o k=o
  ·rw[aM c2,aM c2.symm]
  ·rw[aK c2,aK (λz=>c2 z.symm)]
 ·rw[aK c,aK c,aK c];congr 1
  ·by_cases c2:Wd.ex o k=u
   ·rw[aM c2,aM (iff.mp c2)]
   ·rw[aK c2,aK (λz=>c2 (iff.mpr z))]
  ·split<;>split<;>rfl
theorem L_D{n k:Nat}{u:List Int}(g:Int->Int)(hu:u.Perm (rg n))(h0:1<=k)(h1:k<n):lD n (L k (D u g)) λo t=>D (u.map (Wd.sw k)) g o t+if m9 (bk u) k=true then D u (dl g) o t else 0:=λo p t=>by
 have iff:o.map (Wd.sw k)=u ↔ o=u.map (Wd.sw k):=⟨λz=>by rw[<- z,Ua],λz=>by rw[z,Ua]⟩;unfold L D dl;dsimp only;by_cases c:o=u
 ·subst c;rw[aM rfl,aM rfl,aM rfl];congr 1;by_cases c2:o.map (Wd.sw k)=o
  ·rw[aM c2,aM c2.symm]
  ·rw[aK c2,aK (λz=>c2 z.symm)]
 ·rw[aK c,aK c,aK c];congr 1
  ·by_cases c2:o.map (Wd.sw k)=u
   ·rw[aM c2,aM (iff.mp c2)]
   ·rw[aK c2,aK (λz=>c2 (iff.mpr z))]
  ·split<;>split<;>rfl
theorem DR{l:List Int}{k:Nat}(h:l.getD (k-1) 0<l.getD k 0):m9 l k=false:=bq (by lia)
theorem L0{n:Nat}{g:Int->Int}:∀{w:List Nat}{u:List Int},u.Perm (rg n)->Wd.jW u w->lD n (Xw w (D u g)) (D (Wd.led u w) g)
 | [],_,_,_=>.refl
 | k::w,u,hu,h=>by
  obtain⟨h1,h2,h3,h4⟩:=h;have lu:u.length=n:=by rw[hu.length_eq,Wd.jR]
  have pu:=n5 hu h1 (by lia);have e:lD n (X k (D u g)) (D (Wd.ex u k) g):=(ZW g hu h1 (by lia)).trans λo p t=>by
   dsimp only;rw[DR h3,aK (by simp),c6]
  have v:Va n w:=λj hj=>by
   have:=Wd.jW.valid h4 j hj;rw[Wd.mG,lu]at this;exact this
  show lD n (Xw w (X k (D u g))) (D (Wd.led (Wd.ex u k) w) g);exact(vX v e).trans (L0 pu h4)
theorem V1{n:Nat}{g:Int->Int}:∀{w:List Nat}{u:List Int},u.Perm (rg n)->Wd.jW (bk u) w->∃v:List Int,v.Perm (rg n)/\bk v=Wd.led (bk u) w/\lD n (Lw w (D u g)) (D v g)
 | [],u,hu,_=>⟨u,hu,rfl,.refl⟩
 | k::w,u,hu,h=>by
  obtain⟨h1,h2,h3,h4⟩:=h;have lb:(bk u).length=n:=by rw[(l9 hu).length_eq,Wd.jR]
  have pu:=TQ hu h1 (by lia);have eb:bk (u.map (Wd.sw k))=Wd.ex (bk u) k:=ND hu h1 (by lia);have e:lD n (L k (D u g)) (D (u.map (Wd.sw k)) g):=(L_D g hu h1 (by lia)).trans λo p t=>by
   dsimp only;rw[DR h3,aK (by simp),c6]
  have v:Va n w:=λj hj=>by
   have:=Wd.jW.valid h4 j hj;rw[Wd.mG,lb]at this;exact this
  rw[<- eb]at h4;obtain⟨x,x1,x2,x3⟩:=V1 (g:=g) pu h4;refine⟨x,x1,?_,(zp v e).trans x3⟩;rw[x2,eb];rfl
theorem l_(n:Nat):(rg n).Perm (rg n):=.refl _
theorem uA{n:Nat}:∀(m:Nat) {u:List Int},u.Perm (rg n)->Iv.inv u=m->∃w,Wd.jW (rg n) w/\Wd.led (rg n) w=u
 | 0,u,hu,hm=>by
  refine⟨[],trivial,(Fw.IS hu λk hk=>?_).symm⟩;have:=Fw.nZ hk.1 hk.2.1 hk.2.2;lia
 | m+1,u,hu,hm=>by
  obtain⟨k,hk⟩:=Fw.IX (l:=u) (by lia);have lu:u.length=n:=by rw[hu.length_eq,Wd.jR]
  have hd:=Fw.nZ hk.1 hk.2.1 hk.2.2;obtain⟨w,h1,h2⟩:=uA m (n5 hu hk.1 (by rw[<- lu];exact hk.2.1)) (by lia);obtain⟨e1,e2⟩:=Su.JA (o:=u) hk.1 hk.2.1;refine⟨w++[k],Wd.jW.snoc h1 hk.1 (by rw[Wd.jR,<- lu];exact hk.2.1) (by rw[h2,e1,e2];exact hk.2.2),?_⟩;rw[Wd.uz,h2];exact Fw.v_ hk.1 hk.2.1
theorem y_(n:Nat):bk (rg n)=rg n:=by
 refine lE (mq (l_ n)) ⟨l_ n,l_ n,rfl,λp hp=>?_⟩;have hp':p<n:=by rw[Wd.jR]at hp;exact hp
 have e:=Wd.nJ hp';rw[aF hp]at e;have e:=a_ e;rw[show((rg n)[p]-1).toNat=p by rw[e];lia];exact Wd.nJ hp'
theorem Qv{n:Nat}{u:List Int}(hu:u.Perm (rg n)):∃v,Va n v/\∀g,lD n (Lw v (D (rg n) g)) (D u g):=by
 obtain⟨w,h1,h2⟩:=uA _ (l9 hu) rfl;have v:Va n w:=λk hk=>by have:=Wd.jW.valid h1 k hk;rwa [Wd.jR]at this
 refine⟨w,v,λg=>?_⟩;have h1':Wd.jW (bk (rg n)) w:=by rw[y_];exact h1
 obtain⟨x,x1,x2,x3⟩:=V1 (g:=g) (l_ n) h1';rw[y_,h2]at x2;have:x=u:=by rw[<- qB x1,x2,qB hu]
 rw[<- this];exact x3
theorem Ww{n:Nat}{w:List Nat}(h:Wd.jW (rg n) w)(h':Wd.jW (rg n) w')(e:Wd.led (rg n) w=Wd.led (rg n) w'){u:List Int}(hu:u.Perm (rg n))(g:Int->Int):lD n (Xw w (D u g)) (Xw w' (D u g)):=by
 obtain⟨v,v1,v2⟩:=Qv hu;have a:∀{w:List Nat},Wd.jW (rg n) w->lD n (Xw w (D u g)) (Lw v (D (Wd.led (rg n) w) g)):=λ{w} h=>by
  have vw:Va n w:=λk hk=>by have:=Wd.jW.valid h k hk;rwa [Wd.jR]at this
  exact(vX vw (v2 g).symm).trans ((OC vw v1).trans (zp v1 (L0 (l_ n) h)))
 refine(a h).trans ?_;rw[e];exact(a h').symm
noncomputable def add (f g:Fn):Fn:=λo t=>f o t+g o t
theorem W_(k:Nat)(f g:Fn):X k (add f g)=add (X k f) (X k g):=by
 funext o t
 unfold X add dl;dsimp only;split<;>lia
theorem Az:∀(w:List Nat) (f g:Fn),Xw w (add f g)=add (Xw w f) (Xw w g)
 | [],_,_=>rfl
 | k::w,f,g=>by
  show Xw w (X k (add f g))=_;rw[W_,Az w];rfl
theorem VU(k:Nat):X k (λ_ _=>0)=λ_ _=>0:=by
 funext o t
 unfold X dl;split<;>rfl
theorem wC:∀w:List Nat,Xw w (λ_ _=>0)=λ_ _=>0
 | []=>rfl
 | k::w=>by
  show Xw w (X k _)=_;rw[VU,wC w]
theorem sC(e:List Int×Po.Pl)(l:Su.Ps):Su.cS (e::l)=add (D e.1 (Po.cf e.2)) (Su.cS l):=by
 funext o t
 show(if e.1=o then _ else _)+_=(if o=e.1 then _ else _)+_;by_cases c:e.1=o
 ·rw[aM c,aM c.symm]
 ·rw[aK c,aK (λz=>c z.symm)]
theorem CT{n:Nat}{w:List Nat}(h:Wd.jW (rg n) w)(h':Wd.jW (rg n) w')(e:Wd.led (rg n) w=Wd.led (rg n) w'):∀{l:Su.Ps},(∀x∈l,x.1.Perm (rg n))->lD n (Xw w (Su.cS l)) (Xw w' (Su.cS l))
 | [],_=>by
  have z:Su.cS []=λ_ _=>0:=rfl;rw[z,wC,wC];exact .refl
 | x::l,hx=>by
  rw[sC,Az,Az];intro o p t;unfold add;rw[Ww h h' e (hx x (aI ..)) _ o p t,CT h h' e (λy hy=>hx y (aL _ hy)) o p t]
theorem Qe{n k:Nat}{l:Su.Ps}(h:∀x∈l,x.1.Perm (rg n))(h0:1<=k)(h1:k<n):lD n (Su.cS (Su.bx k l)) (X k (Su.cS l)):=λo p t=>by
 have go:∀{x:List Int},x.Perm (rg n)->Su.Go n k x:=λ{x} hx=>⟨by rw[hx.length_eq,Wd.jR],nb hx h0 h1⟩;unfold Su.bx;rw[Su.CW (Su.Gd.nil.adds _),Su.Ms];show 0+_=_;rw[cg,Su.SQ h0 h1 (λe he=>go (h e he)) t (go p)];rfl
end He
namespace He
open PySem L2 Am Po
open Fw (Two rg yS)
open Su (m9 Ps cS)
noncomputable def cv:Pl->(Int->Int)->Int->Int
 | [],_,_=>0
 | q::p,g,t=>q.2 * g (t-q.1)+cv p g t
theorem Ni(a b:Pl)(g:Int->Int)(t:Int):cv (a++b) g t=cv a g t+cv b g t:=by
 induction a with
 | nil=>exact(cg _).symm
 | cons q a ih=>
  show _+cv (a++b) g t=_+_+_;rw[ih,fV]
theorem xU(p:Pl)(g h:Int->Int)(t:Int):cv p (λt=>g t+h t) t=cv p g t+cv p h t:=by
 induction p with
 | nil=>rfl
 | cons q p ih=>
  show q.2 * (g (t-q.1)+h (t-q.1))+cv p _ t=(q.2 * g (t-q.1)+cv p g t)+(q.2 * h (t-q.1)+cv p h t);rw[ih,Int.mul_add];lia
theorem qu(p:Pl)(t:Int):cv p (λ_=>0) t=0:=by
 induction p with
 | nil=>rfl
 | cons q p ih=>
  show q.2 * 0+cv p _ t=0;rw[ih,iw];rfl
theorem SH(p:Pl)(g:Int->Int)(t:Int):cv p (dl g) t=dl (cv p g) t:=by
 induction p with
 | nil=>rfl
 | cons q p ih=>
  show q.2 * (g (t-q.1+1)-g (t-q.1-1))+cv p (dl g) t=(q.2 * g (t+1-q.1)+cv p g (t+1))-(q.2 * g (t-1-q.1)+cv p g (t-1));rw[ih,Int.mul_sub,show t-q.1+1=t+1-q.1 by lia,show t-q.1-1=t-1-q.1 by lia];show _+(cv p g (t+1)-cv p g (t-1))=_;lia
theorem Y0(p q:Pl)(t:Int):cf (times p q) t=cv p (cf q) t:=by
 rw[Su.wu]
 induction p with
 | nil=>rfl
 | cons a p ih=>
  show cf ((q.map λb=>(a.1+b.1,a.2 * b.2))++Dj p q) t=_;rw[Su.xS,Su.HN,ih];rfl
theorem LX(p:Pl)(g:Int->Int)(t a:Int):cv p g t=cf p a * g (t-a)+cv (p.filter λq=>decide (q.1≠a)) g t:=by
 induction p with
 | nil=>show(0:Int)=0 * _+0;rw[zero_mul];rfl
 | cons q p ih=>
  show q.2 * g (t-q.1)+cv p g t=((if q.1=a then q.2 else 0)+cf p a) * g (t-a)+_;rw[cX,Int.add_mul];by_cases c:q.1=a
  ·rw[aM c,bq (by simpa using c),aK (by simp),ih,c];lia
  ·rw[aK c,bh c,aM rfl,ih,zero_mul];show _=0+_+(q.2 * g (t-q.1)+cv _ g t);lia
theorem JK(p:Pl)(a b:Int):cf (p.filter λq=>decide (q.1≠a)) b=if b=a then 0 else cf p b:=by
 induction p with
 | nil=>show(0:Int)=_;split<;>rfl
 | cons q p ih=>
  rw[cX];show _=if b=a then 0 else(if q.1=b then q.2 else 0)+cf p b
  by_cases c:q.1=a
  ·rw[bq (by simpa using c),aK (by simp),ih];by_cases e:b=a
   ·rw[aM e,aM e]
   ·rw[aK e,aK e,aK (by lia),cg]
  ·rw[bh c,aM rfl];show(if q.1=b then q.2 else 0)+cf _ b=_;rw[ih];by_cases e:b=a
   ·rw[aM e,aM e,aK (by lia)];rfl
   ·rw[aK e,aK e]
theorem A6:∀(m:Nat) {p:Pl},p.length=m->(∀k,cf p k=0)->∀(g:Int->Int) (t:Int),cv p g t=0:=by
 intro m
 induction m using Nat.strongRecOn with
 | _ m ih=>
  intro p hm h g t
  cases p with
  | nil=>rfl
  | cons q p=>
   rw[LX _ g t q.1,h,zero_mul,cg];refine ih _ ?_ rfl (λk=>?_) g t
   ·rw[cX,bq (by simp),aK (by simp),<- hm];exact Nat.lt_succ_of_le (dI _ _)
   ·rw[JK];split
    ·rfl
    ·exact h k
theorem Mm(p:Pl)(g:Int->Int)(t:Int):cv (p.map λq=>(q.1,-q.2)) g t=- cv p g t:=by
 induction p with
 | nil=>rfl
 | cons q p ih=>
  show -q.2 * g (t-q.1)+cv (p.map _) g t=-(q.2 * g (t-q.1)+cv p g t);rw[ih,Int.neg_mul];lia
theorem LR(p:Pl)(k:Int):cf (p.map λq=>(q.1,-q.2)) k=- cf p k:=by
 induction p with
 | nil=>rfl
 | cons q p ih=>
  show(if q.1=k then -q.2 else 0)+cf (p.map _) k=-((if q.1=k then q.2 else 0)+cf p k);rw[ih];split<;>lia
theorem NC{p q:Pl}(h:∀k,cf p k=cf q k)(g:Int->Int)(t:Int):cv p g t=cv q g t:=by
 have:=A6 _ (p:=p++q.map λq=>(q.1,-q.2)) rfl (λk=>by rw[Su.xS,LR,h];lia) g t;rw[Ni,Mm]at this;lia
theorem X8(p q:Pl)(g:Int->Int)(t:Int):cv p (cv q g) t=cv q (cv p g) t:=by
 induction p generalizing t with
 | nil=>exact(qu q t).symm
 | cons a p ih=>
  show a.2 * cv q g (t-a.1)+cv p (cv q g) t=cv q (λt=>a.2 * g (t-a.1)+cv p g t) t;rw[ih,xU];congr 1;clear ih
  induction q with
  | nil=>show a.2 * 0=0;rw[iw]
  | cons b q ih2=>
   show a.2 * (b.2 * g (t-a.1-b.1)+cv q g (t-a.1))=b.2 * (a.2 * g (t-b.1-a.1))+cv q _ t;rw[<- ih2,Int.mul_add,show t-a.1-b.1=t-b.1-a.1 by lia,<- Int.mul_assoc,<- Int.mul_assoc,Int.mul_comm a.2 b.2]
noncomputable def nA (p:Pl)(f:Fn):Fn:=λo t=>cv p (f o) t
theorem Ut(k:Nat)(p:Pl)(f:Fn):X k (nA p f)=nA p (X k f):=by
 funext o t
 show cv p (f (Wd.ex o k)) t+(if m9 o k=true then dl (cv p (f o)) t else 0)=cv p (λt=>f (Wd.ex o k) t+if m9 o k=true then dl (f o) t else 0) t;rw[xU]
 cases m9 o k with
 | true=>simp only[cY];rw[<- SH]
 | false=>simp only[bf,bU];rw[qu]
theorem Io(p:Pl):∀(w:List Nat) (f:Fn),Xw w (nA p f)=nA p (Xw w f)
 | [],_=>rfl
 | k::w,f=>by
  show Xw w (X k (nA p f))=_;rw[Ut,Io p w];rfl
noncomputable def sw (n:Nat)(o:List Int):List Nat:=by
 classical
 exact if h:o.Perm (rg n)then(uA _ h rfl).choose else[]
theorem rq{n:Nat}{o:List Int}(h:o.Perm (rg n)):Wd.jW (rg n) (sw n o)/\Wd.led (rg n) (sw n o)=o:=by
 unfold sw;rw[dif_pos h];exact(uA _ h rfl).choose_spec
theorem wD{n:Nat}{o:List Int}(h:o.Perm (rg n)):Va n (sw n o):=λk hk=>by have:=Wd.jW.valid (rq h).1 k hk;rwa [Wd.jR]at this
noncomputable def RG (G:List Int->Fn):Ps->Fn
 | []=>λ_ _=>0
 | e::m=>add (nA e.2 (G e.1)) (RG G m)
noncomputable def R (n:Nat)(m:Ps)(f:Fn):Fn:=RG (λo=>Xw (sw n o) f) m
theorem Vz(G:List Int->Fn)(a b:Ps):RG G (a++b)=add (RG G a) (RG G b):=by
 induction a with
 | nil=>funext o t;exact(cg _).symm
 | cons e a ih=>
  show add _ (RG G (a++b))=_;rw[ih]
  funext o t
  exact(fV _ _ _).symm
theorem Ul(G:List Int->Fn)(o:List Int)(t:Int)(w:List Int):∀m:Ps,RG G m o t=cv ((m.filter λe=>decide (e.1=w)).flatMap λe=>e.2) (G w o) t+RG G (m.filter λe=>decide (e.1≠w)) o t
 | []=>rfl
 | e::m=>by
  show cv e.2 (G e.1 o) t+RG G m o t=_;rw[Ul G o t w m,cX,cX];by_cases c:e.1=w
  ·rw[bh c,aM rfl,bq (by simpa using c),aK (by simp),jd,Ni,c];lia
  ·rw[bq c,aK (by simp),bh c,aM rfl];show _=_+(cv e.2 (G e.1 o) t+RG G _ o t);lia
theorem CH(w:List Int)(t:Int):∀m:Ps,cf ((m.filter λe=>decide (e.1=w)).flatMap λe=>e.2) t=cS m w t
 | []=>rfl
 | e::m=>by
  rw[cX];show _=(if e.1=w then cf e.2 t else 0)+cS m w t;by_cases c:e.1=w
  ·rw[bh c,aM rfl,aM c,jd,Su.xS,CH w t m]
  ·rw[bq c,aK (by simp),aK c,CH w t m,cg]
theorem wO(w o:List Int)(t:Int):∀m:Ps,cS (m.filter λe=>decide (e.1≠w)) o t=if o=w then 0 else cS m o t
 | []=>by show(0:Int)=_;split<;>rfl
 | e::m=>by
  rw[cX];show _=if o=w then 0 else(if e.1=o then cf e.2 t else 0)+cS m o t
  by_cases c:e.1=w
  ·rw[bq (by simpa using c),aK (by simp),wO w o t m];by_cases e':o=w
   ·rw[aM e',aM e']
   ·rw[aK e',aK e',aK (λz=>e' (z.symm.trans c)),cg]
  ·rw[bh c,aM rfl];show(if e.1=o then cf e.2 t else 0)+cS _ o t=_;rw[wO w o t m];by_cases e':o=w
   ·rw[aM e',aM e',aK (λz=>c (z.trans e'))];rfl
   ·rw[aK e',aK e']
theorem KW(G:List Int->Fn)(o:List Int)(t:Int):∀(k:Nat) {m:Ps},m.length=k->(∀w s,cS m w s=0)->RG G m o t=0:=by
 intro k
 induction k using Nat.strongRecOn with
 | _ k ih=>
  intro m hk h
  cases m with
  | nil=>rfl
  | cons e m=>
   rw[Ul G o t e.1];have z:cv (((e::m).filter λx=>decide (x.1=e.1)).flatMap λe=>e.2) (G e.1 o) t=0:=A6 _ rfl (λs=>by rw[CH];exact h _ _) _ _;rw[z,cg];refine ih _ ?_ rfl λw s=>?_
   ·rw[cX,bq (by simp),aK (by simp),<- hk];exact Nat.lt_succ_of_le (dI _ _)
   ·rw[wO];split
    ·rfl
    ·exact h w s
theorem Mj(G:List Int->Fn)(h:∀w s,cS m w s=cS m' w s):RG G m=RG G m':=by
 funext o t
 have neg:∀m:Ps,RG G (m.map λe=>(e.1,e.2.map λq=>(q.1,-q.2))) o t=- RG G m o t:=λm=>by
  induction m with
  | nil=>rfl
  | cons e m ih=>
   show cv (e.2.map λq=>(q.1,-q.2)) (G e.1 o) t+RG G (m.map _) o t=-(cv e.2 (G e.1 o) t+RG G m o t);rw[ih,Mm];lia
 have cneg:∀(m:Ps) (w:List Int) (s:Int),cS (m.map λe=>(e.1,e.2.map λq=>(q.1,-q.2))) w s=- cS m w s:=λm w s=>by
  induction m with
  | nil=>rfl
  | cons e m ih=>
   show(if e.1=w then cf (e.2.map λq=>(q.1,-q.2)) s else 0)+cS (m.map _) w s=-((if e.1=w then cf e.2 s else 0)+cS m w s);rw[ih,LR];split<;>lia
 have:=KW G o t _ (m:=m++m'.map λe=>(e.1,e.2.map λq=>(q.1,-q.2))) rfl λw s=>by rw[Su.zd,cneg,h];lia
 rw[Vz]at this;have this:RG G m o t+RG G (m'.map λe=>(e.1,e.2.map λq=>(q.1,-q.2))) o t=0:=this;rw[neg]at this;lia
theorem Tu(n:Nat)(h:∀w s,cS m w s=cS m' w s)(f:Fn):R n m f=R n m' f:=Mj _ h
theorem X_X{n k:Nat}(h0:1<=k)(h1:k<n)(f:Fn):lD n (X k (X k f)) λo t=>f o t+dl (X k f o) t:=λo p t=>by
 have lo:o.length=n:=by rw[p.length_eq,Wd.jR]
 have go:Su.Go n k o:=⟨lo,nb p h0 h1⟩;obtain⟨_,hf⟩:=go.ex h0 h1;unfold X dl;dsimp only;rw[Fw.v_ h0 (by lia),hf]
 cases m9 o k with
 | true=>simp only[cW,bf,bU,cY];lia
 | false=>simp only[dh,bf,bU,cY];lia
theorem Zc{n k:Nat}{w:List Int}{l:Ps}(hw:w.Perm (rg n))(h0:1<=k)(h1:k<n)(hf:m9 w k=false)(hl:∀x∈l,x.1.Perm (rg n)):lD n (Xw (sw n (Wd.ex w k)) (cS l)) (X k (Xw (sw n w) (cS l))):=by
 obtain⟨a1,a2⟩:=rq hw;obtain⟨b1,b2⟩:=rq (n5 hw h0 h1);have ne:=nb hw h0 h1;have hr:(Wd.led (rg n) (sw n w)).getD (k-1) 0<(Wd.led (rg n) (sw n w)).getD k 0:=by
  rw[a2];have:=di hf;lia
 have c1:Wd.jW (rg n) (sw n w++[k]):=Wd.jW.snoc a1 h0 (by rw[Wd.jR];exact h1) hr;have c2:Wd.led (rg n) (sw n w++[k])=Wd.ex w k:=by rw[Wd.uz,a2];rfl
 have:=CT b1 c1 (b2.trans c2.symm) hl;refine this.trans ?_;unfold Xw;rw[cQ];exact .refl
theorem W8{n k:Nat}{w:List Int}{l:Ps}(hw:w.Perm (rg n))(h0:1<=k)(h1:k<n)(hf:m9 w k=true)(hl:∀x∈l,x.1.Perm (rg n)):lD n (Xw (sw n w) (cS l)) (X k (Xw (sw n (Wd.ex w k)) (cS l))):=by
 have lw:w.length=n:=by rw[hw.length_eq,Wd.jR]
 have go:Su.Go n k w:=⟨lw,nb hw h0 h1⟩;have:=Zc (n5 hw h0 h1) h0 h1 (by rw[(go.ex h0 h1).2,hf];rfl) hl;rw[Fw.v_ h0 (by lia)]at this;exact this
theorem uG{n:Nat}{f g:Fn}(p:Pl)(h:lD n f g):lD n (nA p f) (nA p g):=λo po t=>by
 show cv p (f o) t=cv p (g o) t;rw[show f o=g o from funext λt=>h o po t]
theorem Fj{n k:Nat}{m:Ps}(h0:1<=k)(h1:k<n)(hm:∀x∈m,x.1.Perm (rg n)):∀x∈Su.bx k m,x.1.Perm (rg n):=Su.tZ (P:=λo=>o.Perm (rg n)) (Su.rG (P:=λo=>o.Perm (rg n)) _ (λ_ z=>nomatch z) λx hx=>by
 obtain⟨f,hf,hx⟩:=fN.mp hx
 rcases bC.mp hx with z|z
 ·rw[z];exact n5 (hm f hf) h0 h1
 ·split at z
  ·rw[aP.mp z];exact hm f hf
  ·cases z)
noncomputable def Kc (w:List Nat)(m:Ps):Ps:=w.foldl (λm k=>Su.bx k m) m
theorem OB{n:Nat}:∀{w:List Nat}{m:Ps},Va n w->(∀x∈m,x.1.Perm (rg n))->∀x∈Kc w m,x.1.Perm (rg n)
 | [],_,_,h=>h
 | k::w,m,v,h=>OB (w:=w) (λj hj=>v j (aL _ hj)) (Fj (v k (aI ..)).1 (v k (aI ..)).2 h)
noncomputable def Ox (p:Pl)(l:Ps):Ps:=l.map λx=>(x.1,times p x.2)
theorem Gx(p:Pl)(l:Ps):cS (Ox p l)=nA p (cS l):=by
 funext o t
 induction l with
 | nil=>exact(qu p t).symm
 | cons e l ih=>
  show(if e.1=o then cf (times p e.2) t else 0)+cS (Ox p l) o t=cv p (λt=>(if e.1=o then cf e.2 t else 0)+cS l o t) t;rw[xU,ih];congr 1;by_cases c:e.1=o
  ·rw[aM c,Y0,show(λt=>if e.1=o then cf e.2 t else 0)=cf e.2 from funext λt=>aM c]
  ·rw[aK c,show(λt=>if e.1=o then cf e.2 t else(0:Int))=λ_=>0 from funext λt=>aK c,qu]
theorem off{n:Nat}{m:Ps}(hm:∀x∈m,x.1.Perm (rg n)){o:List Int}(h:¬o.Perm (rg n))(t:Int):cS m o t=0:=Su.CQ λe he z=>h (by rw[<- z];exact hm e he)
theorem Wf{n:Nat}{m m':Ps}(hm:∀x∈m,x.1.Perm (rg n))(hm':∀x∈m',x.1.Perm (rg n))(h:lD n (cS m) (cS m')):∀o t,cS m o t=cS m' o t:=λo t=>by
 by_cases c:o.Perm (rg n)
 ·exact h o c t
 ·rw[off hm c,off hm' c]
noncomputable def LO (n:Nat)(u:List Int):List Nat:=sw n (bk u)
theorem Y5(k:Nat)(f g:Fn):L k (add f g)=add (L k f) (L k g):=by
 funext o t
 unfold L add dl;dsimp only;split<;>lia
theorem Ov:∀(w:List Nat) (f g:Fn),Lw w (add f g)=add (Lw w f) (Lw w g)
 | [],_,_=>rfl
 | k::w,f,g=>by
  show Lw w (L k (add f g))=_;rw[Y5,Ov w];rfl
theorem UB(k:Nat)(p:Pl)(f:Fn):L k (nA p f)=nA p (L k f):=by
 funext o t
 show cv p (f (o.map (Wd.sw k))) t+(if m9 (bk o) k=true then dl (cv p (f o)) t else 0)=cv p (λt=>f (o.map (Wd.sw k)) t+if m9 (bk o) k=true then dl (f o) t else 0) t;rw[xU]
 cases m9 (bk o) k with
 | true=>simp only[cY];rw[<- SH]
 | false=>simp only[bf,bU];rw[qu]
theorem G1(p:Pl):∀(w:List Nat) (f:Fn),Lw w (nA p f)=nA p (Lw w f)
 | [],_=>rfl
 | k::w,f=>by
  show Lw w (L k (nA p f))=_;rw[UB,G1 p w];rfl
noncomputable def B (f:Fn):Fn:=λo=>f (bk o)
theorem B_X{n k:Nat}(h0:1<=k)(h1:k<n)(f:Fn):lD n (B (X k f)) (L k (B f)):=λo p t=>by
 show f (Wd.ex (bk o) k) t+(if m9 (bk o) k=true then dl (f (bk o)) t else 0)=f (bk (o.map (Wd.sw k))) t+if m9 (bk o) k=true then dl (f (bk o)) t else 0
 rw[ND p h0 h1]
theorem Xs{n:Nat}:∀{w:List Nat}{f:Fn},Va n w->lD n (B (Xw w f)) (Lw w (B f))
 | [],_,_=>.refl
 | k::w,f,v=>by
  have v1:=v k (aI ..);have v2:Va n w:=λj hj=>v j (aL _ hj);show lD n (B (Xw w (X k f))) (Lw w (L k (B f)));exact(Xs v2).trans (zp v2 (B_X v1.1 v1.2 f))
noncomputable def d0:Int->Int:=λt=>if t=0 then 1 else 0
theorem Eo(p:Pl)(t:Int):cv p d0 t=cf p t:=by
 induction p with
 | nil=>rfl
 | cons q p ih=>
  show q.2 * (if t-q.1=0 then 1 else 0)+cv p d0 t=(if q.1=t then q.2 else 0)+cf p t;rw[ih];by_cases c:q.1=t
  ·rw[aM c,aM (by lia),Int.mul_one]
  ·rw[aK c,aK (by lia),iw]
theorem Yn(u:List Int)(p:Pl):D u (cf p)=nA p (D u d0):=by
 funext o t
 show(if o=u then cf p t else 0)=cv p (λt=>if o=u then d0 t else 0) t;by_cases c:o=u
 ·rw[aM c,show(λt=>if o=u then d0 t else 0)=d0 from funext λt=>aM c,Eo]
 ·rw[aK c,show(λt=>if o=u then d0 t else(0:Int))=λ_=>0 from funext λt=>aK c,qu]
theorem aak{n:Nat}{u:List Int}(hu:u.Perm (rg n))(g:Int->Int):Va n (LO n u)/\lD n (Lw (LO n u) (D (rg n) g)) (D u g):=by
 unfold LO;have pb:=l9 hu;obtain⟨h1,h2⟩:=rq pb;refine⟨wD pb,?_⟩;have h1':Wd.jW (bk (rg n)) (sw n (bk u)):=by rw[y_];exact h1
 obtain⟨x,x1,x2,x3⟩:=V1 (g:=g) (l_ n) h1';rw[y_,h2]at x2;have:x=u:=by rw[<- qB x1,x2,qB hu]
 rw[this]at x3;exact x3
theorem QU{n:Nat}{u w:List Int}(hu:u.Perm (rg n))(hw:w.Perm (rg n))(p q:Pl):lD n (nA p (Lw (LO n u) (D w (cf q)))) (nA q (Xw (sw n w) (D u (cf p)))):=by
 obtain⟨v1,v2⟩:=aak hu d0;have vw:=wD hw;have xw:lD n (Xw (sw n w) (D (rg n) d0)) (D w d0):=by
  have:=L0 (g:=d0) (l_ n) (rq hw).1;rw[(rq hw).2]at this;exact this
 rw[Yn,Yn,G1,Io];have a:lD n (Lw (LO n u) (D w d0)) (Xw (sw n w) (D u d0)):=(zp v1 xw.symm).trans ((OC vw v1).symm.trans (vX vw v2));refine(uG p (uG q a)).trans λo _ t=>?_;exact X8 p q _ t
theorem Tw(n:Nat)(f g:Fn):∀m:Ps,R n m (add f g)=add (R n m f) (R n m g)
 | []=>rfl
 | e::m=>by
  funext o t
  show nA e.2 (Xw (sw n e.1) (add f g)) o t+R n m (add f g) o t=(nA e.2 (Xw (sw n e.1) f) o t+R n m f o t)+(nA e.2 (Xw (sw n e.1) g) o t+R n m g o t);rw[Tw n f g m,Az];show cv e.2 (λt=>Xw (sw n e.1) f o t+Xw (sw n e.1) g o t) t+(R n m f o t+R n m g o t)=_;rw[xU];show _=(cv e.2 (Xw (sw n e.1) f o) t+_)+(cv e.2 (Xw (sw n e.1) g o) t+_);lia
theorem HF:∀w:List Nat,Lw w (λ_ _=>0)=λ_ _=>0
 | []=>rfl
 | k::w=>by
  have:L k (λ_ _=>0)=λ_ _=>0:=by
   funext o t
   unfold L dl;split<;>rfl
  show Lw w (L k _)=_;rw[this,HF w]
theorem OD(n:Nat):∀m:Ps,R n m (λ_ _=>0)=λ_ _=>0
 | []=>rfl
 | e::m=>by
  funext o t
  show nA e.2 (Xw (sw n e.1) λ_ _=>0) o t+R n m (λ_ _=>0) o t=0;rw[OD n m,wC];show cv e.2 (λ_=>0) t+0=0;rw[qu];rfl
theorem I0{n:Nat}{u:List Int}(hu:u.Perm (rg n))(p:Pl):∀{m:Ps},(∀x∈m,x.1.Perm (rg n))->lD n (nA p (Lw (LO n u) (cS m))) (R n m (D u (cf p)))
 | [],_=>λo _ t=>by
  show cv p (Lw (LO n u) (λ_ _=>0) o) t=0;rw[HF];exact qu p t
 | e::m,hm=>λo po t=>by
  rw[sC,Ov];show cv p (λt=>Lw (LO n u) (D e.1 (cf e.2)) o t+Lw (LO n u) (cS m) o t) t=nA e.2 (Xw (sw n e.1) (D u (cf p))) o t+R n m (D u (cf p)) o t;rw[xU,<- I0 hu p (λx hx=>hm x (aL _ hx)) o po t,<- QU hu (hm e (aI ..)) p e.2 o po t];rfl
noncomputable def RL (n:Nat):Ps->Fn->Fn
 | [],_=>λ_ _=>0
 | e::l,f=>add (nA e.2 (Lw (LO n e.1) f)) (RL n l f)
theorem XM{n:Nat}{m:Ps}(hm:∀x∈m,x.1.Perm (rg n)):∀{l:Ps},(∀x∈l,x.1.Perm (rg n))->lD n (RL n l (cS m)) (R n m (cS l))
 | [],_=>by
  have z:cS []=λ_ _=>0:=rfl;rw[z,OD];exact .refl
 | e::l,hl=>λo p t=>by
  rw[sC,Tw];show nA e.2 (Lw (LO n e.1) (cS m)) o t+RL n l (cS m) o t=R n m (D e.1 (cf e.2)) o t+R n m (cS l) o t;rw[XM hm (λx hx=>hl x (aL _ hx)) o p t,I0 (hl e (aI ..)) e.2 hm o p t]
noncomputable def wb (l:Ps):Ps:=l.map λe=>(bk e.1,e.2)
theorem Aq{n:Nat}{o:List Int}(po:o.Perm (rg n))(t:Int):∀{l:Ps},(∀x∈l,x.1.Perm (rg n))->cS (wb l) o t=cS l (bk o) t
 | [],_=>rfl
 | e::l,hl=>by
  show(if bk e.1=o then cf e.2 t else 0)+cS (wb l) o t=(if e.1=bk o then cf e.2 t else 0)+cS l (bk o) t;rw[Aq po t λx hx=>hl x (aL _ hx)];have he:=hl e (aI ..);congr 1;by_cases c:bk e.1=o
  ·rw[aM c,aM (by rw[<- c,qB he])]
  ·rw[aK c,aK (λz=>c (by rw[z,qB po]))]
theorem IC{n:Nat}{m:Ps}(hm:∀x∈m,x.1.Perm (rg n)){l:Ps}(hl:∀x∈l,x.1.Perm (rg n)):lD n (B (R n (wb l) (cS (wb m)))) (R n m (cS l)):=by
 have bm:lD n (B (cS (wb m))) (cS m):=λo p t=>by
  show cS (wb m) (bk o) t=_;rw[Aq (l9 p) t hm,qB p]
 have key:∀{l:Ps},(∀x∈l,x.1.Perm (rg n))->lD n (B (R n (wb l) (cS (wb m)))) (RL n l (cS m)):=by
  intro l
  induction l with
  | nil=>intro _;exact .refl
  | cons e l ih=>
   intro hl o p t;have he:=hl e (aI ..);show cv e.2 (Xw (sw n (bk e.1)) (cS (wb m)) (bk o)) t+R n (wb l) (cS (wb m)) (bk o) t=nA e.2 (Lw (LO n e.1) (cS m)) o t+RL n l (cS m) o t;have i:=ih (λx hx=>hl x (aL _ hx)) o p t;have i':R n (wb l) (cS (wb m)) (bk o) t=RL n l (cS m) o t:=i;rw[i'];congr 1;have v:=wD (l9 he);exact uG e.2 ((Xs v).trans (zp v bm)) o p t
 exact(key hl).trans (XM hm hl)
end He
namespace He
open PySem L2 Am Po
open Fw (Two rg yS)
open Su (m9 Ps cS Gd vS toS adds bx)
theorem Jg{D:Ps}(h:Gd D){e:List Int×Pl}(he:e∈D):vS D e.1=e.2:=by
 rcases Su.vp (D:=D) (o:=e.1)with⟨e',h1,h2,h3⟩|⟨h1,_⟩
 ·rw[h3,C_ h.nd e' h1 e he h2]
 ·exact absurd (fG he) h1
theorem Ey{D:Ps}(h:Gd D):(D.map Prod.fst).map (λk=>(k,vS D k))=D:=by
 rw[bu]
 conv=>rhs;rw[<- jz D]
 exact cJ λe he=>by
  show(e.1,vS D e.1)=e;rw[Jg h he]
theorem xX{D:Ps}(h:Gd D)(o:List Int)(t:Int):cS D o t=cf (vS D o) t:=by
 conv=>lhs;rw[<- Ey h]
 rw[Su.F0 h.nd];split
 ·rfl
 ·rename_i c
  rcases Su.vp (D:=D) (o:=o)with⟨e,h1,h2,_⟩|⟨_,h2⟩
  ·exact absurd (h2 ▸ fG h1) c
  ·rw[h2];rfl
theorem GI{D:Ps}(h:Gd D):Gd (toS D):=by
 refine⟨?_,λe he=>?_⟩
 ·unfold toS;rw[bu,show(Prod.fst ∘ λo=>(o,vS D o))=id from rfl,jz];exact((j6 _).nodup_iff.mpr h.nd).filter _
 ·obtain⟨o,_,rfl⟩:=bz.mp he;exact h.v o
structure Cn (l:Ps):Prop where
 gd:Gd l
 eq:toS l=l
theorem Cn.toS{D:Ps}(h:Gd D):Cn (toS D):=⟨GI h,Su.D9 (GI h) h λo t=>by rw[<- xX (GI h),Su.CW h]⟩
theorem Cn.uniq{l:Ps}(h:Cn l)(h':Cn m)(e:∀o t,cS l o t=cS m o t):l=m:=by
 rw[<- h.eq,<- h'.eq];exact Su.D9 h.gd h'.gd λo t=>by rw[<- xX h.gd,<- xX h'.gd,e]
theorem Cn.ne{l:Ps}(h:Cn l){e:List Int×Pl}(he:e∈l):e.2≠[]:=by
 rw[<- h.eq]at he;obtain⟨o,ho,rfl⟩:=bz.mp he;have:=(cK.mp ho).2;intro z;have z:vS l o=[]:=z;rw[z]at this
 cases this
theorem E4{P:Ps}(h:Gd P)(hn:∀e∈P,e.2≠[]):mR P=toS P:=by
 symm
 have all:(mL (P.map Prod.fst)).filter (λo=>!(vS P o).isEmpty)=mL (P.map Prod.fst):=by
  rw[gu];intro o ho;obtain⟨e,he,rfl⟩:=bz.mp ((j6 _).mem_iff.mp ho);rw[Jg h he]
  cases e':e.2 with
  | nil=>exact absurd e' (hn e he)
  | cons=>rfl
 have ts:toS P=(mL (P.map Prod.fst)).map λo=>(o,vS P o):=by unfold toS;rw[all]
 refine yV h.nd ?_ ?_
 ·rw[ts];have:=(j6 (P.map Prod.fst)).map λo=>(o,vS P o)
  rwa [Ey h]at this
 ·rw[ts,bu,show(Prod.fst ∘ λo=>(o,vS P o))=id from rfl,jz];exact rK _
theorem WS(l:Ps):(wb l).map Prod.fst=(l.map Prod.fst).map bk:=by
 unfold wb;rw[bu,bu];rfl
theorem zl{n:Nat}:∀{ks:List (List Int)},(∀o∈ks,o.Perm (rg n))->ks.Nodup->(ks.map bk).Nodup
 | [],_,_=>dF
 | o::ks,hp,nd=>by
  obtain⟨h1,h2⟩:=cM.mp nd;refine cM.mpr ⟨λz=>?_,zl (λo ho=>hp o (aL _ ho)) h2⟩;obtain⟨u,hu,e⟩:=bz.mp z;have:=dm bk e;rw[qB (hp u (aL _ hu)),qB (hp o (aI ..))]at this;exact h1 (this ▸ hu)
theorem Ek{n:Nat}{l:Ps}(h:Gd l)(hl:∀x∈l,x.1.Perm (rg n)):Gd (wb l):=by
 refine⟨?_,λe he=>?_⟩
 ·rw[WS];exact zl (λo ho=>by obtain⟨e,he,rfl⟩:=bz.mp ho;exact hl e he) h.nd
 ·obtain⟨x,hx,rfl⟩:=bz.mp he;exact h.ok x hx
theorem YV{n:Nat}{l:Ps}(hl:∀x∈l,x.1.Perm (rg n)):∀x∈wb l,x.1.Perm (rg n):=λx hx=>by
 obtain⟨y,hy,rfl⟩:=bz.mp hx;exact l9 (hl y hy)
noncomputable def yX (l:Ps):Ps:=mR (wb l)
theorem OV{n:Nat}{l:Ps}(h:Cn l)(hl:∀x∈l,x.1.Perm (rg n)):yX l=toS (wb l):=E4 (Ek h.gd hl) λe he=>by
 obtain⟨x,hx,z⟩:=bz.mp he;rw[<- z];exact h.ne (e:=x) hx
theorem ve{n:Nat}{l:Ps}(h:Cn l)(hl:∀x∈l,x.1.Perm (rg n)):Cn (yX l):=by
 rw[OV h hl];exact .toS (Ek h.gd hl)
theorem sE{n:Nat}{l:Ps}(hl:∀x∈l,x.1.Perm (rg n)):∀x∈yX l,x.1.Perm (rg n):=λx hx=>YV hl x ((oU _).mem_iff.mp hx)
theorem q_{n:Nat}{l:Ps}(h:Cn l)(hl:∀x∈l,x.1.Perm (rg n))(o:List Int)(t:Int):cS (yX l) o t=cS (wb l) o t:=by
 rw[OV h hl,Su.CW (Ek h.gd hl),xX (Ek h.gd hl)]
noncomputable def ff (o:List Int):Option Nat:=((List.range (o.length-1)).find? λi=>m9 o (i+1)).map (·+1)
theorem Ce{o:List Int}{k:Nat}(h:ff o=some k):1<=k/\k<o.length/\m9 o k=true:=by
 obtain⟨i,hi,rfl⟩:=aX.mp h;have h1:=cO.mp (gq hi);have h2:m9 o (i+1)=true:=iN (p:=λi=>m9 o (i+1)) hi;exact⟨by lia,by lia,h2⟩
theorem Rb{o:List Int}(h:ff o=none):∀k,1<=k->k<o.length->m9 o k=false:=λk h1 h2=>by
 have h:=Option.map_eq_none_iff.mp h;have:=gJ.mp h (k-1) (cO.mpr (by lia));rw[Nat.sub_add_cancel h1]at this;simpa using this
noncomputable def Td:Nat->Ps->List Int->Ps
 | 0,l,_=>l
 | m+1,l,o=>match ff o with
  | none=>l
  | some k=>bx k (Td m l (Wd.ex o k))
theorem Th(k:Nat)(l:Ps):Cn (bx k l):=.toS (Gd.nil.adds _)
theorem LV{n:Nat}{l:Ps}(hc:Cn l)(hl:∀x∈l,x.1.Perm (rg n)):∀(m:Nat) {o:List Int},o.Perm (rg n)->Iv.inv o=m->Cn (Td m l o)/\(∀x∈Td m l o,x.1.Perm (rg n))/\lD n (cS (Td m l o)) (Xw (sw n o) (cS l))
 | 0,o,po,hm=>by
  refine⟨hc,hl,?_⟩;have e:o=rg n:=Fw.IS po λk hk=>by
   have:=Fw.nZ hk.1 hk.2.1 hk.2.2;lia
  obtain⟨a1,a2⟩:=rq po;have:=CT a1 (show Wd.jW (rg n) []from trivial) (a2.trans e) hl;exact this.symm
 | m+1,o,po,hm=>by
  have lo:o.length=n:=by rw[po.length_eq,Wd.jR]
  unfold Td
  cases hf:ff o with
  | none=>
   obtain⟨k,hk⟩:=Fw.IX (l:=o) (by lia);have:=Rb hf k hk.1 hk.2.1;have:=di this;exact absurd hk.2.2 (by lia)
  | some k=>
   obtain⟨h1,h2,h3⟩:=Ce hf;have hk:=bR h3;have hd:=Fw.nZ h1 h2 (by lia);rw[lo]at h2;obtain⟨_,i2,i3⟩:=LV hc hl m (n5 po h1 h2) (by lia);exact⟨Th _ _,Fj h1 h2 i2,(Qe i2 h1 h2).trans ((Qz i3 h1 h2).trans (W8 po h1 h2 h3 hl).symm)⟩
noncomputable def bo (l:Ps)(o:List Int):Ps:=Td (Iv.inv o) l o
theorem MG{n:Nat}{l:Ps}(hc:Cn l)(hl:∀x∈l,x.1.Perm (rg n)){o:List Int}(po:o.Perm (rg n)):Cn (bo l o)/\(∀x∈bo l o,x.1.Perm (rg n))/\lD n (cS (bo l o)) (Xw (sw n o) (cS l)):=LV hc hl _ po rfl
theorem Ez{l:Ps}(h:ff o=none):bo l o=l:=by
 unfold bo
 cases Iv.inv o with
 | zero=>rfl
 | succ m=>unfold Td;rw[h]
theorem Q2{l:Ps}{k:Nat}(h:ff o=some k):bo l o=bx k (bo l (Wd.ex o k)):=by
 obtain⟨h1,h2,h3⟩:=Ce h;have hk:=bR h3;have hd:=Fw.nZ h1 h2 (by lia);unfold bo;rw[show Iv.inv o=Iv.inv (Wd.ex o k)+1 from by lia]
 conv=>lhs;unfold Td
 rw[h]
noncomputable def AZ (l m:Ps):Ps:=m.flatMap λe=>Ox e.2 (bo l e.1)
noncomputable def Sb (l m:Ps):Ps:=toS (adds [] (AZ l m))
theorem QT{n:Nat}{l m:Ps}(hc:Cn l)(hl:∀x∈l,x.1.Perm (rg n))(hm:∀x∈m,x.1.Perm (rg n)):∀x∈AZ l m,x.1.Perm (rg n):=λx hx=>by
 obtain⟨e,he,hx⟩:=fN.mp hx;obtain⟨y,hy,rfl⟩:=bz.mp hx;exact(MG hc hl (hm e he)).2.1 y hy
theorem L_{n:Nat}{l:Ps}(hc:Cn l)(hl:∀x∈l,x.1.Perm (rg n)):∀{m:Ps},(∀x∈m,x.1.Perm (rg n))->lD n (cS (AZ l m)) (R n m (cS l))
 | [],_=>.refl
 | e::m,hm=>λo p t=>by
  show cS (Ox e.2 (bo l e.1)++AZ l m) o t=cv e.2 (Xw (sw n e.1) (cS l) o) t+R n m (cS l) o t;rw[Su.zd,Gx,L_ hc hl (λx hx=>hm x (aL _ hx)) o p t];congr 1;exact uG e.2 (MG hc hl (hm e (aI ..))).2.2 o p t
theorem yQ(l:Ps)(o:List Int)(t:Int):cS (toS (adds [] l)) o t=cS l o t:=by
 rw[Su.CW (Gd.nil.adds _),Su.Ms];exact cg _
theorem Fv{n:Nat}{l m:Ps}(hc:Cn l)(hl:∀x∈l,x.1.Perm (rg n))(hm:∀x∈m,x.1.Perm (rg n)):Cn (Sb l m)/\(∀x∈Sb l m,x.1.Perm (rg n))/\lD n (cS (Sb l m)) (R n m (cS l)):=
 ⟨.toS (Gd.nil.adds _),Su.tZ (P:=λo=>o.Perm (rg n)) (Su.rG (P:=λo=>o.Perm (rg n)) _ (λ_ z=>nomatch z) (QT hc hl hm)),λo p t=>by
  show cS (toS (adds [] (AZ l m))) o t=_;rw[yQ];exact L_ hc hl hm o p t⟩
noncomputable def prod (l m:Ps):Ps:=if m.length<=l.length then Sb l m else yX (Sb (yX m) (yX l))
theorem qF{n:Nat}{l m:Ps}(hc:Cn l)(hd:Cn m)(hl:∀x∈l,x.1.Perm (rg n))(hm:∀x∈m,x.1.Perm (rg n)):Cn (prod l m)/\(∀x∈prod l m,x.1.Perm (rg n))/\lD n (cS (prod l m)) (R n m (cS l)):=by
 unfold prod;by_cases c:m.length<=l.length
 ·rw[aM c];exact Fv hc hl hm
 ·rw[aK c];obtain⟨h1,h2,h3⟩:=Fv (ve hd hm) (sE hm) (sE hl);refine⟨ve h1 h2,sE h2,λo p t=>?_⟩;rw[q_ h1 h2,Aq p t h2,h3 _ (l9 p) t];rw[Tu n (λo t=>q_ hc hl o t)];rw[show cS (yX m)=cS (wb m)from funext λo=>funext λt=>q_ hd hm o t];exact IC hm hl o p t
theorem B9{n:Nat}{a b:Ps}(ha:Cn a)(hb:Cn b)(pa:∀x∈a,x.1.Perm (rg n))(pb:∀x∈b,x.1.Perm (rg n))(h:lD n (cS a) (cS b)):a=b:=ha.uniq hb (Wf pa pb h)
noncomputable def KL (l m:Ps):Ps:=toS (adds [] (l++m))
theorem RK{n:Nat}{l m:Ps}(pl:∀x∈l,x.1.Perm (rg n))(pm:∀x∈m,x.1.Perm (rg n)):Cn (KL l m)/\(∀x∈KL l m,x.1.Perm (rg n))/\cS (KL l m)=add (cS l) (cS m):=
 ⟨.toS (Gd.nil.adds _),Su.tZ (P:=λo=>o.Perm (rg n)) (Su.rG (P:=λo=>o.Perm (rg n)) _ (λ_ z=>nomatch z) λx hx=>(bF.mp hx).elim (pl x) (pm x)),funext λo=>funext λt=>by
  show cS (toS (adds [] (l++m))) o t=_;rw[yQ,Su.zd];rfl⟩
noncomputable def one (n:Nat):Ps:=[(rg n,[((0:Int),(1:Int))])]
theorem vt(o:List Int){p:Pl}(hp:Ok p)(h0:p≠[]):Cn [(o,p)]:=by
 have g:Gd [(o,p)]:=⟨cM.mpr ⟨(λz=>nomatch z),dF⟩,λe he=>by rw[aP.mp he];exact hp⟩;exact⟨g,(E4 g λe he=>by rw[aP.mp he];exact h0).symm⟩
theorem sX:Ok [((0:Int),(1:Int))]:=⟨bZ _ _,λp hp=>by rw[aP.mp hp];decide⟩
theorem zP(n:Nat):∀x∈one n,x.1.Perm (rg n):=λx hx=>by rw[aP.mp hx]
theorem zD(g:Int->Int)(t:Int):cv [((0:Int),(1:Int))] g t=g t:=by
 show 1 * g (t-0)+0=_;rw[Int.sub_zero];lia
end He
namespace He
open PySem L2 Am Po
open Fw (Two rg yS)
open Su (m9 Ps cS Gd vS toS adds bx)
noncomputable def arr:Nat->List Int->List (List Int)
 | 0,_=>[[]]
 | m+1,l=>l.flatMap λx=>(arr m (l.erase x)).map (x::·)
theorem Jz:∀{m:Nat}{l o:List Int},o.Perm l->l.length=m->o∈arr m l
 | 0,l,o,p,h=>by
  have:l=[]:=fK.mp h;subst this;rw[p.eq_nil];exact aP.mpr rfl
 | m+1,l,[],p,h=>by rw[<- p.length_eq]at h;cases h
 | m+1,l,x::o,p,h=>by
  obtain⟨h1,h2⟩:=List.cons_perm_iff_perm_erase.mp p;refine fN.mpr ⟨x,h1,bz.mpr ⟨o,Jz h2 ?_,rfl⟩⟩;rw[List.length_erase_of_mem h1,h];rfl
theorem Ke{α:Type}[DecidableEq α]{ks L:List α}(nd:ks.Nodup)(h:∀x∈ks,x∈L):ks.length<=L.length:=by
 have:=pig L.length (ks.map λx=>L.idxOf x) ?_ λi hi=>?_
 ·rwa [aH]at this
 ·refine cG.mpr (nd.imp_of_mem λ{a b} ha hb hab z=>hab ?_);have e1:=i_ (fB.mpr (h a ha));have e2:=i_ (fB.mpr (h b hb));rw[<- e1,<- e2];congr 1
 ·obtain⟨x,hx,rfl⟩:=bz.mp hi;exact fB.mpr (h x hx)
theorem Ri:∀n,n<6->(arr n (rg n)).length<=120:=by decide +kernel
theorem many{n:Nat}(hn:n<6){ks:List (List Int)}(nd:ks.Nodup)(h:∀o∈ks,o.Perm (rg n)):ks.length<=120:=
 bJ (Ke nd λo ho=>Jz (h o ho) (Wd.jR n)) (Ri n hn)
structure FB (n P C:Nat)(f:Fn):Prop where
 c:∀o,o.Perm (rg n)->∀t,(f o t).natAbs<=C
 p:∀o,o.Perm (rg n)->∀t:Int,P<t.natAbs->f o t=0
theorem FB.mono{n P:Nat}{f:Fn}(h:FB n P C f)(hp:P<=P')(hc:C<=C'):FB n P' C' f:=⟨λo po t=>bJ (h.c o po t) hc,λo po t ht=>h.p o po t (by lia)⟩
theorem FB.eq{n P:Nat}{f g:Fn}(h:FB n P C f)(e:lD n g f):FB n P C g:=⟨λo po t=>by rw[e o po t];exact h.c o po t,λo po t ht=>by rw[e o po t];exact h.p o po t ht⟩
theorem FB.X{n P k:Nat}{f:Fn}(h:FB n P C f)(h0:1<=k)(h1:k<n):FB n (P+1) (3 * C) (X k f):=by
 refine⟨λo po t=>?_,λo po t ht=>?_⟩
 ·have a:=h.c _ (n5 po h0 h1) t;have b:=h.c o po (t+1);have d:=h.c o po (t-1);unfold He.X dl;split<;>lia
 ·have a:=h.p _ (n5 po h0 h1) t (by lia);have b:=h.p o po (t+1) (by lia);have d:=h.p o po (t-1) (by lia);unfold He.X dl;split<;>lia
theorem FB.Xw{n:Nat}:∀{w:List Nat}{P C:Nat}{f:Fn},FB n P C f->Va n w->FB n (P+w.length) (3 ^ w.length * C) (Xw w f)
 | [],P,C,f,h,_=>by
  show FB n (P+0) (1 * C) f;rw[jo,dS];exact h
 | k::w,P,C,f,h,v=>by
  have v1:=v k (aI ..);have:=FB.Xw (h.X v1.1 v1.2) (w:=w) λj hj=>v j (aL _ hj);show FB n (P+(w.length+1)) (3 ^ (w.length+1) * C) (He.Xw w (He.X k f));rw[show P+(w.length+1)=P+1+w.length by lia,jq,Nat.mul_assoc];exact this
theorem FB.add{n P:Nat}{f g:Fn}(h:FB n P C f)(h':FB n P C' g):FB n P (C+C') (add f g):=by
 refine⟨λo po t=>?_,λo po t ht=>?_⟩
 ·have a:=h.c o po t;have b:=h'.c o po t;show(f o t+g o t).natAbs<=_;lia
 ·show f o t+g o t=0;rw[h.p o po t ht,h'.p o po t ht];rfl
structure PB (Q c:Nat)(p:Pl):Prop where
 c:∀q∈p,q.2.natAbs<=c
 p:∀q∈p,q.1.natAbs<=Q
theorem Wq{n P c:Nat}{f:Fn}(h:FB n P C f){o:List Int}(po:o.Perm (rg n)):∀{p:Pl},PB Q c p->(∀t,(cv p (f o) t).natAbs<=p.length * (c * C))/\∀t:Int,P+Q<t.natAbs->cv p (f o) t=0
 | [],_=>⟨λ_=>bM _,λ_ _=>rfl⟩
 | q::p,b=>by
  obtain⟨i1,i2⟩:=Wq h po (p:=p) ⟨λx hx=>b.c x (aL _ hx),λx hx=>b.p x (aL _ hx)⟩;have q1:=b.c q (aI ..);have q2:=b.p q (aI ..);refine⟨λt=>?_,λt ht=>?_⟩
  ·show(q.2 * f o (t-q.1)+cv p (f o) t).natAbs<=(p.length+1) * (c * C);refine bJ (Int.natAbs_add_le _ _) ?_;rw[Int.natAbs_mul,eg,jn];exact Nat.add_le_add (i1 t) (dR q1 (h.c o po _))
  ·show q.2 * f o (t-q.1)+cv p (f o) t=0;rw[i2 t ht,h.p o po _ (by lia),iw];rfl
theorem FB.nA{n P c:Nat}{f:Fn}(h:FB n P C f){p:Pl}(b:PB Q c p):FB n (P+Q) (p.length * (c * C)) (nA p f):=⟨λo po t=>(Wq h po b).1 t,λo po t ht=>(Wq h po b).2 t ht⟩
theorem oR:∀{w:List Nat}{l:List Int},Wd.jW l w->Iv.inv (Wd.led l w)=Iv.inv l+w.length
 | [],_,_=>rfl
 | k::w,l,h=>by
  have:=oR h.2.2.2;rw[Fw.Gr h.1 h.2.1 h.2.2.1]at this;show Iv.inv (Wd.led (Wd.ex l k) w)=_+(w.length+1);lia
theorem z8{n:Nat}{o:List Int}(h:o.Perm (rg n)):(sw n o).length=Iv.inv o:=by
 obtain⟨a,b⟩:=rq h;have:=oR a;rw[b,Fw.vC]at this;lia
theorem xM{n:Nat}(hn:n<6){o:List Int}(h:o.Perm (rg n)):Iv.inv o<=25:=by
 have:=Iv.F5 o;rw[h.length_eq,Wd.jR]at this;exact bJ this (dR (show n<=5 by lia) (show n<=5 by lia))
theorem FB.zero(n P C:Nat):FB n P C λ_ _=>0:=⟨λ_ _ _=>bM _,λ_ _ _ _=>rfl⟩
theorem FB.R{n P c K:Nat}(hn:n<6){f:Fn}(h:FB n P C f):∀{m:Ps},(∀x∈m,x.1.Perm (rg n))->(∀x∈m,PB Q c x.2/\x.2.length<=K)->FB n (P+25+Q) (m.length * (K * (c * (3 ^ 25 * C)))) (R n m f)
 | [],_,_=>FB.zero ..
 | e::m,hm,hb=>by
  have he:=hm e (aI ..);obtain⟨b1,b2⟩:=hb e (aI ..);have i:=FB.R hn h (m:=m) (λx hx=>hm x (aL _ hx)) λx hx=>hb x (aL _ hx);have l25:(sw n e.1).length<=25:=by rw[z8 he];exact xM hn he
  have a:=(h.Xw (wD he)).mono (P':=P+25) (C':=3 ^ 25 * C) (by lia) (bL _ (gc (by decide) l25));have b:=(a.nA b1).mono (P':=P+25+Q) (C':=K * (c * (3 ^ 25 * C))) (aQ _) (bL _ b2);have d:=b.add i;show FB n _ ((m.length+1) * _) (He.add _ _);rw[eg,jn (m.length * _)];exact d
theorem OT:∀{l:Pl}{a b:Int},l.Pairwise (λp q=>p.1<q.1)->(∀p∈l,a<=p.1/\p.1<=b)->l.length<=(b-a+1).toNat
 | [],_,_,_,_=>bM _
 | p::l,a,b,h,hb=>by
  obtain⟨h1,h2⟩:=bN.mp h;have p1:=hb p (aI ..);have i:=OT (l:=l) (a:=a+1) (b:=b) h2 λq hq=>by
   have:=h1 q hq;have:=hb q (aL _ hq);lia
  rw[aZ];lia
theorem Pu{p:Pl}{P c:Nat}(h:Ok p)(b:PB P c p):p.length<=2 * P+1:=by
 have:=OT (a:=-(P:Int)) (b:=P) h.up λq hq=>by have:=b.p q hq;lia
 lia
theorem FB.pb{n P:Nat}{l:Ps}(h:FB n P C (cS l))(hc:Gd l)(pl:∀x∈l,x.1.Perm (rg n)){e:List Int×Pl}(he:e∈l):PB P C e.2/\e.2.length<=2 * P+1:=by
 have ok:=hc.ok e he;have at_:∀q∈e.2,cS l e.1 q.1=q.2:=λq hq=>by
  rw[xX hc,Jg hc he];exact Su.Ok.GC ok hq
 have b:PB P C e.2:=⟨λq hq=>by rw[<- at_ q hq];exact h.c _ (pl e he) _,λq hq=>by
  refine iD λz=>ok.nz q hq ?_;rw[<- at_ q hq];exact h.p _ (pl e he) _ z⟩
 exact⟨b,Pu ok b⟩
structure Sz (n P C:Nat)(l:Ps):Prop where
 cn:Cn l
 pm:∀x∈l,x.1.Perm (rg n)
 fb:FB n P C (cS l)
theorem Sz.pb{n P:Nat}{l:Ps}(h:Sz n P C l){e:List Int×Pl}(he:e∈l):PB P C e.2/\e.2.length<=2 * P+1:=h.fb.pb h.cn.gd h.pm he
theorem Sz.many{n P:Nat}{l:Ps}(hn:n<6)(h:Sz n P C l):l.length<=120:=by
 have:=He.many hn h.cn.gd.nd λo ho=>by obtain⟨e,he,rfl⟩:=bz.mp ho;exact h.pm e he
 rwa [aH]at this
theorem Sz.mono{n P:Nat}{l:Ps}(h:Sz n P C l)(hp:P<=P')(hc:C<=C'):Sz n P' C' l:=⟨h.cn,h.pm,h.fb.mono hp hc⟩
theorem Sz.bx{n P k:Nat}{l:Ps}(h:Sz n P C l)(h0:1<=k)(h1:k<n):Sz n (P+1) (3 * C) (bx k l):=⟨Th _ _,Fj h0 h1 h.pm,(h.fb.X h0 h1).eq (Qe h.pm h0 h1)⟩
theorem Sz.bo{n P:Nat}(hn:n<6){l:Ps}(h:Sz n P C l){o:List Int}(po:o.Perm (rg n)):Sz n (P+25) (3 ^ 25 * C) (bo l o):=by
 obtain⟨h1,h2,h3⟩:=MG h.cn h.pm po;have l25:(sw n o).length<=25:=by rw[z8 po];exact xM hn po
 exact⟨h1,h2,((h.fb.Xw (wD po)).mono (by lia) (bL _ (gc (by decide) l25))).eq h3⟩
theorem Sz.yX{n P:Nat}{l:Ps}(h:Sz n P C l):Sz n P C (yX l):=⟨ve h.cn h.pm,sE h.pm,⟨λo po t=>by rw[q_ h.cn h.pm,Aq po t h.pm];exact h.fb.c _ (l9 po) t,λo po t ht=>by rw[q_ h.cn h.pm,Aq po t h.pm];exact h.fb.p _ (l9 po) t ht⟩⟩
theorem Sz.R{n P c:Nat}(hn:n<6){l:Ps}(h:Sz n P C l)(h':Sz n Q c m):FB n (P+25+Q) (120 * ((2 * Q+1) * (c * (3 ^ 25 * C)))) (R n m (cS l)):=(FB.R hn h.fb h'.pm λx hx=>h'.pb hx).mono (aQ _) (bL _ (h'.many hn))
theorem Sz.Sb{n P c:Nat}(hn:n<6){l:Ps}(h:Sz n P C l)(h':Sz n Q c m):Sz n (P+25+Q) (120 * ((2 * Q+1) * (c * (3 ^ 25 * C)))) (Sb l m):=by
 obtain⟨a,b,d⟩:=Fv h.cn h.pm h'.pm;exact⟨a,b,(Sz.R hn h h').eq d⟩
theorem Sz.prod{n P c:Nat}(hn:n<6){l:Ps}(h:Sz n P C l)(h':Sz n Q c m):Sz n (P+25+Q) (120 * ((2 * Q+1) * (c * (3 ^ 25 * C)))) (prod l m):=by
 obtain⟨a,b,d⟩:=qF h.cn h'.cn h.pm h'.pm;exact⟨a,b,(Sz.R hn h h').eq d⟩
end He
namespace Am
theorem EW{α β:Type}(f:α->β)(x:List Int×α):∀l:List (List Int×α),zQ (x.1,f x.2) (l.map λe=>(e.1,f e.2))=(zQ x l).map λe=>(e.1,f e.2)
 | []=>rfl
 | y::l=>by
  rw[bE];unfold zQ;by_cases h:HT.lexLt y.1 x.1=true
  ·rw[aM h,aM h,bE,EW]
  ·rw[aK h,aK h];rfl
theorem w9{α β:Type}(f:α->β):∀l:List (List Int×α),mR (l.map λe=>(e.1,f e.2))=(mR l).map λe=>(e.1,f e.2)
 | []=>rfl
 | x::l=>by
  rw[bE];show zQ _ (mR _)=_;rw[w9 f l];exact EW f x (mR l)
end Am
namespace Su
open Am Po PySem L2
theorem JX{es:Es}{n:Nat}{src:Ic}{ex:Ex}(hs:src τ S=.ok (kY n (es.map ent).length) S)(hx:jE S n=some (es.map ent))(f:En->A)
  (step:∀e∈es,∀T,lB S T->∃T',ex (.tup (e.1.map .int)::.ref e.2.1::mz cap τ) T=.ok (f e) T'/\lB T T') (hl:es.length<=16777216) :
  ∃S',kZ (none::none::cap) src PO sJ ex τ S=.ok (.ref S'.length) (S'++[.lst (es.map f)])/\lB S S':=by
 have hk:(es.map ent).length=es.length:=aH ..;obtain⟨ys,S',h1,k1,rfl⟩:=zN (s:=kY n (es.map ent).length) (g:=PO) (e:=ex) (T:=λτ'=>∃y z,τ'=y::z::mz cap τ) (λi acc T=>lB S T/\acc=(es.take i).map f)
  (λi acc τ' T hi ⟨y,z,hy⟩ hP=>by
   have hi:i<(es.map ent).length:=hi;obtain⟨kT,rfl⟩:=hP;subst hy;have he:es[i]?=some es[i]:=aF (by lia);obtain⟨T',e1,e4⟩:=step es[i] (aW he) T kT;refine⟨ent es[i],.tup (es[i].1.map .int)::.ref es[i].2.1::mz cap τ,T,_,T',?_,rfl,⟨_,_,rfl⟩,e1,kT.trans e4,?_⟩
   ·show(jE T n).bind _=_;rw[kT.lst _ _ (λz=>z) hx,dz,aR,he];rfl
   ·rw[cH,he,bP];rfl) (λacc T hP=>by
   show(match jE T n with
    | some ys=>decide (ys.length<=(es.map ent).length)
    | none=>false)=true
   rw[hP.1.lst _ _ (λz=>z) hx];simp) (es.map ent).length 0 [] (mz (none::none::cap) τ) S rfl ⟨_,_,rfl⟩ ⟨Kp.refl,by rw[eO];rfl⟩
 rw[show(kY n (es.map ent).length).k=es.length from hk,cP]at h1;refine⟨S',?_,k1⟩;unfold kZ;rw[hs,R.oX];show(ny (kY n (es.map ent).length) PO sJ ex (es.map ent).length 0 (mz (none::none::cap) τ) S).rj _=_;rw[h1,R.lC];exact lJ (by rw[aH];exact hl)
theorem DG:∀es:Es,W3 (es.map ent)=some (es.map λe=>(e.1,A.ref e.2.1))
 | []=>rfl
 | e::es=>by
  rw[bE];show(match A.ints (e.1.map .int)with
   | some ks=>(W3 (es.map ent)).map λrs=>(ks,A.ref e.2.1)::rs
   | _=>none)=_
  rw[ints_map,DG es];rfl
theorem Bb{S:jG}{n:Nat}{es:Es}(h:jE S n=some (es.map ent))(nd:(es.map Prod.fst).Nodup):yG (.ref n) S=.ok (.ref S.length) (S++[.lst ((mR es).map ent)]):=by
 show opt (jE S n) _=_;rw[h,kK,DG,kK];have e1:(es.map λe=>(e.1,A.ref e.2.1)).map Prod.fst=es.map Prod.fst:=by rw[bu];rfl
 rw[e1];have e2:=w9 (λp:Nat×Pl=>A.ref p.1) es;rw[e2,bu];exact lz nd
theorem EV(es:Es):sm (mR es)=mR (sm es):=(w9 (λp:Nat×Pl=>p.2) es).symm
theorem BC{D:Es}{r:Nat}{p:Pl}:∃e,fE (oF D o r p) o=some e/\e.2.1=r:=by
 unfold oF;by_cases c:(fE D o).isSome=true
 ·rw[aM c];obtain⟨e,he⟩:=fm.mp c;unfold fE at he ⊢;rw[iu];have eq:((λe:En=>decide (e.1=o)) ∘ λe:En=>if e.1=o then(e.1,r,p)else e)=λe:En=>decide (e.1=o):=by
   funext x
   show decide ((if x.1=o then(x.1,r,p)else x).1=o)=_;by_cases z:x.1=o
   ·rw[aM z]
   ·rw[aK z]
  rw[eq,he];have:=iN he;have:=bR this;exact⟨_,rfl,by show(if e.1=o then(e.1,r,p)else e).2.1=r;rw[aM this]⟩
 ·rw[aK c];have c:fE D o=none:=Option.not_isSome_iff_eq_none.mp c;unfold fE at c ⊢;rw[List.find?_append,c];exact⟨(o,r,p),by rw[cN,bh rfl];rfl,rfl⟩
end Su
namespace He
open PySem L2 Am Po
open Fw (Two rg yS)
open Su (m9 Ps cS Gd vS toS adds bx)
theorem Sz.of{n P:Nat}{l:Ps}(h:Cn l)(pm:∀x∈l,x.1.Perm (rg n))(pb:∀e∈l,PB P C e.2):Sz n P C l:=by
 refine⟨h,pm,⟨λo po t=>?_,λo po t ht=>?_⟩⟩
 ·rw[xX h.gd]
  rcases Su.vp (D:=l) (o:=o)with⟨e,h1,_,h3⟩|⟨_,h2⟩
  ·rw[h3];exact Su.YX (h.gd.ok e h1) (λq hq=>(pb e h1).c q hq) t
  ·rw[h2];exact bM _
 ·rw[xX h.gd]
  rcases Su.vp (D:=l) (o:=o)with⟨e,h1,_,h3⟩|⟨_,h2⟩
  ·rw[h3];have:∀q∈e.2,q.1≠t:=λq hq z=>by have:=(pb e h1).p q hq;rw[z]at this;lia
   clear h3;revert this;generalize e.2=p0;intro this
   induction p0 with
   | nil=>rfl
   | cons q p ih=>
    have z:=this q (aI ..);have i:=ih λx hx=>this x (aL _ hx);show(if q.1=t then q.2 else 0)+cf p t=0;rw[aK z,i];rfl
  ·rw[h2];rfl
theorem PB.times{P c:Nat}{p q:Pl}(hp:PB P C p)(hq:PB Q c q):(times p q).length<=2 * (P+Q)+1:=by
 refine Pu (c:=p.length * q.length * (C * c)) (Po.rJ p q) ⟨λx hx=>?_,λx hx=>?_⟩
 ·have a:=Su.Ok.GC (Po.rJ p q) hx;rw[Su.wu]at a;rw[<- a,<- Po.yr];have:∀l:Pl,Bd (C * c) l->(cf l x.1).natAbs<=l.length * (C * c):=λl=>by
   induction l with
   | nil=>exact λ_=>bM _
   | cons y l ih=>
    intro hb;have i:=ih λz hz=>hb z (aL _ hz);have j:=hb y (aI ..);show((if y.1=x.1 then y.2 else 0)+cf l x.1).natAbs<=(l.length+1) * (C * c);rw[eg];split<;>lia
  exact this _ (Bd.Dj (λz hz=>hp.c z hz) λz hz=>hq.c z hz)
 ·refine iD λz=>(Po.rJ p q).nz x hx ?_;rw[<- Su.Ok.GC (Po.rJ p q) hx,Su.wu];have:∀l:Pl,(∀y∈l,y.1.natAbs<=P+Q)->cf l x.1=0:=λl=>by
   induction l with
   | nil=>exact λ_=>rfl
   | cons y l ih=>
    intro hb;have i:=ih λz hz=>hb z (aL _ hz);have j:=hb y (aI ..);show(if y.1=x.1 then y.2 else 0)+cf l x.1=0;rw[i,aK (λw=>by rw[w]at j;lia)];rfl
  refine this _ λy hy=>?_;unfold Dj at hy;obtain⟨u,hu,hy⟩:=fN.mp hy;obtain⟨v,hv,rfl⟩:=bz.mp hy;have:=hp.p u hu;have:=hq.p v hv;show(u.1+v.1).natAbs<=_;lia
theorem QS{o:List Int}:((kP 1 (o.length:Int)).filter λk=>decide (o.getD (k-1).toNat 0>o.getD k.toNat 0)).head?=(ff o).map λk:Nat=>(k:Int):=by
 rw[List.head?_filter];unfold kP ff;rw[iu,show((o.length:Int)-1).toNat=o.length-1 by lia,gb];have:((λk:Int=>decide (o.getD (k-1).toNat 0>o.getD k.toNat 0)) ∘ λk:Nat=>(1:Int)+(k:Int))=λi:Nat=>m9 o (i+1):=by
  funext i
  show decide (o.getD ((1:Int)+(i:Int)-1).toNat 0>o.getD ((1:Int)+(i:Int)).toNat 0)=decide _;rw[show((1:Int)+(i:Int)-1).toNat=i+1-1 by lia,show((1:Int)+(i:Int)).toNat=i+1 by lia]
 rw[this];congr 1
 funext i
 show(1:Int)+(i:Int)=((i+1:Nat):Int);lia
end He
namespace He
open PySem L2 Am Po
open Fw (Two rg yS)
open Su (m9 Ps cS Gd vS toS adds bx)
theorem Lb(w:List Nat)(k:Nat)(l:Ps):Kc (w++[k]) l=bx k (Kc w l):=by unfold Kc;rw[cQ];rfl
theorem Sz.Kc{n:Nat}:∀{w:List Nat}{P C:Nat}{l:Ps},Sz n P C l->Va n w->Sz n (P+w.length) (3 ^ w.length * C) (Kc w l)
 | [],P,C,l,h,_=>by
  show Sz n (P+0) (1 * C) l;rw[jo,dS];exact h
 | k::w,P,C,l,h,v=>by
  have v1:=v k (aI ..);have:=Sz.Kc (h.bx v1.1 v1.2) (w:=w) λj hj=>v j (aL _ hj);show Sz n (P+(w.length+1)) (3 ^ (w.length+1) * C) (He.Kc w (Su.bx k l));rw[show P+(w.length+1)=P+1+w.length by lia,jq,Nat.mul_assoc];exact this
theorem TH{n:Nat}:∀{w:List Nat}{l:Ps},(∀x∈l,x.1.Perm (rg n))->Va n w->lD n (cS (Kc w l)) (Xw w (cS l))
 | [],l,_,_=>.refl
 | k::w,l,h,v=>by
  have v1:=v k (aI ..);have v2:Va n w:=λj hj=>v j (aL _ hj);exact(TH (w:=w) (Fj v1.1 v1.2 h) v2).trans (vX v2 (Qe h v1.1 v1.2))
theorem ex_map(f:Int->Int){o:List Int}{k:Nat}(h0:1<=k)(h1:k<o.length):Wd.ex (o.map f) k=(Wd.ex o k).map f:=by
 apply c5;intro p;rw[Wd.oN h0 (by rw[aH];exact h1),aR,aR,aR,aR,Wd.oN h0 h1];split
 ·rfl
 ·split<;>rfl
theorem yo(f:Int->Int):∀{w:List Nat}{o:List Int},(∀k∈w,1<=k/\k<o.length)->Wd.led (o.map f) w=(Wd.led o w).map f
 | [],_,_=>rfl
 | k::w,o,v=>by
  have v1:=v k (aI ..);show Wd.led (Wd.ex (o.map f) k) w=(Wd.led (Wd.ex o k) w).map f;rw[ex_map f v1.1 v1.2];exact yo f λj hj=>by rw[Wd.mG];exact v j (aL _ hj)
theorem zA{n:Nat}:∀{w:List Nat}{l:List Int},l.Perm (rg n)->Va n w->Iv.inv (Wd.led l w)<=Iv.inv l+w.length/\(Iv.inv (Wd.led l w)=Iv.inv l+w.length->Wd.jW l w)
 | [],l,_,_=>⟨aQ _,λ_=>trivial⟩
 | k::w,l,p,v=>by
  have v1:=v k (aI ..);have ll:l.length=n:=by rw[p.length_eq,Wd.jR]
  obtain⟨i1,i2⟩:=zA (w:=w) (n5 p v1.1 v1.2) λj hj=>v j (aL _ hj);have i1:Iv.inv (Wd.led l (k::w))<=Iv.inv (Wd.ex l k)+w.length:=i1;have i2:Iv.inv (Wd.led l (k::w))=Iv.inv (Wd.ex l k)+w.length->Wd.jW (Wd.ex l k) w:=i2;rw[aZ]
  rcases Nat.lt_or_ge 0 0 with z|_
  ·lia
  ·by_cases c:l.getD (k-1) 0<l.getD k 0
   ·have u:=Fw.Gr v1.1 (by lia) c;exact⟨by lia,λh=>⟨v1.1,by lia,c,i2 (by lia)⟩⟩
   ·have ne:=nb p v1.1 v1.2;have u:=Fw.nZ v1.1 (by lia) (show l.getD k 0<l.getD (k-1) 0 by lia);exact⟨by lia,λh=>absurd h (by lia)⟩
theorem AA{n:Nat}:∀{w:List Nat}{l:List Int},l.Perm (rg n)->Va n w->(Wd.led l w).Perm (rg n)
 | [],_,p,_=>p
 | k::w,l,p,v=>AA (w:=w) (n5 p (v k (aI ..)).1 (v k (aI ..)).2) λj hj=>v j (aL _ hj)
end He
namespace He
open PySem L2 Am Po
open Fw (Two rg yS)
open Su (m9 Ps cS Gd vS toS adds bx)
theorem vQ{n:Nat}{w:List Nat}(h:Wd.jW (rg n) w):Wd.jW (rg n) w.reverse:=by
 have va:Va n w:=λk hk=>by have:=Wd.jW.valid h k hk;rwa [Wd.jR]at this
 have var:Va n w.reverse:=λk hk=>va k (dB.mp hk);have pr:=AA (l_ n) var;obtain⟨z1,z2⟩:=rq pr;have vz:=wD pr;have vzr:Va n (sw n (Wd.led (rg n) w.reverse)).reverse:=λk hk=>vz k (dB.mp hk);have b1:=Wd.mQ (sw n (Wd.led (rg n) w.reverse)).reverse vzr;rw[dP,z2]at b1;have e:=lE ⟨pr,AA (l_ n) vzr,b1⟩ ⟨pr,AA (l_ n) va,Wd.mQ w va⟩;have l1:=(zA (l_ n) vzr).1;rw[e,Fw.vC,fH,z8 pr]at l1;have l2:=oR h;have l3:=(zA (l_ n) var).1;refine(zA (l_ n) var).2 ?_;rw[Fw.vC,fH]at *
 lia
noncomputable def Y (k:Nat)(f:Fn):Fn:=λo t=>X k f o t-dl (f o) t
noncomputable def Yw (w:List Nat)(f:Fn):Fn:=w.foldl (λf k=>Y k f) f
theorem Yt{n k:Nat}{f g:Fn}(h:lD n f g)(h0:1<=k)(h1:k<n):lD n (Y k f) (Y k g):=λo p t=>by
 unfold Y;rw[Qz h h0 h1 o p t,show f o=g o from funext λt=>h o p t]
theorem IW{n:Nat}:∀{w:List Nat}{f g:Fn},Va n w->lD n f g->lD n (Yw w f) (Yw w g)
 | [],_,_,_,h=>h
 | k::w,f,g,v,h=>IW (w:=w) (λj hj=>v j (aL _ hj)) (Yt h (v k (aI ..)).1 (v k (aI ..)).2)
theorem Ux(k:Nat)(f:Fn)(o:List Int)(t:Int):X k (λo t=>dl (f o) t) o t=dl (X k f o) t:=by
 unfold X dl;dsimp only;split<;>lia
theorem SW(k:Nat)(f g:Fn)(o:List Int)(t:Int):X k (λo t=>f o t-g o t) o t=X k f o t-X k g o t:=by
 unfold X dl;dsimp only;split<;>lia
theorem X_Y{n k:Nat}(h0:1<=k)(h1:k<n)(f:Fn):lD n (X k (Y k f)) f:=λo p t=>by
 have a:X k (Y k f) o t=X k (X k f) o t-X k (λo t=>dl (f o) t) o t:=SW k (X k f) (λo t=>dl (f o) t) o t;rw[a,X_X h0 h1 f o p t,Ux];dsimp only;lia
theorem Y_X{n k:Nat}(h0:1<=k)(h1:k<n)(f:Fn):lD n (Y k (X k f)) f:=λo p t=>by
 show X k (X k f) o t-dl (X k f o) t=_;rw[X_X h0 h1 f o p t];dsimp only;lia
theorem QG(w:List Nat)(k:Nat)(f:Fn):Yw (w++[k]) f=Y k (Yw w f):=by unfold Yw;rw[cQ];rfl
theorem Cc(w:List Nat)(k:Nat)(f:Fn):Xw (w++[k]) f=X k (Xw w f):=by unfold Xw;rw[cQ];rfl
theorem Xn{n:Nat}:∀{w:List Nat}{f:Fn},Va n w->lD n (Xw w.reverse (Yw w f)) f
 | [],_,_=>.refl
 | k::w,f,v=>by
  have v1:=v k (aI ..);rw[dG,Cc];exact(Qz (Xn (w:=w) (f:=Y k f) λj hj=>v j (aL _ hj)) v1.1 v1.2).trans (X_Y v1.1 v1.2 f)
theorem Xd{n:Nat}:∀{w:List Nat}{f:Fn},Va n w->lD n (Yw w (Xw w.reverse f)) f
 | [],_,_=>.refl
 | k::w,f,v=>by
  have v1:=v k (aI ..);have v2:Va n w:=λj hj=>v j (aL _ hj);rw[dG,Cc];show lD n (Yw w (Y k (X k (Xw w.reverse f)))) f;exact(IW v2 (Y_X v1.1 v1.2 _)).trans (Xd v2)
noncomputable def LB:Pl:=[((-1:Int),(-1:Int)),((1:Int),(1:Int))]
theorem YB(g:Int->Int)(t:Int):cv LB g t=- dl g t:=by
 show -1 * g (t - -1)+(1 * g (t-1)+0)=-(g (t+1)-g (t-1));rw[show t - -1=t+1 by lia];lia
noncomputable def PN (p:Pl)(l:Ps):Ps:=toS (adds [] (Ox p l))
theorem Nn(p:Pl)(l:Ps):cS (PN p l)=nA p (cS l):=by
 funext o t
 unfold PN;rw[yQ,Gx]
theorem OH{n:Nat}{p:Pl}{l:Ps}(pl:∀x∈l,x.1.Perm (rg n)):Cn (PN p l)/\∀x∈PN p l,x.1.Perm (rg n):=
 ⟨.toS (Gd.nil.adds _),Su.tZ (P:=λo=>o.Perm (rg n)) (Su.rG (P:=λo=>o.Perm (rg n)) _ (λ_ z=>nomatch z) λx hx=>by
  obtain⟨y,hy,rfl⟩:=bz.mp hx;exact pl y hy)⟩
noncomputable def yb (k:Nat)(l:Ps):Ps:=KL (bx k l) (PN LB l)
theorem SE{n k:Nat}{l:Ps}(h0:1<=k)(h1:k<n)(pl:∀x∈l,x.1.Perm (rg n)):Cn (yb k l)/\(∀x∈yb k l,x.1.Perm (rg n))/\lD n (cS (yb k l)) (Y k (cS l)):=by
 obtain⟨a,b,c⟩:=RK (Fj h0 h1 pl) (OH (p:=LB) pl).2;refine⟨a,b,λo p t=>?_⟩;show cS (KL (bx k l) (PN LB l)) o t=_;rw[c,Nn];show cS (bx k l) o t+cv LB (cS l o) t=X k (cS l) o t-dl (cS l o) t;rw[Qe pl h0 h1 o p t,YB];lia
noncomputable def K5 (w:List Nat)(l:Ps):Ps:=w.foldl (λl k=>yb k l) l
theorem MV(w:List Nat)(k:Nat)(l:Ps):K5 (w++[k]) l=yb k (K5 w l):=by unfold K5;rw[cQ];rfl
theorem GA{n:Nat}:∀{w:List Nat}{l:Ps},Va n w->Cn l->(∀x∈l,x.1.Perm (rg n))->Cn (K5 w l)/\(∀x∈K5 w l,x.1.Perm (rg n))/\lD n (cS (K5 w l)) (Yw w (cS l))
 | [],_,_,c,p=>⟨c,p,.refl⟩
 | k::w,l,v,c,p=>by
  have v1:=v k (aI ..);have v2:Va n w:=λj hj=>v j (aL _ hj);obtain⟨a1,a2,a3⟩:=SE v1.1 v1.2 p;obtain⟨b1,b2,b3⟩:=GA v2 a1 a2;exact⟨b1,b2,b3.trans (IW v2 a3)⟩
theorem Xi{n:Nat}{w:List Nat}(h:Wd.jW (rg n) w)(h':Wd.jW (rg n) w')(e:Wd.led (rg n) w=Wd.led (rg n) w'){l:Ps}(hc:Cn l)(hl:∀x∈l,x.1.Perm (rg n)):lD n (Yw w (cS l)) (Yw w' (cS l)):=by
 have va:Va n w:=λk hk=>by have:=Wd.jW.valid h k hk;rwa [Wd.jR]at this
 have va':Va n w':=λk hk=>by have:=Wd.jW.valid h' k hk;rwa [Wd.jR]at this
 have var:Va n w.reverse:=λk hk=>va k (dB.mp hk);have var':Va n w'.reverse:=λk hk=>va' k (dB.mp hk);obtain⟨_,g2,g3⟩:=GA va' hc hl;have b1:=Wd.mQ w va;have b2:=Wd.mQ w' va';have er:Wd.led (rg n) w.reverse=Wd.led (rg n) w'.reverse:=by
  have p:=AA (l_ n) va;have c1:=Wd.mQ w.reverse var;have c2:=Wd.mQ w'.reverse var';rw[dP]at c1 c2;rw[<- e]at c2;exact lE ⟨p,AA (l_ n) var,c1⟩ ⟨p,AA (l_ n) var',c2⟩
 have s:lD n (Xw w.reverse (Yw w' (cS l))) (cS l):=by
  refine(vX var g3.symm).trans ((CT (vQ h) (vQ h') er g2).trans ((vX var' g3).trans ?_));exact Xn va'
 exact(IW va s.symm).trans (Xd va)
noncomputable def bT (n:Nat)(o:List Int):Fn:=Yw (sw n o) (cS (one n))
theorem Ge(n:Nat):Cn (one n):=vt _ sX (by simp)
theorem G0{n:Nat}{o:List Int}{w:List Nat}(po:o.Perm (rg n))(h:Wd.jW (rg n) w)(e:Wd.led (rg n) w=o):lD n (bT n o) (Yw w (cS (one n))):=by
 obtain⟨a,b⟩:=rq po;exact Xi a h (b.trans e.symm) (Ge n) (zP n)
theorem Jv(p:Pl)(k:Int):cf (turn p) k=cf p (-k):=by
 have r:∀p:Pl,cf p.reverse k=cf p k:=λp=>by
  induction p with
  | nil=>rfl
  | cons q p ih=>
   rw[dG,Su.xS,ih];show cf p k+((if q.1=k then q.2 else 0)+0)=(if q.1=k then q.2 else 0)+cf p k;lia
 unfold turn;rw[List.map_reverse,r]
 induction p with
 | nil=>rfl
 | cons q p ih=>
  show(if -q.1=k then q.2 else 0)+cf (p.map _) k=(if q.1=-k then q.2 else 0)+cf p (-k);rw[ih];congr 1;by_cases c:-q.1=k
  ·rw[aM c,aM (by lia)]
  ·rw[aK c,aK (by lia)]
theorem RY(p:Pl)(g:Int->Int)(t:Int):cv (turn p) g t=cv p (λs=>g (-s)) (-t):=by
 have e:cv (turn p) g t=cv (p.map λq=>(-q.1,q.2)) g t:=by
  refine NC (λk=>?_) g t;rw[Jv]
  induction p with
  | nil=>rfl
  | cons q p ih=>
   show(if q.1=-k then q.2 else 0)+cf p (-k)=(if -q.1=k then q.2 else 0)+cf (p.map _) k;rw[ih];congr 1;by_cases c:-q.1=k
   ·rw[aM c,aM (by lia)]
   ·rw[aK c,aK (by lia)]
 rw[e]
 induction p with
 | nil=>rfl
 | cons q p ih=>
  show q.2 * g (t - -q.1)+cv (p.map _) g t=q.2 * g (-(-t-q.1))+cv p _ (-t);have ih:=ih (NC (λk=>by
   rw[Jv];clear e ih
   induction p with
   | nil=>rfl
   | cons q p ih=>
    show(if q.1=-k then q.2 else 0)+cf p (-k)=(if -q.1=k then q.2 else 0)+cf (p.map _) k;rw[ih];congr 1;by_cases c:-q.1=k
    ·rw[aM c,aM (by lia)]
    ·rw[aK c,aK (by lia)]) g t)
  rw[ih,show -(-t-q.1)=t - -q.1 by lia]
noncomputable def Bt (n:Nat):Ps->Fn
 | []=>λ_ _=>0
 | e::m=>add (nA (turn e.2) (bT n e.1)) (Bt n m)
theorem OE(n:Nat):∀(m:Ps) (o:List Int) (t:Int),Bt n m o t=RG (λu o s=>bT n u o (-s)) m o (-t)
 | [],_,_=>rfl
 | e::m,o,t=>by
  show cv (turn e.2) (bT n e.1 o) t+Bt n m o t=cv e.2 (λs=>bT n e.1 o (-s)) (-t)+RG _ m o (-t);rw[RY,OE n m]
theorem U0(n:Nat)(h:∀w s,cS m w s=cS m' w s):Bt n m=Bt n m':=by
 funext o t
 rw[OE,OE,Mj _ h]
noncomputable def tO (n:Nat)(w:List Nat):Ps:=K5 w (one n)
theorem K_{n:Nat}{o:List Int}{w:List Nat}(po:o.Perm (rg n))(h:Wd.jW (rg n) w)(e:Wd.led (rg n) w=o):Cn (tO n w)/\(∀x∈tO n w,x.1.Perm (rg n))/\lD n (cS (tO n w)) (bT n o):=by
 have va:Va n w:=λk hk=>by have:=Wd.jW.valid h k hk;rwa [Wd.jR]at this
 obtain⟨a,b,c⟩:=GA va (Ge n) (zP n);exact⟨a,b,c.trans (G0 po h e).symm⟩
structure Fwd (n:Nat)(W:List Int->List Nat):Prop where
 r:∀o,o.Perm (rg n)->Wd.jW (rg n) (W o)
 e:∀o,o.Perm (rg n)->Wd.led (rg n) (W o)=o
theorem Fwd.va{n:Nat}{W:List Int->List Nat}(h:Fwd n W){o:List Int}(po:o.Perm (rg n)):Va n (W o):=λk hk=>by have:=Wd.jW.valid (h.r o po) k hk;rwa [Wd.jR]at this
noncomputable def PR (n:Nat)(W:List Int->List Nat)(m:Ps):Ps:=m.flatMap λe=>Ox (turn e.2) (tO n (W e.1))
noncomputable def tu (n:Nat)(W:List Int->List Nat)(m:Ps):Ps:=toS (adds [] (PR n W m))
theorem UH{n:Nat}{W:List Int->List Nat}(hW:Fwd n W){m:Ps}(pm:∀x∈m,x.1.Perm (rg n)):∀x∈PR n W m,x.1.Perm (rg n):=λx hx=>by
 obtain⟨e,he,hx⟩:=fN.mp hx;obtain⟨y,hy,rfl⟩:=bz.mp hx;exact(K_ (pm e he) (hW.r _ (pm e he)) (hW.e _ (pm e he))).2.1 y hy
theorem SY{n:Nat}{W:List Int->List Nat}(hW:Fwd n W):∀{m:Ps},(∀x∈m,x.1.Perm (rg n))->lD n (cS (PR n W m)) (Bt n m)
 | [],_=>.refl
 | e::m,pm=>λo p t=>by
  have pe:=pm e (aI ..);show cS (Ox (turn e.2) (tO n (W e.1))++PR n W m) o t=cv (turn e.2) (bT n e.1 o) t+Bt n m o t;rw[Su.zd,Gx,SY hW (λx hx=>pm x (aL _ hx)) o p t];congr 1;exact uG _ (K_ pe (hW.r _ pe) (hW.e _ pe)).2.2 o p t
theorem Mv{n:Nat}{W:List Int->List Nat}(hW:Fwd n W){m:Ps}(pm:∀x∈m,x.1.Perm (rg n)):Cn (tu n W m)/\(∀x∈tu n W m,x.1.Perm (rg n))/\lD n (cS (tu n W m)) (Bt n m):=
 ⟨.toS (Gd.nil.adds _),Su.tZ (P:=λo=>o.Perm (rg n)) (Su.rG (P:=λo=>o.Perm (rg n)) _ (λ_ z=>nomatch z) (UH hW pm)),λo p t=>by
  show cS (toS (adds [] (PR n W m))) o t=_;rw[yQ];exact SY hW pm o p t⟩
theorem YM{n:Nat}{o:List Int}(po:o.Perm (rg n)){w:List Nat}(h:Wd.jW (rg n) w)(e:Wd.led (rg n) w=o):lD n (Xw w (cS (one n))) (D o d0):=by
 have z:cS (one n)=D (rg n) d0:=by
  have z:cS (one n)=add (D (rg n) (cf [((0:Int),(1:Int))])) (λ_ _=>0):=sC _ _;rw[z]
  funext u s
  show D (rg n) (cf [((0:Int),(1:Int))]) u s+0=_;rw[c6];unfold D;split
  ·rw[<- Eo,zD]
  ·rfl
 rw[z];have:=L0 (g:=d0) (l_ n) h
 rwa [e]at this
end He
namespace He
open PySem L2 Am Po
open Fw (Two rg yS Dn)
open Su (m9 Ps cS Gd vS toS adds bx)
theorem Wz{n:Nat}{o:List Int}(po:o.Perm (rg n)):Iv.inv (bk o)=Iv.inv o:=by
 obtain⟨a,b⟩:=rq po;have va:=wD po;have var:Va n (sw n o).reverse:=λk hk=>va k (dB.mp hk);have c:=Wd.mQ (sw n o).reverse var;rw[dP,b]at c;have e:=lE ⟨po,AA (l_ n) var,c⟩ (mq po);have l:=oR (vQ a);rw[e,Fw.vC,fH,z8 po]at l;lia
noncomputable def fwd (o:List Int):List Nat:=(Fw.GU _ (bk o) (aQ _)).choose
theorem F8(o:List Int):Dn (bk o) (fwd o):=(Fw.GU _ (bk o) (aQ _)).choose_spec
theorem qA{n:Nat}{o:List Int}(po:o.Perm (rg n)):Wd.jW (rg n) (fwd o)/\Wd.led (rg n) (fwd o)=o:=by
 have d:=F8 o;have va:Va n (fwd o):=by
  have:=d.va
  rwa [(l9 po).length_eq,Wd.jR]at this
 have e:=(mq po).led d;refine⟨(zA (l_ n) va).2 ?_,e⟩;rw[e,Fw.vC,d.len,Wz po,cF]
theorem EH:∀{w:List Nat}{l:List Int}{k:Nat},Wd.jW l (w++[k])->Wd.jW l w/\1<=k/\k<l.length/\(Wd.led l w).getD (k-1) 0<(Wd.led l w).getD k 0
 | [],_,_,h=>⟨trivial,h.1,h.2.1,h.2.2.1⟩
 | j::w,l,k,h=>by
  obtain⟨a,b,c,d⟩:=EH (w:=w) h.2.2.2;rw[Wd.mG]at c;exact⟨⟨h.1,h.2.1,h.2.2.1,a⟩,b,c,d⟩
theorem zU{n:Nat}{o:List Int}(po:o.Perm (rg n)){k:Nat}(h:(fwd o).getLast?=some k):1<=k/\k<n/\m9 o k=true:=by
 obtain⟨a,b⟩:=qA po;obtain⟨w,hw⟩:=List.getLast?_eq_some_iff.mp h;rw[hw]at a b;obtain⟨_,c,d,e⟩:=EH a;rw[Wd.uz]at b;have b:Wd.ex (Wd.led (rg n) w) k=o:=b;have lw:(Wd.led (rg n) w).length=n:=by rw[Wd.C7,Wd.jR]
 rw[Wd.jR]at d;obtain⟨z1,z2⟩:=Su.JA c (show k<(Wd.led (rg n) w).length by lia);refine⟨c,d,bh ?_⟩;rw[<- b,z1,z2];exact e
noncomputable def Zr:Nat->List Int->List Nat
 | 0,_=>[]
 | m+1,o=>match (fwd o).getLast? with
  | none=>[]
  | some k=>Zr m (Wd.ex o k)++[k]
noncomputable def vw (o:List Int):List Nat:=Zr (Iv.inv o) o
theorem Ih{n:Nat}{o:List Int}(po:o.Perm (rg n))(h:(fwd o).getLast?=none):o=rg n:=by
 have:=List.getLast?_eq_none_iff.mp h;have e:=(qA po).2;rw[this]at e;exact e.symm
theorem VL(h:(fwd o).getLast?=none):vw o=[]:=by
 unfold vw
 cases Iv.inv o with
 | zero=>rfl
 | succ m=>unfold Zr;rw[h]
theorem Iw{n:Nat}{o:List Int}(po:o.Perm (rg n)){k:Nat}(h:(fwd o).getLast?=some k):vw o=vw (Wd.ex o k)++[k]:=by
 obtain⟨a,b,c⟩:=zU po h;have lo:o.length=n:=by rw[po.length_eq,Wd.jR]
 have d:=Fw.nZ a (by lia) (show o.getD k 0<o.getD (k-1) 0 by have:=bR c;lia);unfold vw;rw[d]
 conv=>lhs;unfold Zr
 rw[h]
theorem DB{n:Nat}:∀(m:Nat) {o:List Int},Iv.inv o=m->o.Perm (rg n)->Wd.jW (rg n) (vw o)/\Wd.led (rg n) (vw o)=o:=by
 intro m
 induction m with
 | zero=>
  intro o hm po;have e:o=rg n:=Fw.IS po λk hk=>by
   have:=Fw.nZ hk.1 hk.2.1 hk.2.2;lia
  have:vw o=[]:=by unfold vw;rw[hm];rfl
  rw[this,e];exact⟨trivial,rfl⟩
 | succ m ih=>
  intro o hm po
  cases h:(fwd o).getLast? with
  | none=>
   have e:=Ih po h;rw[e,Fw.vC]at hm
   cases hm
  | some k=>
   obtain⟨a,b,c⟩:=zU po h;have lo:o.length=n:=by rw[po.length_eq,Wd.jR]
   have cc:=bR c;have d:=Fw.nZ a (by lia) (show o.getD k 0<o.getD (k-1) 0 by lia);obtain⟨i1,i2⟩:=ih (o:=Wd.ex o k) (by lia) (n5 po a b);rw[Iw po h];obtain⟨z1,z2⟩:=Su.JA a (show k<o.length by lia);refine⟨Wd.jW.snoc i1 a (by rw[Wd.jR];exact b) (by rw[i2,z1,z2];lia),?_⟩;rw[Wd.uz,i2];exact Fw.v_ a (by lia)
theorem C6(n:Nat):Fwd n vw:=⟨λo po=>(DB _ rfl po).1,λo po=>(DB _ rfl po).2⟩
noncomputable def tV (n:Nat)(o:List Int):Ps:=tO n (vw o)
theorem WO{n:Nat}{o:List Int}(po:o.Perm (rg n))(h:(fwd o).getLast?=none):tV n o=[(o,[((0:Int),(1:Int))])]:=by
 unfold tV;rw[VL h,Ih po h];rfl
theorem P4{n:Nat}{o:List Int}(po:o.Perm (rg n)){k:Nat}(h:(fwd o).getLast?=some k):tV n o=yb k (tV n (Wd.ex o k)):=by
 unfold tV;rw[Iw po h];exact MV _ _ _
theorem FB.Y{n P k:Nat}{f:Fn}(h:FB n P C f)(h0:1<=k)(h1:k<n):FB n (P+1) (5 * C) (Y k f):=by
 have x:=h.X h0 h1;refine⟨λo po t=>?_,λo po t ht=>?_⟩
 ·have a:=x.c o po t;have b:=h.c o po (t+1);have d:=h.c o po (t-1);show(He.X k f o t-(f o (t+1)-f o (t-1))).natAbs<=_;lia
 ·have a:=x.p o po t (by lia);have b:=h.p o po (t+1) (by lia);have d:=h.p o po (t-1) (by lia);show He.X k f o t-(f o (t+1)-f o (t-1))=0;lia
theorem Sz.yb{n P k:Nat}{l:Ps}(h:Sz n P C l)(h0:1<=k)(h1:k<n):Sz n (P+1) (5 * C) (yb k l):=by
 obtain⟨a,b,c⟩:=SE h0 h1 h.pm;exact⟨a,b,(h.fb.Y h0 h1).eq c⟩
theorem Sz.K5{n:Nat}:∀{w:List Nat}{P C:Nat}{l:Ps},Sz n P C l->Va n w->Sz n (P+w.length) (5 ^ w.length * C) (K5 w l)
 | [],P,C,l,h,_=>by
  show Sz n (P+0) (1 * C) l;rw[jo,dS];exact h
 | k::w,P,C,l,h,v=>by
  have v1:=v k (aI ..);have:=Sz.K5 (h.yb v1.1 v1.2) (w:=w) λj hj=>v j (aL _ hj);show Sz n (P+(w.length+1)) (5 ^ (w.length+1) * C) (He.K5 w (He.yb k l));rw[show P+(w.length+1)=P+1+w.length by lia,jq,Nat.mul_assoc];exact this
theorem WM(n:Nat):Sz n 0 1 (one n):=Sz.of (Ge n) (zP n) λe he=>by
 rw[aP.mp he];exact⟨λq hq=>by rw[aP.mp hq];decide,λq hq=>by rw[aP.mp hq];decide⟩
theorem Ls{n:Nat}(hn:n<6){o:List Int}(po:o.Perm (rg n)):Sz n 25 (5 ^ 25) (tV n o):=by
 obtain⟨a,b⟩:=DB _ rfl po;have l:=oR a;rw[b,Fw.vC]at l;have i:=xM hn po;have:=(WM n).K5 ((C6 n).va po);refine this.mono (by lia) ?_;rw[Nat.mul_one];exact gc (by decide) (by lia)
theorem PB.turn{c:Nat}{p:Pl}(h:PB Q c p):PB Q c (turn p):=by
 refine⟨λq hq=>?_,λq hq=>?_⟩
 ·obtain⟨x,hx,rfl⟩:=bz.mp hq;exact h.c x (dB.mp hx)
 ·obtain⟨x,hx,rfl⟩:=bz.mp hq;have:=h.p x (dB.mp hx);show(-x.1).natAbs<=Q;lia
theorem DS(p:Pl):(turn p).length=p.length:=by unfold turn;rw[aH,fH]
theorem FB.Bt{n c K:Nat}(hn:n<6):∀{m:Ps},(∀x∈m,x.1.Perm (rg n))->(∀x∈m,PB Q c x.2/\x.2.length<=K)->FB n (25+Q) (m.length * (K * (c * 5 ^ 25))) (Bt n m)
 | [],_,_=>FB.zero ..
 | e::m,hm,hb=>by
  have he:=hm e (aI ..);obtain⟨b1,b2⟩:=hb e (aI ..);have i:=FB.Bt hn (m:=m) (λx hx=>hm x (aL _ hx)) λx hx=>hb x (aL _ hx);have t:=(Ls hn he).fb.eq (K_ he (DB _ rfl he).1 (DB _ rfl he).2).2.2.symm;have b:=(t.nA b1.turn).mono (P':=25+Q) (C':=K * (c * 5 ^ 25)) (aQ _) (by rw[DS];exact bL _ b2);have d:=b.add i;show FB n _ ((m.length+1) * _) (He.add _ _);rw[eg,jn (m.length * _)];exact d
theorem Sz.tu{n c:Nat}(hn:n<6)(h:Sz n Q c m):Sz n (25+Q) (120 * ((2 * Q+1) * (c * 5 ^ 25))) (tu n vw m):=by
 obtain⟨a,b,d⟩:=Mv (C6 n) h.pm;exact⟨a,b,((FB.Bt hn h.pm λx hx=>h.pb hx).mono (aQ _) (bL _ (h.many hn))).eq d⟩
theorem Sz.PN{n P c:Nat}{l:Ps}(h:Sz n P C l){p:Pl}(b:PB Q c p):Sz n (P+Q) (p.length * (c * C)) (PN p l):=by
 obtain⟨a1,a2⟩:=OH (p:=p) h.pm;exact⟨a1,a2,by rw[Nn];exact h.fb.nA b⟩
end He
namespace He
open PySem L2 Am Po
open Fw (Two rg yS)
open Su (m9 Ps cS Gd vS toS adds bx)
theorem LH{n:Nat}{l m:Ps}(hl:Cn l)(hm:Cn m)(pl:∀x∈l,x.1.Perm (rg n))(pm:∀x∈m,x.1.Perm (rg n)):yX (prod l m)=prod (yX m) (yX l):=by
 obtain⟨a1,a2,a3⟩:=qF hl hm pl pm;obtain⟨b1,b2,b3⟩:=qF (ve hm pm) (ve hl pl) (sE pm) (sE pl);refine B9 (ve a1 a2) b1 (sE a2) b2 λo p t=>?_;rw[q_ a1 a2,Aq p t a2,a3 _ (l9 p) t,b3 o p t];rw[Tu n (λo t=>q_ hl pl o t),show cS (yX m)=cS (wb m)from funext λo=>funext λt=>q_ hm pm o t];have this:R n (wb l) (cS (wb m)) (bk (bk o)) t=R n m (cS l) (bk o) t:=IC pm pl (bk o) (l9 p) t;rw[qB p]at this;exact this.symm
noncomputable def Z (k:Nat)(f:Fn):Fn:=λo t=>L k f o t-dl (f o) t
noncomputable def Zw (w:List Nat)(f:Fn):Fn:=w.foldl (λf k=>Z k f) f
theorem ZE{n k:Nat}{f g:Fn}(h:lD n f g)(h0:1<=k)(h1:k<n):lD n (Z k f) (Z k g):=λo p t=>by
 unfold Z;rw[XG h h0 h1 o p t,show f o=g o from funext λt=>h o p t]
theorem Ep{n:Nat}:∀{w:List Nat}{f g:Fn},Va n w->lD n f g->lD n (Zw w f) (Zw w g)
 | [],_,_,_,h=>h
 | k::w,f,g,v,h=>Ep (w:=w) (λj hj=>v j (aL _ hj)) (ZE h (v k (aI ..)).1 (v k (aI ..)).2)
theorem Z4(k:Nat)(f:Fn)(o:List Int)(t:Int):L k (λo t=>dl (f o) t) o t=dl (L k f o) t:=by
 unfold L dl;dsimp only;split<;>lia
theorem Xp(k:Nat)(f g:Fn)(o:List Int)(t:Int):L k (λo t=>f o t-g o t) o t=L k f o t-L k g o t:=by
 unfold L dl;dsimp only;split<;>lia
theorem Y_Z{n k:Nat}(f:Fn)(h0:1<=k)(h1:k<n)(h2:1<=j)(h3:j<n):lD n (Y k (Z j f)) (Z j (Y k f)):=λo p t=>by
 have a:X k (Z j f) o t=X k (L j f) o t-dl (X k f o) t:=by
  have:=SW k (L j f) (λo t=>dl (f o) t) o t;rw[Ux]at this;exact this
 have b:L j (Y k f) o t=L j (X k f) o t-dl (L j f o) t:=by
  have:=Xp j (X k f) (λo t=>dl (f o) t) o t;rw[Z4]at this;exact this
 show X k (Z j f) o t-dl (Z j f o) t=L j (Y k f) o t-dl (Y k f o) t;rw[a,b,comm f p h0 h1 h2 h3 t];unfold Y Z dl;dsimp only;lia
theorem Yi{n k:Nat}(h0:1<=k)(h1:k<n):∀{w:List Nat}{f:Fn},Va n w->lD n (Zw w (Y k f)) (Y k (Zw w f))
 | [],_,_=>.refl
 | j::w,f,v=>by
  have v1:=v j (aI ..);have v2:Va n w:=λi hi=>v i (aL _ hi);exact(Ep v2 (Y_Z f h0 h1 v1.1 v1.2).symm).trans (Yi h0 h1 (w:=w) (f:=Z j f) v2)
theorem UE{n k:Nat}(h0:1<=k)(h1:k<n):m9 (rg n) k=false:=by
 refine bq ?_;rw[aJ,Wd.nJ (show k-1<n by lia),aJ,Wd.nJ h1];show ¬((k-1:Nat):Int)+1>(k:Int)+1;lia
theorem MQ(n:Nat):cS (one n)=D (rg n) d0:=by
 have z:cS (one n)=add (D (rg n) (cf [((0:Int),(1:Int))])) (λ_ _=>0):=sC _ _;rw[z]
 funext u s
 show D (rg n) (cf [((0:Int),(1:Int))]) u s+0=_;rw[c6];unfold D;split
 ·rw[<- Eo,zD]
 ·rfl
theorem Ym{n k:Nat}(h0:1<=k)(h1:k<n):lD n (Z k (cS (one n))) (Y k (cS (one n))):=λo p t=>by
 have f1:=UE (n:=n) h0 h1;have e:(rg n).map (Wd.sw k)=Wd.ex (rg n) k:=HP (l_ n) h0 h1 (.inl ⟨by
  rw[aJ,Wd.nJ (show k-1<n by lia)];show((k-1:Nat):Int)+1=k;lia,by
  rw[aJ,Wd.nJ h1];rfl⟩)
 show L k (cS (one n)) o t-_=X k (cS (one n)) o t-_;rw[MQ,L_D d0 (l_ n) h0 h1 o p t,ZW d0 (l_ n) h0 h1 o p t,y_,f1,e]
theorem Pk{n:Nat}:∀{w:List Nat},Va n w->lD n (Zw w (cS (one n))) (Yw w.reverse (cS (one n)))
 | [],_=>.refl
 | k::w,v=>by
  have v1:=v k (aI ..);have v2:Va n w:=λi hi=>v i (aL _ hi);rw[dG,QG];exact(Ep v2 (Ym v1.1 v1.2)).trans ((Yi v1.1 v1.2 v2).trans (Yt (Pk v2) v1.1 v1.2))
noncomputable def Tn (f:Fn):Fn:=λo t=>f (bk o) t
theorem ZO{n k:Nat}(f:Fn)(h0:1<=k)(h1:k<n):lD n (Tn (Y k f)) (Z k (Tn f)):=λo p t=>by
 show f (Wd.ex (bk o) k) t+(if m9 (bk o) k=true then dl (f (bk o)) t else 0)-dl (f (bk o)) t=f (bk (o.map (Wd.sw k))) t+(if m9 (bk o) k=true then dl (f (bk o)) t else 0)-dl (f (bk o)) t;rw[ND p h0 h1]
theorem Sw{n:Nat}:∀{w:List Nat}{f:Fn},Va n w->lD n (Tn (Yw w f)) (Zw w (Tn f))
 | [],_,_=>.refl
 | k::w,f,v=>by
  have v1:=v k (aI ..);have v2:Va n w:=λi hi=>v i (aL _ hi);exact(Sw (w:=w) (f:=Y k f) v2).trans (Ep v2 (ZO f v1.1 v1.2))
theorem VR(n:Nat):lD n (Tn (cS (one n))) (cS (one n)):=λo p t=>by
 show cS (one n) (bk o) t=_;rw[MQ];unfold D;by_cases c:o=rg n
 ·rw[c,y_]
 ·rw[aK c,aK λz=>c (by rw[<- qB p,z,y_])]
theorem W9{n:Nat}{u:List Int}(pu:u.Perm (rg n)):lD n (bT n (bk u)) (Tn (bT n u)):=by
 obtain⟨a,b⟩:=rq pu;have va:=wD pu;have var:Va n (sw n u).reverse:=λk hk=>va k (dB.mp hk);have c:=Wd.mQ (sw n u).reverse var;rw[dP,b]at c;have e:=lE ⟨pu,AA (l_ n) var,c⟩ (mq pu);exact(G0 (l9 pu) (vQ a) e).trans ((Pk va).symm.trans ((Ep va (VR n).symm).trans (Sw va).symm))
theorem Ub{n:Nat}:∀{l:Ps},(∀x∈l,x.1.Perm (rg n))->lD n (Bt n (wb l)) (Tn (Bt n l))
 | [],_=>.refl
 | e::l,pl=>λo p t=>by
  have pe:=pl e (aI ..);have i:=Ub (l:=l) (λx hx=>pl x (aL _ hx)) o p t;show cv (turn e.2) (bT n (bk e.1) o) t+Bt n (wb l) o t=cv (turn e.2) (bT n e.1 (bk o)) t+Bt n l (bk o) t;rw[i];show _=_+Tn (Bt n l) o t;congr 1;exact uG _ (W9 pe) o p t
theorem WY{n:Nat}{l:Ps}(hl:Cn l)(pl:∀x∈l,x.1.Perm (rg n)):yX (tu n vw l)=tu n vw (yX l):=by
 obtain⟨a1,a2,a3⟩:=Mv (C6 n) pl;obtain⟨b1,b2,b3⟩:=Mv (C6 n) (sE pl);refine B9 (ve a1 a2) b1 (sE a2) b2 λo p t=>?_;rw[q_ a1 a2,Aq p t a2,a3 _ (l9 p) t,b3 o p t,U0 n (λo t=>q_ hl pl o t)];exact(Ub pl o p t).symm
theorem Ss:∀(w:List Nat) (f:Fn) (o:List Int) (t:Int),Xw w (λo t=>dl (f o) t) o t=dl (Xw w f o) t
 | [],_,_,_=>rfl
 | j::w,f,o,t=>by
  show Xw w (X j λo t=>dl (f o) t) o t=dl (Xw w (X j f) o) t;rw[show X j (λo t=>dl (f o) t)=λo t=>dl (X j f o) t from funext λo=>funext λt=>Ux j f o t];exact Ss w (X j f) o t
theorem CZ{n:Nat}:∀{w:List Nat}{a u:List Int}(g:Int->Int) (t:Int),Va n w->a.Perm (rg n)->u.Perm (rg n)->Xw w (D a g) u t=Xw w.reverse (D u g) a t
 | [],a,u,g,t,_,_,_=>by
  show D a g u t=D u g a t;unfold D;by_cases c:u=a
  ·rw[aM c,aM c.symm]
  ·rw[aK c,aK (c7 c)]
 | k::w,a,u,g,t,v,pa,pu=>by
  have v1:=v k (aI ..);have v2:Va n w:=λi hi=>v i (aL _ hi);rw[dG,Cc];show Xw w (X k (D a g)) u t=X k (Xw w.reverse (D u g)) a t;rw[vX v2 (ZW g pa v1.1 v1.2) u pu t];have e:(λo t=>D (Wd.ex a k) g o t+if m9 a k=true then D a (dl g) o t else 0)=add (D (Wd.ex a k) g) (λo t=>if m9 a k=true then D a (dl g) o t else 0):=rfl;rw[e,Az];show Xw w (D (Wd.ex a k) g) u t+Xw w _ u t=Xw w.reverse (D u g) (Wd.ex a k) t+if m9 a k=true then dl (Xw w.reverse (D u g) a) t else 0
  rw[CZ g t v2 (n5 pa v1.1 v1.2) pu];congr 1
  cases hf:m9 a k with
  | false=>
   show Xw w (λo t=>if false=true then D a (dl g) o t else 0) u t=0;simp only[bf,bU];rw[wC]
  | true=>
   simp only[cY];have s1:=CZ (w:=w) g (t+1) v2 pa pu;have s2:=CZ (w:=w) g (t-1) v2 pa pu;have z:D a (dl g)=λo t=>dl (D a g o) t:=by
    funext o t
    unfold D dl;split
    ·rfl
    ·rfl
   rw[show(λo t=>D a (dl g) o t)=λo t=>dl (D a g o) t from z,Ss];unfold dl;rw[s1,s2]
theorem CJ{n:Nat}{a b:List Int}(pa:a.Perm (rg n))(pb:b.Perm (rg n))(t:Int):cS (prod [(a,[((0:Int),(1:Int))])] [(bk b,[((0:Int),(1:Int))])]) (rg n) t=if a=b then d0 t else 0:=by
 have m1:∀x∈[(a,[((0:Int),(1:Int))])],x.1.Perm (rg n):=λx hx=>by rw[aP.mp hx];exact pa
 have m2:∀x∈[(bk b,[((0:Int),(1:Int))])],x.1.Perm (rg n):=λx hx=>by rw[aP.mp hx];exact l9 pb
 obtain⟨_,_,q3⟩:=qF (vt a sX (by simp)) (vt (bk b) sX (by simp)) m1 m2;have cD:cS [(a,[((0:Int),(1:Int))])]=D a d0:=by
  have z:cS [(a,[((0:Int),(1:Int))])]=add (D a (cf [((0:Int),(1:Int))])) (λ_ _=>0):=sC _ _;rw[z]
  funext u s
  show D a (cf [((0:Int),(1:Int))]) u s+0=_;rw[c6];unfold D;split
  ·rw[<- Eo,zD]
  ·rfl
 rw[q3 _ (l_ n) t];show cv [((0:Int),(1:Int))] (Xw (sw n (bk b)) (cS [(a,[((0:Int),(1:Int))])]) (rg n)) t+0=_;rw[zD,c6,cD];have pk:=l9 pb;have va:=wD pk;have var:Va n (sw n (bk b)).reverse:=λk hk=>va k (dB.mp hk);obtain⟨r1,r2⟩:=rq pk;rw[CZ d0 t va pa (l_ n),L0 (l_ n) (vQ r1) a pa t];have c:=Wd.mQ (sw n (bk b)).reverse var;rw[dP,r2]at c;have e:=lE ⟨pk,AA (l_ n) var,c⟩ (mq pk);rw[e,qB pb];unfold D;rfl
end He
namespace K32
open PySem L2 Am
noncomputable def top (i:Nat):aE:=PySem.Challenge.pw_undercells_k32_whole_backs_and_what_is_b.main.body.getD i (.Pass ⟨0,0,0,0⟩)
noncomputable abbrev vj:aE:=top 5
noncomputable abbrev vd:List Str:=["thing"]
noncomputable abbrev u9:List Str:=["thing"]
noncomputable def vA:Sm:=
 lA (ML (j8 (f2 Q3) (jA (jD 0) (jA (eC (.ty "int")) jF))) (UA (j8 (f2 Q3) (jA (jD 0) (jA (eC (.ty "bool")) jF)))))
noncomputable def qg:List A->jG->R A:=mE vd vA
noncomputable abbrev tW:aE:=top 6
noncomputable abbrev sW:List Str:=["one", "other"]
noncomputable abbrev sS:List Str:=["one", "other"]
noncomputable def t7:Sm:=
 wJ (vm (jO (sM true) (j8 (f1 tN) (jA (jD 0) jF)) (j8 (f1 tN) (jA (jD 1) jF))))
 (sNo)
 oQ
noncomputable def o9:List A->jG->R A:=mE sW t7
noncomputable abbrev F2:aE:=top 7
noncomputable abbrev GL:List Str:=["order", "places", "at", "thing"]
noncomputable abbrev xq:List Str:=["order"]
noncomputable def Pe:Ic:=
 Qh (jD 0)
noncomputable def DX:Sm:=
 ku (jO nu (jD 2) (eC (.int 1))) (Wa (jD 1) (jO aSub (jD 3) (eC (.int 1))))
noncomputable def F_:Sm:=
 jZ (ku (jO BY (lX (jA (eC (.int 0)) jF)) (j8 (f1 tN) (jA (jD 0) jF))) (kI 1))
 (jZ (mw Pe (wK 2 (oG (kI 2) (oG (kI 3) wF)))
 DX)
 (lA (j8 (f1 oO) (jA (jD 1) jF))))
noncomputable def oS:List A->jG->R A:=mE GL F_
noncomputable abbrev qQ:aE:=top 8
noncomputable abbrev qN:List Str:=["n", "thing"]
noncomputable abbrev qZ:List Str:=["n", "thing"]
noncomputable def qP:Sm:=
 lA (ML (eFn qg (jA (jD 1) jF)) (W2 Zo XQ (eC (.int 1)) (jD 1) (jD 0)))
noncomputable def nF:List A->jG->R A:=mE qN qP
noncomputable abbrev nS:aE:=top 9
noncomputable abbrev nM:List Str:=["order", "i", "j", "things"]
noncomputable abbrev nQ:List Str:=["order", "i", "j"]
noncomputable def nL:Sm:=
 jZ (ku (j8 (f1 tM) (jA (jD 0) jF)) (kI 3))
 (jZ (ku (lV (jA (jO sL (jD 3) (jO aSub (jD 2) (eC (.int 1)))) (jA (jO sL (jD 3) (jO aSub (jD 1) (eC (.int 1)))) jF))) (wK 2 (oG (Wa (jD 3) (jO aSub (jD 1) (eC (.int 1)))) (oG (Wa (jD 3) (jO aSub (jD 2) (eC (.int 1)))) wF))))
 (lA (j8 (f1 oO) (jA (jD 3) jF))))
noncomputable def lg:List A->jG->R A:=mE nM nL
noncomputable abbrev tD:aE:=top 10
noncomputable abbrev uh:List Str:=["order", "k"]
noncomputable abbrev mD:List Str:=["order", "k"]
noncomputable def sR:Sm:=
 jZ (wJ (US (AX (eFn nF (jA (j8 (f1 tN) (jA (jD 0) jF)) (jA (jD 1) jF)))))
 (sNo)
 oQ)
 (lA (eFn lg (jA (jD 0) (jA (jD 1) (jA (jO nu (jD 1) (eC (.int 1))) jF)))))
noncomputable def kJ:List A->jG->R A:=mE uh sR
noncomputable abbrev Cy:aE:=top 11
noncomputable abbrev CS:List Str:=["order"]
noncomputable abbrev uJ:List Str:=["order"]
noncomputable def Cd:Sm:=
 lA (kZ [none,some 0] (zX (eC (.int 1)) (j8 (f1 tN) (jA (jD 0) jF))) (kI 0) (vm (jO VG (jO sL (jD 1) (jO aSub (jD 0) (eC (.int 1)))) (jO sL (jD 1) (jD 0)))) (jD 0))
noncomputable def oE:List A->jG->R A:=mE CS Cd
noncomputable abbrev pM:aE:=top 14
noncomputable abbrev pH:List Str:=["numbers"]
noncomputable abbrev nH:List Str:=["numbers"]
noncomputable def pN:Sm:=
 lA (kZ [none,some 0] (nE (j8 (f1 yW) (jA (jD 0) jF))) (kI 0) (vm (jO (sM true) (jO zo (jD 1) (jD 0)) (eC (.int 0)))) (lV (jA (jD 0) (jA (jO zo (jD 1) (jD 0)) jF))))
noncomputable def kX:List A->jG->R A:=mE pH pN
noncomputable abbrev FL:aE:=top 15
noncomputable abbrev F9:List Str:=["one", "other", "numbers", "power", "number"]
noncomputable abbrev FH:List Str:=["one", "other"]
noncomputable def wB:Ic:=
 nE (jD 1)
noncomputable def Dl:Sm:=
 ku (jO nu (Ko ye (jD 2) (jA (jD 3) (jA (eC (.int 0)) jF))) (jD 4)) (J0 (jD 2) (jD 3))
noncomputable def Fx:Sm:=
 jZ (ku (j8 (f1 Fp) (jA (jD 0) jF)) (kI 2))
 (jZ (mw wB (wK 2 (oG (kI 3) (oG (kI 4) wF)))
 Dl)
 (lA (eFn kX (jA (jD 2) jF))))
noncomputable def zv:List A->jG->R A:=mE F9 Fx
noncomputable abbrev BV:aE:=top 16
noncomputable abbrev CM:List Str:=["one", "other", "numbers", "power", "number", "high", "many"]
noncomputable abbrev ur:List Str:=["one", "other"]
noncomputable def KI:Ic:=
 nE (jD 1)
noncomputable def JJ:Sm:=
 ku (jO nu (Ko ye (jD 2) (jA (jO nu (jD 3) (jD 5)) (jA (eC (.int 0)) jF))) (jO Hg (jD 4) (jD 6))) (J0 (jD 2) (jO nu (jD 3) (jD 5)))
noncomputable def BF:Ic:=
 nE (jD 0)
noncomputable def BH:Sm:=
 mw KI (wK 2 (oG (kI 5) (oG (kI 6) wF)))
 JJ
noncomputable def C1:Sm:=
 jZ (ku Gm (kI 2))
 (jZ (mw BF (wK 2 (oG (kI 3) (oG (kI 4) wF)))
 BH)
 (lA (eFn kX (jA (jD 2) jF))))
noncomputable def ng:List A->jG->R A:=mE CM C1
noncomputable abbrev zM:aE:=top 17
noncomputable abbrev zc:List Str:=["one"]
noncomputable abbrev yZ:List Str:=["one"]
noncomputable def zT:Sm:=
 lA (kZ [none,none] (XX (jD 0)) (wK 2 (oG (kI 0) (oG (kI 1) wF))) sJ (lV (jA (Kg xR (jD 0)) (jA (jD 1) jF))))
noncomputable def t9:List A->jG->R A:=mE zc zT
noncomputable abbrev su:aE:=top 20
noncomputable abbrev sH:List Str:=["found", "order", "poly"]
noncomputable abbrev mH:List Str:=["found", "order", "poly"]
noncomputable def se:Sm:=
 ku (eFn zv (jA (Wt Vg (jD 0) (jA (jD 1) (jA (lX jF) jF))) (jA (jD 2) jF))) (B4 (jD 0) (jD 1))
noncomputable def j_:List A->jG->R A:=mE sH se
noncomputable abbrev Ar:aE:=top 21
noncomputable abbrev zI:List Str:=["found"]
noncomputable abbrev pX:List Str:=["found"]
noncomputable def An:Sm:=
 lA (kZ [none,some 0] (nE (j8 (f1 xD) (jA (jD 0) jF))) (kI 0) (AX (jO vH (jD 1) (jD 0))) (lV (jA (jD 0) (jA (jO vH (jD 1) (jD 0)) jF))))
noncomputable def mh:List A->jG->R A:=mE zI An
noncomputable abbrev t_:aE:=top 22
noncomputable abbrev sQ:List Str:=["one", "other"]
noncomputable abbrev qD:List Str:=["one", "other"]
noncomputable def ue:Sm:=
 wJ (Rx (AX (jD 0)) (AX (jD 1)))
 (pF (eFn o9 (jA (jO sL (jO sL (jD 0) (eC (.int 0))) (eC (.int 0))) (jA (jO sL (jO sL (jD 1) (eC (.int 0))) (eC (.int 0))) jF))))
 oQ
noncomputable def m_:List A->jG->R A:=mE sQ ue
noncomputable abbrev BW:aE:=top 23
noncomputable abbrev Cf:List Str:=["one", "other", "found", "order", "poly"]
noncomputable abbrev yj:List Str:=["one", "other"]
noncomputable def uQ:Ic:=
 nE (jO nu (jD 0) (jD 1))
noncomputable def A8:Sm:=
 pF (eFn j_ (jA (jD 2) (jA (jD 3) (jA (jD 4) jF))))
noncomputable def C8:Sm:=
 jZ (pF (eFn m_ (jA (jD 0) (jA (jD 1) jF))))
 (jZ (ku uY (kI 2))
 (jZ (mw uQ (wK 2 (oG (kI 3) (oG (kI 4) wF)))
 A8)
 (lA (eFn mh (jA (jD 2) jF)))))
noncomputable def ux:List A->jG->R A:=mE Cf C8
noncomputable abbrev Ay:aE:=top 24
noncomputable abbrev Ae:List Str:=["poly", "one", "found", "order", "many"]
noncomputable abbrev vW:List Str:=["poly", "one"]
noncomputable def rV:Ic:=
 nE (jD 1)
noncomputable def rZ:Sm:=
 pF (eFn j_ (jA (jD 2) (jA (jD 3) (jA (eFn ng (jA (jD 0) (jA (jD 4) jF))) jF))))
noncomputable def zW:Sm:=
 jZ (ku uY (kI 2))
 (jZ (mw rV (wK 2 (oG (kI 3) (oG (kI 4) wF)))
 rZ)
 (lA (eFn mh (jA (jD 2) jF))))
noncomputable def rF:List A->jG->R A:=mE Ae zW
noncomputable abbrev qX:aE:=top 25
noncomputable abbrev qO:List Str:=["one", "k", "found", "order", "poly"]
noncomputable abbrev lQ:List Str:=["one", "k"]
noncomputable def nG:Ic:=
 nE (jD 0)
noncomputable def mO:Sm:=
 jZ (pF (eFn j_ (jA (jD 2) (jA (eFn kJ (jA (jD 3) (jA (jD 1) jF))) (jA (jD 4) jF)))))
 (wJ (vm (jO (aIn false) (jD 1) (eFn oE (jA (jD 3) jF))))
 (pF (eFn j_ (jA (jD 2) (jA (jD 3) (jA (eFn ng (jA (j8 (f1 tM) (jA (eC (.frz ([((-1:Int),(1:Int)),((1:Int),(-1:Int))].map kA))) jF)) (jA (jD 4) jF))) jF)))))
 oQ)
noncomputable def qM:Sm:=
 jZ (ku uY (kI 2))
 (jZ (mw nG (wK 2 (oG (kI 3) (oG (kI 4) wF)))
 mO)
 (lA (eFn mh (jA (jD 2) jF))))
noncomputable def ko:List A->jG->R A:=mE qO qM
noncomputable abbrev rW:aE:=top 26
noncomputable abbrev p6:List Str:=["one", "order", "known", "ends", "ahead"]
noncomputable abbrev oJ:List Str:=["one", "order", "known"]
noncomputable def qa (Fs:List A->jG->R A):Sm:=
 jZ (wJ (vm (jO (KC true) (jD 1) (jD 2)))
 (jZ (ku (eFn oE (jA (jD 1) jF)) (kI 3))
 (wJ (AX (jD 3))
 (jZ (ku (eFn Fs (jA (jD 0) (jA (eFn kJ (jA (jD 1) (jA (jO sL (jD 3) (eC (.int 0))) jF))) (jA (jD 2) jF)))) (kI 4))
 (ku (eFn ko (jA (jD 4) (jA (jO sL (jD 3) (eC (.int 0))) jF))) (B4 (jD 2) (jD 1))))
 (ku (jD 0) (B4 (jD 2) (jD 1)))))
 oQ)
 (lA (jO vH (jD 2) (jD 1)))
noncomputable def o7:Nat->List A->jG->R A
 | 0=>λ_ _=>.no
 | k+1=>mE p6 (qa (o7 k))
noncomputable def vf:List A->jG->R A:=o7 26
noncomputable abbrev tQ:aE:=top 27
noncomputable abbrev tF:List Str:=["one", "other", "found", "known", "order", "poly", "at", "many"]
noncomputable abbrev sY:List Str:=["one", "other"]
noncomputable def qY:Ic:=
 nE (eFn vf (jA (jD 0) (jA (jD 4) (jA (jD 3) jF))))
noncomputable def qR:Sm:=
 pF (eFn j_ (jA (jD 2) (jA (jD 6) (jA (eFn ng (jA (jD 5) (jA (jD 7) jF))) jF))))
noncomputable def o4:Ic:=
 nE (jD 1)
noncomputable def oZ:Sm:=
 mw qY (wK 2 (oG (kI 6) (oG (kI 7) wF)))
 qR
noncomputable def sO:Sm:=
 jZ (ku uY (kI 2))
 (jZ (ku uY (kI 3))
 (jZ (mw o4 (wK 2 (oG (kI 4) (oG (kI 5) wF)))
 oZ)
 (lA (eFn mh (jA (jD 2) jF)))))
noncomputable def nW:List A->jG->R A:=mE tF sO
noncomputable abbrev sG:aE:=top 28
noncomputable abbrev r_:List Str:=["one"]
noncomputable abbrev r6:List Str:=["one"]
noncomputable def rX:Sm:=
 lA (j8 (f1 yG) (jA (kZ [none,none] (nE (jD 0)) (wK 2 (oG (kI 0) (oG (kI 1) wF))) sJ (lV (jA (eFn oS (jA (jD 0) jF)) (jA (jD 1) jF)))) jF))
noncomputable def mJ:List A->jG->R A:=mE r_ rX
noncomputable abbrev xO:aE:=top 29
noncomputable abbrev uT:List Str:=["one", "other"]
noncomputable abbrev uK:List Str:=["one", "other"]
noncomputable def uC:Sm:=
 jZ (pF (eFn m_ (jA (jD 0) (jA (jD 1) jF))))
 (jZ (wJ (vm (jO XF (j8 (f1 tN) (jA (jD 0) jF)) (j8 (f1 tN) (jA (jD 1) jF))))
 (lA (eFn nW (jA (jD 0) (jA (jD 1) jF))))
 oQ)
 (lA (eFn mJ (jA (eFn nW (jA (eFn mJ (jA (jD 1) jF)) (jA (eFn mJ (jA (jD 0) jF)) jF))) jF))))
noncomputable def lG:List A->jG->R A:=mE uT uC
noncomputable abbrev rT:aE:=top 31
noncomputable abbrev sq:List Str:=["order", "left", "word", "can_begin"]
noncomputable abbrev ow:List Str:=["order"]
noncomputable def pZ:Te:=
 AX (jD 3)
noncomputable def qi:Sm:=
 jZ (pF (Vp uL (jD 2) (jA (jO sL (jD 3) (eC (.int 0))) jF)))
 (jZ (ku (eFn kJ (jA (jD 1) (jA (jO sL (jD 3) (eC (.int 0))) jF))) (kI 1))
 (ku (eFn oE (jA (jD 1) jF)) (kI 3)))
noncomputable def rY:Sm:=
 jZ (ku (eFn oS (jA (jD 0) jF)) (kI 1))
 (jZ (ku (lX jF) (kI 2))
 (jZ (ku (eFn oE (jA (jD 1) jF)) (kI 3))
 (jZ (nP pZ
 qi 1000000)
 (lA (jD 2)))))
noncomputable def lN:List A->jG->R A:=mE sq rY
noncomputable abbrev oA:aE:=top 33
noncomputable abbrev m8:List Str:=["order", "known", "word", "ahead"]
noncomputable abbrev mj:List Str:=["order", "known"]
noncomputable def mZ (Fs:List A->jG->R A):Sm:=
 jZ (wJ (vm (jO (KC true) (jD 0) (jD 1)))
 (jZ (ku (eFn lN (jA (jD 0) jF)) (kI 2))
 (wJ (AX (jD 2))
 (jZ (ku (eFn Fs (jA (eFn kJ (jA (jD 0) (jA (jO sL (jD 2) (Kg xR (eC (.int 1)))) jF))) (jA (jD 1) jF))) (kI 3))
 (ku (eFn ux (jA (eFn ko (jA (jD 3) (jA (jO sL (jD 2) (Kg xR (eC (.int 1)))) jF))) (jA (eFn rF (jA (j8 (f1 tM) (jA (eC (.frz ([((-1:Int),(-1:Int)),((1:Int),(1:Int))].map kA))) jF)) (jA (jD 3) jF))) jF))) (B4 (jD 1) (jD 0))))
 (ku (lX (jA (lV (jA (jD 0) (jA (lX (jA (lV (jA (eC (.int 0)) (jA (eC (.int 1)) jF))) jF)) jF))) jF)) (B4 (jD 1) (jD 0)))))
 oQ)
 (lA (jO vH (jD 1) (jD 0)))
noncomputable def mP:Nat->List A->jG->R A
 | 0=>λ_ _=>.no
 | k+1=>mE m8 (mZ (mP k))
noncomputable def p7:List A->jG->R A:=mP 26
noncomputable abbrev w_:aE:=top 34
noncomputable abbrev wR:List Str:=["one", "found", "known", "order", "poly", "at", "many"]
noncomputable abbrev xN:List Str:=["one"]
noncomputable def sN:Ic:=
 nE (eFn p7 (jA (jD 3) (jA (jD 2) jF)))
noncomputable def tR:Sm:=
 pF (eFn j_ (jA (jD 1) (jA (jD 5) (jA (eFn ng (jA (eFn t9 (jA (jD 4) jF)) (jA (jD 6) jF))) jF))))
noncomputable def qw:Ic:=
 nE (jD 0)
noncomputable def qy:Sm:=
 mw sN (wK 2 (oG (kI 5) (oG (kI 6) wF)))
 tR
noncomputable def xh:Sm:=
 jZ (ku uY (kI 1))
 (jZ (ku uY (kI 2))
 (jZ (mw qw (wK 2 (oG (kI 3) (oG (kI 4) wF)))
 qy)
 (lA (eFn mh (jA (jD 1) jF)))))
noncomputable def nh:List A->jG->R A:=mE wR xh
noncomputable abbrev wX:aE:=top 36
noncomputable abbrev wY:List Str:=["_law_script", "_law_at", "_law_cell", "_law_great"]
noncomputable abbrev xP:List Str:=["_law_script", "_law_at"]
noncomputable def wV:Sm:=
 jZ (ku (eC (.int 0)) (kI 2))
 (jZ (wJ (vm (jO XQ (jD 1) (j8 (f1 tN) (jA (jD 0) jF))))
 (ku (jO sL (jD 0) (jD 1)) (kI 2))
 oQ)
 (jZ (ku (eC (.int 0)) (kI 3))
 (jZ (wJ (vm (jO XF (jD 2) (jO Fy (eC (.int 10)) (eC (.int 18)))))
 (ku (jD 2) (kI 3))
 oQ)
 (lA (lX (jA (jD 3) (jA (jO B8 (jO nu (jO nu (jD 2) (jO BY (eC (.int 7919)) (jD 1))) (eC (.int 13))) (eC (.int 2147483647))) jF)))))))
noncomputable def rD:List A->jG->R A:=mE wY wV
noncomputable abbrev ud:aE:=top 37
noncomputable abbrev qH:List Str:=["_law_bag_here", "_law_many", "_law_found"]
noncomputable abbrev o6:List Str:=["_law_bag_here", "_law_many"]
noncomputable def qt:Sm:=
 jZ (wJ (vm (jO VG (jO sL (jD 0) (eC (.int 0))) (eC (.int 0))))
 (jZ (ku (jO B8 (jO sL (jD 0) (eC (.int 0))) (jD 1)) (kI 2))
 (jZ (ku (jO Hx (jO sL (jD 0) (eC (.int 0))) (jD 1)) (Wa (jD 0) (eC (.int 0))))
 (lA (jD 2))))
 oQ)
 (jZ (ku (jO B8 (jO nu (jO BY (jO sL (jD 0) (eC (.int 1))) (eC (.int 48271))) (eC (.int 11))) (eC (.int 2147483647))) (Wa (jD 0) (eC (.int 1))))
 (lA (jO B8 (jO B8 (jO BY (jO Hx (jO sL (jD 0) (eC (.int 1))) (eC (.int 8))) (eC (.int 69621))) (eC (.int 2147483629))) (jD 1))))
noncomputable def jT:List A->jG->R A:=mE qH qt
noncomputable abbrev tH:aE:=top 38
noncomputable abbrev s_:List Str:=["_law_bag_here", "_law_n", "_law_left", "_law_made"]
noncomputable abbrev qC:List Str:=["_law_bag_here", "_law_n"]
noncomputable def qS:Te:=
 vm (jO VG (j8 (f1 tN) (jA (jD 2) jF)) (eC (.int 0)))
noncomputable def qK:Sm:=
 pF (Vp uL (jD 3) (jA (Vp FE (jD 2) (jA (eFn jT (jA (jD 0) (jA (j8 (f1 tN) (jA (jD 2) jF)) jF))) jF)) jF))
noncomputable def tP:Sm:=
 jZ (ku (j8 (f1 tM) (jA (j8 (f2 r8) (jA (eC (.int 1)) (jA (jO nu (jD 1) (eC (.int 1))) jF))) jF)) (kI 2))
 (jZ (ku (lX jF) (kI 3))
 (jZ (nP qS
 qK 1000000)
 (lA (j8 (f1 oO) (jA (jD 3) jF)))))
noncomputable def k_:List A->jG->R A:=mE s_ tP
noncomputable abbrev pJ:aE:=top 39
noncomputable abbrev pG:List Str:=["_law_bag_here", "_law_n", "_law_most", "_law_held", "_law_k", "_law_one", "_law_power", "_law_own", "_law_shift"]
noncomputable abbrev pI:List Str:=["_law_bag_here", "_law_n", "_law_most"]
noncomputable def qI:Ic:=
 zf (jO nu (eC (.int 1)) (eFn jT (jA (jD 0) (jA (jD 2) jF))))
noncomputable def qz:Sm:=
 jZ (ku (eFn k_ (jA (jD 0) (jA (jD 1) jF))) (kI 5))
 (jZ (ku (jO aSub (eFn jT (jA (jD 0) (jA (eC (.int 5)) jF))) (eC (.int 2))) (kI 6))
 (jZ (ku (lX (jA (lV (jA (jD 6) (jA (jO nu (eC (.int 1)) (eFn jT (jA (jD 0) (jA (eC (.int 3)) jF)))) jF))) jF)) (kI 7))
 (jZ (wJ (vm (jO (sM false) (eFn jT (jA (jD 0) (jA (eC (.int 2)) jF))) (eC (.int 1))))
 (pF (Vp uL (jD 7) (jA (lV (jA (jO nu (jO nu (jD 6) (eC (.int 1))) (eFn jT (jA (jD 0) (jA (eC (.int 3)) jF)))) (jA (jO sL (lX (jA (Kg xR (eC (.int 2))) (jA (Kg xR (eC (.int 1))) (jA (eC (.int 1)) (jA (jO Fy (eC (.int 10)) (eC (.int 20))) jF))))) (eFn jT (jA (jD 0) (jA (eC (.int 4)) jF)))) jF))) jF)))
 oQ)
 (jZ (ku (jO sL (lX (jA (eC (.int 0)) (jA (eC (.int 0)) (jA (eC (.int 55)) (jA (Kg xR (eC (.int 55))) jF))))) (eFn jT (jA (jD 0) (jA (eC (.int 4)) jF)))) (kI 8))
 (ku (kZ [none,none,some 8] (nE (jD 7)) (wK 2 (oG (kI 0) (oG (kI 1) wF))) sJ (lV (jA (jO nu (jD 0) (jD 2)) (jA (jD 1) jF)))) (B4 (jD 3) (jD 5)))))))
noncomputable def pQ:Sm:=
 jZ (ku uY (kI 3))
 (jZ (mw qI (kI 4)
 qz)
 (lA (kZ [none,some 3] (nE (j8 (f1 xD) (jA (jD 3) jF))) (kI 0) sJ (lV (jA (jD 0) (jA (jO vH (jD 1) (jD 0)) jF))))))
noncomputable def kW:List A->jG->R A:=mE pG pQ
noncomputable abbrev tX:aE:=top 40
noncomputable abbrev uc:List Str:=["_law_some"]
noncomputable abbrev sV:List Str:=["_law_some"]
noncomputable def sP:Sm:=
 lA (j8 (f1 yG) (jA (kZ [none,none] (nE (jD 0)) (wK 2 (oG (kI 0) (oG (kI 1) wF))) sJ (lV (jA (eFn oS (jA (jD 0) jF)) (jA (j8 (f1 tM) (jA (jD 1) jF)) jF)))) jF))
noncomputable def kF:List A->jG->R A:=mE uc sP
noncomputable abbrev nN:aE:=top 41
noncomputable abbrev nR:List Str:=["_law_one", "_law_other", "_law_plain", "_law_some", "_law_own"]
noncomputable abbrev nK:List Str:=["_law_one", "_law_other"]
noncomputable def o8:Ic:=
 nE (eFn lG (jA (lX (jA (lV (jA (jD 0) (jA (lX (jA (lV (jA (eC (.int 0)) (jA (eC (.int 1)) jF))) jF)) jF))) jF)) (jA (lX (jA (lV (jA (eFn oS (jA (jD 1) jF)) (jA (lX (jA (lV (jA (eC (.int 0)) (jA (eC (.int 1)) jF))) jF)) jF))) jF)) jF)))
noncomputable def pC:Sm:=
 wJ (vm (jO (sM false) (jD 3) (jD 2)))
 (lA (jD 4))
 oQ
noncomputable def nU:Sm:=
 jZ (ku (j8 (f1 oO) (jA (j8 (f2 r8) (jA (eC (.int 1)) (jA (jO nu (j8 (f1 tN) (jA (jD 0) jF)) (eC (.int 1))) jF))) jF)) (kI 2))
 (jZ (mw o8 (wK 2 (oG (kI 3) (oG (kI 4) wF)))
 pC)
 (lA (lX jF)))
noncomputable def kO:List A->jG->R A:=mE nR nU
noncomputable abbrev Nf:aE:=top 42
noncomputable abbrev MI:List Str:=["_law_script", "_law_k", "_law_bag_here", "_law_n", "_law_most", "_law_one", "_law_other", "_law_first", "_law_second", "_law_some", "_law_at"]
noncomputable abbrev Ue:List Str:=["_law_script"]
noncomputable def yk:Ic:=
 nE (eFn lN (jA (jD 7) jF))
noncomputable def yO:Sm:=
 ku (eFn ko (jA (jD 9) (jA (jD 10) jF))) (kI 9)
noncomputable def HL:Ic:=
 zf (j8 (f2 M7) (jA (eC (.int 1)) (jA (j8 (f2 NO) (jA (j8 (f1 tN) (jA (jD 0) jF)) (jA (eC (.int 2)) jF))) jF)))
noncomputable def G9:Sm:=
 jZ (ku (eFn rD (jA (jD 0) (jA (jD 1) jF))) (kI 2))
 (jZ (ku (jO sL (jO sL (lX (jA (lX (jA (eC (.int 2)) (jA (eC (.int 3)) (jA (eC (.int 3)) (jA (eC (.int 4)) (jA (eC (.int 4)) (jA (eC (.int 4)) (jA (eC (.int 4)) (jA (eC (.int 5)) jF))))))))) (jA (lX (jA (eC (.int 2)) (jA (eC (.int 3)) (jA (eC (.int 3)) (jA (eC (.int 4)) (jA (eC (.int 4)) (jA (eC (.int 3)) (jA (eC (.int 4)) (jA (eC (.int 4)) jF))))))))) jF))) (j8 (f1 zF) (jA (jO VG (jD 1) (eC (.int 0))) jF))) (eFn jT (jA (jD 2) (jA (eC (.int 8)) jF)))) (kI 3))
 (jZ (ku (jO sL (lX (jA (eC (.int 2)) (jA (eC (.int 1)) jF))) (j8 (f1 zF) (jA (jO (sM false) (jD 3) (eC (.int 5))) jF))) (kI 4))
 (jZ (ku (eFn kW (jA (jD 2) (jA (jD 3) (jA (jD 4) jF)))) (kI 5))
 (jZ (ku (eFn kW (jA (jD 2) (jA (jD 3) (jA (jD 4) jF)))) (kI 6))
 (jZ (wJ (vm (jO (sM true) (eFn kF (jA (eFn lG (jA (jD 5) (jA (jD 6) jF))) jF)) (eFn lG (jA (eFn kF (jA (jD 6) jF)) (jA (eFn kF (jA (jD 5) jF)) jF)))))
 (lA (eC (.bl false)))
 oQ)
 (jZ (wJ (vm (jO (sM true) (eFn kF (jA (eFn nh (jA (jD 5) jF)) jF)) (eFn nh (jA (eFn kF (jA (jD 5) jF)) jF))))
 (lA (eC (.bl false)))
 oQ)
 (jZ (ku (eFn k_ (jA (jD 2) (jA (jD 3) jF))) (kI 7))
 (jZ (ku (eFn k_ (jA (jD 2) (jA (jD 3) jF))) (kI 8))
 (jZ (wJ (vm (jO (sM false) (eFn jT (jA (jD 2) (jA (eC (.int 2)) jF))) (eC (.int 1))))
 (ku (jD 7) (kI 8))
 oQ)
 (jZ (wJ (vm (jO (sM true) (eFn kO (jA (jD 7) (jA (jD 8) jF))) (jO sL (lX (jA (lX jF) (jA (lX (jA (lV (jA (eC (.int 0)) (jA (eC (.int 1)) jF))) jF)) jF))) (j8 (f1 zF) (jA (jO (sM false) (jD 7) (jD 8)) jF)))))
 (lA (eC (.bl false)))
 oQ)
 (jZ (ku (lX (jA (lV (jA (j8 (f1 oO) (jA (j8 (f2 r8) (jA (eC (.int 1)) (jA (jO nu (jD 3) (eC (.int 1))) jF))) jF)) (jA (lX (jA (lV (jA (eC (.int 0)) (jA (eC (.int 1)) jF))) jF)) jF))) jF)) (kI 9))
 (jZ (mw yk (kI 10)
 yO)
 (wJ (vm (jO (sM true) (jD 9) (lX (jA (lV (jA (jD 7) (jA (lX (jA (lV (jA (eC (.int 0)) (jA (eC (.int 1)) jF))) jF)) jF))) jF))))
 (lA (eC (.bl false)))
 oQ)))))))))))))
noncomputable def N3:Sm:=
 jZ (mw HL (kI 1)
 G9)
 (lA (eC (.bl true)))
noncomputable def A_:List A->jG->R A:=mE MI N3
section
variable {P:aj}{w:ah}{K:au}{mg:Str->Option af}{base:aq}{f:ak}{fd:FuncData}
theorem E3:FnScope vd u9 (jQ vj):=vh rfl rfl rfl (by decide +kernel)
theorem DU(F:Fun K "is_whole" "is_whole" vj f fd)(aaW:mg "isinstance" = none)(aa0:mg "bool" = none)(aaN:mg "int" = none):FnOk P w K mg base qj 1 f fd u9 (rf K 1 qg):=vc (m:=vA) F E3 λcdv B outer s H E hr=>
 jL (kj (Nz (kG SV aaW uZ (jC (jB 0) (jC (SD aaN Cj) jJ))) (Nq (WC (kG SV aaW uZ (jC (jB 0) (jC (SD aa0 Qk) jJ)))))))
theorem CI:FnScope sW sS (jQ tW):=vh rfl rfl rfl (by decide +kernel)
theorem CK(F:Fun K "need_pair" "need_pair" tW f fd)(aac:mg "len" = none):FnOk P w K mg base qj 1 f fd sS (rf K 2 o9):=vc (m:=t7) F CI λcdv B outer s H E hr=>
 jL (oz (mU (Kx hr.units) (kG sI aac pL (jC (jB 0) jJ)) (kG sI aac pL (jC (jB 1) jJ)))
 (jL (Uk))
 lK)
theorem yy:FnScope GL xq (jQ F2):=vh rfl rfl rfl (by decide +kernel)
theorem Sk(F:Fun K "back" "back" F2 f fd)(aac:mg "len" = none)(aa1:mg "enumerate" = none)(aaw:mg "tuple" = none):FnOk P w K mg base qj 1 f fd xq (rf K 1 oS):=vc (m:=F_) F yy λcdv B outer s H E hr=>
 jI (j0 (i:=1) yy.nd (kc Jd (kR (jC jH jJ)) (kG sI aac pL (jC (jB 0) jJ))))
 (jI (nV bX rfl (Wc aa1 (jB 0)) (m7 rfl (jV (jX (i:=2) yy.nd) (jV (jX (i:=3) yy.nd) lH)))
 (jL (pO (kc oH (jB 2) jH) (zB (jB 1) (kc zm (jB 3) jH)))))
 (jL (kj (kQ (vL rfl) aaw tK (jC (jB 1) jJ)))))
theorem zJ:FnScope qN qZ (jQ qQ):=vh rfl rfl rfl (by decide +kernel)
theorem zw(F:Fun K "is_exchange" "is_exchange" qQ f fd)(aa2:mW P w K mg base 1 "is_whole" u9 qg):FnOk P w K mg base qj 2 f fd qZ (rf K 2 nF):=vc (m:=qP) F zJ λcdv B outer s H E hr=>
 jL (kj (Nz (xH aa2 hr (jB 1)) (Nq (Xe aas (YG hr.units) jH (jB 1) (jB 0)))))
theorem pR:FnScope nM nQ (jQ nS):=vh rfl rfl rfl (by decide +kernel)
theorem uX(F:Fun K "exchanged_places" "exchanged_places" nS f fd)(aae:mg "list" = none)(aaw:mg "tuple" = none):FnOk P w K mg base qj 1 f fd nQ (rf K 3 lg):=vc (m:=nL) F pR λcdv B outer s H E hr=>
 jI (j0 (i:=3) pR.nd (kQ (zg rfl) aae wA (jC (jB 0) jJ)))
 (jI (pO (lR (jC (mC (jB 3) (kc zm (jB 2) jH)) (jC (mC (jB 3) (kc zm (jB 1) jH)) jJ))) (m7 rfl (jV (zB (jB 3) (kc zm (jB 1) jH)) (jV (zB (jB 3) (kc zm (jB 2) jH)) lH))))
 (jL (kj (kQ (vL rfl) aaw tK (jC (jB 3) jJ)))))
theorem Ca:FnScope uh mD (jQ tD):=vh rfl rfl rfl (by decide +kernel)
theorem Dd(F:Fun K "exchanged" "exchanged" tD f fd)(aac:mg "len" = none)(aa3:mW P w K mg base 2 "is_exchange" qZ nF)(aa4:mW P w K mg base 1 "exchanged_places" nQ lg):FnOk P w K mg base qj 3 f fd mD (rf K 2 kJ):=vc (m:=sR) F Ca λcdv B outer s H E hr=>
 jI (oz (VA (vD (uW aa3 hr (kG sI aac pL (jC (jB 0) jJ)) (jB 1))))
 (jL (Uk))
 lK)
 (jL (kj (PK aa4 hr (jB 0) (jB 1) (kc oH (jB 1) jH))))
theorem NP:FnScope CS uJ (jQ Cy):=vh rfl rfl rfl (by decide +kernel)
theorem N4(F:Fun K "falls" "falls" Cy f fd)(aam:mg "range" = none)(aac:mg "len" = none):FnOk P w K mg base qj 1 f fd uJ (rf K 1 oE):=vc (m:=Cd) F NP λcdv B outer s H E hr=>
 jL (kj (qp (N:=["k", "order"]) (cap:=[none,some 0]) rfl (xW ["order"] rfl (by decide +kernel) (by decide +kernel) (by decide +kernel) (by decide +kernel) (by decide +kernel) (fj.mpr ⟨by first|exact Or.inl rfl|exact Or.inr rfl,(λ_ h=>nomatch h)⟩) ⟨rfl,by decide +kernel,trivial⟩) (JP aam jH (kG sI aac pL (jC (jB 0) jJ))) (λ_ _ _ _=>jX (i:=0) (show(["k", "order"]:List Str).Nodup by decide +kernel) rfl (Or.inl rfl) (.inr rfl)) (λ_ _ _ _=>Cp (mU (RI hr.units) (mC (jB 1) (kc zm (jB 0) jH)) (mC (jB 1) (jB 0)))) (λ_ _ _ _=>jB 0)))
theorem w6:FnScope pH nH (jQ pM):=vh rfl rfl rfl (by decide +kernel)
theorem xC(F:Fun K "as_polynomial" "as_polynomial" pM f fd)(aay:mg "sorted" = none):FnOk P w K mg base qj 1 f fd nH (rf K 1 kX):=vc (m:=pN) F w6 λcdv B outer s H E hr=>
 jL (kj (qp (N:=["power", "numbers"]) (cap:=[none,some 0]) rfl (xW ["numbers"] rfl (by decide +kernel) (by decide +kernel) (by decide +kernel) (by decide +kernel) (by decide +kernel) (fj.mpr ⟨by first|exact Or.inl rfl|exact Or.inr rfl,(λ_ h=>nomatch h)⟩) ⟨rfl,by decide +kernel,trivial⟩) (mV (kG (RC rfl) aay rH (jC (jB 0) jJ))) (λ_ _ _ _=>jX (i:=0) (show(["power", "numbers"]:List Str).Nodup by decide +kernel) rfl (Or.inl rfl) (.inr rfl)) (λ_ _ _ _=>Cp (mU (Kx hr.units) (MP hr.units (jB 1) (jB 0)) jH)) (λ_ _ _ _=>lR (jC (jB 0) (jC (MP hr.units (jB 1) (jB 0)) jJ)))))
theorem yq:FnScope F9 FH (jQ FL):=vh rfl rfl rfl (by decide +kernel)
theorem Ra(F:Fun K "plus" "plus" FL f fd)(aa5:mg "dict" = none)(aaR:mW P w K mg base 1 "as_polynomial" nH kX):FnOk P w K mg base qj 2 f fd FH (rf K 2 zv):=vc (m:=Fx) F yq λcdv B outer s H E hr=>
 jI (j0 (i:=2) yq.nd (kQ (P5 rfl) aa5 PU (jC (jB 0) jJ)))
 (jI (nV bX rfl (mV (jB 1)) (m7 rfl (jV (jX (i:=3) yq.nd) (jV (jX (i:=4) yq.nd) lH)))
 (jL (pO (kc oH (NI dH iC (LA hr.units) (jB 2) (jC (jB 3) (jC jH jJ))) (jB 4)) (Ii hr.units (jB 2) (jB 3)))))
 (jL (kj (xH aaR hr (jB 2)))))
theorem rE:FnScope CM ur (jQ BV):=vh rfl rfl rfl (by decide +kernel)
theorem NW(F:Fun K "times" "times" BV f fd)(aaR:mW P w K mg base 1 "as_polynomial" nH kX):FnOk P w K mg base qj 2 f fd ur (rf K 2 ng):=vc (m:=C1) F rE λcdv B outer s H E hr=>
 jI (j0 (i:=2) rE.nd OI)
 (jI (nV bX rfl (mV (jB 0)) (m7 rfl (jV (jX (i:=3) rE.nd) (jV (jX (i:=4) rE.nd) lH)))
 (jL (nV bX rfl (mV (jB 1)) (m7 rfl (jV (jX (i:=5) rE.nd) (jV (jX (i:=6) rE.nd) lH)))
 (jL (pO (kc oH (NI dH iC (LA hr.units) (jB 2) (jC (kc oH (jB 3) (jB 5)) (jC jH jJ))) (kc Vv (jB 4) (jB 6))) (Ii hr.units (jB 2) (kc oH (jB 3) (jB 5))))))))
 (jL (kj (xH aaR hr (jB 2)))))
theorem J1:FnScope zc yZ (jQ zM):=vh rfl rfl rfl (by decide +kernel)
theorem Kq(F:Fun K "turned" "turned" zM f fd)(aa6:mg "reversed" = none):FnOk P w K mg base qj 1 f fd yZ (rf K 1 t9):=vc (m:=zT) F J1 λcdv B outer s H E hr=>
 jL (kj (qp (N:=["power", "number"]) (cap:=[none,none]) rfl (xW [] rfl (by decide +kernel) (by decide +kernel) (by decide +kernel) (by decide +kernel) (by decide +kernel) (λ_ h=>nomatch h) trivial) (Vi aa6 (jB 0)) (λ_ _ _ _=>m7 rfl (jV (jX (i:=0) (show(["power", "number"]:List Str).Nodup by decide +kernel) rfl (Or.inl rfl) (.inr rfl)) (jV (jX (i:=1) (show(["power", "number"]:List Str).Nodup by decide +kernel) rfl (Or.inl rfl) (.inr rfl)) lH))) (λ_ _ _ _=>vP) (λ_ _ _ _=>lR (jC (wU (jB 0)) (jC (jB 1) jJ)))))
theorem AN:FnScope sH mH (jQ su):=vh rfl rfl rfl (by decide +kernel)
theorem AO(F:Fun K "put_before" "put_before" su f fd)(aa7:mW P w K mg base 2 "plus" FH zv):FnOk P w K mg base qj 3 f fd mH (rf K 3 j_):=vc (m:=se) F AN λcdv B outer s H E hr=>
 jL (pO (uW aa7 hr (WL dH iC (Yd hr.units) (jB 0) (jC (jB 1) (jC (kR jJ) jJ))) (jB 2)) (uM hr.units (jB 0) (jB 1)))
theorem KH:FnScope zI pX (jQ Ar):=vh rfl rfl rfl (by decide +kernel)
theorem KA(F:Fun K "as_sum" "as_sum" Ar f fd)(aay:mg "sorted" = none):FnOk P w K mg base qj 1 f fd pX (rf K 1 mh):=vc (m:=An) F KH λcdv B outer s H E hr=>
 jL (kj (qp (N:=["order", "found"]) (cap:=[none,some 0]) rfl (xW ["found"] rfl (by decide +kernel) (by decide +kernel) (by decide +kernel) (by decide +kernel) (by decide +kernel) (fj.mpr ⟨by first|exact Or.inl rfl|exact Or.inr rfl,(λ_ h=>nomatch h)⟩) ⟨rfl,by decide +kernel,trivial⟩) (mV (kG (GQ rfl) aay rH (jC (jB 0) jJ))) (λ_ _ _ _=>jX (i:=0) (show(["order", "found"]:List Str).Nodup by decide +kernel) rfl (Or.inl rfl) (.inr rfl)) (λ_ _ _ _=>Cp (vD (Au hr.units (jB 1) (jB 0)))) (λ_ _ _ _=>lR (jC (jB 0) (jC (Au hr.units (jB 1) (jB 0)) jJ)))))
theorem C9:FnScope sQ qD (jQ t_):=vh rfl rfl rfl (by decide +kernel)
theorem CV(F:Fun K "need_like" "need_like" t_ f fd)(aa8:mW P w K mg base 1 "need_pair" sS o9):FnOk P w K mg base qj 2 f fd qD (rf K 2 m_):=vc (m:=ue) F C9 λcdv B outer s H E hr=>
 jL (oz (AW.at (VM (vD (jB 0)) (Rf (vD (jB 1)))))
 (jL (nI (uW aa8 hr (mC (mC (jB 0) jH) jH) (mC (mC (jB 1) jH) jH))))
 lK)
theorem vR:FnScope Cf yj (jQ BW):=vh rfl rfl rfl (by decide +kernel)
theorem MM(F:Fun K "added" "added" BW f fd)(aaS:mW P w K mg base 2 "need_like" qD m_)(aaq:mW P w K mg base 3 "put_before" mH j_)(aaB:mW P w K mg base 1 "as_sum" pX mh):FnOk P w K mg base qj 4 f fd yj (rf K 2 ux):=vc (m:=C8) F vR λcdv B outer s H E hr=>
 jI (nI (uW aaS hr (jB 0) (jB 1)))
 (jI (j0 (i:=2) vR.nd qq)
 (jI (nV bX rfl (mV (kc oH (jB 0) (jB 1))) (m7 rfl (jV (jX (i:=3) vR.nd) (jV (jX (i:=4) vR.nd) lH)))
 (jL (nI (PK aaq hr (jB 2) (jB 3) (jB 4)))))
 (jL (kj (xH aaB hr (jB 2))))))
theorem uH:FnScope Ae vW (jQ Ay):=vh rfl rfl rfl (by decide +kernel)
theorem K4(F:Fun K "scaled" "scaled" Ay f fd)(aaq:mW P w K mg base 3 "put_before" mH j_)(aaK:mW P w K mg base 2 "times" ur ng)(aaB:mW P w K mg base 1 "as_sum" pX mh):FnOk P w K mg base qj 4 f fd vW (rf K 2 rF):=vc (m:=zW) F uH λcdv B outer s H E hr=>
 jI (j0 (i:=2) uH.nd qq)
 (jI (nV bX rfl (mV (jB 1)) (m7 rfl (jV (jX (i:=3) uH.nd) (jV (jX (i:=4) uH.nd) lH)))
 (jL (nI (PK aaq hr (jB 2) (jB 3) (uW aaK hr (jB 0) (jB 4))))))
 (jL (kj (xH aaB hr (jB 2)))))
theorem oq:FnScope qO lQ (jQ qX):=vh rfl rfl rfl (by decide +kernel)
theorem zb(F:Fun K "by_exchange" "by_exchange" qX f fd)(aae:mg "list" = none)(h_AT_A_FALL:∃a,mg "AT_A_FALL" = some (.ref a)/\PJ K a=some [((-1:Int),(1:Int)),((1:Int),(-1:Int))])(aaq:mW P w K mg base 3 "put_before" mH j_)(aaj:mW P w K mg base 3 "exchanged" mD kJ)(aaH:mW P w K mg base 1 "falls" uJ oE)(aaK:mW P w K mg base 2 "times" ur ng)(aaB:mW P w K mg base 1 "as_sum" pX mh):FnOk P w K mg base qj 4 f fd lQ (rf K 2 ko):=vc (m:=qM) F oq λcdv B outer s H E hr=>
 jI (j0 (i:=2) oq.nd qq)
 (jI (nV bX rfl (mV (jB 0)) (m7 rfl (jV (jX (i:=3) oq.nd) (jV (jX (i:=4) oq.nd) lH)))
 (jI (nI (PK aaq hr (jB 2) (uW aaj hr (jB 3) (jB 1)) (jB 4)))
 (jL (oz (mU (ZX hr.units) (jB 1) (xH aaH hr (jB 3)))
 (jL (nI (PK aaq hr (jB 2) (jB 3) (uW aaK hr (kQ (zg rfl) aae wA (jC (El h_AT_A_FALL.choose_spec.1 h_AT_A_FALL.choose_spec.2) jJ)) (jB 4)))))
 lK))))
 (jL (kj (xH aaB hr (jB 2)))))
theorem ug:FnScope p6 oJ (jQ rW):=vh rfl rfl rfl (by decide +kernel)
theorem DN{Fs:List A->jG->R A}(F:Fun K "by_order" "by_order" rW f fd)(aaH:mW P w K mg base 1 "falls" uJ oE)(aaj:mW P w K mg base 3 "exchanged" mD kJ)(aaE:mW P w K mg base 4 "by_exchange" lQ ko)(aa9:mW P w K mg base (5+kr) "by_order" oJ Fs):FnOk P w K mg base qj (5+kr+1) f fd oJ (rf K 3 (mE p6 (qa Fs))):=vc (m:=qa Fs) F ug λcdv B outer s H E hr=>
 jI (oz (mU (EG hr.units) (jB 1) (jB 2))
 (jI (j0 (i:=3) ug.nd (rR aaH (hr.mono (by lia)) (jC (jB 1) jJ) (kg nj)))
 (jL (oz (vD (jB 3))
 (jI (j0 (i:=4) ug.nd (rR aa9 (hr.mono (by lia)) (jC (jB 0) (jC (rR aaj (hr.mono (by lia)) (jC (jB 1) (jC (mC (jB 3) jH) jJ)) (kg (kg nj))) (jC (jB 2) jJ))) (kg (kg (kg nj)))))
 (jL (pO (rR aaE (hr.mono (by lia)) (jC (jB 4) (jC (mC (jB 3) jH) jJ)) (kg (kg nj))) (uM hr.units (jB 2) (jB 1)))))
 (jL (pO (jB 0) (uM hr.units (jB 2) (jB 1)))))))
 lK)
 (jL (kj (Au hr.units (jB 2) (jB 1))))
theorem vG(F:Fun K "by_order" "by_order" rW f fd)(aaH:mW P w K mg base 1 "falls" uJ oE)(aaj:mW P w K mg base 3 "exchanged" mD kJ)(aaE:mW P w K mg base 4 "by_exchange" lQ ko)(hm:mg "by_order" = some (.ref f))(hk:PySem.W.keepIn K (.ref f)=true)(hb:Binds K fd oJ []):∀kr,FnOk P w K mg base qj (5+kr) f fd oJ (rf K 3 (o7 kr))
 | 0=>Lj rfl
 | kr+1=>DN F aaH aaj aaE ⟨f,fd,vG F aaH aaj aaE hm hk hb kr,hm,hk,hb⟩
theorem mK:FnScope tF sY (jQ tQ):=vh rfl rfl rfl (by decide +kernel)
theorem B6(F:Fun K "by_orders" "by_orders" tQ f fd)(aa_:mW P w K mg base 31 "by_order" oJ vf)(aaq:mW P w K mg base 3 "put_before" mH j_)(aaK:mW P w K mg base 2 "times" ur ng)(aaB:mW P w K mg base 1 "as_sum" pX mh):FnOk P w K mg base qj 32 f fd sY (rf K 2 nW):=vc (m:=sO) F mK λcdv B outer s H E hr=>
 jI (j0 (i:=2) mK.nd qq)
 (jI (j0 (i:=3) mK.nd qq)
 (jI (nV bX rfl (mV (jB 1)) (m7 rfl (jV (jX (i:=4) mK.nd) (jV (jX (i:=5) mK.nd) lH)))
 (jL (nV bX rfl (mV (PK aa_ hr (jB 0) (jB 4) (jB 3))) (m7 rfl (jV (jX (i:=6) mK.nd) (jV (jX (i:=7) mK.nd) lH)))
 (jL (nI (PK aaq hr (jB 2) (jB 6) (uW aaK hr (jB 5) (jB 7))))))))
 (jL (kj (xH aaB hr (jB 2))))))
theorem AM:FnScope r_ r6 (jQ sG):=vh rfl rfl rfl (by decide +kernel)
theorem AQ(F:Fun K "with_backs" "with_backs" sG f fd)(aay:mg "sorted" = none)(aaL:mW P w K mg base 1 "back" xq oS):FnOk P w K mg base qj 2 f fd r6 (rf K 1 mJ):=vc (m:=rX) F AM λcdv B outer s H E hr=>
 jL (kj (kG (EY hr.units) aay rH (jC (qp (N:=["order", "poly"]) (cap:=[none,none]) rfl (xW [] rfl (by decide +kernel) (by decide +kernel) (by decide +kernel) (by decide +kernel) (by decide +kernel) (λ_ h=>nomatch h) trivial) (mV (jB 0)) (λ_ _ _ _=>m7 rfl (jV (jX (i:=0) (show(["order", "poly"]:List Str).Nodup by decide +kernel) rfl (Or.inl rfl) (.inr rfl)) (jV (jX (i:=1) (show(["order", "poly"]:List Str).Nodup by decide +kernel) rfl (Or.inl rfl) (.inr rfl)) lH))) (λ_ _ _ _=>vP) (λ_ _ _ _=>lR (jC (xH aaL hr (jB 0)) (jC (jB 1) jJ)))) jJ)))
theorem Gp:FnScope uT uK (jQ xO):=vh rfl rfl rfl (by decide +kernel)
theorem FQ(F:Fun K "product" "product" xO f fd)(aac:mg "len" = none)(aaS:mW P w K mg base 2 "need_like" qD m_)(aaX:mW P w K mg base 32 "by_orders" sY nW)(aaV:mW P w K mg base 2 "with_backs" r6 mJ):FnOk P w K mg base qj 33 f fd uK (rf K 2 lG):=vc (m:=uC) F Gp λcdv B outer s H E hr=>
 jI (nI (uW aaS hr (jB 0) (jB 1)))
 (jI (oz (mU Xq (kG sI aac pL (jC (jB 0) jJ)) (kG sI aac pL (jC (jB 1) jJ)))
 (jL (kj (uW aaX hr (jB 0) (jB 1))))
 lK)
 (jL (kj (xH aaV hr (uW aaX hr (xH aaV hr (jB 1)) (xH aaV hr (jB 0)))))))
theorem mS:FnScope sq ow (jQ rT):=vh rfl rfl rfl (by decide +kernel)
theorem AR(F:Fun K "first_word" "first_word" rT f fd)(aaL:mW P w K mg base 1 "back" xq oS)(aaH:mW P w K mg base 1 "falls" uJ oE)(aaj:mW P w K mg base 3 "exchanged" mD kJ):FnOk P w K mg base qj 4 f fd ow (rf K 1 lN):=vc (m:=rY) F mS λcdv B outer s H E hr=>
 jI (j0 (i:=1) mS.nd (xH aaL hr (jB 0)))
 (jI (j0 (i:=2) mS.nd (kR jJ))
 (jI (j0 (i:=3) mS.nd (xH aaH hr (jB 1)))
 (jI (Fc 1000000 bX (vD (jB 3))
 (jI (nI (Hj gE gF Ak (jB 2) (jC (mC (jB 3) jH) jJ)))
 (jI (j0 (i:=1) mS.nd (uW aaj hr (jB 1) (mC (jB 3) jH)))
 (jL (j0 (i:=3) mS.nd (xH aaH hr (jB 1)))))))
 (jL (kj (jB 2))))))
theorem pP:FnScope m8 mj (jQ oA):=vh rfl rfl rfl (by decide +kernel)
theorem yg{Fs:List A->jG->R A}(F:Fun K "turned_order" "turned_order" oA f fd)(aae:mg "list" = none)(h_LESS_BACK:∃a,mg "LESS_BACK" = some (.ref a)/\PJ K a=some [((-1:Int),(-1:Int)),((1:Int),(1:Int))])(aaM:mW P w K mg base 4 "first_word" ow lN)(aaj:mW P w K mg base 3 "exchanged" mD kJ)(aaT:mW P w K mg base 4 "added" yj ux)(aaU:mW P w K mg base 4 "scaled" vW rF)(aaE:mW P w K mg base 4 "by_exchange" lQ ko)(aa9:mW P w K mg base (5+kr) "turned_order" mj Fs):FnOk P w K mg base qj (5+kr+1) f fd mj (rf K 2 (mE m8 (mZ Fs))):=vc (m:=mZ Fs) F pP λcdv B outer s H E hr=>
 jI (oz (mU (EG hr.units) (jB 0) (jB 1))
 (jI (j0 (i:=2) pP.nd (rR aaM (hr.mono (by lia)) (jC (jB 0) jJ) (kg nj)))
 (jL (oz (vD (jB 2))
 (jI (j0 (i:=3) pP.nd (rR aa9 (hr.mono (by lia)) (jC (rR aaj (hr.mono (by lia)) (jC (jB 0) (jC (mC (jB 2) (wU jH)) jJ)) (kg (kg nj))) (jC (jB 1) jJ)) (kg (kg nj))))
 (jL (pO (rR aaT (hr.mono (by lia)) (jC (rR aaE (hr.mono (by lia)) (jC (jB 3) (jC (mC (jB 2) (wU jH)) jJ)) (kg (kg nj))) (jC (rR aaU (hr.mono (by lia)) (jC (kQ (zg rfl) aae wA (jC (El h_LESS_BACK.choose_spec.1 h_LESS_BACK.choose_spec.2) jJ)) (jC (jB 3) jJ)) (kg (kg nj))) jJ)) (kg (kg nj))) (uM hr.units (jB 1) (jB 0)))))
 (jL (pO (kR (jC (lR (jC (jB 0) (jC (kR (jC (lR (jC jH (jC jH jJ))) jJ)) jJ))) jJ)) (uM hr.units (jB 1) (jB 0)))))))
 lK)
 (jL (kj (Au hr.units (jB 1) (jB 0))))
theorem rL(F:Fun K "turned_order" "turned_order" oA f fd)(aae:mg "list" = none)(h_LESS_BACK:∃a,mg "LESS_BACK" = some (.ref a)/\PJ K a=some [((-1:Int),(-1:Int)),((1:Int),(1:Int))])(aaM:mW P w K mg base 4 "first_word" ow lN)(aaj:mW P w K mg base 3 "exchanged" mD kJ)(aaT:mW P w K mg base 4 "added" yj ux)(aaU:mW P w K mg base 4 "scaled" vW rF)(aaE:mW P w K mg base 4 "by_exchange" lQ ko)(hm:mg "turned_order" = some (.ref f))(hk:PySem.W.keepIn K (.ref f)=true)(hb:Binds K fd mj []):∀kr,FnOk P w K mg base qj (5+kr) f fd mj (rf K 2 (mP kr))
 | 0=>Lj rfl
 | kr+1=>yg F aae h_LESS_BACK aaM aaj aaT aaU aaE ⟨f,fd,rL F aae h_LESS_BACK aaM aaj aaT aaU aaE hm hk hb kr,hm,hk,hb⟩
theorem nO:FnScope wR xN (jQ w_):=vh rfl rfl rfl (by decide +kernel)
theorem Ft(F:Fun K "turning" "turning" w_ f fd)(aba:mW P w K mg base 31 "turned_order" mj p7)(aaq:mW P w K mg base 3 "put_before" mH j_)(aaK:mW P w K mg base 2 "times" ur ng)(abb:mW P w K mg base 1 "turned" yZ t9)(aaB:mW P w K mg base 1 "as_sum" pX mh):FnOk P w K mg base qj 32 f fd xN (rf K 1 nh):=vc (m:=xh) F nO λcdv B outer s H E hr=>
 jI (j0 (i:=1) nO.nd qq)
 (jI (j0 (i:=2) nO.nd qq)
 (jI (nV bX rfl (mV (jB 0)) (m7 rfl (jV (jX (i:=3) nO.nd) (jV (jX (i:=4) nO.nd) lH)))
 (jL (nV bX rfl (mV (uW aba hr (jB 3) (jB 2))) (m7 rfl (jV (jX (i:=5) nO.nd) (jV (jX (i:=6) nO.nd) lH)))
 (jL (nI (PK aaq hr (jB 1) (jB 5) (uW aaK hr (xH abb hr (jB 4)) (jB 6))))))))
 (jL (kj (xH aaB hr (jB 1))))))
theorem qb:FnScope wY xP (jQ wX):=vh rfl rfl rfl (by decide +kernel)
theorem GB(F:Fun K "_law_bag" "_law_bag" wX f fd)(aac:mg "len" = none):FnOk P w K mg base qj 1 f fd xP (rf K 2 rD):=vc (m:=wV) F qb λcdv B outer s H E hr=>
 jI (j0 (i:=2) qb.nd jH)
 (jI (oz (mU (YG hr.units) (jB 1) (kG sI aac pL (jC (jB 0) jJ)))
 (jL (j0 (i:=2) qb.nd (mC (jB 0) (jB 1))))
 lK)
 (jI (j0 (i:=3) qb.nd jH)
 (jI (oz (mU Xq (jB 2) (kc Us jH jH))
 (jL (j0 (i:=3) qb.nd (jB 2)))
 lK)
 (jL (kj (kR (jC (jB 3) (jC (kc DJ (kc oH (kc oH (jB 2) (kc Jd jH (jB 1))) jH) jH) jJ))))))))
theorem vF:FnScope qH o6 (jQ ud):=vh rfl rfl rfl (by decide +kernel)
theorem C3(F:Fun K "_law_digit" "_law_digit" ud f fd):FnOk P w K mg base qj 1 f fd o6 (rf K 2 jT):=vc (m:=qt) F vF λcdv B outer s H E hr=>
 jI (oz (mU (RI hr.units) (mC (jB 0) jH) jH)
 (jI (j0 (i:=2) vF.nd (kc DJ (mC (jB 0) jH) (jB 1)))
 (jI (pO (kc NU (mC (jB 0) jH) (jB 1)) (zB (jB 0) jH))
 (jL (kj (jB 2)))))
 lK)
 (jI (pO (kc DJ (kc oH (kc Jd (mC (jB 0) jH) jH) jH) jH) (zB (jB 0) jH))
 (jL (kj (kc DJ (kc DJ (kc Jd (kc NU (mC (jB 0) jH) jH) jH) jH) (jB 1)))))
theorem sA:FnScope s_ qC (jQ tH):=vh rfl rfl rfl (by decide +kernel)
theorem Cm(F:Fun K "_law_order" "_law_order" tH f fd)(aae:mg "list" = none)(aam:mg "range" = none)(aac:mg "len" = none)(aaw:mg "tuple" = none)(aat:mW P w K mg base 1 "_law_digit" o6 jT):FnOk P w K mg base qj 2 f fd qC (rf K 2 k_):=vc (m:=tP) F sA λcdv B outer s H E hr=>
 jI (j0 (i:=2) sA.nd (kQ (zg rfl) aae wA (jC (kQ zC aam zG (jC jH (jC (kc oH (jB 1) jH) jJ))) jJ)))
 (jI (j0 (i:=3) sA.nd (kR jJ))
 (jI (Fc 1000000 bX (mU (RI hr.units) (kG sI aac pL (jC (jB 2) jJ)) jH)
 (jL (nI (Hj gE gF Ak (jB 3) (jC (Hj PySem.F.slot_list_pop PySem.F.type_list_pop Rc (jB 2) (jC (uW aat hr (jB 0) (kG sI aac pL (jC (jB 2) jJ))) jJ)) jJ)))))
 (jL (kj (kQ (vL rfl) aaw tK (jC (jB 3) jJ))))))
theorem kN:FnScope pG pI (jQ pJ):=vh rfl rfl rfl (by decide +kernel)
theorem xr(F:Fun K "_law_small_sum" "_law_small_sum" pJ f fd)(aam:mg "range" = none)(aay:mg "sorted" = none)(aat:mW P w K mg base 1 "_law_digit" o6 jT)(aaO:mW P w K mg base 2 "_law_order" qC k_):FnOk P w K mg base qj 3 f fd pI (rf K 3 kW):=vc (m:=pQ) F kN λcdv B outer s H E hr=>
 jI (j0 (i:=3) kN.nd qq)
 (jI (nV bX rfl (BE aam (kc oH jH (uW aat hr (jB 0) (jB 2)))) (jX (i:=4) kN.nd)
 (jI (j0 (i:=5) kN.nd (uW aaO hr (jB 0) (jB 1)))
 (jI (j0 (i:=6) kN.nd (kc zm (uW aat hr (jB 0) jH) jH))
 (jI (j0 (i:=7) kN.nd (kR (jC (lR (jC (jB 6) (jC (kc oH jH (uW aat hr (jB 0) jH)) jJ))) jJ)))
 (jI (oz (mU (LD hr.units) (uW aat hr (jB 0) jH) jH)
 (jL (nI (Hj gE gF Ak (jB 7) (jC (lR (jC (kc oH (kc oH (jB 6) jH) (uW aat hr (jB 0) jH)) (jC (mC (kR (jC (wU jH) (jC (wU jH) (jC jH (jC (kc Us jH jH) jJ))))) (uW aat hr (jB 0) jH)) jJ))) jJ))))
 lK)
 (jI (j0 (i:=8) kN.nd (mC (kR (jC jH (jC jH (jC jH (jC (wU jH) jJ))))) (uW aat hr (jB 0) jH)))
 (jL (pO (qp (N:=["_law_power", "_law_number", "_law_shift"]) (cap:=[none,none,some 8]) rfl (xW ["_law_shift"] rfl (by decide +kernel) (by decide +kernel) (by decide +kernel) (by decide +kernel) (by decide +kernel) (fj.mpr ⟨by first|exact Or.inl rfl|exact Or.inr rfl,(λ_ h=>nomatch h)⟩) ⟨rfl,by decide +kernel,trivial⟩) (mV (jB 7)) (λ_ _ _ _=>m7 rfl (jV (jX (i:=0) (show(["_law_power", "_law_number", "_law_shift"]:List Str).Nodup by decide +kernel) rfl (Or.inl rfl) (.inr rfl)) (jV (jX (i:=1) (show(["_law_power", "_law_number", "_law_shift"]:List Str).Nodup by decide +kernel) rfl (Or.inl rfl) (.inr rfl)) lH))) (λ_ _ _ _=>vP) (λ_ _ _ _=>lR (jC (kc oH (jB 0) (jB 2)) (jC (jB 1) jJ)))) (uM hr.units (jB 3) (jB 5))))))))))
 (jL (kj (qp (N:=["_law_one", "_law_held"]) (cap:=[none,some 3]) rfl (xW ["_law_held"] rfl (by decide +kernel) (by decide +kernel) (by decide +kernel) (by decide +kernel) (by decide +kernel) (fj.mpr ⟨by first|exact Or.inl rfl|exact Or.inr rfl,(λ_ h=>nomatch h)⟩) ⟨rfl,by decide +kernel,trivial⟩) (mV (kG (GQ rfl) aay rH (jC (jB 3) jJ))) (λ_ _ _ _=>jX (i:=0) (show(["_law_one", "_law_held"]:List Str).Nodup by decide +kernel) rfl (Or.inl rfl) (.inr rfl)) (λ_ _ _ _=>vP) (λ_ _ _ _=>lR (jC (jB 0) (jC (Au hr.units (jB 1) (jB 0)) jJ)))))))
theorem BU:FnScope uc sV (jQ tX):=vh rfl rfl rfl (by decide +kernel)
theorem BO(F:Fun K "_law_backs" "_law_backs" tX f fd)(aay:mg "sorted" = none)(aae:mg "list" = none)(aaL:mW P w K mg base 1 "back" xq oS):FnOk P w K mg base qj 2 f fd sV (rf K 1 kF):=vc (m:=sP) F BU λcdv B outer s H E hr=>
 jL (kj (kG (EY hr.units) aay rH (jC (qp (N:=["_law_one", "_law_own"]) (cap:=[none,none]) rfl (xW [] rfl (by decide +kernel) (by decide +kernel) (by decide +kernel) (by decide +kernel) (by decide +kernel) (λ_ h=>nomatch h) trivial) (mV (jB 0)) (λ_ _ _ _=>m7 rfl (jV (jX (i:=0) (show(["_law_one", "_law_own"]:List Str).Nodup by decide +kernel) rfl (Or.inl rfl) (.inr rfl)) (jV (jX (i:=1) (show(["_law_one", "_law_own"]:List Str).Nodup by decide +kernel) rfl (Or.inl rfl) (.inr rfl)) lH))) (λ_ _ _ _=>vP) (λ_ _ _ _=>lR (jC (xH aaL hr (jB 0)) (jC (kQ (zg rfl) aae wA (jC (jB 1) jJ)) jJ)))) jJ)))
theorem lZ:FnScope nR nK (jQ nN):=vh rfl rfl rfl (by decide +kernel)
theorem uV(F:Fun K "_law_before_plain" "_law_before_plain" nN f fd)(aaw:mg "tuple" = none)(aam:mg "range" = none)(aac:mg "len" = none)(aaP:mW P w K mg base 33 "product" uK lG)(aaL:mW P w K mg base 1 "back" xq oS):FnOk P w K mg base qj 34 f fd nK (rf K 2 kO):=vc (m:=nU) F lZ λcdv B outer s H E hr=>
 jI (j0 (i:=2) lZ.nd (kQ (vL rfl) aaw tK (jC (kQ zC aam zG (jC jH (jC (kc oH (kG sI aac pL (jC (jB 0) jJ)) jH) jJ))) jJ)))
 (jI (nV bX rfl (mV (uW aaP hr (kR (jC (lR (jC (jB 0) (jC (kR (jC (lR (jC jH (jC jH jJ))) jJ)) jJ))) jJ)) (kR (jC (lR (jC (xH aaL hr (jB 1)) (jC (kR (jC (lR (jC jH (jC jH jJ))) jJ)) jJ))) jJ)))) (m7 rfl (jV (jX (i:=3) lZ.nd) (jV (jX (i:=4) lZ.nd) lH)))
 (jL (oz (mU (LD hr.units) (jB 3) (jB 2))
 (jL (kj (jB 4)))
 lK)))
 (jL (kj (kR jJ))))
theorem oM:FnScope MI Ue (jQ Nf):=vh rfl rfl rfl (by decide +kernel)
set_option smartUnfolding false in
theorem UO(F:Fun K "law" "law" Nf f fd)(aam:mg "range" = none)(abc:mg "max" = none)(abd:mg "min" = none)(aac:mg "len" = none)(aaN:mg "int" = none)(aaw:mg "tuple" = none)(abe:mW P w K mg base 1 "_law_bag" xP rD)(aat:mW P w K mg base 1 "_law_digit" o6 jT)(aaY:mW P w K mg base 3 "_law_small_sum" pI kW)(aaQ:mW P w K mg base 2 "_law_backs" sV kF)(aaP:mW P w K mg base 33 "product" uK lG)(aaZ:mW P w K mg base 32 "turning" xN nh)(aaO:mW P w K mg base 2 "_law_order" qC k_)(abf:mW P w K mg base 34 "_law_before_plain" nK kO)(aaM:mW P w K mg base 4 "first_word" ow lN)(aaE:mW P w K mg base 4 "by_exchange" lQ ko):FnOk P w K mg base qj 35 f fd Ue (rf K 1 A_):=vc (m:=N3) F oM λcdv B outer s H E hr=>
 jI (nV bX rfl (BE aam (kG (Uu rfl) abc VW (jC jH (jC (kG (UR rfl) abd WV (jC (kG sI aac pL (jC (jB 0) jJ)) (jC jH jJ))) jJ)))) (jX (i:=1) oM.nd)
 (jI (j0 (i:=2) oM.nd (uW abe hr (jB 0) (jB 1)))
 (jI (j0 (i:=3) oM.nd (mC (mC (kR (jC (kR (jC jH (jC jH (jC jH (jC jH (jC jH (jC jH (jC jH (jC jH jJ))))))))) (jC (kR (jC jH (jC jH (jC jH (jC jH (jC jH (jC jH (jC jH (jC jH jJ))))))))) jJ))) (kQ FA aaN Cj (jC (GH (RI hr.units) (jB 1) jH) jJ))) (uW aat hr (jB 2) jH)))
 (jI (j0 (i:=4) oM.nd (mC (kR (jC jH (jC jH jJ))) (kQ FA aaN Cj (jC (GH (LD hr.units) (jB 3) jH) jJ))))
 (jI (j0 (i:=5) oM.nd (PK aaY hr (jB 2) (jB 3) (jB 4)))
 (jI (j0 (i:=6) oM.nd (PK aaY hr (jB 2) (jB 3) (jB 4)))
 (jI (oz (mU (Kx hr.units) (xH aaQ hr (uW aaP hr (jB 5) (jB 6))) (uW aaP hr (xH aaQ hr (jB 6)) (xH aaQ hr (jB 5))))
 (jL (kj Eu))
 lK)
 (jI (oz (mU (Kx hr.units) (xH aaQ hr (xH aaZ hr (jB 5))) (xH aaZ hr (xH aaQ hr (jB 5))))
 (jL (kj Eu))
 lK)
 (jI (j0 (i:=7) oM.nd (uW aaO hr (jB 2) (jB 3)))
 (jI (j0 (i:=8) oM.nd (uW aaO hr (jB 2) (jB 3)))
 (jI (oz (mU (LD hr.units) (uW aat hr (jB 2) jH) jH)
 (jL (j0 (i:=8) oM.nd (jB 7)))
 lK)
 (jI (oz (mU (Kx hr.units) (uW abf hr (jB 7) (jB 8)) (mC (kR (jC (kR jJ) (jC (kR (jC (lR (jC jH (jC jH jJ))) jJ)) jJ))) (kQ FA aaN Cj (jC (GH (LD hr.units) (jB 7) (jB 8)) jJ))))
 (jL (kj Eu))
 lK)
 (jI (j0 (i:=9) oM.nd (kR (jC (lR (jC (kQ (vL rfl) aaw tK (jC (kQ zC aam zG (jC jH (jC (kc oH (jB 3) jH) jJ))) jJ)) (jC (kR (jC (lR (jC jH (jC jH jJ))) jJ)) jJ))) jJ)))
 (jI (nV bX rfl (mV (xH aaM hr (jB 7))) (jX (i:=10) oM.nd)
 (jL (j0 (i:=9) oM.nd (uW aaE hr (jB 9) (jB 10)))))
 (jL (oz (mU (Kx hr.units) (jB 9) (kR (jC (lR (jC (jB 7) (jC (kR (jC (lR (jC jH (jC jH jJ))) jJ)) jJ))) jJ)))
 (jL (kj Eu))
 lK))))))))))))))))
 (jL (kj Eu))
end
end K32
namespace K32
open PySem L2 Am
noncomputable def yH (S:jG)(b:Nat):Prop:=∃g st:Int,jE S b=some [.int g,.int st]/\0<=g/\0<=st/\st<4294967296
theorem yH.kp{c:Nat->Prop}(h:yH S b)(k:Kp c S S')(hb:¬c b):yH S' b:=by
 obtain⟨g,st,e,q⟩:=h;exact⟨g,st,k.lst b _ hb e,q⟩
theorem yH.lt{S:jG}(h:yH S b):b<S.length:=by obtain⟨_,_,e,_⟩:=h;exact nX e
theorem QH{S:jG}{ns:List Int}{k:Int}(h0:0<=k)(h1:k<=100):∃S',rD [.frz (ns.map .int),.int k] S=.ok (.ref S.length) S'/\yH S' S.length/\lB S S':=by
 have e3:Fy (.int 10) (.int 18)=λS=>R.ok (.int 1000000000000000000) S:=by
  funext S;exact lz ⟨by decide,by decide,by decide⟩
 have m1:∀x:Int,B8 (.int x) (.int 2147483647)=λS=>R.ok (.int (x % 2147483647)) S:=λx=>by funext S;exact EE (by decide)
 have m3:∀x:Int,BY (.int 7919) (.int x)=λS=>R.ok (.int (7919 * x)) S:=λx=>by funext S;exact Li (by decide) (by decide)
 have s0:∀x:Int,0<=x % 2147483647:=λx=>iO _ (by decide);have s1:∀x:Int,x % 2147483647<4294967296:=λx=>by have:=gK x (show(0:Int)<2147483647 by decide);lia
 have go:∀cell:Int,∃S',((RS.seq (.nx [A.frz (ns.map .int),.int k,.int cell,.unb] S) (jZ (ku (eC (.int 0)) (kI 3))
  (jZ (wJ (vm (jO XF (jD 2) (jO Fy (eC (.int 10)) (eC (.int 18))))) (ku (jD 2) (kI 3)) (oQ))
  (lA (lX (jA (jD 3) (jA (jO B8 (jO nu (jO nu (jD 2) (jO BY (eC (.int 7919)) (jD 1))) (eC (.int 13))) (eC (.int 2147483647))) (jF)))))))).end=.ok (.ref S.length) S')/\yH S' S.length/\lB S S':=by
  intro cell;by_cases hc:1000000000000000000<=cell
  ·simp only[kC,bools,e3,m1,m3,bh hc];exact⟨_,rfl,⟨_,_,jS,by lia,s0 _,s1 _⟩,Kp.refl.lay⟩
  ·simp only[kC,bools,e3,m1,m3,bq hc];exact⟨_,rfl,⟨_,_,jS,Int.le_refl 0,s0 _,s1 _⟩,Kp.refl.lay⟩
 unfold rD wV wY;simp only[kC,bools,mY,Nat.reduceAdd,Nat.reduceSub,aH];by_cases hk:k<(ns.length:Int)
 ·have hn:k.toNat<ns.length:=by lia
  have ha:sd (ns.map A.int) k=some (.int ns[k.toNat]):=CP (k:=k.toNat) (by lia) (aF hn);rw[bh hk];simp only[kC,bools,ha];have:=go ns[k.toNat];simpa only [kC,bools]using this
 ·rw[bq hk];simp only[kC,bools];have:=go 0;simpa only [kC,bools]using this
theorem digit{m:Int}(h:yH S b)(h1:1<=m)(h2:m<1073741824):∃d S',jT [.ref b,.int m] S=.ok (.int d) S'/\0<=d/\d<m/\yH S' b/\Kp (·=b) S S':=by
 obtain⟨g,st,hl,hg,hs,hs2⟩:=h;have hb:=nX hl;have i0:A2 2 0=some 0:=zz rfl (by decide);have i1:A2 2 1=some 1:=zz rfl (by decide);have fin:∀d g' st':Int,0<=d->d<m->0<=g'->0<=st'->st'<4294967296->jT [.ref b,.int m] S=.ok (.int d) (S.set b (.lst [.int g',.int st']))->∃d S',jT [.ref b,.int m] S=.ok (.int d) S'/\0<=d/\d<m/\yH S' b/\Kp (·=b) S S':=
  λd g' st' a1 a2 a3 a4 a5 e=>⟨d,_,e,a1,a2,⟨g',st',oV hb,a3,a4,a5⟩,Kp.refl.set (.inl rfl)⟩
 by_cases hg0:0<g
 ·refine fin (g % m) (g / m) st (iO _ (by lia)) (gK _ (by lia)) (Int.ediv_nonneg hg (by lia)) hs hs2 ?_;unfold jT qt qH;rw[yD];simp[hl,EI,Tq,hg0,EE (show 0<m by lia),MO (show 0<m by lia) h2,i0]
 ·have e1:0<=(st * 48271+11) % 2147483647:=iO _ (by decide);have e2:(st * 48271+11) % 2147483647<2147483647:=gK _ (by decide);have e3:0<=(st * 48271+11) % 2147483647 / 8:=by lia
  refine fin ((st * 48271+11) % 2147483647 / 8 * 69621 % 2147483629 % m) g ((st * 48271+11) % 2147483647) (iO _ (by lia)) (gK _ (by lia)) hg e1 (by lia) ?_;unfold jT qt qH;rw[yD];simp[hl,EI,Tq,hg0,i1,Li (show -18446744073709551616<st by lia) (by lia),EE (show(0:Int)<2147483647 by decide),oV hb,MO (show(0:Int)<8 by decide) (by decide),Li (show -18446744073709551616<(st * 48271+11) % 2147483647 / 8 by lia) (by lia),EE (show(0:Int)<2147483629 by decide),EE (show 0<m by lia)]
open Po (Pl Ok Bd)
theorem OS{S:jG}{D:Pl}(hd:lY S d=some (Po.iv D))(hl:D.length<=16777216):∃S',kX [.ref d] S=.ok (.ref (S.length+1)) S'/\jE S' (S.length+1)=some (Po.pl (Po.HG D))/\lB S S':=by
 obtain⟨S',e,h1,h2⟩:=WI hd hl;refine⟨S',?_,h1,h2⟩;unfold kX pN pH;simp only[kC,bools,mY,Nat.reduceAdd,Nat.reduceSub];rw[show kZ [none,some 0] _ _ _ _ _ _=_ from e];rfl
theorem P8{S:jG}{n:Nat}{a b:Pl}(hn:jE S n=some (Po.pl a))(hm:jE S m=some (Po.pl b))(ha:Ok a)(hl:a.length+b.length<16777216) :
  ∃(L:Nat) (S':jG),zv [.ref n,.ref m] S=.ok (.ref L) S'/\jE S' L=some (Po.pl (Po.pD a b))/\S.length<=L/\lB S S':=by
 have hd:lY (S++[.qV (Po.iv a)]) S.length=some (Po.iv a):=MN;obtain⟨y3,y4,T,e,hD,kp⟩:=RQ (S:=S++[.qV (Po.iv a)]) (S1:=S++[.qV (Po.iv a)]) (x0:=.ref n) (x1:=.ref m) (x3:=.unb) (x4:=.unb) (src:=wB) (l:=b) (show wB _ _=_ from mT (by simp only[kC,bools]) (kD hm)) (kD hm) hd hl;have ln:=Po.p_ b a;obtain⟨S',e2,h1,h2⟩:=OS hD (by lia);have k1:lB S T:=(Kp.refl.lay (o:=.qV (Po.iv a))).old kp λq hq _ z=>by lia
 refine⟨T.length+1,S',?_,by rw[h1,<- Po.Sj ha];rfl,by have:=k1.len;lia,k1.trans h2⟩;unfold zv Fx F9;simp only[kC,bools,mY,Nat.reduceAdd,Nat.reduceSub,KZ,hn,Po.To,Po.Q8,Po.QM ha];rw[show mw wB _ Dl _ _=_ from e];simp only[kC,bools,e2]
theorem xm(f:Int×Int->A)(hf:∀p τ S,PL (f p) τ S=PL (Po.pA p) τ S){S:jG}{n:Nat}{a b:Pl}(hn:jE S n=some (a.map f))(hm:jE S m=some (Po.pl b))(hl:a.length * b.length<16777216)(ha:∀p∈a,p.2.natAbs<big)(hb:∀p∈b,p.2.natAbs<big) :
  ∃(L:Nat) (S':jG),ng [.ref n,.ref m] S=.ok (.ref L) S'/\jE S' L=some (Po.pl (Po.times a b))/\S.length<=L/\lB S S':=by
 have hd:lY (S++[.qV []]) S.length=some []:=MN;obtain⟨y3,y4,y5,y6,T,e,hD,kp⟩:=GJ f hf (S:=S++[.qV []]) (x3:=.unb) (x4:=.unb) (x5:=.unb) (x6:=.unb) (kD hn) (kD hm) hd hl ha hb;have ln:=Po.p_ (Po.Dj a b) [];rw[Po.yr,bK,cF]at ln;obtain⟨S',e2,h1,h2⟩:=OS hD (by lia);have k1:lB S T:=(Kp.refl.lay (o:=.qV [])).old kp λq hq _ z=>by lia
 refine⟨T.length+1,S',?_,h1,by have:=k1.len;lia,k1.trans h2⟩;unfold ng C1 CM;simp only[kC,bools,mY,Nat.reduceAdd,Nat.reduceSub,KD];rw[show mw BF _ BH _ _=_ from e];simp only[kC,bools,e2]
theorem rJ{S:jG}{n:Nat}{a b:Pl}(hn:jE S n=some (Po.pl a))(hm:jE S m=some (Po.pl b))(hl:a.length * b.length<16777216)(ha:∀p∈a,p.2.natAbs<big)(hb:∀p∈b,p.2.natAbs<big) :
  ∃(L:Nat) (S':jG),ng [.ref n,.ref m] S=.ok (.ref L) S'/\jE S' L=some (Po.pl (Po.times a b))/\S.length<=L/\lB S S':=xm Po.pA (λ_ _ _=>rfl) hn hm hl ha hb
theorem KQ{S:jG}{n:Nat}{a:Pl}(hn:jE S n=some (Po.pl a))(hl:a.length<=16777216) :
  t9 [.ref n] S=.ok (.ref S.length) (S++[.lst (Po.pl (Po.turn a))]):=by
 have cc:=LL (l:=a) (n:=n) (cap:=[]) (src:=XX (jD 0)) (e:=lV (jA (Kg xR (jD 0)) (jA (jD 1) (jF)))) (τ:=[.ref n]) (S:=S) (S1:=S) (WT (by simp only[kC,bools]) hn) hn (λp=>Po.pA (-p.1,p.2)) (λp=>by
  simp only[kC,bools];exact sU (show 2<=16777216 by decide)) hl
 unfold t9 zT zc;simp only[kC,bools,mY,Nat.reduceAdd,Nat.reduceSub];rw[show kZ [none,none] _ _ _ _ _ _=_ from cc];unfold Po.pl Po.turn;rw[bu];rfl
end K32
namespace K32
open PySem L2 Am
open Po (Pl Ok Bd)
open Su (Es At Vl)
theorem WD{S:jG}{r:Nat}{D:Es}{o:List Int}{p:Pl}{k:Nat}(hd:j4 S d=some (D.map Su.kv))(hA:At S D)(hv:Vl k b D)(hr:jE S r=some (Po.pl p))(hl:D.length<16777216)(hk:k+p.length<16777216) :
  ∃(L:Nat) (S':jG),j_ [.ref d,.tup (o.map .int),.ref r] S=.ok .non S'/\j4 S' d=some ((Su.oF D o L (Po.pD (Su.vS (Su.sm D) o) p)).map Su.kv)/\At S' (Su.oF D o L (Po.pD (Su.vS (Su.sm D) o) p))/\S.length<=L/\Kp (·=d) S S':=by
 obtain⟨x,ex,hx⟩:=Su.get_or (o:=o) hd hA;have vo:=hv.v o;obtain⟨L,S2,e2,h1,h2,k2⟩:=P8 hx (kD (o:=.lst []) hr) vo.1 (by lia);have kS:lB S S2:=(Kp.refl.lay).trans k2;have hd2:=kS.dct _ _ (λz=>z) hd;have hd1:j4 (S++[.lst []]) d=some (D.map Su.kv):=Su.yE hd;refine⟨L,S2.set d (.dct ((Su.oF D o L (Po.pD (Su.vS (Su.sm D) o) p)).map Su.kv)),?_,Su.CY (Su.zS hd2),?_,by simp at h2;lia,kS.of0.FY (.inl rfl)⟩
 ·unfold j_ se sH;have n0:newL [] S=.ok (.ref S.length) (S++[.lst []]):=lJ (show 0<=16777216 by decide);simp only[kC,bools,mY,Nat.reduceAdd,Nat.reduceSub,Su.Q7,Su.RO,hd,dZ,n0,Su.PV,hd1,ex,e2,Su.uv,Su.Ad,hd2,xY (show(D.map Su.kv).length<16777216 by rw[aH];exact hl),Su.FW (p:=Po.pD (Su.vS (Su.sm D) o) p)]
 ·refine(Su.At.put (hA.u_ kS) h1).kp (Kp.refl.FY (.inl rfl)) λe he z=>?_
  rcases Su.sF he with y|y
  ·exact Su.om hd (hA e y) z
  ·rw[y]at z;exact Su.om hd2 h1 z
theorem zK{S:jG}{D:Es}(hd:j4 S d=some (D.map Su.kv))(hA:At S D)(hne:∀e∈D,e.1≠[])(hl:D.length<=16777216) :
  ∃(n:Nat) (S':jG),mh [.ref d] S=.ok (.ref n) S'/\jE S' n=some ((Su.qo D λp=>!p.isEmpty).map Su.ent)/\At S' (Su.qo D λp=>!p.isEmpty)/\S.length<n/\lB S S':=by
 have n0:=Su.Ec hd hne;obtain⟨n,S',e,h1,h2,h3,h4⟩:=Su.Et (cap:=[some 0]) (τ:=[.ref d]) (src:=nE (j8 (f1 xD) (jA (jD 0) (jF)))) (t:=AX (jO vH (jD 1) (jD 0))) (e:=lV (jA (jD 0) (jA (jO vH (jD 1) (jD 0)) (jF)))) hd hA (mT (by simp only[kC,bools,n0]) jS) (λp=>!p.isEmpty)
  (λo r q T hT hk hr=>⟨T,by
   have tr:A.TX (.ref r) T=some (!q.isEmpty):=by
    show(jE T r).map _=_;rw[hr]
    cases q<;>rfl
   simp only[kC,bools,Su.zh,Su.uE,hT,hk,tr],Kp.refl⟩)
  (λo r T hT hk=>by
   simp only[kC,bools,Su.zh,Su.uE,hT,hk];exact sU (show 2<=16777216 by decide)) hl
 refine⟨n,S',?_,h1,h2,h3,h4⟩;unfold mh An zI;simp only[kC,bools,mY,Nat.reduceAdd,Nat.reduceSub,e]
theorem rQ:Su.Cw j_:=λh1 h2 h3 h4 h5 h6=>WD h1 h2 h3 h4 h5 h6
theorem zR:Su.Kl ng:=λh1 h2 h3 h4 h5=>rJ h1 h2 h3 h4 h5
open Po (Pl Ok Bd)
open Su (Es At Vl)
structure Sm (S:jG)(n:Nat)(es:Es):Prop where
 l:jE S n=some (es.map Su.ent)
 a:At S es
theorem Sm.kp{n:Nat}(h:Sm S n es)(k:lB S S'):Sm S' n es:=⟨k.lst _ _ (λz=>z) h.l,h.a.u_ k⟩
theorem B3{a b:List Int}(h:a.length=b.length):o9 [.tup (a.map .int),.tup (b.map .int)] S=.ok .non S:=by
 unfold o9 t7 sW;have:((a.length:Int) == (b.length:Int))=true:=by rw[h];exact bO _
 simp only[kC,pS,bools,mY,Nat.reduceAdd,Nat.reduceSub,aH,this,cW]
theorem Bg{n:Nat}{xs:List A}(h:jE S n=some xs):A.TX (.ref n) S=some (!xs.isEmpty):=by
 show(jE S n).map _=_;rw[h];rfl
theorem wc{n N:Nat}{es fs:Es}(h:Sm S n es)(h':Sm S m fs)(h1:∀e∈es,e.1.length=N)(h2:∀e∈fs,e.1.length=N):m_ [.ref n,.ref m] S=.ok .non S:=by
 unfold m_ ue sQ;simp only[kC,pS,bools,mY,Nat.reduceAdd,Nat.reduceSub,Bg h.l,Bg h'.l]
 cases es with
 | nil=>simp only[kC,pS,bools,gf,iF,cW]
 | cons e es=>cases fs with
  | nil=>simp only[kC,pS,bools,gf,iF,cW,bE,jf,dh,Bg h'.l]
  | cons f fs=>
   have q:=B3 (S:=S) ((h1 e (aI ..)).trans (h2 f (aI ..)).symm);have hl:=h.l;have hl':=h'.l;rw[bE]at hl hl';simp only[kC,pS,bools,bE,jf,dh,Bg hl',hl,hl',EI,Su.ent,q]
noncomputable abbrev wd (w:List Nat):List A:=w.map λk:Nat=>A.int (k:Int)
theorem ixD{l:List Int}{k:Nat}{i:Int}(h:i=k)(hk:k<l.length):sd (l.map A.int) i=some (.int (l.getD k 0)):=CP h (by rw[aJ,aF hk];rfl)
theorem Qc{l:List Int}{k:Nat}:((l.map A.int).set (k-1) (.int (l.getD k 0))).set k (.int (l.getD (k-1) 0))=(Wd.ex l k).map A.int:=by
 unfold Wd.ex;rw[iU,iU]
theorem aaa{f g:A->A->jG->R A}{ca cb cc:Ex}{a c:A}(h1:ca τ S=.ok a S)(h2:cb τ S=.ok b S)(h3:f a b S=.ok (.bl true) S)(h4:cc τ S=.ok c S):W2 f g ca cb cc τ S=g b c S:=by
 unfold W2;rw[h1,R.oX,h2,R.oX,h3,R.oX];unfold kCh;show(cc τ S).bind _=_;rw[h4];rfl
theorem Vu{i:Int}:qg [.int i] S=.ok (.bl true) S:=by
 unfold qg vA vd;simp only[kC,bools,mY,Nat.reduceAdd,Nat.reduceSub,show KU .int "int" = some true from rfl,show KU .int "bool" = some false from rfl,dh]
theorem aai{n k:Int}(h1:1<=k)(h2:k<n):nF [.int n,.int k] S=.ok (.bl true) S:=by
 unfold nF qP qN;have c:W2 Zo XQ (eC (.int 1)) (jD 1) (jD 0) [.int n,.int k] S=.ok (.bl true) S:=by
  rw[aaa (a:=.int 1) (b:=.int k) (c:=.int n) rfl rfl (by simp only[kC,bh h1]) rfl];simp only[kC,bh h2]
 simp only[kC,bools,mY,Nat.reduceAdd,Nat.reduceSub,Vu,c]
theorem yL{xs:List Int}{k:Nat}(h1:1<=k)(h2:k<xs.length)(hl:xs.length<=1000):∃S',kJ [.tup (xs.map .int),.int k] S=.ok (.tup ((Wd.ex xs k).map .int)) S'/\lB S S':=by
 have e1:=aai (S:=S) (n:=(xs.length:Int)) (k:=(k:Int)) (by lia) (by lia);have a1:sd (xs.map A.int) (k:Int)=some (.int (xs.getD k 0)):=ixD rfl (by lia);have a2:sd (xs.map A.int) ((k:Int)-1)=some (.int (xs.getD (k-1) 0)):=ixD (k:=k-1) (by lia) (by lia);have x1:A2 xs.length ((k:Int)-1)=some (k-1):=zz (by lia) (by lia);have x2:A2 xs.length (k:Int)=some k:=zz rfl (by lia);have hL:jE (S++[O.lst (xs.map .int)]) S.length=some (xs.map .int):=jS;have lS:∀ys,jE ((S++[O.lst (xs.map .int)]).set S.length (.lst ys)) S.length=some ys:=λys=>oV (by simp);have e2:lg [.tup (xs.map .int),.int k,.int ((k:Int)+1)] S=.ok (.tup ((Wd.ex xs k).map .int)) (((S++[O.lst (xs.map .int)]).set S.length (.lst ((xs.map A.int).set (k-1) (.int (xs.getD k 0))))).set S.length (.lst ((Wd.ex xs k).map .int))):=by
  unfold lg nL nM;simp only[kC,bools,mY,Nat.reduceAdd,Nat.reduceSub,hL,show(k:Int)+1-1=k by lia,a1,a2,lz (show 2<=sizeLine by decide),lz (show 2=2 from rfl),aH,x1,lS,b9,x2,Qc];rw[oV (by simp)];simp only[kC,bools]
 unfold kJ sR uh;simp only[kC,pS,bools,mY,Nat.reduceAdd,Nat.reduceSub,aH,e1,cW,e2];exact⟨_,rfl,((Kp.refl.lay).set (.inr (aQ _))).set (.inr (aQ _))⟩
theorem ixG{xs:List Int}{i:Int}(h1:0<=i)(h2:i<xs.length):sd (xs.map A.int) i=some (.int (xs.getD i.toNat 0)):=ixD (k:=i.toNat) (by lia) (by lia)
noncomputable def fl (xs:List Int)(n:Nat):List Int:=(kP 1 (n:Int)).filter λk=>decide (xs.getD (k-1).toNat 0>xs.getD k.toNat 0)
theorem v8{S:jG}{n:Nat}{xs:List Int}(hlen:xs.length=n)(h2:n<=20):oE [.tup (xs.map .int)] S=.ok (.ref S.length) (S++[.lst ((fl xs n).map .int)]):=by
 have ec:=MW (lo:=1) (hi:=(n:Int)) (cap:=[some 0]) (src:=zX (eC (.int 1)) (j8 (f1 tN) (jA (jD 0) (jF)))) (t:=vm (jO VG (jO sL (jD 1) (jO aSub (jD 0) (eC (.int 1)))) (jO sL (jD 1) (jD 0)))) (e:=jD 0) (τ:=[.tup (xs.map .int)]) (S:=S) (S1:=S)
  (O_ (S1:=S) (by simp only[kC,bools]) (by simp only[kC,bools,aH,hlen]) (Ci (by lia) (by lia)) (Ci (by lia) (by lia)))
  (λk=>decide (xs.getD (k-1).toNat 0>xs.getD k.toNat 0)) (λk=>.int k) (λk h1 h2=>by
   have x1:sd (xs.map A.int) (k-1)=some (.int (xs.getD (k-1).toNat 0)):=ixG (by lia) (by lia);have x2:sd (xs.map A.int) k=some (.int (xs.getD k.toNat 0)):=ixG (by lia) (by lia);simp only[kC,bools,x1,x2]) (λk _ _ _=>by simp only[kC,bools]) (by lia)
 unfold oE Cd CS;simp only[kC,bools,mY,Nat.reduceAdd,Nat.reduceSub,ec];rfl
theorem Jc{t:Int}:∀(p:List Int),XA S (.int t) (p.map .int)=some (decide (t∈p))
 | []=>rfl
 | x::p=>by
  show(qU S 12 (.int x) (.int t)).bind (λa=>(XA S (.int t) (p.map .int)).map λb=>a || b)=_;rw[Jc p];show some ((x == t) || decide (t∈p))=_;by_cases c:x=t
  ·subst c;rw[bO,bh (show x∈x::p from aI ..)];rfl
  ·rw[d8.mpr c];congr 1;rw[gz,jl];constructor
   ·exact λz=>aL _ z
   ·intro z
    rcases bC.mp z with z|z
    ·exact absurd z.symm c
    ·exact z
open Po (Pl Ok Bd)
open Su (Es At Vl AF)
theorem RZ{o:List Int}{N k:Nat}(hl:o.length=N)(h1:1<=k)(h2:k<N):decide ((k:Int)∈fl o N)=Su.m9 o k:=by
 unfold fl Su.m9;rw[jl,cK,oB,jb,show((k:Int)-1).toNat=k-1 by lia,dg];constructor
 ·exact λh=>h.2
 ·exact λh=>⟨⟨by lia,by lia⟩,h⟩
theorem BS{S:jG}{n N k:Nat}{es:Es}(h:Sm S n es)(h1:∀e∈es,e.1.length=N/\2 * e.2.2.length<=j/\∀p∈e.2.2,p.2.natAbs<big)(k1:1<=k)(k2:k<N)(hN:N<=20)(hl:(2 * es.length+2) * j<16777216)(hl':es.length<=100000) :
  ∃(L:Nat) (S':jG) (rs:Es),ko [.ref n,.int k] S=.ok (.ref L) S'/\Sm S' L rs/\Su.sm rs=Su.bx k (Su.sm es)/\(∀e∈rs,Ok e.2.2/\e.2.2≠[]/\e.2.2.length<=2 * es.length * j/\S.length<=e.2.1/\e.2.1<L)/\Su.Ap rs/\rs.length<=2 * es.length/\S.length<=L/\lB S S':=by
 have k0:lB S (S++[.dct []]):=Kp.refl.lay;obtain⟨y3,y4,xs,D,T,hz,e1,f,kp⟩:=Su.wI (w:=2) (j:=j) (b:=S.length) (i0:=0) (S:=S++[.dct []]) (S1:=S++[.dct []]) (d:=S.length) (n:=n) (es:=es) (src:=nG) (c:=mO) (g:=wK 2 (oG (kI 3) (oG (kI 4) (wF)))) (λy z _=>[.ref n,.int k,.ref S.length,y,z]) (λ_=>True) (Su.gX k) (λ_ _ _ _ _=>rfl) (x3:=.unb) (x4:=.unb) (xs0:=[]) trivial
  (show nG _ _=_ from mT (by simp only[kC,bools]) (kD h.l)) (kD h.l) (Su.Fil.new Su.oh) λi e T Q D xs hi he _ kT f=>by
   obtain⟨b1,b2,b3⟩:=h1 e he;have tl:=kT.len;have hm:2 * i+2<=2 * es.length:=by lia
   have hm2:(2 * i+2) * j<=(2 * es.length) * j:=bL _ hm;have hm3:(2 * es.length+2) * j=2 * es.length * j+2 * j:=by rw[Nat.add_mul]
   have hm4:(2 * i+2) * j=(2 * i+1) * j+j:=eg _ _;have hm5:(2 * i+1) * j=2 * i * j+j:=eg _ _;rw[aO]at tl;obtain⟨T0,e0,kq⟩:=yL (S:=T) (xs:=e.1) (k:=k) k1 (by lia) (by lia);have aT:=((h.a.u_ k0).Dh kT Su.oh).u_ kq;have f0:=f.u_ kq;have qtl:=kq.len;rw[cF]at f0;have ne1:Wd.ex e.1 k≠[]:=λz=>by have:=Wd.mG e.1 k;rw[z]at this;simp at this;lia
   obtain⟨D1,T1,e1,f1,k1'⟩:=f0.add rQ (o:=Wd.ex e.1 k) (aT e he) (by lia) ne1 (by lia) (by lia) (by lia);have k1l:=k1'.len;have fo:=v8 (S:=T1) (xs:=e.1) (n:=N) b1 hN;have in1:aIn false (.int k) (.ref T1.length) (T1++[.lst ((fl e.1 N).map .int)])=.ok (.bl (Su.m9 e.1 k)) (T1++[.lst ((fl e.1 N).map .int)]):=by
    show opt (jE _ _) _=_;rw[jS,kK,Jc,RZ b1 k1 k2];rfl
   have kE:lB T1 (T1++[.lst ((fl e.1 N).map .int)]):=Kp.refl.lay;obtain⟨U,hU⟩:∃U,U=T1++[O.lst ((fl e.1 N).map .int)]:=⟨_,rfl⟩;rw[<- hU]at in1 kE fo;have fU:=f1.u_ kE;have kTU:Kp (·=S.length) T U:=(kq.of0.trans k1').trans kE.of0
   cases hf:Su.m9 e.1 k with
   | false=>
    refine⟨D1,U,[],trivial,?_,?_,kTU⟩
    ·rw[hf]at in1;unfold mO;simp only[kC,pS,bools,e0,e1,fo,in1]
    ·rw[cF];unfold Su.gX;rw[hf,aK (by simp)];exact fU.mono (by lia)
   | true=>
    have aU:=(aT.Dh k1' f0.dd).u_ kE;have n0:jE (U++[.lst (AF.map kA)]) U.length=some (AF.map kA):=jS;obtain⟨L,T2,e2,l1,l2,k2'⟩:=xm kA (λ_ _ _=>rfl) n0 (kD (o:=.lst (AF.map kA)) (aU e he)) (show 2 * e.2.2.length<16777216 by lia) (λp hp=>by
     rw[uS]
     rcases bC.mp hp with z|z
     ·rw[z];exact show 1<2 ^ 4096 by decide +kernel
     ·rw[aP.mp z];exact show 1<2 ^ 4096 by decide +kernel) b3
    have kU2:lB U T2:=(Kp.refl.lay).trans k2';have tl2:=kU2.len;have tle:=kE.len;obtain⟨D2,T3,e3,f3,k3'⟩:=(fU.u_ kU2).add rQ (o:=e.1) l1 (bJ (Su.A7 _ _) (show 2 * e.2.2.length<=j from b2)) (λz=>by rw[z]at b1;simp at b1;lia) (by lia) (by lia) (by lia);refine⟨D2,T3,[],trivial,?_,?_,(kTU.trans kU2.of0).trans k3'⟩
    ·rw[hf]at in1;unfold mO;simp only[kC,pS,bools,e0,e1,fo,in1];rw[show[((-1:Int),(1:Int)),((1:Int),(-1:Int))].map kA=AF.map kA from rfl];simp only[kC,pS,bools,e2,e3]
    ·rw[cF];unfold Su.gX;rw[hf,aM rfl];exact f3
 have kT:lB S T:=k0.old kp λq hq _ z=>by lia
 have fl:=f.ll;rw[cF]at fl;obtain⟨L,S',e2,r1,r2,r3,r4⟩:=zK f.dd f.aa f.kk (by lia);have tl:=kT.len;have fs:=f.ss;rw[Su.Iq]at fs;refine⟨L,S',_,?_,⟨r1,r2⟩,by rw[Su.uI,fs];rfl,λe he=>?_,f.pw.out _,?_,by lia,kT.trans r4⟩
 ·unfold ko qM qO;simp only[kC,pS,bools,mY,Nat.reduceAdd,Nat.reduceSub,Su.rm];rw[show mw nG _ mO _ _=_ from e1];simp only[kC,pS,bools,e2]
 ·obtain⟨m1,m2⟩:=Su.uR he;obtain⟨v1,v2,v3⟩:=f.vv e m1;have lt:=nX (f.aa e m1);rw[cF]at v2;exact⟨v1,λz=>(by rw[z]at m2;cases m2),v2,v3,by lia⟩
 ·unfold Su.qo;rw[aH];refine bJ (dI _ _) ?_;rw[(j6 _).length_eq,aH];exact fl
end K32
namespace K32
open PySem L2 Am
open Po (Pl Ok Bd)
open Su (Es At Vl AF)
open He (Sz)
open Fw (rg)
theorem Sm.Dh{n:Nat}(h:Sm S n es)(k:Kp (·=d) S S')(hd:j4 S d=some kvs):Sm S' n es:=⟨k.lst _ _ (λz=>Su.om hd h.l z.symm) h.l,h.a.Dh k hd⟩
theorem nv{N:Nat}{o:List Int}(h:o.Perm (rg N)):o.length=N:=by rw[h.length_eq,Wd.jR]
theorem kM{es:Es}{l:Su.Ps}(h:Su.sm es=l){e:Su.En}(he:e∈es):(e.1,e.2.2)∈l:=by rw[<- h];exact bz.mpr ⟨e,he,rfl⟩
structure Kn (N:Nat)(Φ:List Int->Su.Ps)(T:jG)(d:Nat)(K:Es):Prop where
 dd:j4 T d=some (K.map Su.kv)
 gd:Su.Gd (Su.sm K)
 pm:∀e∈K,e.1.Perm (rg N)
 at_:∀e∈K,∃es:Es,Sm T e.2.1 es/\Su.sm es=Φ e.1
theorem Kn.u_{N:Nat}{Φ:List Int->Su.Ps}{K:Es}(h:Kn N Φ T d K)(k:lB T T'):Kn N Φ T' d K:=⟨k.dct _ _ (λz=>z) h.dd,h.gd,h.pm,λe he=>by obtain⟨es,a,b⟩:=h.at_ e he;exact⟨es,a.kp k,b⟩⟩
theorem Kn.Dh{N f:Nat}{Φ:List Int->Su.Ps}{K:Es}(h:Kn N Φ T d K)(k:Kp (·=f) T T')(hf:j4 T f=some kvs)(ne:d≠f):Kn N Φ T' d K:=⟨k.dct _ _ ne h.dd,h.gd,h.pm,λe he=>by obtain⟨es,a,b⟩:=h.at_ e he;exact⟨es,a.Dh k hf,b⟩⟩
theorem Kn.many{N:Nat}{Φ:List Int->Su.Ps}{K:Es}(hN:N<6)(h:Kn N Φ T d K):K.length<=120:=by
 have:=He.many hN h.gd.nd λo ho=>by
  obtain⟨e,he,rfl⟩:=bz.mp ho;obtain⟨f,hf,rfl⟩:=bz.mp he;exact h.pm f hf
 rwa [aH,Su.m5]at this
theorem Wv:Ok []:=⟨List.Pairwise.nil,λ_ z=>nomatch z⟩
theorem Kn.put{N r:Nat}{Φ:List Int->Su.Ps}{K:Es}{o:List Int}(hN:N<6)(h:Kn N Φ T d K)(po:o.Perm (rg N))(hr:Sm T r es)(he:Su.sm es=Φ o) :
  ∃T' K',EL (.ref d) (.tup (o.map .int)) (.ref r) T=.ok () T'/\Kn N Φ T' d K'/\vH (.ref d) (.tup (o.map .int)) T'=.ok (.ref r) T'/\Sm T' r es/\Kp (·=d) T T':=by
 have k:Kp (·=d) T (T.set d (.dct ((Su.oF K o r []).map Su.kv))):=Kp.refl.FY (.inl rfl);have dd:j4 (T.set d (.dct ((Su.oF K o r []).map Su.kv))) d=some ((Su.oF K o r []).map Su.kv):=Su.CY (Su.zS h.dd);obtain⟨e,e1,e2⟩:=Su.BC (D:=K) (o:=o) (r:=r) (p:=[]);have hm:=h.many hN;refine⟨_,Su.oF K o r [],?_,⟨dd,?_,λe he=>?_,λe he'=>?_⟩,?_,hr.Dh k h.dd,k⟩
 ·rw[Su.Ad,h.dd,kK,Su.FW (p:=[])];exact xY (show(K.map Su.kv).length<16777216 by rw[aH];lia)
 ·rw[Su.Gv];exact h.gd.put Wv
 ·rcases Su.sF he with z|z
  ·exact h.pm e z
  ·rw[z];exact po
 ·rcases Su.sF he' with z|z
  ·obtain⟨fs,a,b⟩:=h.at_ e z;exact⟨fs,a.Dh k h.dd,b⟩
  ·rw[z];exact⟨es,hr.Dh k h.dd,he⟩
 ·rw[Su.uE,dd,kK,Su.qE,e1,dZ,kK,e2]
theorem Mf{o:List Int}:KC true (.tup (o.map .int)) (.ref d) S=opt (j4 S d) λkvs=>.ok (.bl (!(ly kvs o).isSome)) S:=by
 show opt (j4 S d) (λkvs=>opt (A.ints (o.map .int)) λns=>_)=_;rw[ints_map];rfl
theorem DE{N P n:Nat}{l:Su.Ps}(hN:N<6)(hz:Sz N P C l)(hP:P<=1000)(hC:3 ^ 25 * C<big)(hs:Su.sm es=l):∀(f:Nat) {S:jG}{K:Es}{o:List Int},Iv.inv o<f->o.Perm (rg N)->Sm S n es->Kn N (He.bo l) S d K ->
  ∃(r:Nat) (S':jG) (K' rs:Es),o7 f [.ref n,.tup (o.map .int),.ref d] S=.ok (.ref r) S'/\Kn N (He.bo l) S' d K'/\Sm S' r rs/\Su.sm rs=He.bo l o/\Kp (·=d) S S'
 | 0,S,K,o,hf,_,_,_=>absurd hf (eY _)
 | f+1,S,K,o,hf,po,h,hK=>by
  have lo:=nv po;show ∃(r:Nat) (S':jG) (K' rs:Es),mE p6 (qa (o7 f)) [.ref n,.tup (o.map .int),.ref d] S=.ok (.ref r) S'/\_;have i1:KC true (.tup (o.map .int)) (.ref d) S=.ok (.bl (!(ly (K.map Su.kv) o).isSome)) S:=by rw[Mf,hK.dd,kK]
  unfold qa p6
  cases hL:Su.fE K o with
  | some e=>
   obtain⟨m1,rfl⟩:=Su.qW hL;obtain⟨rs,r1,r2⟩:=hK.at_ e m1;have lk:ly (K.map Su.kv) e.1=some (.ref e.2.1):=by rw[Su.qE,hL];rfl
   have x1:vH (.ref d) (.tup (e.1.map .int)) S=.ok (.ref e.2.1) S:=by rw[Su.uE,hK.dd,kK,lk,kK]
   rw[lk]at i1;refine⟨e.2.1,S,K,rs,?_,hK,r1,r2,Kp.refl⟩;simp only[kC,pS,bools,mY,Nat.reduceAdd,Nat.reduceSub,i1,i6,cW,x1]
  | none=>
   have lk:ly (K.map Su.kv) o=none:=by rw[Su.qE,hL];rfl
   rw[lk]at i1;have fo:=v8 (S:=S) (xs:=o) (n:=N) lo (by lia);have hh:(fl o N).head?=(He.ff o).map λk:Nat=>(k:Int):=by
    have:=He.QS (o:=o);rw[lo]at this;exact this
   obtain⟨S1,hS1⟩:∃S1,S1=S++[O.lst ((fl o N).map .int)]:=⟨_,rfl⟩;have k1:lB S S1:=by rw[hS1];exact Kp.refl.lay
   have l1:jE S1 S.length=some ((fl o N).map .int):=by rw[hS1];exact jS
   rw[<- hS1]at fo;have tr:=Bg l1
   cases hf1:He.ff o with
   | none=>
    have fe:fl o N=[]:=by
     rw[hf1]at hh;exact List.head?_eq_none_iff.mp hh
    obtain⟨T',K',e1,n1,x1,s1,kp⟩:=(hK.u_ k1).put hN po (h.kp k1) (by rw[hs];exact(He.Ez hf1).symm);refine⟨n,T',K',es,?_,n1,s1,by rw[hs];exact(He.Ez hf1).symm,k1.of0.trans kp⟩;rw[fe]at tr;simp only[kC,pS,bools,mY,Nat.reduceAdd,Nat.reduceSub,i1,gM,dh,fo,tr,gf,iF,cW,Su.uv,e1,x1]
   | some k=>
    obtain⟨f1,f2,f3⟩:=He.Ce hf1;obtain⟨t,ft⟩:∃t,fl o N=(k:Int)::t:=by
     rw[hf1]at hh;exact List.head?_eq_some_iff.mp hh
    rw[ft]at tr l1;have hd:=Fw.nZ f1 f2 (by have:=bR f3;lia);obtain⟨S2,x2,k2⟩:=yL (S:=S1) (xs:=o) (k:=k) f1 f2 (by lia);have k12:=k1.trans k2;have pe:=He.n5 po f1 (by lia);obtain⟨r3,S3,K3,rs3,x3,n3,s3,q3,k3⟩:=DE hN hz hP hC hs f (by lia) pe (h.kp k12) (hK.u_ k12);have z3:Sz N (P+25) (3 ^ 25 * C) (Su.sm rs3):=by rw[q3];exact hz.bo hN pe
    have m3:=z3.many hN;rw[Su.m5]at m3;obtain⟨L,S4,rs4,x4,s4,q4,_,_,_,_,k4⟩:=BS (j:=2 * (2 * (P+25)+1)) s3 (k:=k) (N:=N) (λe he=>by
     have b:=z3.pb (kM rfl he);exact⟨nv (z3.pm _ (kM rfl he)),by have:=b.2;show 2 * e.2.2.length<=_;exact iR _ this,λp hp=>cB (b.1.c p hp) hC⟩) f1 (by lia) (by lia) (by
      have:(2 * rs3.length+2) * (2 * (2 * (P+25)+1))<=242 * (2 * (2 * (P+25)+1)):=bL _ (by lia);lia) (by lia)
    have q4':Su.sm rs4=He.bo l o:=by rw[q4,q3];exact(He.Q2 hf1).symm
    obtain⟨T',K',e1,n1,x1,s1,kp⟩:=(n3.u_ k4).put hN po s4 q4';refine⟨L,T',K',rs4,?_,n1,s1,q4',((k12.of0.trans k3).trans k4.of0).trans kp⟩;have l3:jE S2 S.length=some (((k:Int)::t).map .int):=k2.lst _ _ (λz=>z) l1;have l4:jE S3 S.length=some (((k:Int)::t).map .int):=k3.lst _ _ (λz=>Su.om (hK.u_ k12).dd l3 z.symm) l3;simp only[kC,pS,bools,mY,Nat.reduceAdd,Nat.reduceSub,i1,gM,dh,fo,tr,bE,jf,cW];rw[bE]at l1 l3 l4;simp only[kC,pS,bools,l1,EI,x2,x3,l4,x4,Su.uv,e1,x1]
end K32
namespace K32
open PySem L2 Am
theorem qv{xs:List Int}{n:Nat}(px:xs.Perm (kP 1 ((n:Int)+1))):xs.length=n:=by have:=Mn px (by lia);lia
theorem FI{xs:List Int}{n:Int}(px:xs.Perm (kP 1 (n+1))):xs.Nodup:=px.nodup_iff.mpr (p9 _ _)
theorem yR{xs:List Int}{n:Nat}(px:xs.Perm (kP 1 ((n:Int)+1)))(h2:n<=1000):∃(ys:List Int) (S':jG),oS [.tup (xs.map .int)] S=.ok (.tup (ys.map .int)) S'/\Bl.pK xs ys/\ys.Perm (kP 1 ((n:Int)+1))/\lB S S':=by
 have lx:=qv px;unfold oS F_ GL;simp only[kC,bools,mY,Nat.reduceAdd,Nat.reduceSub,aH,lx];rw[YE (k:=n) jS (by lia)];simp only[kC,bools];have hlen:(S++[O.lst [.int 0]]).length=S.length+1:=by simp
 rw[hlen];refine Vd (xs:=xs.map .int) (S1:=S++[O.lst [.int 0]]++[O.lst (List.replicate n (.int 0))]) (V6 (by simp only[kC,bools]))
  (λt τ S'=>∃(a2 a3:A) (ps:List Int),τ=[.tup (xs.map .int),.ref (S.length+1),a2,a3]/\jE S' (S.length+1)=some (ps.map .int)/\ps.length=n/\(∀(p:Nat) (h:p<xs.length),p<t->ps[(xs[p]-1).toNat]?=some ((p:Int)+1))/\lB S S')
  (λr=>∃(ys:List Int) (S':jG),RS.end (RS.seq r _)=.ok (.tup (ys.map .int)) S'/\Bl.pK xs ys/\ys.Perm (kP 1 ((n:Int)+1))/\lB S S') ⟨.unb,.unb,List.replicate n 0,rfl,?_,by simp,λ_ _ h=>absurd h (eY _),Kp.refl.lay.lay⟩ ?_ ?_
 ·rw[List.map_replicate,<- hlen];exact jS
 ·rintro t x τ S' hx ⟨a2,a3,ps,rfl,hL,hl,hps,hk⟩;rw[aR]at hx;obtain⟨v,hv,rfl⟩:=aX.mp hx;obtain⟨ht,ev⟩:=aN.mp hv;have mv:=Dv px (aW hv);refine⟨_,_,by simp only[kC,bools,lz (show([_,_]:List A).length=2 from rfl)];rfl,.inl ?_⟩;have hi:A2 ps.length (v-1)=some (v-1).toNat:=zz (by lia) (by lia);have lL:=nX hL;unfold DX;simp only[kC,bools,hL,aH,hi];refine⟨_,_,rfl,_,_,ps.set (v-1).toNat ((t:Int)+1),rfl,?_,by rw[b9];exact hl,λp hp hpt=>?_,hk.set (.inr (by lia))⟩
  ·rw[oV lL,iU]
  ·by_cases e:p=t
   ·subst e;rw[ev,bY (by lia)]
   ·have ne:(xs[p]-1).toNat≠(v-1).toNat:=λz=>by
     have mp:=Dv px (dJ hp);have:xs[p]=xs[t]:=by rw[ev];lia
     exact e ((dj (FI px)).mp this)
    rw[cE (c7 ne)];exact hps p hp (by lia)
 ·rintro τ S' ⟨a2,a3,ps,rfl,hL,hl,hps,hk⟩;rw[aH]at hps;refine⟨ps,S',by simp only[kC,bools,hL],⟨by lia,λp h=>hps p h h⟩,?_,hk⟩;refine(xV (p9 _ _) (λv hv=>?_) (by rw[qd];lia)).symm;have:=oB.mp hv;have hp:(v-1).toNat<xs.length:=by lia
  have:=aW (hps (v-1).toNat hp hp)
  rwa [show(((v-1).toNat:Nat):Int)+1=v by lia]at this
open Po (Pl Ok Bd)
open Su (Es At Vl AF)
open He (Sz)
open Fw (rg)
structure Nw (b L:Nat)(rs:Es):Prop where
 ap:Su.Ap rs
 nw:∀e∈rs,b<=e.2.1/\e.2.1<L
theorem Bv{S:jG}{N P c n:Nat}{fs:Es}(hN:N<6)(h0:1<=N)(h:Sm S n es)(h':Sm S m fs)(hz:Sz N P C (Su.sm es))(hz':Sz N Q c (Su.sm fs))(hP:P+Q<=500)(hC:3 ^ 25 * C<big)(hc:c<big) :
  ∃(L:Nat) (S':jG) (rs:Es),nW [.ref n,.ref m] S=.ok (.ref L) S'/\Sm S' L rs/\Su.sm rs=He.Sb (Su.sm es) (Su.sm fs)/\Nw S.length L rs/\S.length<=L/\lB S S':=by
 obtain⟨S1,hS1⟩:∃S1,S1=S++[O.dct []]++[O.dct []]:=⟨_,rfl⟩;have k0:lB S S1:=by rw[hS1];exact Kp.refl.lay.lay
 have d0:j4 S1 S.length=some []:=by rw[hS1];exact Su.yE Su.oh
 have d1:j4 S1 (S.length+1)=some []:=by
  have:=Su.oh (S:=S++[O.dct []]) (xs:=[]);rw[aO,bB]at this;rw[hS1];exact this
 have len1:S1.length=S.length+2:=by rw[hS1];simp
 obtain⟨j,hj⟩:∃j,j=2 * (P+25+Q)+1:=⟨_,rfl⟩;have lf:=hz'.many hN;rw[Su.m5]at lf;have hle:(fs.map Su.ent).length=fs.length:=aH ..;have key:∃(y4 y5 y6 y7:A) (D K:Es) (T:jG) (i:Nat),mw o4 (wK 2 (oG (kI 4) (oG (kI 5) (wF)))) oZ [.ref n,.ref m,.ref S.length,.ref (S.length+1),.unb,.unb,.unb,.unb] S1=.nx [.ref n,.ref m,.ref S.length,.ref (S.length+1),y4,y5,y6,y7] T/\i<=120 * fs.length/\Su.Fil T S.length S.length i j (Su.adds [] (He.AZ (Su.sm es) (Su.sm fs))) D/\lB S T:=by
  refine pU (n:=m) (xs:=fs.map Su.ent) (S1:=S1) (show o4 _ _=_ from mT (by simp only[kC,bools]) (k0.lst _ _ (λz=>z) h'.l))
   (λt τ T=>(∃y4 y5 y6 y7:A,τ=[.ref n,.ref m,.ref S.length,.ref (S.length+1),y4,y5,y6,y7])/\(∃(i:Nat) (D:Es),i<=120 * t/\Su.Fil T S.length S.length i j (Su.adds [] (He.AZ (Su.sm es) (Su.sm (fs.take t)))) D)/\(∃K,Kn N (He.bo (Su.sm es)) T (S.length+1) K)/\lB S T)
   (λr=>∃(y4 y5 y6 y7:A) (D K:Es) (T:jG) (i:Nat),r=.nx [.ref n,.ref m,.ref S.length,.ref (S.length+1),y4,y5,y6,y7] T/\i<=120 * fs.length/\Su.Fil T S.length S.length i j (Su.adds [] (He.AZ (Su.sm es) (Su.sm fs))) D/\lB S T)
   ⟨⟨_,_,_,_,rfl⟩,⟨0,[],aQ _,Su.Fil.new d0⟩,⟨[],d1,Su.Gd.nil,(λ_ z=>nomatch z),λ_ z=>nomatch z⟩,k0⟩ (λt τ T hh=>hh.2.2.2.lst _ _ (λz=>z) h'.l) ?_ ?_
  ·rintro t z τ T hz1 ⟨⟨y4,y5,y6,y7,rfl⟩,⟨i,D,hi,fT⟩,⟨K,hK⟩,kT⟩;rw[aR]at hz1;obtain⟨e,he,rfl⟩:=aX.mp hz1;have htl:=(aN.mp he).1;have me:=aW he;have pe:=hz'.pm _ (kM rfl me);have be:=hz'.pb (kM rfl me);refine⟨[.ref n,.ref m,.ref S.length,.ref (S.length+1),.tup (e.1.map .int),.ref e.2.1,y6,y7],T,rfl,.inl ?_⟩;obtain⟨r,T1,K1,rs,x1,n1,s1,q1,k1⟩:=DE hN hz (by lia) hC rfl 26 (by have:=He.xM hN pe;lia) pe (h.kp kT) hK;have z1:Sz N (P+25) (3 ^ 25 * C) (Su.sm rs):=by rw[q1];exact hz.bo hN pe
   have m1:=z1.many hN;rw[Su.m5]at m1;have f1:Su.Fil T1 S.length S.length i j (Su.adds [] (He.AZ (Su.sm es) (Su.sm (fs.take t)))) D:=⟨k1.dct _ _ (by lia) fT.dd,fT.aa.Dh k1 hK.dd,fT.ss,fT.vv,fT.kk,fT.ll,fT.pw⟩;have p1:jE T1 e.2.1=some (Po.pl e.2.2):=k1.lst _ _ (λz=>Su.om hK.dd ((h'.kp kT).a e me) z.symm) ((h'.kp kT).a e me);have tl:=kT.len;have tl1:=k1.len;have len2:S.length+2<=T.length:=by have:=Su.zS hK.dd;lia
   obtain⟨z6,z7,_,D2,T2,_,x2,f2,k2⟩:=Su.wI (w:=1) (j:=j) (b:=S.length) (i0:=i) (S:=T) (S1:=T1) (d:=S.length) (n:=r) (es:=rs) (src:=qY) (c:=qR) (g:=wK 2 (oG (kI 6) (oG (kI 7) (wF)))) (λy z _=>[.ref n,.ref m,.ref S.length,.ref (S.length+1),.tup (e.1.map .int),.ref e.2.1,y,z]) (λ_=>True) (λx Q=>Su.xG Q x.1 (Po.times e.2.2 x.2.2)) (λ_ _ _ _ _=>rfl) (x3:=y6) (x4:=y7) (xs0:=[]) trivial
    (show qY _ _=_ from mT (by
     have x1':vf [.ref n,.tup (e.1.map .int),.ref (S.length+1)] T=.ok (.ref r) T1:=x1;simp only[kC,pS,bools,x1']) s1.l) s1.l f1 λa x U Q1 D' xs ha hx _ kU f=>by
     have ul:=kU.len;have b1:=z1.pb (kM rfl hx);rw[dS]at f;rw[dS];have ai:i+a<14400:=by lia
     have hm1:(i+a) * j<=14400 * j:=bL _ (by lia);obtain⟨L,U1,e1,l1,l2,k1'⟩:=zR (kU.lst _ _ (λz=>Su.om f1.dd p1 z.symm) p1) ((s1.a.Dh kU f1.dd) x hx) (by
      have a1:=be.2;have a2:=b1.2;have a3:(2 * Q+1) * (2 * (P+25)+1)<=1001 * 1051:=dR (by lia) (by lia);exact cB (bJ (dR a1 a2) a3) (by decide)) (λp hp=>cB (be.1.c p hp) hc) λp hp=>cB (b1.1.c p hp) hC
     have k1l:=k1'.len;have tl':(Po.times e.2.2 x.2.2).length<=j:=by
      have:=He.PB.times be.1 b1.1;rw[hj];refine bJ this ?_;lia
     obtain⟨D3,U2,e2,f',k'⟩:=(f.u_ k1').add rQ (o:=x.1) l1 tl' (λz=>by
      have:=nv (z1.pm _ (kM rfl hx));rw[show((x.1,x.2.2):List Int×Pl).1=x.1 from rfl,z]at this;simp at this;lia) (by lia) (by lia) (by lia)
     exact⟨D3,U2,[],trivial,by unfold qR;simp only[kC,pS,bools,e1,e2],f',k1'.of0.trans k'⟩
   have kT2:lB S T2:=(kT.old k1 λq hq _ z=>by lia).old k2 λq hq _ z=>by lia
   refine⟨[.ref n,.ref m,.ref S.length,.ref (S.length+1),.tup (e.1.map .int),.ref e.2.1,z6,z7],T2,?_,⟨_,_,_,_,rfl⟩,⟨i+1 * rs.length,D2,by lia,?_⟩,⟨K1,n1.Dh k2 f1.dd (by lia)⟩,kT2⟩
   ·unfold oZ;exact x2
   ·rw[Su.xy]at f2;rw[cH,he,Su.CG];unfold He.AZ at f2 ⊢;rw[iQ,Su.zq];have:List.flatMap (λe=>He.Ox e.2 (He.bo (Su.sm es) e.1)) (Su.sm (some e).toList)=(Su.sm rs).map λx=>(x.1,Po.times e.2.2 x.2):=by
     show He.Ox e.2.2 (He.bo (Su.sm es) e.1)++[]=_;rw[cL,q1];rfl
    rw[this];exact f2
  ·rintro τ T ⟨⟨y4,y5,y6,y7,rfl⟩,⟨i,D,hi,fT⟩,⟨K,hK⟩,kT⟩;rw[hle]at hi;rw[hle,cP]at fT;exact⟨y4,y5,y6,y7,D,K,T,i,rfl,hi,fT,kT⟩
 obtain⟨y4,y5,y6,y7,D,K,T,i,e1,hi,f,kT⟩:=key;have fl:=f.ll;obtain⟨L,S',e2,r1,r2,r3,r4⟩:=zK f.dd f.aa f.kk (by lia);have tl:=kT.len;refine⟨L,S',_,?_,⟨r1,r2⟩,by rw[Su.uI,f.ss];rfl,⟨f.pw.out _,λe he=>?_⟩,by lia,kT.trans r4⟩
 ·unfold nW sO tF;simp only[kC,pS,bools,mY,Nat.reduceAdd,Nat.reduceSub,Su.rm,aO,bB];rw[<- hS1,show mw o4 _ oZ _ _=_ from e1];simp only[kC,pS,bools,e2]
 ·obtain⟨m1,m2⟩:=Su.uR he;obtain⟨v1,v2,v3⟩:=f.vv e m1;have lt:=nX (f.aa e m1);exact⟨v3,by lia⟩
theorem Oo{S:jG}{N P n:Nat}(hN:N<6)(h:Sm S n es)(hz:Sz N P C (Su.sm es)) :
  ∃(L:Nat) (S':jG) (rs:Es),mJ [.ref n] S=.ok (.ref L) S'/\Sm S' L rs/\Su.sm rs=He.yX (Su.sm es)/\(∀b,Nw b n es->Nw b L rs)/\S.length<=L/\lB S S':=by
 have lf:=hz.many hN;rw[Su.m5]at lf;have pm:∀e∈es,e.1.Perm (rg N):=λe he=>hz.pm _ (kM rfl he);have g2:∀x y:A,gd (([x,y]:List A).length<=sizeLine)=λr:Am.R A=>r:=λx y=>by funext r;exact sU (show 2<=16777216 by decide)
 obtain⟨S1,e1,k1⟩:=Su.JX (es:=es) (n:=n) (cap:=[]) (src:=nE (jD 0)) (ex:=lV (jA (eFn oS (jA (jD 0) (jF))) (jA (jD 1) (jF)))) (τ:=[.ref n]) (S:=S) (mT (by simp only[kC,bools]) h.l) h.l (λe=>Su.ent (He.bk e.1,e.2)) (λe he T kT=>by
  obtain⟨ys,T',b1,b2,b3,b4⟩:=yR (S:=T) (pm e he) (by lia);have:ys=He.bk e.1:=He.lE ⟨pm e he,b3,b2⟩ (He.mq (pm e he));subst this;exact⟨T',by simp only[kC,bools,b1,g2];rfl,b4⟩) (by lia)
 obtain⟨es',he'⟩:∃es',es'=es.map λe:Su.En=>(He.bk e.1,e.2):=⟨_,rfl⟩;have l1:jE (S1++[.lst (es.map λe=>Su.ent (He.bk e.1,e.2))]) S1.length=some (es'.map Su.ent):=by rw[jS,he',bu];rfl
 have nd:(es'.map Prod.fst).Nodup:=by
  have:=He.zl (n:=N) (ks:=es.map Prod.fst) (λo ho=>by obtain⟨e,he,rfl⟩:=bz.mp ho;exact pm e he) (by
   have:=hz.cn.gd.nd;unfold Su.sm at this
   rwa [bu]at this)
  rw[he',bu];rw[bu]at this;exact this
 have x1:=Su.Bb l1 nd;have k2:lB S (S1++[O.lst (es.map λe=>Su.ent (He.bk e.1,e.2))]++[O.lst ((Am.mR es').map Su.ent)]):=k1.lay.lay;have perm:=Am.oU es';have hm:∀e∈Am.mR es',∃f∈es,e=(He.bk f.1,f.2):=λe he=>by
  have:=perm.mem_iff.mp he;rw[he']at this;obtain⟨f,hf,rfl⟩:=bz.mp this;exact⟨f,hf,rfl⟩
 refine⟨_,_,Am.mR es',?_,⟨jS,λe he=>?_⟩,?_,λb hb=>⟨?_,λe he=>?_⟩,?_,k2⟩
 ·unfold mJ rX r_;simp only[kC,bools,mY,Nat.reduceAdd,Nat.reduceSub,e1,x1]
 ·obtain⟨f,hf,rfl⟩:=hm e he;exact(h.a.u_ k2) f hf
 ·rw[Su.EV,he'];show Am.mR (Su.sm (es.map λe:Su.En=>(He.bk e.1,e.2)))=Am.mR (He.wb (Su.sm es));congr 1;unfold Su.sm He.wb;rw[bu,bu];rfl
 ·have a1:Su.Ap es':=by
   rw[he'];unfold Su.Ap;rw[cG];refine gD (λ{e f} he hf z=>⟨λw=>z.1 ?_,z.2⟩) hb.ap;have:=dm He.bk w
   rwa [He.qB (pm e he),He.qB (pm f hf)]at this
  exact(perm.pairwise_iff (λ{a b} z=>⟨z.1.symm,z.2.symm⟩)).mpr a1
 ·obtain⟨f,hf,rfl⟩:=hm e he;have:=hb.nw f hf;have ll:=nX (h.a f hf);have kl:=k1.len;refine⟨this.1,?_⟩;rw[aO];show f.2.1<_;lia
 ·have kl:=k1.len;rw[aO];lia
theorem qF{S:jG}{N P c n:Nat}{fs:Es}(hN:N<6)(h0:1<=N)(h:Sm S n es)(h':Sm S m fs)(hz:Sz N P C (Su.sm es))(hz':Sz N Q c (Su.sm fs))(hP:P+Q<=500)(hC:3 ^ 25 * C<big)(hc:3 ^ 25 * c<big) :
  ∃(L:Nat) (S':jG) (rs:Es),lG [.ref n,.ref m] S=.ok (.ref L) S'/\Sm S' L rs/\Su.sm rs=He.prod (Su.sm es) (Su.sm fs)/\Nw S.length L rs/\S.length<=L/\lB S S':=by
 have nl:=wc h h' (λe he=>nv (hz.pm _ (kM rfl he))) (λe he=>nv (hz'.pm _ (kM rfl he)));by_cases c1:(Su.sm fs).length<=(Su.sm es).length
 ·obtain⟨L,S',rs,e1,s1,q1,w1,l1,k1⟩:=Bv hN h0 h h' hz hz' hP hC (by lia);refine⟨L,S',rs,?_,s1,by rw[q1];unfold He.prod;rw[aM c1],w1,l1,k1⟩;rw[Su.m5,Su.m5]at c1;unfold lG uC uT;simp only[kC,pS,bools,mY,Nat.reduceAdd,Nat.reduceSub,nl,h.l,h'.l,aH,bh (show(fs.length:Int)<=(es.length:Int)by lia),e1]
 ·obtain⟨L1,S1,r1,e1,s1,q1,_,l1,k1⟩:=Oo hN h' hz';obtain⟨L2,S2,r2,e2,s2,q2,_,l2,k2⟩:=Oo hN (h.kp k1) hz;obtain⟨L3,S3,r3,e3,s3,q3,w3,l3,k3⟩:=Bv hN h0 (s1.kp k2) s2 (by rw[q1];exact hz'.yX) (by rw[q2];exact hz.yX) (by lia) hc (by lia);have z3:Sz N (Q+25+P) (120 * ((2 * P+1) * (C * (3 ^ 25 * c)))) (Su.sm r3):=by
   rw[q3,q1,q2];exact Sz.Sb hN hz'.yX hz.yX
  obtain⟨L4,S4,r4,e4,s4,q4,w4,l4,k4⟩:=Oo hN s3 z3;refine⟨L4,S4,r4,?_,s4,by rw[q4,q3,q1,q2];unfold He.prod;rw[aK c1],?_,?_,((k1.trans k2).trans k3).trans k4⟩
  ·rw[Su.m5,Su.m5]at c1;unfold lG uC uT;simp only[kC,pS,bools,mY,Nat.reduceAdd,Nat.reduceSub,nl,h.l,h'.l,aH,bq (show ¬(fs.length:Int)<=(es.length:Int)by lia),e1,e2,e3,e4]
  ·have:=w4 _ w3;have:=k1.len;have:=k2.len;exact⟨(w4 _ w3).ap,λe he=>⟨by have:=((w4 _ w3).nw e he).1;lia,((w4 _ w3).nw e he).2⟩⟩
  ·have:=k1.len;have:=k2.len;have:=k3.len;lia
end K32
namespace K32
open PySem L2 Am
open Po (Pl Ok Bd)
theorem Cz{k:Nat}:∀l:Pl,qe (qU S (k+2)) (Po.pl l) (Po.pl l)=some true
 | []=>rfl
 | p::l=>by
  have e:qU S (k+2) (Po.pA p) (Po.pA p)=some true:=by
   show qe (qU S (k+1)) (([p.1,p.2]:List Int).map .int) (([p.1,p.2]:List Int).map .int)=_;rw[uP,bh rfl]
  show(qU S (k+2) (Po.pA p) (Po.pA p)).bind _=_;rw[e];show Option.map _ (qe (qU S (k+2)) (Po.pl l) (Po.pl l))=_;rw[Cz l];rfl
theorem X9{a:Nat}{l:Pl}(h:jE S a=some (Po.pl l))(h':jE S b=some (Po.pl l)):qU S 12 (.ref a) (.ref b)=some true:=by
 show(jE S a).bind (λxs=>(jE S b).bind λys=>qe (qU S 11) xs ys)=_;rw[h,h'];exact Cz (k:=9) l
open Po (Pl Ok Bd)
open Su (Es At Vl)
theorem DY{k:Nat}:∀{es fs:Es},At S es->At S fs->Su.sm es=Su.sm fs->qe (qU S (k+4)) (es.map Su.ent) (fs.map Su.ent)=some true
 | [],[],_,_,_=>rfl
 | [],f::fs,_,_,h=>nomatch h
 | e::es,[],_,_,h=>nomatch h
 | e::es,f::fs,h1,h2,h3=>by
  obtain⟨h4,h5⟩:=List.cons.inj h3;have h4:(e.1,e.2.2)=(f.1,f.2.2):=h4;obtain⟨e1,e2⟩:=Prod.mk.inj h4;have a1:=h1 e (aI ..);have a2:=h2 f (aI ..);rw[<- e2]at a2;have q1:qU S (k+3) (.tup (e.1.map .int)) (.tup (f.1.map .int))=some true:=by
   rw[<- e1];show qe (qU S (k+2)) _ _=_;rw[uP,bh rfl]
  have q2:qU S (k+3) (.ref e.2.1) (.ref f.2.1)=some true:=by
   show(jE S e.2.1).bind (λxs=>(jE S f.2.1).bind λys=>qe (qU S (k+2)) xs ys)=_;rw[a1,a2];exact Cz (k:=k) _
  have q:qU S (k+4) (Su.ent e) (Su.ent f)=some true:=by
   show qe (qU S (k+3)) [.tup (e.1.map .int),.ref e.2.1] [.tup (f.1.map .int),.ref f.2.1]=_;show(qU S (k+3) _ _).bind (λp=>((qU S (k+3) _ _).bind λq=>(qe (qU S (k+3)) [] []).map λr=>q && r).map λq=>p && q)=_;rw[q1,q2];rfl
  show(qU S (k+4) (Su.ent e) (Su.ent f)).bind _=_;rw[q];show Option.map _ (qe (qU S (k+4)) (es.map Su.ent) (fs.map Su.ent))=_;rw[DY (λx hx=>h1 x (aL _ hx)) (λx hx=>h2 x (aL _ hx)) h5];rfl
theorem UP{n:Nat}{fs:Es}(h:Sm S n es)(h':Sm S m fs)(e:Su.sm es=Su.sm fs):qU S 12 (.ref n) (.ref m)=some true:=by
 show(jE S n).bind (λxs=>(jE S m).bind λys=>qe (qU S 11) xs ys)=_;rw[h.l,h'.l];exact DY (k:=7) h.a h'.a e
open Po (Pl Ok Bd)
open Su (Es At Vl)
open He (Sz)
theorem UG{S:jG}{n N P c:Nat}{fs:Es}(hN:N<6)(h0:1<=N)(h:Sm S n es)(h':Sm S m fs)(hz:Sz N P C (Su.sm es))(hz':Sz N P c (Su.sm fs))(hP:P<=10000) :
  ∃(L:Nat) (S':jG) (rs:Es),ux [.ref n,.ref m] S=.ok (.ref L) S'/\Sm S' L rs/\Su.sm rs=He.KL (Su.sm es) (Su.sm fs)/\Nw S.length L rs/\S.length<=L/\lB S S':=by
 have nl:=wc h h' (λe he=>nv (hz.pm _ (kM rfl he))) (λe he=>nv (hz'.pm _ (kM rfl he)));have m1:=hz.many hN;have m2:=hz'.many hN;rw[Su.m5]at m1 m2;have hle:(es++fs).length=es.length+fs.length:=aO ..;have n1:jE (S++[.dct []]) n=some (es.map Su.ent):=kD h.l;have n2:jE (S++[.dct []]) m=some (fs.map Su.ent):=kD h'.l;have ad:=XS n1 n2 (by rw[aH,aH];lia);rw[<- bP]at ad;have k0:lB S (S++[.dct []]++[.lst ((es++fs).map Su.ent)]):=Kp.refl.lay.lay;have hj:∀e∈es++fs,e.2.2.length<=2 * P+1/\e.1≠[]:=λe he=>by
  have:e.1.length=N/\e.2.2.length<=2 * P+1:=(bF.mp he).elim (λz=>⟨nv (hz.pm _ (kM rfl z)),(hz.pb (kM rfl z)).2⟩) λz=>⟨nv (hz'.pm _ (kM rfl z)),(hz'.pb (kM rfl z)).2⟩;exact⟨this.2,λz=>by rw[z]at this;have:=this.1;simp at this;lia⟩
 obtain⟨j,hj'⟩:∃j,j=2 * P+1:=⟨_,rfl⟩;rw[<- hj']at hj;have hb:(0+(es++fs).length) * j+j<16777216:=by
  have:(0+(es++fs).length) * j<=240 * j:=bL _ (by lia);lia
 obtain⟨y3,y4,D,T,e1,f,kp⟩:=Su.RA rQ (j:=j) (b:=S.length) (i0:=0) (S:=S++[.dct []]) (S1:=S++[.dct []]++[.lst ((es++fs).map Su.ent)]) (d:=S.length) (x0:=.ref n) (x1:=.ref m) (x3:=.unb) (x4:=.unb) (xs:=[]) (src:=uQ) (es:=es++fs)
  (show uQ _ _=_ from mT (by simp only[kC,bools,ad]) jS) jS ((h.a.app h'.a).u_ k0) (Su.Fil.new (Su.yE Su.oh)) k0.len hj hb (by lia)
 have kT:lB S T:=k0.old kp λq hq _ z=>by lia
 have fl:=f.ll;obtain⟨L,S',e2,r1,r2,r3,r4⟩:=zK f.dd f.aa f.kk (by lia);have tl:=kT.len;refine⟨L,S',_,?_,⟨r1,r2⟩,by rw[Su.uI,f.ss,Su.CG];rfl,⟨f.pw.out _,λe he=>?_⟩,by lia,kT.trans r4⟩
 ·unfold ux C8 Cf;simp only[kC,pS,bools,mY,Nat.reduceAdd,Nat.reduceSub,nl,Su.rm];rw[show mw uQ _ A8 _ _=_ from e1];simp only[kC,pS,bools,e2]
 ·obtain⟨m1,m2⟩:=Su.uR he;obtain⟨v1,v2,v3⟩:=f.vv e m1;have lt:=nX (f.aa e m1);exact⟨v3,by lia⟩
noncomputable def Sn (N P C:Nat)(S:jG)(n:Nat)(l:Su.Ps):Prop:=Sz N P C l/\∃es,Sm S n es/\Su.sm es=l
theorem Sn.kp{N P n:Nat}{l:Su.Ps}(h:Sn N P C S n l)(k:lB S S'):Sn N P C S' n l:=by
 obtain⟨a,es,b,c⟩:=h;exact⟨a,es,b.kp k,c⟩
theorem Sn.eq{N P n:Nat}{l k:Su.Ps}(h:Sn N P C S n l)(h':Sn N P' C' S m k)(e:l=k):qU S 12 (.ref n) (.ref m)=some true:=by
 obtain⟨_,es,b,c⟩:=h;obtain⟨_,fs,b',c'⟩:=h';exact UP b b' (by rw[c,c',e])
theorem Sn.prod{N P c n:Nat}{l k:Su.Ps}(h:Sn N P C S n l)(h':Sn N Q c S m k)(hN:N<6)(h0:1<=N)(hP:P+Q<=500)(hC:3 ^ 25 * C<big)(hc:3 ^ 25 * c<big) :
  ∃(L:Nat) (S':jG),lG [.ref n,.ref m] S=.ok (.ref L) S'/\Sn N (P+25+Q) (120 * ((2 * Q+1) * (c * (3 ^ 25 * C)))) S' L (He.prod l k)/\lB S S':=by
 obtain⟨a,es,b,rfl⟩:=h;obtain⟨a',fs,b',rfl⟩:=h';obtain⟨L,S',rs,e1,s1,q1,_,_,k1⟩:=qF hN h0 b b' a a' hP hC hc;exact⟨L,S',e1,⟨a.prod hN a',rs,s1,q1⟩,k1⟩
theorem Sn.mono{N P n:Nat}{l:Su.Ps}(h:Sn N P C S n l)(hp:P<=P')(hc:C<=C'):Sn N P' C' S n l:=⟨h.1.mono hp hc,h.2⟩
end K32
namespace K32
open PySem L2 Am
open Fw (yS Dn Two Va rg)
theorem GD{l:List Int}{n:Nat}(hl:l.length=n){x:Int}:x∈fl l n ↔ ∃k:Nat,x=k/\yS l k:=by
 unfold fl;rw[cK,oB,jb];constructor
 ·rintro⟨⟨h1,h2⟩,h3⟩;refine⟨x.toNat,by lia,by lia,by lia,?_⟩;rw[show(x-1).toNat=x.toNat-1 by lia]at h3;exact h3
 ·rintro⟨k,rfl,h1,h2,h3⟩;refine⟨⟨by lia,by lia⟩,?_⟩;rw[show((k:Int)-1).toNat=k-1 by lia,dg];exact h3
theorem Qo{l:List Int}{n:Nat}(hl:l.length=n)(h:∀k,¬yS l k):fl l n=[]:=by
 rw[List.eq_nil_iff_forall_not_mem];intro x hx;obtain⟨k,_,hk⟩:=(GD hl).mp hx;exact h k hk
theorem R9{l:List Int}{n k:Nat}(hl:l.length=n)(hk:yS l k)(hm:∀j,yS l j->k<=j):∃t,fl l n=(k:Int)::t:=by
 have hin:(k:Int)∈fl l n:=(GD hl).mpr ⟨k,rfl,hk⟩;have pw:(fl l n).Pairwise (·<=·):=(Cr 1 (n:Int)).sublist List.filter_sublist;have hmem:∀x∈fl l n,(k:Int)<=x:=λx hx=>by
  obtain⟨j,rfl,hj⟩:=(GD hl).mp hx;have:=hm j hj;lia
 cases e:fl l n with
 | nil=>rw[e]at hin;cases hin
 | cons y t=>
  rw[e]at hin pw hmem;have h1:=hmem y (aI ..);have:y=(k:Int):=by
   rcases bC.mp hin with z|z
   ·exact z.symm
   ·have:=(bN.mp pw).1 _ z;lia
  exact⟨t,by rw[this]⟩
theorem Y_{n:Nat}{xs:List A}(h:jE S n=some xs):A.TX (.ref n) S=some (!xs.isEmpty):=by
 show(jE S n).map _=_;rw[h];rfl
theorem R_(w:List Nat)(k:Nat):wd w++[A.int (k:Int)]=wd (w++[k]):=by unfold wd;rw[bP];rfl
theorem T_{S:jG}{o:List Int}{n:Nat}(px:o.Perm (kP 1 ((n:Int)+1)))(h2:n<=20)(hu:Bl.pK o u)(hk:Dn u ks) :
  ∃(W:Nat) (S':jG),lN [.tup (o.map .int)] S=.ok (.ref W) S'/\jE S' W=some (wd ks)/\S.length<=W/\lB S S':=by
 obtain⟨ys,S1,e1,hb,py,k1⟩:=yR (S:=S) px (show n<=1000 by lia);have eyu:ys=u:=by
  have l1:=hb.1;have l2:=hu.1;apply c5;intro q;by_cases hq:q<u.length
  ·have lo:=qv px;obtain⟨p,hp,ep⟩:∃p,∃h:p<o.length,o[p]=(q:Int)+1:=by
    have:(q:Int)+1∈o:=px.mem_iff.mpr (oB.mpr ⟨by lia,by lia⟩);obtain⟨p,hp,ep⟩:=List.getElem_of_mem this;exact⟨p,hp,ep⟩
   have a1:=hb.2 p hp;have a2:=hu.2 p hp;rw[ep,show((q:Int)+1-1).toNat=q by lia]at a1 a2;rw[a1,a2]
  ·rw[bW (by lia),bW (by lia)]
 subst eyu;have lu:=qv py;have hks:ks.length<=400:=by
  rw[hk.len];have:=Iv.F5 ys;rw[lu]at this;exact bJ this (dR h2 h2)
 have f0:=v8 (S:=S1++[.lst []]) (xs:=ys) lu h2;have l1:(S1++[O.lst []]).length=S1.length+1:=by simp
 have key:=vK (t:=pZ) (c:=qi)
  (λτ T=>∃(C:Nat) (l:List Int) (done rest:List Nat),τ=[.tup (o.map .int),.tup (l.map .int),.ref S1.length,.ref C]/\ks=done++rest/\Dn l rest/\l.Perm (kP 1 ((n:Int)+1))/\jE T S1.length=some (wd done)/\jE T C=some ((fl l n).map .int)/\C≠S1.length/\lB S1 T)
  (λτ T=>ks.length-((jE T S1.length).getD []).length)
  (λr=>∃(W:Nat) (S':jG),RS.end (RS.seq r (lA (jD 2)))=.ok (.ref W) S'/\jE S' W=some (wd ks)/\S.length<=W/\lB S S') ?_ 1000000
 ·unfold lN rY sq;simp only[kC,pS,bools,mY,Nat.reduceAdd,Nat.reduceSub,e1,f0];refine key _ _ ⟨(S1++[O.lst []]).length,ys,[],ks,rfl,rfl,hk,py,kD jS,jS,by lia,Kp.refl.lay.lay⟩ (by lia)
 ·rintro τ T ⟨C,l,done,rest,rfl,hd,hdn,pl,hW,hC,hne,kp⟩;have ll:=qv pl;unfold pZ;simp only[kC,bools,Y_ hC]
  cases rest with
  | nil=>
   left;rw[Qo ll hdn];rw[cL]at hd;refine⟨T,rfl,S1.length,T,?_,by rw[hd];exact hW,k1.len,k1.trans kp⟩;simp only[kC,bools]
  | cons k rest=>
   right;obtain⟨t,ht⟩:=R9 ll hdn.1.1 hdn.1.2;rw[ht]at hC;rw[ht];refine⟨T,rfl,.inl ?_⟩;have hk1:=hdn.1.1;have a0:sd ((((k:Int)::t).map A.int)) 0=some (.int k):=EI;have hdl:done.length<ks.length:=by rw[hd,aO,aZ];lia
   have lW:=nX hW;have hC':jE (T.set S1.length (.lst (wd (done++[k])))) C=some (((k:Int)::t).map .int):=by rw[oK (c7 hne)];exact hC
   obtain⟨T2,e2,kp2⟩:=yL (S:=T.set S1.length (.lst (wd (done++[k])))) (xs:=l) (k:=k) hk1.1 hk1.2.1 (by lia);have hx:(Wd.ex l k).length=n:=by rw[Wd.mG];exact ll
   have f1:=v8 (S:=T2) (xs:=Wd.ex l k) hx h2;unfold qi;simp only[kC,pS,bools,hC,a0,hW,xY (show(wd done).length<16777216 by rw[aH];lia),R_,hC',e2,f1];have hW2:jE (T2++[O.lst ((fl (Wd.ex l k) n).map A.int)]) S1.length=some (wd (done++[k])):=kD (kp2.lst _ _ (λz=>z) (oV lW));have lt2:T.length<=T2.length:=by have:=kp2.len;rwa [b9]at this
   refine⟨_,_,rfl,⟨T2.length,Wd.ex l k,done++[k],rest,rfl,by rw[hd,cu];rfl,hdn.2,Fw.n5 pl hk1.1 hk1.2.1,hW2,jS,by lia,((kp.set (.inr (aQ _))).trans kp2).lay⟩,?_⟩;simp only[hW2,hW,eE];simp only[aH,aO,aZ,bK];lia
open Po (Pl Ok Bd)
open Su (Es At Vl AF)
open He (Sz PB)
open Fw (rg)
theorem P9{S:jG}{n N P c:Nat}{q:Pl}(f:Int×Int->A)(hf:∀p τ S,PL (f p) τ S=PL (Po.pA p) τ S)(hN:N<6)(h0:1<=N)(h:Sm S n es)(hz:Sz N P C (Su.sm es))(hq:jE S m=some (q.map f))(pq:PB Q c q)(lq:q.length<=2)(hP:P<=1000)(hC:C<big)(hc:c<big) :
  ∃(L:Nat) (S':jG) (rs:Es),rF [.ref m,.ref n] S=.ok (.ref L) S'/\Sm S' L rs/\Su.sm rs=He.PN q (Su.sm es)/\S.length<=L/\lB S S':=by
 have k0:lB S (S++[.dct []]):=Kp.refl.lay;have m1:=hz.many hN;rw[Su.m5]at m1;obtain⟨j,hj⟩:∃j,j=2 * (2 * P+1):=⟨_,rfl⟩;obtain⟨y3,y4,_,D,T,_,e1,fD,kp⟩:=Su.wI (w:=1) (j:=j) (b:=S.length) (i0:=0) (S:=S++[.dct []]) (S1:=S++[.dct []]) (d:=S.length) (n:=n) (es:=es) (src:=rV) (c:=rZ) (g:=wK 2 (oG (kI 3) (oG (kI 4) wF))) (λy z _=>[.ref m,.ref n,.ref S.length,y,z]) (λ_=>True) (λe Q=>Su.xG Q e.1 (Po.times q e.2.2)) (λ_ _ _ _ _=>rfl) (x3:=.unb) (x4:=.unb) (xs0:=[]) trivial
  (show rV _ _=_ from mT (by simp only[kC,bools]) (kD h.l)) (kD h.l) (Su.Fil.new Su.oh) λi e T Q1 D xs hi he _ kT fT=>by
   have b:=hz.pb (kM rfl he);have tl:=kT.len;rw[aO]at tl;rw[cF,dS]at fT;rw[cF,dS];have hm1:i * j<=120 * j:=bL _ (by lia);have lb:e.2.2.length<=2 * P+1:=b.2;have ll:q.length * e.2.2.length<=j:=by rw[hj];exact dR lq lb
   obtain⟨L,T1,x1,l1,l2,k1⟩:=xm f hf (kT.lst _ _ (λz=>Su.om (Su.oh (S:=S) (xs:=[])) (kD (o:=.dct []) hq) z.symm) (kD hq)) (((h.a.u_ k0).Dh kT Su.oh) e he) (by lia) (λp hp=>cB (pq.c p hp) hc) λp hp=>cB (b.1.c p hp) hC;have k1l:=k1.len;obtain⟨D',T',x2,f',k'⟩:=(fT.u_ k1).add rQ (o:=e.1) l1 (bJ (Su.A7 _ _) ll) (λz=>by
    have:=nv (hz.pm _ (kM rfl he));rw[show((e.1,e.2.2):List Int×Pl).1=e.1 from rfl,z]at this;simp at this;lia) (by lia) (by lia) (by lia)
   exact⟨D',T',[],trivial,by unfold rZ;simp only[kC,bools,x1,x2],f',k1.of0.trans k'⟩
 rw[cF,dS,Su.xy]at fD;have kT:lB S T:=k0.old kp λq hq _ z=>by lia
 have fl:=fD.ll;obtain⟨L,S',e2,r1,r2,r3,r4⟩:=zK fD.dd fD.aa fD.kk (by lia);have tl:=kT.len;refine⟨L,S',_,?_,⟨r1,r2⟩,by rw[Su.uI,fD.ss];rfl,by lia,kT.trans r4⟩;unfold rF zW Ae;simp only[kC,bools,mY,Nat.reduceAdd,Nat.reduceSub,Su.rm];rw[show mw rV _ rZ _ _=_ from e1];simp only[kC,bools,e2]
theorem Qm{w:List Nat}{k:Nat}(h:w.getLast?=some k):sd (wd w) (-1)=some (.int k):=by
 obtain⟨u,rfl⟩:=List.getLast?_eq_some_iff.mp h;unfold wd;rw[bP];have e:A2 (u.map (λk:Nat=>A.int (k:Int))++[A.int (k:Int)]).length (-1)=some u.length:=by
  unfold A2;rw[aO,aH,bB,aK (by lia),aM (by lia)];congr 1;lia
 show(A2 _ (-1)).bind _=_;rw[show List.map (λk:Nat=>A.int (k:Int)) [k]=[A.int (k:Int)]from rfl,e,dz,f6 (by rw[aH];exact aQ _),aH,iT];rfl
theorem Jx{N:Nat}(hN:N<6)(h0:1<=N):∀(f:Nat) {S:jG}{K:Es}{o:List Int},Iv.inv o<f->o.Perm (rg N)->Kn N (He.tV N) S d K ->
  ∃(r:Nat) (S':jG) (K' rs:Es),mP f [.tup (o.map .int),.ref d] S=.ok (.ref r) S'/\Kn N (He.tV N) S' d K'/\Sm S' r rs/\Su.sm rs=He.tV N o/\Kp (·=d) S S'
 | 0,S,K,o,hf,_,_=>absurd hf (eY _)
 | f+1,S,K,o,hf,po,hK=>by
  have lo:=nv po;show ∃(r:Nat) (S':jG) (K' rs:Es),mE m8 (mZ (mP f)) [.tup (o.map .int),.ref d] S=.ok (.ref r) S'/\_;have i1:KC true (.tup (o.map .int)) (.ref d) S=.ok (.bl (!(ly (K.map Su.kv) o).isSome)) S:=by rw[Mf,hK.dd,kK]
  unfold mZ m8
  cases hL:Su.fE K o with
  | some e=>
   obtain⟨m1,rfl⟩:=Su.qW hL;obtain⟨rs,r1,r2⟩:=hK.at_ e m1;have lk:ly (K.map Su.kv) e.1=some (.ref e.2.1):=by rw[Su.qE,hL];rfl
   have x1:vH (.ref d) (.tup (e.1.map .int)) S=.ok (.ref e.2.1) S:=by rw[Su.uE,hK.dd,kK,lk,kK]
   rw[lk]at i1;refine⟨e.2.1,S,K,rs,?_,hK,r1,r2,Kp.refl⟩;simp only[kC,pS,bools,mY,Nat.reduceAdd,Nat.reduceSub,i1,i6,cW,x1]
  | none=>
   have lk:ly (K.map Su.kv) o=none:=by rw[Su.qE,hL];rfl
   rw[lk]at i1;obtain⟨W,S1,e1,l1,_,k1⟩:=T_ (S:=S) po (by lia) (He.mq po).ou (He.F8 o);have tr:=Bg l1
   cases hw:(He.fwd o).getLast? with
   | none=>
    have fe:=List.getLast?_eq_none_iff.mp hw;rw[fe]at tr;obtain⟨S2,h2⟩:∃S2,S2=S1++[O.lst [.tup [.int 0,.int 1]]]++[O.lst [.tup [.tup (o.map .int),.ref S1.length]]]:=⟨_,rfl⟩;have k2:lB S1 S2:=by rw[h2];exact Kp.refl.lay.lay
    have s2:Sm S2 (S1.length+1) [(o,S1.length,[((0:Int),(1:Int))])]:=by
     have:=jS (S:=S1++[O.lst [.tup [.int 0,.int 1]]]) (xs:=[.tup [.tup (o.map .int),.ref S1.length]]);rw[aO,bB]at this;rw[h2];exact⟨this,λe he=>by rw[aP.mp he];exact kD jS⟩
    have et:Su.sm [(o,S1.length,[((0:Int),(1:Int))])]=He.tV N o:=(He.WO po hw).symm;obtain⟨T',K',x2,n2,x3,s3,kp⟩:=(hK.u_ (k1.trans k2)).put hN po s2 et;refine⟨S1.length+1,T',K',_,?_,n2,s3,et,(k1.trans k2).of0.trans kp⟩;simp only[kC,pS,bools,mY,Nat.reduceAdd,Nat.reduceSub,i1,gM,dh,e1,tr,gf,iF,cW,lz (show 2<=sizeLine by decide),aO,bB,aZ,bK];rw[<- h2];simp only[kC,pS,bools,Su.uv,x2,x3]
   | some k=>
    obtain⟨f1,f2,f3⟩:=He.zU po hw;have ne:((wd (He.fwd o)).isEmpty)=false:=by
     cases hx:He.fwd o with
     | nil=>rw[hx]at hw;cases hw
     | cons=>rfl
    rw[ne]at tr;have a1:=Qm hw;have hd:=Fw.nZ f1 (show k<o.length by lia) (by have:=bR f3;lia);obtain⟨S2,x2,k2⟩:=yL (S:=S1) (xs:=o) (k:=k) f1 (by lia) (by lia);have k12:=k1.trans k2;have pe:=He.n5 po f1 f2;obtain⟨r3,S3,K3,rs3,x3,n3,s3,q3,k3⟩:=Jx hN h0 f (by lia) pe (hK.u_ k12);have z3:Sz N 25 (5 ^ 25) (Su.sm rs3):=by rw[q3];exact He.Ls hN pe
    have B5:5 ^ 25<big:=by rw[uS];exact show 5 ^ 25<2 ^ 4096 by decide +kernel
    have m3:=z3.many hN;rw[Su.m5]at m3;obtain⟨L4,S4,rs4,x4,s4,q4,_,_,_,_,k4⟩:=BS (j:=2 * (2 * 25+1)) s3 (k:=k) (N:=N) (λe he=>by
     have b:=z3.pb (kM rfl he);exact⟨nv (z3.pm _ (kM rfl he)),by have:=b.2;show 2 * e.2.2.length<=_;exact iR _ this,λp hp=>cB (b.1.c p hp) B5⟩) f1 f2 (by lia) (by lia) (by lia)
    have z4:Sz N 26 (3 * 5 ^ 25) (Su.sm rs4):=by rw[q4];exact z3.bx f1 f2
    have k5:lB S4 (S4++[O.lst (He.LB.map kA)]):=Kp.refl.lay;obtain⟨L5,S5,rs5,x5,s5,q5,_,k6⟩:=P9 kA (λ_ _ _=>rfl) (S:=S4++[O.lst (He.LB.map kA)]) (m:=S4.length) (q:=He.LB) (Q:=1) (c:=1) hN h0 ((s3.kp k4).kp k5) z3 jS ⟨λq hq=>by
     rcases bC.mp hq with z|z
     ·rw[z];decide
     ·rw[aP.mp z];decide,λq hq=>by
     rcases bC.mp hq with z|z
     ·rw[z];decide
     ·rw[aP.mp z];decide⟩ (aQ 2) (by decide) B5 (by rw[uS];exact show 1<2 ^ 4096 by decide +kernel)
    have z5:Sz N 26 (2 * (1 * 5 ^ 25)) (Su.sm rs5):=by
     rw[q5];exact(z3.PN (Q:=1) (c:=1) (p:=He.LB) ⟨λq hq=>by
      rcases bC.mp hq with z|z
      ·rw[z];decide
      ·rw[aP.mp z];decide,λq hq=>by
      rcases bC.mp hq with z|z
      ·rw[z];decide
      ·rw[aP.mp z];decide⟩)
    obtain⟨L6,S6,rs6,x6,s6,q6,_,_,k7⟩:=UG hN h0 (s4.kp (k5.trans k6)) s5 z4 z5 (by decide);have q6':Su.sm rs6=He.tV N o:=by rw[q6,q4,q5,q3];exact(He.P4 po hw).symm
    obtain⟨T',K',x7,n7,x8,s8,kp⟩:=(n3.u_ ((k4.trans (k5.trans k6)).trans k7)).put hN po s6 q6';refine⟨L6,T',K',rs6,?_,n7,s8,q6',((k12.of0.trans k3).trans ((k4.trans (k5.trans k6)).trans k7).of0).trans kp⟩;have l3:jE S2 W=some (wd (He.fwd o)):=k2.lst _ _ (λz=>z) l1;have l4:jE S3 W=some (wd (He.fwd o)):=k3.lst _ _ (λz=>Su.om (hK.u_ k12).dd l3 z.symm) l3;simp only[kC,pS,bools,mY,Nat.reduceAdd,Nat.reduceSub,i1,gM,dh,e1,tr,l1,a1,x2,x3,l4,x4];rw[show[((-1:Int),(-1:Int)),((1:Int),(1:Int))].map kA=He.LB.map kA from rfl];simp only[kC,pS,bools,x5,x6,Su.uv,x7,x8]
end K32
namespace K32
open PySem L2 Am
open Po (Pl Ok Bd)
open Su (Es At Vl AF)
open He (Sz PB)
open Fw (rg)
theorem F6{S:jG}{N c:Nat}{fs:Es}(hN:N<6)(h0:1<=N)(h':Sm S m fs)(hz':Sz N Q c (Su.sm fs))(hP:Q<=500)(hc:c<big) :
  ∃(L:Nat) (S':jG) (rs:Es),nh [.ref m] S=.ok (.ref L) S'/\Sm S' L rs/\Su.sm rs=He.tu N He.vw (Su.sm fs)/\Nw S.length L rs/\S.length<=L/\lB S S':=by
 have B5:5 ^ 25<big:=by rw[uS];exact show 5 ^ 25<2 ^ 4096 by decide +kernel
 obtain⟨S1,hS1⟩:∃S1,S1=S++[O.dct []]++[O.dct []]:=⟨_,rfl⟩;have k0:lB S S1:=by rw[hS1];exact Kp.refl.lay.lay
 have d0:j4 S1 S.length=some []:=by rw[hS1];exact Su.yE Su.oh
 have d1:j4 S1 (S.length+1)=some []:=by
  have:=Su.oh (S:=S++[O.dct []]) (xs:=[]);rw[aO,bB]at this;rw[hS1];exact this
 obtain⟨j,hj⟩:∃j,j=2 * (25+Q)+1:=⟨_,rfl⟩;have lf:=hz'.many hN;rw[Su.m5]at lf;have hle:(fs.map Su.ent).length=fs.length:=aH ..;have key:∃(y4 y5 y6 y7:A) (D:Es) (T:jG) (i:Nat),mw qw (wK 2 (oG (kI 3) (oG (kI 4) wF))) qy [.ref m,.ref S.length,.ref (S.length+1),.unb,.unb,.unb,.unb] S1=.nx [.ref m,.ref S.length,.ref (S.length+1),y4,y5,y6,y7] T/\i<=120 * fs.length/\Su.Fil T S.length S.length i j (Su.adds [] (He.PR N He.vw (Su.sm fs))) D/\lB S T:=by
  refine pU (n:=m) (xs:=fs.map Su.ent) (S1:=S1) (show qw _ _=_ from mT (by simp only[kC,bools]) (k0.lst _ _ (λz=>z) h'.l))
   (λt τ T=>(∃y4 y5 y6 y7:A,τ=[.ref m,.ref S.length,.ref (S.length+1),y4,y5,y6,y7])/\(∃(i:Nat) (D:Es),i<=120 * t/\Su.Fil T S.length S.length i j (Su.adds [] (He.PR N He.vw (Su.sm (fs.take t)))) D)/\(∃K,Kn N (He.tV N) T (S.length+1) K)/\lB S T)
   (λr=>∃(y4 y5 y6 y7:A) (D:Es) (T:jG) (i:Nat),r=.nx [.ref m,.ref S.length,.ref (S.length+1),y4,y5,y6,y7] T/\i<=120 * fs.length/\Su.Fil T S.length S.length i j (Su.adds [] (He.PR N He.vw (Su.sm fs))) D/\lB S T)
   ⟨⟨_,_,_,_,rfl⟩,⟨0,[],aQ _,Su.Fil.new d0⟩,⟨[],d1,Su.Gd.nil,(λ_ z=>nomatch z),λ_ z=>nomatch z⟩,k0⟩ (λt τ T hh=>hh.2.2.2.lst _ _ (λz=>z) h'.l) ?_ ?_
  ·rintro t z τ T hz1 ⟨⟨y4,y5,y6,y7,rfl⟩,⟨i,D,hi,fT⟩,⟨K,hK⟩,kT⟩;rw[aR]at hz1;obtain⟨e,he,rfl⟩:=aX.mp hz1;have htl:=(aN.mp he).1;have me:=aW he;have pe:=hz'.pm _ (kM rfl me);have be:=hz'.pb (kM rfl me);refine⟨[.ref m,.ref S.length,.ref (S.length+1),.tup (e.1.map .int),.ref e.2.1,y6,y7],T,rfl,.inl ?_⟩;obtain⟨r,T1,K1,rs,x1,n1,s1,q1,k1⟩:=Jx hN h0 26 (by have:=He.xM hN pe;lia) pe hK;have z1:Sz N 25 (5 ^ 25) (Su.sm rs):=by rw[q1];exact He.Ls hN pe
   have m1:=z1.many hN;rw[Su.m5]at m1;have f1:Su.Fil T1 S.length S.length i j (Su.adds [] (He.PR N He.vw (Su.sm (fs.take t)))) D:=⟨k1.dct _ _ (by lia) fT.dd,fT.aa.Dh k1 hK.dd,fT.ss,fT.vv,fT.kk,fT.ll,fT.pw⟩;have p1:jE T1 e.2.1=some (Po.pl e.2.2):=k1.lst _ _ (λz=>Su.om hK.dd ((h'.kp kT).a e me) z.symm) ((h'.kp kT).a e me);have tl:=kT.len;have tl1:=k1.len;have len2:S.length+2<=T.length:=by have:=Su.zS hK.dd;lia
   have le:e.2.2.length<=2 * Q+1:=be.2;obtain⟨z6,z7,_,D2,T2,_,x2,f2,k2⟩:=Su.wI (w:=1) (j:=j) (b:=S.length) (i0:=i) (S:=T) (S1:=T1) (d:=S.length) (n:=r) (es:=rs) (src:=sN) (c:=tR) (g:=wK 2 (oG (kI 5) (oG (kI 6) wF))) (λy z _=>[.ref m,.ref S.length,.ref (S.length+1),.tup (e.1.map .int),.ref e.2.1,y,z]) (λ_=>True) (λx Q=>Su.xG Q x.1 (Po.times (Po.turn e.2.2) x.2.2)) (λ_ _ _ _ _=>rfl) (x3:=y6) (x4:=y7) (xs0:=[]) trivial
    (show sN _ _=_ from mT (by
     have x1':p7 [.tup (e.1.map .int),.ref (S.length+1)] T=.ok (.ref r) T1:=x1;simp only[kC,pS,bools,x1']) s1.l) s1.l f1 λa x U Q1 D' xs ha hx _ kU f=>by
     have ul:=kU.len;have b1:=z1.pb (kM rfl hx);have l1':x.2.2.length<=2 * 25+1:=b1.2;rw[dS]at f;rw[dS];have hm1:(i+a) * j<=14400 * j:=bL _ (by lia);have tn:=KQ (S:=U) (kU.lst _ _ (λz=>Su.om f1.dd p1 z.symm) p1) (show e.2.2.length<=16777216 by lia);have kV:lB U (U++[O.lst (Po.pl (Po.turn e.2.2))]):=Kp.refl.lay;obtain⟨L,U1,e1,l1,l2,k1'⟩:=zR (n:=U.length) (a:=Po.turn e.2.2) jS (kV.lst _ _ (λz=>z) ((s1.a.Dh kU f1.dd) x hx)) (by
      rw[He.DS];have a3:(2 * Q+1) * (2 * 25+1)<=1001 * 51:=dR (by lia) (by lia);exact cB (bJ (dR le l1') a3) (by decide)) (λp hp=>cB (be.1.turn.c p hp) hc) λp hp=>cB (b1.1.c p hp) B5
     have k1l:=k1'.len;have kVl:=kV.len;have tl':(Po.times (Po.turn e.2.2) x.2.2).length<=j:=by
      have:=He.PB.times be.1.turn b1.1;rw[hj];refine bJ this ?_;lia
     obtain⟨D3,U2,e2,f',k'⟩:=((f.u_ kV).u_ k1').add rQ (o:=x.1) l1 tl' (λz=>by
      have:=nv (z1.pm _ (kM rfl hx));rw[show((x.1,x.2.2):List Int×Pl).1=x.1 from rfl,z]at this;simp at this;lia) (by lia) (by lia) (by lia)
     exact⟨D3,U2,[],trivial,by unfold tR;simp only[kC,pS,bools,tn,e1,e2],f',(kV.trans k1').of0.trans k'⟩
   have kT2:lB S T2:=(kT.old k1 λq hq _ z=>by lia).old k2 λq hq _ z=>by lia
   refine⟨[.ref m,.ref S.length,.ref (S.length+1),.tup (e.1.map .int),.ref e.2.1,z6,z7],T2,?_,⟨_,_,_,_,rfl⟩,⟨i+1 * rs.length,D2,by lia,?_⟩,⟨K1,n1.Dh k2 f1.dd (by lia)⟩,kT2⟩
   ·unfold qy;exact x2
   ·rw[Su.xy]at f2;rw[cH,he,Su.CG];unfold He.PR at f2 ⊢;rw[iQ,Su.zq];have:List.flatMap (λe=>He.Ox (Po.turn e.2) (He.tO N (He.vw e.1))) (Su.sm (some e).toList)=(Su.sm rs).map λx=>(x.1,Po.times (Po.turn e.2.2) x.2):=by
     show He.Ox (Po.turn e.2.2) (He.tO N (He.vw e.1))++[]=_;rw[cL,q1];rfl
    rw[this];exact f2
  ·rintro τ T ⟨⟨y4,y5,y6,y7,rfl⟩,⟨i,D,hi,fT⟩,⟨K,hK⟩,kT⟩;rw[hle]at hi;rw[hle,cP]at fT;exact⟨y4,y5,y6,y7,D,T,i,rfl,hi,fT,kT⟩
 obtain⟨y4,y5,y6,y7,D,T,i,e1,hi,f,kT⟩:=key;have fl:=f.ll;obtain⟨L,S',e2,r1,r2,r3,r4⟩:=zK f.dd f.aa f.kk (by lia);have tl:=kT.len;refine⟨L,S',_,?_,⟨r1,r2⟩,by rw[Su.uI,f.ss];rfl,⟨f.pw.out _,λe he=>?_⟩,by lia,kT.trans r4⟩
 ·unfold nh xh wR;simp only[kC,pS,bools,mY,Nat.reduceAdd,Nat.reduceSub,Su.rm,aO,bB];rw[<- hS1,show mw qw _ qy _ _=_ from e1];simp only[kC,pS,bools,e2]
 ·obtain⟨m1,m2⟩:=Su.uR he;obtain⟨v1,v2,v3⟩:=f.vv e m1;have lt:=nX (f.aa e m1);exact⟨v3,by lia⟩
theorem Sn.tu{N c:Nat}{k:Su.Ps}(h:Sn N Q c S m k)(hN:N<6)(h0:1<=N)(hP:Q<=500)(hc:c<big) :
  ∃(L:Nat) (S':jG),nh [.ref m] S=.ok (.ref L) S'/\Sn N (25+Q) (120 * ((2 * Q+1) * (c * 5 ^ 25))) S' L (He.tu N He.vw k)/\lB S S':=by
 obtain⟨a,fs,b,rfl⟩:=h;obtain⟨L,S',rs,e1,s1,q1,_,_,k1⟩:=F6 hN h0 b a hP hc;exact⟨L,S',e1,⟨a.tu hN,rs,s1,q1⟩,k1⟩
end K32
namespace K32
open PySem L2 Am
theorem zk:∀(l:List Int) (j:Nat) (h:j<l.length),(l[j]::l.eraseIdx j).Perm l
 | x::l,0,_=>eS _
 | x::l,j+1,h=>(List.Perm.swap x _ _).trans (List.Perm.cons x (zk l j (ir h)))
theorem JI{ls fs:List Int}{j:Nat}(h:j<ls.length):((fs++[ls[j]])++ls.eraseIdx j).Perm (fs++ls):=by
 rw[cu];refine List.Perm.append_left fs ?_;show(ls[j]::ls.eraseIdx j).Perm ls;exact zk ls j h
theorem OY{d:Int}{n:Nat}(h0:0<=d)(h:d.toNat<n):seqIndex? d n=some d.toNat:=by
 unfold seqIndex?;simp;lia
theorem wN{α β:Type}(f:α->β):∀(l:List α) (k:Nat),(l.map f).eraseIdx k=(l.eraseIdx k).map f
 | [],_=>rfl
 | _::_,0=>rfl
 | x::l,k+1=>dm (f x::·) (wN f l k)
theorem zE{n:Int}(h:yH S b)(h1:1<=n)(h2:n<=20):∃(xs:List Int) (S':jG),k_ [.ref b,.int n] S=.ok (.tup (xs.map .int)) S'/\xs.Perm (kP 1 (n+1))/\yH S' b/\Kp (·=b) S S':=by
 have hbS:b<S.length:=by obtain⟨_,_,e,_⟩:=h;exact nX e
 unfold k_ tP s_;simp only[kC,bools,mY,Nat.reduceAdd,Nat.reduceSub,JN (E8 (show(-1000000:Int)<=1 by decide) (by decide) (show -1000000<=n+1 by lia) (by lia) (by lia)),aO];have key:=vK (t:=qS) (c:=qK)
  (λτ S1=>∃(ls fs:List Int),τ=[.ref b,.int n,.ref S.length,.ref (S.length+1)]/\jE S1 S.length=some (ls.map .int)/\jE S1 (S.length+1)=some (fs.map .int)/\(fs++ls).Perm (kP 1 (n+1))/\yH S1 b/\Kp (·=b) S S1)
  (λτ S1=>((jE S1 S.length).getD []).length)
  (λr=>∃(xs:List Int) (S':jG),RS.end (RS.seq r (lA (j8 (f1 oO) (jA (jD 3) jF))))=.ok (.tup (xs.map .int)) S'/\xs.Perm (kP 1 (n+1))/\yH S' b/\Kp (·=b) S S') ?_ 1000000
 ·refine key _ _ ⟨kP 1 (n+1),[],rfl,kD jS,?_,eS _,h.kp (c:=λ_=>False) (Kp.refl.lay.lay) (λz=>z),Kp.refl.lay.lay⟩ ?_
  ·have:jE (S++[.lst ((kP 1 (n+1)).map .int)]++[.lst []]) (S++[O.lst ((kP 1 (n+1)).map .int)]).length=some []:=jS;simpa using this
  ·rw[kD jS,eE,aH,qd];lia
 ·rintro τ S1 ⟨ls,fs,rfl,hL,hF,hp,hb,hk⟩;have hlen:fs.length+ls.length<=20:=by
   have:=hp.length_eq;rw[aO,qd]at this;lia
  unfold qS qK;simp only[kC,bools,hL,aH];by_cases h0:ls=[]
  ·subst h0;left;exact⟨S1,rfl,fs,S1,by simp only[kC,bools,hF],by simpa using hp,hb,hk⟩
  ·right;have hpos:0<ls.length:=List.length_pos_iff.mpr h0;refine⟨S1,by rw[bh (show(0:Int)<(ls.length:Int)by lia)],.inl ?_⟩;obtain⟨d,S2,e2,d0,d1,hb2,hk2⟩:=digit (m:=(ls.length:Int)) hb (by lia) (by lia);have hL2:=hk2.lst S.length _ (by lia) hL;have hF2:=hk2.lst (S.length+1) _ (by lia) hF;have hd:d.toNat<ls.length:=by lia
   have lF:=nX hF2;have lL:=nX hL2;have hsq:seqIndex? d ls.length=some d.toNat:=OY d0 hd;have hF3:jE (S2.set S.length (.lst ((ls.map A.int).eraseIdx d.toNat))) (S.length+1)=some (fs.map .int):=by rw[oK (by lia)];exact hF2
   simp only[kC,bools,hL,hF,aH,e2,hL2,FE,lz (show -(2 ^ 63:Int)<=d/\d<2 ^ 63 by lia),hsq,aR,aF hd,dZ,hF3,xY (show fs.length<16777216 by lia)];refine⟨_,_,rfl,⟨ls.eraseIdx d.toNat,fs++[ls[d.toNat]],rfl,?_,?_,(JI hd).trans hp,?_,?_⟩,?_⟩
   ·rw[oK (by lia),oV lL,wN]
   ·rw[oV (by rw[b9];exact lF),bP];rfl
   ·obtain⟨g,st,e,q⟩:=hb2;exact⟨g,st,by rw[oK (by lia),oK (by lia)];exact e,q⟩
   ·exact((hk.trans hk2).set (.inr (aQ _))).set (.inr (by lia))
   ·rw[oK (by lia),oV lL,eE,eE,wN,aH,aH,List.length_eraseIdx_of_lt hd];lia
open Po (Pl Ok Bd)
open Su (Es At Vl)
open He (Sz PB)
open Fw (rg)
theorem Xy:Fy (.int 10) (.int 20)=λS=>R.ok (.int 100000000000000000000) S:=by funext S;exact lz ⟨by decide,by decide,by decide⟩
theorem at4{x0 x1 x2 x3 d:Int}(h0:0<=d)(h1:d<4):∃v:Int,sd ([.int x0,.int x1,.int x2,.int x3]:List A) d=some (.int v)/\(v=x0\/v=x1\/v=x2\/v=x3):=by
 have:d=0\/d=1\/d=2\/d=3:=by lia
 rcases this with rfl|rfl|rfl|rfl
 ·exact⟨x0,rfl,.inl rfl⟩
 ·exact⟨x1,rfl,.inr (.inl rfl)⟩
 ·exact⟨x2,rfl,.inr (.inr (.inl rfl))⟩
 ·exact⟨x3,rfl,.inr (.inr (.inr rfl))⟩
noncomputable def Fo (s:Int)(l:Pl):Pl:=l.map λp=>(p.1+s,p.2)
noncomputable def Mb:Am.Sm:=
 jZ (ku (jO sL (lX (jA (eC (.int 0)) (jA (eC (.int 0)) (jA (eC (.int 55)) (jA (Kg xR (eC (.int 55))) (jF)))))) (eFn jT (jA (jD 0) (jA (eC (.int 4)) (jF))))) (kI 8))
  (ku (kZ [none,none,some 8] (nE (jD 7)) (wK 2 (oG (kI 0) (oG (kI 1) (wF)))) (sJ) (lV (jA (jO nu (jD 0) (jD 2)) (jA (jD 1) (jF))))) (B4 (jD 3) (jD 5)))
theorem OM{T:jG}{w:Nat}{D:Es}{o:List Int}{l:Pl}(h:yH T b)(hw:jE T w=some (Po.pl l))(hwb:w≠b)(hd:j4 T d=some (D.map Su.kv))(hA:At T D)(hb:∀e∈D,e.2.1≠b)(hl:l.length<=2)(hD:D.length<=1000) :
  ∃(s:Int) (L:Nat) (T':jG),Mb [.ref b,x1,x2,.ref d,x4,.tup (o.map .int),x6,.ref w,x8] T=.nx [.ref b,x1,x2,.ref d,x4,.tup (o.map .int),x6,.ref w,.int s] T'/\-55<=s/\s<=55/\j4 T' d=some ((Su.oF D o L (Fo s l)).map Su.kv)/\At T' (Su.oF D o L (Fo s l))/\T.length<=L/\yH T' b/\Kp (λq=>q=b\/q=d) T T':=by
 obtain⟨T0,h0⟩:∃T0,T0=T++[O.lst [.int 0,.int 0,.int 55,.int (-55)]]:=⟨_,rfl⟩;have k0:lB T T0:=by rw[h0];exact Kp.refl.lay
 have l0:jE T0 T.length=some [.int 0,.int 0,.int 55,.int (-55)]:=by rw[h0];exact jS
 have hbT:=h.lt;obtain⟨c,T1,e1,c0,c1,b1,k1⟩:=digit (S:=T0) (m:=4) (h.kp k0 λz=>z) (by decide) (by decide);obtain⟨s,hs,hv⟩:=at4 (x0:=0) (x1:=0) (x2:=55) (x3:=-55) c0 c1;have l1:jE T1 T.length=some [.int 0,.int 0,.int 55,.int (-55)]:=k1.lst _ _ (by lia) l0;have w1:jE T1 w=some (Po.pl l):=k1.lst _ _ hwb (k0.lst _ _ (λz=>z) hw);have g2:∀x y:A,gd (([x,y]:List A).length<=sizeLine)=λr:Am.R A=>r:=λx y=>by funext r;exact sU (show 2<=16777216 by decide)
 have ec:=Lm (cap:=[some 8]) (src:=nE (jD 7)) (e:=lV (jA (jO nu (jD 0) (jD 2)) (jA (jD 1) (jF)))) (τ:=[.ref b,x1,x2,.ref d,x4,.tup (o.map .int),x6,.ref w,.int s]) (S:=T1) (mT (by simp only[kC,bools]) w1) w1 (λp=>Po.pA (p.1+s,p.2)) (λp=>by simp only[kC,bools,g2];rfl) (by lia);have el:(l.map λp=>Po.pA (p.1+s,p.2))=Po.pl (Fo s l):=by unfold Po.pl Fo;rw[bu];rfl
 rw[el]at ec;obtain⟨T2,h2⟩:∃T2,T2=T1++[O.lst (Po.pl (Fo s l))]:=⟨_,rfl⟩;rw[<- h2]at ec;have k2:lB T1 T2:=by rw[h2];exact Kp.refl.lay
 have k02:Kp (·=b) T T2:=(k0.of0.trans k1).trans k2.of0;have dnb:d≠b:=λz=>by
  subst z;obtain⟨_,_,e,_⟩:=h;exact Su.om hd e rfl
 have d2:j4 T2 d=some (D.map Su.kv):=k02.dct _ _ dnb hd;have a2:At T2 D:=hA.kp k02 hb;have lL:jE T2 T1.length=some (Po.pl (Fo s l)):=by rw[h2];exact jS
 have k3:Kp (·=d) T2 (T2.set d (.dct ((Su.oF D o T1.length (Fo s l)).map Su.kv))):=Kp.refl.FY (.inl rfl);have kl:=(k0.of0.trans k1).len;refine⟨s,T1.length,T2.set d (.dct ((Su.oF D o T1.length (Fo s l)).map Su.kv)),?_,by lia,by lia,Su.CY (Su.zS d2),(a2.put lL).Dh k3 d2,kl,?_,?_⟩
 ·unfold Mb;simp only[kC,bools];rw[<- h0];simp only[kC,bools,e1,l1,hs];rw[show kZ [none,none,some 8] _ _ _ _ _ _=_ from ec];simp only[kC,bools,Su.uv,Su.Ad,d2,xY (show(D.map Su.kv).length<16777216 by rw[aH];lia),Su.FW (p:=Fo s l)]
 ·exact(b1.kp k2 λz=>z).kp k3 (c7 dnb)
 ·exact(k02.mono λ_ _ z=>.inl z).trans (k3.mono λ_ _ z=>.inr z)
theorem M_{l:Pl}(s:Int)(h:Ok l):Ok (Fo s l):=by
 refine⟨?_,λp hp=>?_⟩
 ·unfold Fo;rw[cG];exact h.up.imp λz=>by show _+s<_+s;lia
 ·obtain⟨q,hq,rfl⟩:=bz.mp hp;exact h.nz q hq
structure Sp (p:Pl):Prop where
 ok:Ok p
 ne:p≠[]
 pb:PB 60 100000000000000000000 p
 ll:p.length<=2
theorem J_{S:jG}{N:Nat}{most:Int}(h:yH S b)(hN:1<=N)(hN':N<=20)(h0:1<=most)(h1:most<=100) :
  ∃(n:Nat) (S':jG) (es:Es),kW [.ref b,.int N,.int most] S=.ok (.ref n) S'/\Sm S' n es/\Sz N 60 100000000000000000000 (Su.sm es)/\es≠[]/\(∀e∈es,Sp e.2.2)/\(∀e∈es,S.length<=e.2.1)/\(es.length:Int)<=most/\S.length<=n/\yH S' b/\Kp (·=b) S S':=by
 have hbS:=h.lt;have k0:lB S (S++[.dct []]):=Kp.refl.lay;obtain⟨c,S1,e1,c0,c1,b1,k1⟩:=digit (S:=S++[.dct []]) (m:=most) (h.kp k0 λz=>z) (by lia) (by lia);have d1:j4 S1 S.length=some []:=k1.dct _ _ (by lia) Su.oh;unfold kW pQ pG;simp only[kC,bools,mY,Nat.reduceAdd,Nat.reduceSub,Su.rm];refine HS (lo:=0) (hi:=1+c) (S1:=S1) (show qI _ _=_ from EN (by simp only[kC,bools,e1]) (Ci (by lia) (by lia)))
  (λi τ T=>∃(D:Es) (a4 a5 a6 a7 a8:A),τ=[.ref b,.int N,.int most,.ref S.length,a4,a5,a6,a7,a8]/\j4 T S.length=some (D.map Su.kv)/\At T D/\(∀e∈D,e.1.Perm (rg N)/\Sp e.2.2/\S.length<=e.2.1)/\Su.Gd (Su.sm D)/\D.length<=i/\(1<=i->D≠[])/\yH T b/\Kp (·=b) S T)
  (λr=>∃(n:Nat) (S':jG) (es:Es),RS.end (RS.seq r _)=.ok (.ref n) S'/\Sm S' n es/\Sz N 60 100000000000000000000 (Su.sm es)/\es≠[]/\(∀e∈es,Sp e.2.2)/\(∀e∈es,S.length<=e.2.1)/\(es.length:Int)<=most/\S.length<=n/\yH S' b/\Kp (·=b) S S')
  ⟨[],_,_,_,_,_,rfl,d1,(λ_ h=>nomatch h),(λ_ h=>nomatch h),Su.Gd.nil,aQ _,(λz=>absurd z (by decide)),b1,k0.of0.trans k1⟩ ?_ ?_
 ·rintro i τ T hi ⟨D,a4,a5,a6,a7,a8,rfl,hd,hA,hP,hG,hl,hne,bT,kT⟩;left;obtain⟨o,T1,e2,po,b2,k2⟩:=zE (n:=(N:Int)) bT (by lia) (by lia);obtain⟨p,T2,e3,p0,p1,b3,k3⟩:=digit (S:=T1) (m:=5) b2 (by decide) (by decide);obtain⟨f,T3,e4,f0,f1,b4,k4⟩:=digit (S:=T2) (m:=3) b3 (by decide) (by decide);obtain⟨T4,h4⟩:∃T4,T4=T3++[O.lst (Po.pl [(p-2,1+f)])]:=⟨_,rfl⟩;have k5:lB T3 T4:=by rw[h4];exact Kp.refl.lay
  have l4:jE T4 T3.length=some (Po.pl [(p-2,1+f)]):=by rw[h4];exact jS
  have bl3:=b4.lt;obtain⟨g,T5,e5,g0,g1,b5,k6⟩:=digit (S:=T4) (m:=2) (b4.kp k5 λz=>z) (by decide) (by decide);have l5:jE T5 T3.length=some (Po.pl [(p-2,1+f)]):=k6.lst _ _ (by lia) l4;have g2:∀x y:A,gd (([x,y]:List A).length<=sizeLine)=λr:Am.R A=>r:=λx y=>by funext r;exact sU (show 2<=16777216 by decide)
  have kA:Kp (·=b) T T5:=(((k2.trans k3).trans k4).trans k5.of0).trans k6;have tl:=kT.len;have tl3:=((k2.trans k3).trans k4).len;have tl45:=k6.len;have br:∃(l:Pl) (T6:jG),(wJ (vm (jO (sM false) (eFn jT (jA (jD 0) (jA (eC (.int 2)) (jF)))) (eC (.int 1))))
    (pF (Vp uL (jD 7) (jA (lV (jA (jO nu (jO nu (jD 6) (eC (.int 1))) (eFn jT (jA (jD 0) (jA (eC (.int 3)) (jF))))) (jA (jO sL (lX (jA (Kg xR (eC (.int 2))) (jA (Kg xR (eC (.int 1))) (jA (eC (.int 1)) (jA (jO Fy (eC (.int 10)) (eC (.int 20))) (jF)))))) (eFn jT (jA (jD 0) (jA (eC (.int 4)) (jF))))) (jF)))) (jF))))
    (oQ)) [.ref b,.int N,.int most,.ref S.length,.int (0+(i:Int)),.tup (o.map .int),.int (p-2),.ref T3.length,a8] T4=.nx [.ref b,.int N,.int most,.ref S.length,.int (0+(i:Int)),.tup (o.map .int),.int (p-2),.ref T3.length,a8] T6/\jE T6 T3.length=some (Po.pl l)/\Ok l/\l≠[]/\PB 5 100000000000000000000 l/\l.length<=2/\yH T6 b/\Kp (λq=>q=b\/q=T3.length) T5 T6:=by
   by_cases c1:g=1
   ·obtain⟨q,T6,e6,q0,q1,b6,k7⟩:=digit (S:=T5) (m:=3) b5 (by decide) (by decide);obtain⟨T7,h7⟩:∃T7,T7=T6++[O.lst [.int (-2),.int (-1),.int 1,.int 100000000000000000000]]:=⟨_,rfl⟩;have k8:lB T6 T7:=by rw[h7];exact Kp.refl.lay
    obtain⟨u,T8,e8,u0,u1,b8,k9⟩:=digit (S:=T7) (m:=4) (b6.kp k8 λz=>z) (by decide) (by decide);obtain⟨v,hv,hv'⟩:=at4 (x0:=-2) (x1:=-1) (x2:=1) (x3:=100000000000000000000) u0 u1;have bl6:=b6.lt;have l7:jE T8 T6.length=some [.int (-2),.int (-1),.int 1,.int 100000000000000000000]:=k9.lst _ _ (by lia) (by rw[h7];exact jS);have k59:Kp (·=b) T5 T8:=(k7.trans k8.of0).trans k9;have l8:jE T8 T3.length=some (Po.pl [(p-2,1+f)]):=k59.lst _ _ (by lia) l5;have l6:jE T6 T3.length=some (Po.pl [(p-2,1+f)]):=k7.lst _ _ (by lia) l5;refine⟨[(p-2,1+f),(p-2+1+q,v)],T8.set T3.length (.lst (Po.pl [(p-2,1+f)]++[.tup [.int (p-2+1+q),.int v]])),?_,oV (nX l8),?_,by simp,?_,aQ _,?_,?_⟩
    ·simp only[kC,bools,e5,show(g == 1)=true by rw[c1];rfl,l5,e6,Xy];rw[<- h7];simp only[kC,bools,e8,l7,hv,g2,l8,xY (show(Po.pl [(p-2,1+f)]).length<16777216 from(by decide:1<16777216))]
    ·refine⟨bN.mpr ⟨λz hz=>?_,bZ _ _⟩,λz hz=>?_⟩
     ·rw[aP.mp hz];show p-2<p-2+1+q;lia
     ·rcases bC.mp hz with z1|z1
      ·rw[z1];show 1+f≠0;lia
      ·rw[aP.mp z1];show v≠0;lia
    ·refine⟨λz hz=>?_,λz hz=>?_⟩
     ·rcases bC.mp hz with z1|z1
      ·rw[z1];show(1+f).natAbs<=_;lia
      ·rw[aP.mp z1];show v.natAbs<=_;lia
     ·rcases bC.mp hz with z1|z1
      ·rw[z1];show(p-2).natAbs<=_;lia
      ·rw[aP.mp z1];show(p-2+1+q).natAbs<=_;lia
    ·exact b8.kp (c:=(·=T3.length)) (Kp.refl.set (.inl rfl)) (by lia)
    ·exact(k59.mono λ_ _ z=>.inl z).set (.inl (.inr rfl))
   ·refine⟨[(p-2,1+f)],T5,?_,l5,⟨bZ _ _,λz hz=>?_⟩,by simp,⟨λz hz=>?_,λz hz=>?_⟩,(by decide:1<=2),b5,Kp.refl⟩
    ·simp only[kC,bools,e5,show(g == 1)=false by simp;exact c1]
    ·rw[aP.mp hz];show 1+f≠0;lia
    ·rw[aP.mp hz];show(1+f).natAbs<=_;lia
    ·rw[aP.mp hz];show(p-2).natAbs<=_;lia
  obtain⟨l,T6,x6,l6,ok6,ne6,pb6,ll6,b6,k7⟩:=br;have bl5:=b5.lt;have kB:Kp (·=b) T T6:=kA.old k7 λq hq z w=>by lia
  obtain⟨s,L,T7,x7,s0,s1,d7,a7',lL,b7,k8⟩:=OM (x1:=.int N) (x2:=.int most) (x4:=.int (0+(i:Int))) (x6:=.int (p-2)) (x8:=a8) (o:=o) (d:=S.length) (D:=D) b6 l6 (by lia) (kB.dct _ _ (by lia) hd) (hA.kp kB λe he z=>by have:=(hP e he).2.2;lia) (λe he z=>by have:=(hP e he).2.2;lia) ll6 (by lia);have tl6:=kB.len;refine⟨[.ref b,.int N,.int most,.ref S.length,.int (0+(i:Int)),.tup (o.map .int),.int (p-2),.ref T3.length,.int s],T7,?_,Su.oF D o L (Fo s l),_,_,_,_,_,rfl,d7,a7',λe he=>?_,?_,?_,λ_ z=>?_,b7,?_⟩
  ·unfold qz;simp only[kC,bools,e2,e3,e4,g2];rw[show T3++[O.lst [A.tup [.int (p-2),.int (1+f)]]]=T4 from h4.symm];have x6':=x6;simp only[kC,bools]at x6';rw[x6'];simp only[kC];have x7':=x7;unfold Mb at x7';simp only[kC,bools]at x7';exact x7'
  ·rcases Su.sF he with z|z
   ·exact hP e z
   ·rw[z];refine⟨po,⟨M_ s ok6,λw=>ne6 (List.map_eq_nil_iff.mp w),⟨λq hq=>?_,λq hq=>?_⟩,?_⟩,by show S.length<=L;lia⟩
    ·obtain⟨q',hq',rfl⟩:=bz.mp hq;exact pb6.c q' hq'
    ·obtain⟨q',hq',rfl⟩:=bz.mp hq;have:=pb6.p q' hq';show(q'.1+s).natAbs<=60;lia
    ·show(Fo s l).length<=2;unfold Fo;rw[aH];exact ll6
  ·rw[Su.Gv];exact hG.put (M_ s ok6)
  ·have:=Su.CU (D:=D) (o:=o) (r:=L) (p:=Fo s l);lia
  ·obtain⟨e,z1,_⟩:=Su.BC (D:=D) (o:=o) (r:=L) (p:=Fo s l);rw[z]at z1
   cases z1
  ·exact(kT.trans kB).old k8 λq hq z w=>by lia
 ·rintro τ T ⟨D,a4,a5,a6,a7,a8,rfl,hd,hA,hP,hG,hl,hne,bT,kT⟩;have n0:=Su.Ec hd λe he z=>by have:=nv (hP e he).1;rw[z]at this;simp at this;lia
  obtain⟨n,S',x1,l1,a1,ln,k2⟩:=Su.Et (cap:=[some 3]) (τ:=[.ref b,.int N,.int most,.ref S.length,a4,a5,a6,a7,a8]) (src:=nE (j8 (f1 xD) (jA (jD 3) (jF)))) (t:=sJ) (e:=lV (jA (jD 0) (jA (jO vH (jD 1) (jD 0)) (jF)))) hd hA (mT (by simp only[kC,bools,n0]) jS) (λ_=>true)
   (λo r q T hT hk hr=>⟨T,rfl,Kp.refl⟩)
   (λo r T hT hk=>by
    simp only[kC,bools,Su.zh,Su.uE,hT,hk];exact sU (show 2<=16777216 by decide)) (by lia)
  have tl:=kT.len;have eo:Su.qo D (λ_=>true)=Su.qo D λp=>!p.isEmpty:=by
   unfold Su.qo;congr 1;refine List.filter_congr λo ho=>?_;obtain⟨e,he⟩:=Su.Ei ((j6 _).mem_iff.mp ho);rw[Su.JV,he];have:=(hP e (Su.qW he).1).2.1.ne;show true=!(e.2.2).isEmpty
   cases z:e.2.2 with
   | nil=>exact absurd z this
   | cons=>rfl
  have hm:∀e∈Su.qo D (λ_=>true),e∈D:=λe he=>(Su.uR he).1;refine⟨n,S',Su.qo D λ_=>true,by simp only[kC,bools,x1],⟨l1,a1⟩,?_,λz=>?_,λe he=>(hP e (hm e he)).2.1,λe he=>(hP e (hm e he)).2.2,?_,by lia,bT.kp k2 λz=>z,kT.trans k2.of0⟩
  ·refine He.Sz.of ?_ (λx hx=>?_) λx hx=>?_
   ·rw[eo,Su.uI];exact He.Cn.toS hG
   ·obtain⟨e,he,rfl⟩:=bz.mp hx;exact(hP e (hm e he)).1
   ·obtain⟨e,he,rfl⟩:=bz.mp hx;exact(hP e (hm e he)).2.1.pb
  ·have z1:=hne (by lia);have z2:=dm List.length z;unfold Su.qo at z2;rw[aH,gu.mpr (λ_ _=>rfl),(j6 _).length_eq,aH]at z2;exact z1 (fK.mp z2)
  ·unfold Su.qo;rw[aH,gu.mpr (λ_ _=>rfl),(j6 _).length_eq,aH];lia
end K32
namespace K32
open PySem L2 Am
open Po (Pl Ok Bd)
open Su (Es At Vl)
open He (Sz PB)
open Fw (rg)
theorem YZ{N:Nat}(hN:N<=1000)(T:jG):oO (.rng 1 ((N:Int)+1)) T=.ok (.tup ((rg N).map .int)) T:=F1 (E8 (show(-1000000:Int)<=1 by decide) (by decide) (show -1000000<=(N:Int)+1 by lia) (by lia) (by lia))
open Po (Pl Ok Bd)
open Su (Es At Vl)
open He (Sz PB)
open Fw (rg)
noncomputable def Dw (N n b0:Nat)(S:jG)(l:Su.Ps):Prop:=Sz N 60 (10 ^ 20) l/\b0<=n/\∃es,Sm S n es/\Su.sm es=l/\∀e∈es,b0<=e.2.1
theorem Dw.kp{N n:Nat}{l:Su.Ps}(h:Dw N n b0 S l)(k:Kp (·=b) S S')(hb:b<b0):Dw N n b0 S' l:=by
 obtain⟨h2,h3,es,h4,h5,h6⟩:=h;exact⟨h2,h3,es,⟨k.lst _ _ (by lia) h4.l,h4.a.kp k λe he z=>by have:=h6 e he;lia⟩,h5,h6⟩
theorem Dw.sn{N n:Nat}{l:Su.Ps}(h:Dw N n b0 S l):Sn N 60 (10 ^ 20) S n l:=by
 obtain⟨h2,h3,es,h4,h5,h6⟩:=h;exact⟨h2,es,h4,h5⟩
theorem draw{S:jG}{N:Nat}{most:Int}(h:yH S b)(hN:1<=N)(hN':N<=20)(h0:1<=most)(h1:most<=100)(hb:b0<=S.length):∃(n:Nat) (S':jG) (l:Su.Ps),kW [.ref b,.int N,.int most] S=.ok (.ref n) S'/\Dw N n b0 S' l/\S.length<=n/\yH S' b/\Kp (·=b) S S':=by
 obtain⟨n,S',es,e1,s1,z1,ne,_,r1,_,ln,b1,k1⟩:=J_ h hN hN' h0 h1;exact⟨n,S',Su.sm es,e1,⟨z1,by lia,es,s1,rfl,λe he=>by have:=r1 e he;lia⟩,ln,b1,k1⟩
theorem Ck(h:C<2 ^ 4096):C<big:=by rw[uS];exact h
theorem at8{d:Int}{xs:List Int}(h0:0<=d)(h1:d<8)(hx:xs.length=8)(hm:∀x∈xs,2<=x/\x<=5):∃v:Int,sd (xs.map A.int) d=some (.int v)/\2<=v/\v<=5:=by
 have hd:d.toNat<xs.length:=by lia
 exact⟨xs[d.toNat],CP (k:=d.toNat) (by lia) (aF hd),hm _ (dJ hd)⟩
theorem JY{es:Es}{n:Nat}{src:Ic}{ex:Ex}(hs:src τ S=.ok (kY n (es.map Su.ent).length) S)(hx:jE S n=some (es.map Su.ent))(κ:List Int->List Int)
  (step:∀e∈es,∀T,lB S T->∃(r:Nat) (T':jG),ex [.tup (e.1.map .int),.ref e.2.1] T=.ok (.tup [.tup ((κ e.1).map .int),.ref r]) T'/\jE T' r=some (Po.pl e.2.2)/\lB T T') (hl:es.length<=16777216) :
  ∃(m:Nat) (S':jG) (fs:Es),kZ [none,none] src PO sJ ex τ S=.ok (.ref m) S'/\jE S' m=some (fs.map Su.ent)/\At S' fs/\Su.sm fs=es.map (λe=>(κ e.1,e.2.2))/\lB S S':=by
 have hk:(es.map Su.ent).length=es.length:=aH ..;obtain⟨ys,S',h1,k1,fs,rfl,h2,h3⟩:=zN (s:=kY n (es.map Su.ent).length) (g:=PO) (e:=ex) (T:=λτ'=>∃y z,τ'=[y,z]) (λi acc T=>lB S T/\∃fs:Es,acc=fs.map Su.ent/\At T fs/\Su.sm fs=(es.take i).map (λe=>(κ e.1,e.2.2)))
  (λi acc τ' T hi ⟨y,z,hy⟩ hP=>by
   have hi:i<(es.map Su.ent).length:=hi;obtain⟨kT,fs,rfl,a1,a2⟩:=hP;subst hy;have he:es[i]?=some es[i]:=aF (by lia);obtain⟨r,T',e1,e2,e4⟩:=step es[i] (aW he) T kT;refine⟨Su.ent es[i],[.tup (es[i].1.map .int),.ref es[i].2.1],T,_,T',?_,rfl,⟨_,_,rfl⟩,e1,kT.trans e4,fs++[(κ es[i].1,r,es[i].2.2)],by rw[bP];rfl,?_,?_⟩
   ·show(jE T n).bind _=_;rw[kT.lst _ _ (λz=>z) hx,dz,aR,he];rfl
   ·refine(a1.u_ e4).app λe h=>?_;rw[aP.mp h];exact e2
   ·rw[Su.CG,a2,cH,he,bP];rfl) (λacc T hP=>by
   show(match jE T n with
    | some ys=>decide (ys.length<=(es.map Su.ent).length)
    | none=>false)=true
   rw[hP.1.lst _ _ (λz=>z) hx];simp) (es.map Su.ent).length 0 [] [.unb,.unb] S rfl ⟨_,_,rfl⟩ ⟨Kp.refl,[],rfl,(λ_ h=>nomatch h),by rw[eO];rfl⟩
 rw[show(kY n (es.map Su.ent).length).k=es.length from hk,cP]at h3;have lf:fs.length=es.length:=by have:=dm List.length h3;rwa [Su.m5,aH]at this
 refine⟨S'.length,S'++[.lst (fs.map Su.ent)],fs,?_,jS,h2.u_ Kp.refl.lay,h3,k1.lay⟩;unfold kZ;rw[hs,R.oX];show(ny (kY n (es.map Su.ent).length) PO sJ ex (es.map Su.ent).length 0 [.unb,.unb] S).rj _=_;rw[h1,R.lC];exact lJ (by rw[aH,lf];exact hl)
theorem Sn.Fb{N P n:Nat}{l:Su.Ps}(h:Sn N P C S n l)(hN:N<6):∃(L:Nat) (S':jG),kF [.ref n] S=.ok (.ref L) S'/\Sn N P C S' L (He.yX l)/\lB S S':=by
 obtain⟨hz,es,hs,rfl⟩:=h;have lf:=hz.many hN;rw[Su.m5]at lf;have pm:∀e∈es,e.1.Perm (rg N):=λe he=>hz.pm _ (kM rfl he);obtain⟨m,S1,fs,e1,l1,a1,q1,k1⟩:=JY (es:=es) (n:=n) (src:=nE (jD 0)) (ex:=lV (jA (eFn oS (jA (jD 0) jF)) (jA (j8 (f1 tM) (jA (jD 1) jF)) jF))) (τ:=[.ref n]) (S:=S) (mT (by simp only[kC,bools]) hs.l) hs.l He.bk (λe he T kT=>by
  obtain⟨ys,T',b1,b2,b3,b4⟩:=yR (S:=T) (pm e he) (by lia);have:ys=He.bk e.1:=He.lE ⟨pm e he,b3,b2⟩ (He.mq (pm e he));subst this;refine⟨T'.length,T'++[.lst (Po.pl e.2.2)],?_,jS,b4.lay⟩;simp only[kC,bools,b1,(hs.a.u_ (kT.trans b4)) e he];exact sU (show 2<=16777216 by decide)) (by lia)
 have wbE:Su.sm fs=He.wb (Su.sm es):=by
  rw[q1];unfold He.wb Su.sm;rw[bu];rfl
 have nd:(fs.map Prod.fst).Nodup:=by
  have:=(He.Ek hz.cn.gd hz.pm).nd;rw[<- wbE]at this;unfold Su.sm at this
  rwa [bu]at this
 have x1:=Su.Bb l1 nd;have k2:lB S1 (S1++[O.lst ((Am.mR fs).map Su.ent)]):=Kp.refl.lay;refine⟨S1.length,_,?_,⟨hz.yX,Am.mR fs,⟨jS,λe he=>(a1.u_ k2) e ((Am.oU fs).mem_iff.mp he)⟩,?_⟩,k1.trans k2⟩
 ·unfold kF sP uc;simp only[kC,bools,mY,Nat.reduceAdd,Nat.reduceSub];rw[show kZ [none,none] _ _ _ _ _ _=_ from e1];simp only[kC,bools,x1]
 ·rw[Su.EV,wbE];rfl
theorem GS(x y:List Int)(b:Bool):sM b (.tup (x.map .int)) (.tup (y.map .int)) S=.ok (.bl (if b then !decide (x=y)else decide (x=y))) S:=by
 have:qU S 12 (.tup (x.map .int)) (.tup (y.map .int))=some (decide (x=y)):=by
  show qe (qU S 11) (x.map .int) (y.map .int)=_;rw[uP]
 cases b
 ·exact Vc this
 ·exact Ah this
theorem H_{S:jG}(o:List Int):Sm (S++[O.lst [.tup [.int 0,.int 1]]]++[O.lst [.tup [.tup (o.map .int),.ref S.length]]]) (S.length+1) [(o,S.length,[((0:Int),(1:Int))])]:=by
 have:=jS (S:=S++[O.lst [.tup [.int 0,.int 1]]]) (xs:=[.tup [.tup (o.map .int),.ref S.length]]);rw[aO,bB]at this;exact⟨this,λe he=>by rw[aP.mp he];exact kD jS⟩
theorem Wi:PB 60 (10 ^ 20) [((0:Int),(1:Int))]:=⟨λq hq=>by rw[aP.mp hq];decide,λq hq=>by rw[aP.mp hq];decide⟩
theorem D7{N:Nat}{o:List Int}(po:o.Perm (rg N)):Sz N 60 (10 ^ 20) [(o,[((0:Int),(1:Int))])]:=He.Sz.of (He.vt o He.sX (by simp)) (λx hx=>by rw[aP.mp hx];exact po) (λx hx=>by rw[aP.mp hx];exact Wi)
theorem YQ{N:Nat}{a b:List Int}(hN:N<6)(h1:1<=N)(pa:a.Perm (rg N))(pb:b.Perm (rg N)):∃(r:Nat) (S':jG),kO [.tup (a.map .int),.tup (b.map .int)] S=.ok (.ref r) S'/\jE S' r=some (Po.pl (if a=b then[((0:Int),(1:Int))]else[]))/\lB S S':=by
 have B0:3 ^ 25 * 10 ^ 20<big:=Ck (by decide +kernel);have la:=nv pa;obtain⟨S1,hS1⟩:∃S1,S1=S++[O.lst [.tup [.int 0,.int 1]]]++[O.lst [.tup [.tup (a.map .int),.ref S.length]]]:=⟨_,rfl⟩;have k1:lB S S1:=by rw[hS1];exact Kp.refl.lay.lay
 have s1:Sm S1 (S.length+1) [(a,S.length,[((0:Int),(1:Int))])]:=by rw[hS1];exact H_ _
 obtain⟨ys,S2,b1,b2,b3,b4⟩:=yR (S:=S1) pb (by lia);have:ys=He.bk b:=He.lE ⟨pb,b3,b2⟩ (He.mq pb);subst this;obtain⟨S3,hS3⟩:∃S3,S3=S2++[O.lst [.tup [.int 0,.int 1]]]++[O.lst [.tup [.tup ((He.bk b).map .int),.ref S2.length]]]:=⟨_,rfl⟩;have k3:lB S2 S3:=by rw[hS3];exact Kp.refl.lay.lay
 have s3:Sm S3 (S2.length+1) [(He.bk b,S2.length,[((0:Int),(1:Int))])]:=by rw[hS3];exact H_ _
 obtain⟨R,S4,rs,e4,s4,q4,_,_,k4⟩:=qF hN h1 (s1.kp (b4.trans k3)) s3 (D7 pa) (D7 b3) (by decide) B0 B0;have kk:lB S S4:=((k1.trans b4).trans k3).trans k4;obtain⟨c1,c2,_⟩:=He.qF (n:=N) (He.vt a He.sX (by simp)) (He.vt (He.bk b) He.sX (by simp)) (λx hx=>by rw[aP.mp hx];exact pa) (λx hx=>by rw[aP.mp hx];exact b3);have bp:=He.CJ pa pb;have q4':Su.sm rs=He.prod [(a,[((0:Int),(1:Int))])] [(He.bk b,[((0:Int),(1:Int))])]:=q4;have ent1:∀e∈rs,e.1=rg N->a=b/\e.2.2=[((0:Int),(1:Int))]:=λe he ee=>by
  have me:=kM q4' he;have okk:=c1.gd.ok _ me;have cc:∀t,Po.cf e.2.2 t=if a=b then He.d0 t else 0:=λt=>by
   rw[<- bp t,He.xX c1.gd,<- ee];have:=He.Jg c1.gd me;have this:Su.vS (He.prod [(a,[((0:Int),(1:Int))])] [(He.bk b,[((0:Int),(1:Int))])]) e.1=e.2.2:=this;rw[this]
  by_cases c:a=b
  ·refine⟨c,Po.uniq okk He.sX λt=>?_⟩;rw[cc t,aM c];show He.d0 t=(if (0:Int)=t then 1 else 0)+0;unfold He.d0;by_cases z:t=0
   ·rw[aM z,aM z.symm];rfl
   ·rw[aK z,aK (c7 z)];rfl
  ·have z:e.2.2=[]:=Po.uniq okk ⟨List.Pairwise.nil,λ_ z=>nomatch z⟩ λt=>by rw[cc t,aK c];rfl
   exact absurd z (c1.ne me)
 have ent2:a=b->∃e∈rs,e.1=rg N:=λc=>by
  by_cases z:∃e∈rs,e.1=rg N
  ·exact z
  ·exfalso;have:=bp 0;rw[aM c,<- q4',Su.CQ λe he ee=>by
    obtain⟨f,hf,rfl⟩:=bz.mp he;exact z ⟨f,hf,ee⟩]at this
   exact absurd this (by decide)
 unfold kO nU nR;simp only[kC,pS,bools,mY,Nat.reduceAdd,Nat.reduceSub,aH,la,YZ (show N<=1000 by lia)];refine pU (n:=R) (xs:=rs.map Su.ent) (S1:=S4) (show o8 _ _=_ from mT (by
   simp only[kC,pS,bools,lz (show 2<=sizeLine by decide),aO,bB,aZ,bK,Nat.reduceAdd];rw[<- hS1];simp only[kC,pS,bools,b1,lz (show 2<=sizeLine by decide),aO,bB,aZ,bK,Nat.reduceAdd];rw[<- hS3];simp only[kC,pS,bools,e4]) s4.l)
  (λi τ T=>(∃y3 y4:A,τ=[.tup (a.map .int),.tup (b.map .int),.tup ((rg N).map .int),y3,y4])/\T=S4/\∀e∈rs.take i,e.1≠rg N)
  (λr=>∃(q:Nat) (S':jG),RS.end (RS.seq r _)=.ok (.ref q) S'/\jE S' q=some (Po.pl (if a=b then[((0:Int),(1:Int))]else[]))/\lB S S') ⟨⟨_,_,rfl⟩,rfl,λ_ z=>nomatch z⟩ (λi τ T hh=>by rw[hh.2.1];exact s4.l) ?_ ?_
 ·rintro i z τ T hz ⟨⟨y3,y4,rfl⟩,rfl,hn⟩;rw[aR]at hz;obtain⟨e,he,rfl⟩:=aX.mp hz;have me:=aW he;refine⟨[.tup (a.map .int),.tup (b.map .int),.tup ((rg N).map .int),.tup (e.1.map .int),.ref e.2.1],T,rfl,?_⟩;unfold pC;by_cases c:e.1=rg N
  ·right;obtain⟨z1,z2⟩:=ent1 e me c;refine⟨.ref e.2.1,T,by simp only[kC,pS,bools,GS,bh c,bf,bU],e.2.1,T,by simp only[kC],?_,kk⟩;rw[aM z1,<- z2];exact s4.a e me
  ·left;refine⟨[.tup (a.map .int),.tup (b.map .int),.tup ((rg N).map .int),.tup (e.1.map .int),.ref e.2.1],T,by simp only[kC,pS,bools,GS,bq c,bf,bU],⟨_,_,rfl⟩,rfl,λx hx=>?_⟩;rw[cH,he]at hx
   rcases bF.mp hx with z|z
   ·exact hn x z
   ·rw[aP.mp z];exact c
 ·rintro τ T ⟨⟨y3,y4,rfl⟩,rfl,hn⟩;rw[aH,cP]at hn;have ne:¬a=b:=λc=>by
   obtain⟨e,he,ee⟩:=ent2 c;exact hn e he ee
  refine⟨T.length,T++[.lst []],by simp only[kC,pS,bools],?_,kk.lay⟩;rw[aK ne];exact jS
end K32
namespace K32
open PySem L2 Am
open Po (Pl Ok Bd)
open Su (Es At Vl)
open He (Sz PB)
open Fw (rg)
theorem Sn.bx{N P n k:Nat}{l:Su.Ps}(h:Sn N P C S n l)(hN:N<6)(k1:1<=k)(k2:k<N)(hP:P<=1000)(hC:C<big) :
  ∃(L:Nat) (S':jG),ko [.ref n,.int k] S=.ok (.ref L) S'/\Sn N (P+1) (3 * C) S' L (Su.bx k l)/\lB S S':=by
 obtain⟨z,es,s,rfl⟩:=h;have m3:=z.many hN;rw[Su.m5]at m3;obtain⟨L,S4,rs4,x4,s4,q4,_,_,_,_,k4⟩:=BS (j:=2 * (2 * P+1)) s (k:=k) (N:=N) (λe he=>by
  have b:=z.pb (kM rfl he);exact⟨nv (z.pm _ (kM rfl he)),by have:=b.2;show 2 * e.2.2.length<=_;exact iR _ this,λp hp=>cB (b.1.c p hp) hC⟩) k1 k2 (by lia) (by
   have:(2 * es.length+2) * (2 * (2 * P+1))<=242 * (2 * (2 * P+1)):=bL _ (by lia);lia) (by lia)
 exact⟨L,S4,x4,⟨z.bx k1 k2,rs4,s4,q4⟩,k4⟩
theorem Qt{N:Nat}{o:List Int}(po:o.Perm (rg N)):He.Kc (He.fwd o) (He.one N)=[(o,[((0:Int),(1:Int))])]:=by
 have va:He.Va N (He.fwd o):=λk hk=>by have:=Wd.jW.valid (He.qA po).1 k hk;rwa [Wd.jR]at this
 refine He.B9 (n:=N) ((He.Sz.Kc (D7 (.refl _)) va).cn) (He.vt o He.sX (by simp)) (He.OB va (He.zP N)) (λx hx=>by rw[aP.mp hx];exact po) ?_;refine(He.TH (He.zP N) va).trans ((He.YM po (He.qA po).1 (He.qA po).2).trans ?_);intro u _ s;have z:Su.cS [(o,[((0:Int),(1:Int))])]=He.add (He.D o (Po.cf [((0:Int),(1:Int))])) (λ_ _=>0):=He.sC _ _;rw[z];show _=He.D o (Po.cf [((0:Int),(1:Int))]) u s+0;rw[c6];unfold He.D;split
 ·rw[<- He.Eo,He.zD]
 ·rfl
theorem yx{N:Nat}{o:List Int}(hN:N<6)(h1:1<=N)(po:o.Perm (rg N)):∃y9 y10 S',(jZ (ku (lX (jA (lV (jA (j8 (f1 oO) (jA (j8 (f2 r8) (jA (eC (.int 1)) (jA (jO nu (jD 3) (eC (.int 1))) jF))) jF)) (jA (lX (jA (lV (jA (eC (.int 0)) (jA (eC (.int 1)) jF))) jF)) jF))) jF)) (kI 9))
 (jZ (mw yk (kI 10)
 yO)
 (wJ (vm (jO (sM true) (jD 9) (lX (jA (lV (jA (jD 7) (jA (lX (jA (lV (jA (eC (.int 0)) (jA (eC (.int 1)) jF))) jF)) jF))) jF))))
 (lA (eC (.bl false)))
 oQ))) [x0,x1,x2,.int N,x4,x5,x6,.tup (o.map .int),x8,x9,x10] S=.nx [x0,x1,x2,.int N,x4,x5,x6,.tup (o.map .int),x8,y9,y10] S':=by
 obtain⟨S0,h0⟩:∃S0,S0=S++[O.lst [.tup [.int 0,.int 1]]]++[O.lst [.tup [.tup ((rg N).map .int),.ref S.length]]]:=⟨_,rfl⟩;have s0:Sn N 60 (10 ^ 20) S0 (S.length+1) (He.one N):=by rw[h0];exact⟨D7 (.refl _),_,H_ (rg N),rfl⟩
 obtain⟨W,S1,e1,l1,_,k1⟩:=T_ (S:=S0) po (by lia) (He.mq po).ou (He.F8 o);have ll:(He.fwd o).length<=25:=by
  have:=He.oR (He.qA po).1;rw[(He.qA po).2]at this;have:=He.xM hN po;lia
 have va:He.Va N (He.fwd o):=λk hk=>by have:=Wd.jW.valid (He.qA po).1 k hk;rwa [Wd.jR]at this
 have C0:3 ^ 25 * 10 ^ 20<big:=Ck (by decide +kernel);simp only[kC,pS,bools,YZ (show N<=1000 by lia),lz (show 2<=sizeLine by decide),aO,bB,aZ,bK,Nat.reduceAdd];rw[<- h0];refine pU (n:=W) (xs:=wd (He.fwd o)) (S1:=S1) (show yk _ _=_ from mT (by simp only[kC,bools,e1]) l1)
  (λi τ T=>∃(L:Nat) (y:A),τ=[x0,x1,x2,.int N,x4,x5,x6,.tup (o.map .int),x8,.ref L,y]/\Sn N (60+i) (3 ^ i * 10 ^ 20) T L (He.Kc ((He.fwd o).take i) (He.one N))/\lB S1 T)
  (λr=>∃y9 y10 S',RS.seq r _=.nx [x0,x1,x2,.int N,x4,x5,x6,.tup (o.map .int),x8,y9,y10] S') ⟨_,_,rfl,(s0.kp k1).mono (by lia) (by lia),Kp.refl⟩ (λi τ T ⟨_,_,_,_,k⟩=>k.lst _ _ (λz=>z) l1) ?_ ?_
 ·rintro i z τ T hz ⟨L,y,rfl,sT,kT⟩;unfold wd at hz;rw[aR]at hz;obtain⟨k,hk,rfl⟩:=aX.mp hz;obtain⟨v1,v2⟩:=va k (aW hk);have hi:i<(He.fwd o).length:=(aN.mp hk).1;have p3:3 ^ i<=3 ^ 25:=gc (by decide) (by lia);obtain⟨L',T',e2,s2,k2⟩:=sT.bx hN v1 v2 (by lia) (cB (bL _ p3) C0);refine⟨[x0,x1,x2,.int N,x4,x5,x6,.tup (o.map .int),x8,.ref L,.int k],T,rfl,Or.inl ⟨[x0,x1,x2,.int N,x4,x5,x6,.tup (o.map .int),x8,.ref L',.int k],T',?_,L',_,rfl,?_,kT.trans k2⟩⟩
  ·unfold yO;simp only[kC,bools,e2]
  ·rw[cH,hk];show Sn _ _ _ _ _ (He.Kc (_++[k]) _);rw[He.Lb];exact s2.mono (by lia) (by rw[jq];lia)
 ·rintro τ T ⟨L,y,rfl,sT,kT⟩;rw[show(wd (He.fwd o)).length=(He.fwd o).length from aH ..,cP,Qt po]at sT;have k3:lB T (T++[O.lst [.tup [.int 0,.int 1]]]++[O.lst [.tup [.tup (o.map .int),.ref T.length]]]):=Kp.refl.lay.lay;have s3:Sn N 60 (10 ^ 20) (T++[O.lst [.tup [.int 0,.int 1]]]++[O.lst [.tup [.tup (o.map .int),.ref T.length]]]) (T.length+1) [(o,[((0:Int),(1:Int))])]:=⟨D7 po,_,H_ o,rfl⟩;have q:sM true (.ref L) (.ref (T.length+1)) _=.ok (.bl false) _:=Ah ((sT.kp k3).eq s3 rfl);refine⟨.ref L,y,T++[O.lst [.tup [.int 0,.int 1]]]++[O.lst [.tup [.tup (o.map .int),.ref T.length]]],?_⟩;simp only[kC,pS,bools,lz (show 2<=sizeLine by decide),aO,bB,aZ,bK,Nat.reduceAdd,q]
theorem Qs{N n:Nat}{l k:Su.Ps}(bS:yH S b)(h1:1<=N)(h5:N<6)(d0:Dw N n b0 S l)(d1:Dw N m b0 S k)(hb:b<b0) :
  ∃y7 y8 y9 y10 S',(jZ (wJ (vm (jO (sM true) (eFn kF (jA (eFn lG (jA (jD 5) (jA (jD 6) jF))) jF)) (eFn lG (jA (eFn kF (jA (jD 6) jF)) (jA (eFn kF (jA (jD 5) jF)) jF)))))
 (lA (eC (.bl false)))
 oQ)
 (jZ (wJ (vm (jO (sM true) (eFn kF (jA (eFn nh (jA (jD 5) jF)) jF)) (eFn nh (jA (eFn kF (jA (jD 5) jF)) jF))))
 (lA (eC (.bl false)))
 oQ)
 (jZ (ku (eFn k_ (jA (jD 2) (jA (jD 3) jF))) (kI 7))
 (jZ (ku (eFn k_ (jA (jD 2) (jA (jD 3) jF))) (kI 8))
 (jZ (wJ (vm (jO (sM false) (eFn jT (jA (jD 2) (jA (eC (.int 2)) jF))) (eC (.int 1))))
 (ku (jD 7) (kI 8))
 oQ)
 (jZ (wJ (vm (jO (sM true) (eFn kO (jA (jD 7) (jA (jD 8) jF))) (jO sL (lX (jA (lX jF) (jA (lX (jA (lV (jA (eC (.int 0)) (jA (eC (.int 1)) jF))) jF)) jF))) (j8 (f1 zF) (jA (jO (sM false) (jD 7) (jD 8)) jF)))))
 (lA (eC (.bl false)))
 oQ)
 (jZ (ku (lX (jA (lV (jA (j8 (f1 oO) (jA (j8 (f2 r8) (jA (eC (.int 1)) (jA (jO nu (jD 3) (eC (.int 1))) jF))) jF)) (jA (lX (jA (lV (jA (eC (.int 0)) (jA (eC (.int 1)) jF))) jF)) jF))) jF)) (kI 9))
 (jZ (mw yk (kI 10)
 yO)
 (wJ (vm (jO (sM true) (jD 9) (lX (jA (lV (jA (jD 7) (jA (lX (jA (lV (jA (eC (.int 0)) (jA (eC (.int 1)) jF))) jF)) jF))) jF))))
 (lA (eC (.bl false)))
 oQ))))))))) [x0,x1,.ref b,.int N,x4,.ref n,.ref m,x7,x8,x9,x10] S=.nx [x0,x1,.ref b,.int N,x4,.ref n,.ref m,y7,y8,y9,y10] S':=by
 have C0:10 ^ 20<big:=Ck (by decide +kernel);have B0:3 ^ 25 * 10 ^ 20<big:=Ck (by decide +kernel);have a:=d0.sn;have c:=d1.sn;obtain⟨L1,S1,e1,s1,k1⟩:=a.prod c h5 h1 (by decide) B0 B0;obtain⟨L2,S2,e2,s2,k2⟩:=s1.Fb h5;have j2:=k1.trans k2;obtain⟨L3,S3,e3,s3,k3⟩:=(c.kp j2).Fb h5;have j3:=j2.trans k3;obtain⟨L4,S4,e4,s4,k4⟩:=(a.kp j3).Fb h5;obtain⟨L5,S5,e5,s5,k5⟩:=(s3.kp k4).prod s4 h5 h1 (by decide) B0 B0;have j5:=j3.trans (k4.trans k5);have q1:sM true (.ref L2) (.ref L5) S5=.ok (.bl false) S5:=Ah ((s2.kp ((k3.trans k4).trans k5)).eq s5 (He.LH a.1.cn c.1.cn a.1.pm c.1.pm));obtain⟨L6,S6,e6,s6,k6⟩:=(a.kp j5).tu h5 h1 (by decide) C0;obtain⟨L7,S7,e7,s7,k7⟩:=s6.Fb h5;have j7:=j5.trans (k6.trans k7);obtain⟨L8,S8,e8,s8,k8⟩:=(a.kp j7).Fb h5;obtain⟨L9,S9,e9,s9,k9⟩:=s8.tu h5 h1 (by decide) C0;have j9:=j7.trans (k8.trans k9);have q2:sM true (.ref L7) (.ref L9) S9=.ok (.bl false) S9:=Ah ((s7.kp (k8.trans k9)).eq s9 (He.WY a.1.cn a.1.pm));obtain⟨o,S10,e10,po,b10,k10⟩:=zE (n:=(N:Int)) (bS.kp j9 λz=>z) (by lia) (by lia);obtain⟨o1,S11,e11,po1,b11,k11⟩:=zE (n:=(N:Int)) b10 (by lia) (by lia);obtain⟨p,S12,e12,p0,p1,b12,k12⟩:=digit (S:=S11) (m:=2) b11 (by decide) (by decide);obtain⟨o2,h2,po2⟩:∃o2:List Int,o2=(if p=1 then o else o1)/\o2.Perm (rg N):=⟨_,rfl,by split<;>assumption⟩;obtain⟨r,S13,e13,l13,k13⟩:=YQ (S:=S12) h5 h1 po po2;obtain⟨S14,h14⟩:∃S14,S14=S13++[O.lst []]++[O.lst [.tup [.int 0,.int 1]]]++[O.lst [.ref S13.length,.ref (S13.length+1)]]:=⟨_,rfl⟩;have k14:lB S13 S14:=by rw[h14];exact Kp.refl.lay.lay.lay
 have lc:jE S14 (S13.length+2)=some [.ref S13.length,.ref (S13.length+1)]:=by
  have:=jS (S:=S13++[O.lst []]++[O.lst [.tup [.int 0,.int 1]]]) (xs:=[.ref S13.length,.ref (S13.length+1)]);rw[aO,aO,bB,bB]at this;rw[h14];exact this
 obtain⟨r',hr1,hr2⟩:∃r':Nat,sd ([.ref S13.length,.ref (S13.length+1)]:List A) (if decide (o=o2)=true then 1 else 0)=some (.ref r')/\jE S14 r'=some (Po.pl (if o=o2 then[((0:Int),(1:Int))]else[])):=by
  by_cases c:o=o2
  ·rw[bh c,aM c];refine⟨S13.length+1,rfl,?_⟩;have:=jS (S:=S13++[O.lst []]) (xs:=[.tup [.int 0,.int 1]]);rw[aO,bB]at this;rw[h14];exact kD this
  ·rw[bq c,aK c];refine⟨S13.length,rfl,?_⟩;rw[h14];exact kD (kD jS)
 have q3:sM true (.ref r) (.ref r') S14=.ok (.bl false) S14:=Ah (X9 (k14.lst _ _ (λz=>z) l13) hr2);obtain⟨y9,y10,S15,e15⟩:=yx (S:=S14) (x0:=x0) (x1:=x1) (x2:=.ref b) (x4:=x4) (x5:=.ref n) (x6:=.ref m) (x8:=.tup (o2.map .int)) (x9:=x9) (x10:=x10) h5 h1 po;refine⟨.tup (o.map .int),.tup (o2.map .int),y9,y10,S15,?_⟩;simp only[kC,pS,bools,lz (show 2<=sizeLine by decide),aO,bB,aZ,bK,Nat.reduceAdd]at e15;by_cases cp:p=1
 ·rw[aM cp]at h2;subst h2;have hp:(p == 1)=true:=by rw[beq_iff_eq];exact cp
  simp only[eq_self]at hr1;simp only[kC,pS,bools,e1,e2,e3,e4,e5,q1,e6,e7,e8,e9,q2,e10,e11,e12,hp,e13,lz (show 2<=sizeLine by decide),aO,bB,aZ,bK,Nat.reduceAdd];rw[show S13++[O.lst []]++[O.lst [A.tup [.int 0,.int 1]]]++[O.lst [A.ref S13.length,.ref (S13.length+1)]]=S14 from h14.symm];simp only[kC,pS,bools,GS,bf,bU,lc,hr1,q3,lz (show 2<=sizeLine by decide),aO,bB,aZ,bK,Nat.reduceAdd];exact e15
 ·rw[aK cp]at h2;subst h2;have hp:(p == 1)=false:=by rw[d8];exact cp
  simp only[kC,pS,bools,e1,e2,e3,e4,e5,q1,e6,e7,e8,e9,q2,e10,e11,e12,hp,e13,lz (show 2<=sizeLine by decide),aO,bB,aZ,bK,Nat.reduceAdd];rw[show S13++[O.lst []]++[O.lst [A.tup [.int 0,.int 1]]]++[O.lst [A.ref S13.length,.ref (S13.length+1)]]=S14 from h14.symm];simp only[kC,pS,bools,GS,bf,bU,lc,hr1,q3,lz (show 2<=sizeLine by decide),aO,bB,aZ,bK,Nat.reduceAdd];exact e15
theorem UL(ns:List Int)(hl:ns.length<=63):∃S',A_ [.frz (ns.map .int)] []=.ok (.bl true) S':=by
 unfold A_ N3 MI;simp only[kC,bools,mY,Nat.reduceAdd,Nat.reduceSub];refine HS (lo:=0) (hi:=if (if 2<(ns.length:Int)then 2 else(ns.length:Int))>1 then(if 2<(ns.length:Int)then 2 else(ns.length:Int))else 1) (S1:=[]) (show HL _ _=_ from EN (by simp only[kC,bools,aH]) (Ci (by split<;>split<;>lia) (by split<;>split<;>lia)))
  (λ_ τ _=>∃a1 a2 a3 a4 a5 a6 a7 a8 a9 aa:A,τ=[.frz (ns.map .int),a1,a2,a3,a4,a5,a6,a7,a8,a9,aa]) (λr=>∃S',RS.end (RS.seq r _)=.ok (.bl true) S') ⟨_,_,_,_,_,_,_,_,_,_,rfl⟩ ?_ ?_
 ·rintro i τ S hi ⟨a1,a2,a3,a4,a5,a6,a7,a8,a9,aa,rfl⟩;left;have hi2:(i:Int)<2:=by split at hi<;>split at hi<;>lia
  obtain⟨S1,e1,b1,kp1⟩:=QH (S:=S) (ns:=ns) (k:=0+(i:Int)) (by lia) (by lia);obtain⟨S2,hS2⟩:∃S2,S2=S1++[O.lst (([2,3,3,4,4,4,4,5]:List Int).map .int)]++[O.lst (([2,3,3,4,4,3,4,4]:List Int).map .int)]++[O.lst [.ref S1.length,.ref (S1.length+1)]]:=⟨_,rfl⟩;have k2:lB S1 S2:=by rw[hS2];exact Kp.refl.lay.lay.lay
  have la:jE S2 S1.length=some (([2,3,3,4,4,4,4,5]:List Int).map .int):=by rw[hS2];exact kD (kD jS)
  have lb:jE S2 (S1.length+1)=some (([2,3,3,4,4,3,4,4]:List Int).map .int):=by
   have:=jS (S:=S1++[O.lst (([2,3,3,4,4,4,4,5]:List Int).map .int)]) (xs:=([2,3,3,4,4,3,4,4]:List Int).map .int);rw[aO,bB]at this;rw[hS2];exact kD this
  have lc:jE S2 (S1.length+2)=some [.ref S1.length,.ref (S1.length+1)]:=by
   have:=jS (S:=S1++[O.lst (([2,3,3,4,4,4,4,5]:List Int).map .int)]++[O.lst (([2,3,3,4,4,3,4,4]:List Int).map .int)]) (xs:=[.ref S1.length,.ref (S1.length+1)]);rw[aO,aO,bB,bB]at this;rw[hS2];exact this
  obtain⟨r,xs,hr1,hr2,hr3,hr4,hr5⟩:∃(r:Nat) (xs:List Int),sd ([.ref S1.length,.ref (S1.length+1)]:List A) (if decide ((0:Int)<0+(i:Int))=true then 1 else 0)=some (.ref r)/\jE S2 r=some (xs.map .int)/\xs.length=8/\(∀x∈xs,2<=x/\x<=5)/\S1.length<=r:=by
   by_cases c:(0:Int)<0+(i:Int)
   ·rw[bh c];exact⟨S1.length+1,_,rfl,lb,rfl,by decide,by lia⟩
   ·rw[bq c];exact⟨S1.length,_,rfl,la,rfl,by decide,by lia⟩
  have bl:=b1.lt;obtain⟨d,S3,e3,d0,d1,b3,k3⟩:=digit (S:=S2) (m:=8) (b1.kp k2 λz=>z) (by decide) (by decide);have lr:jE S3 r=some (xs.map .int):=k3.lst _ _ (by lia) hr2;obtain⟨v,hv,v2,v5⟩:=at8 d0 d1 hr3 hr4;obtain⟨N,hN⟩:∃N:Nat,(N:Int)=v:=⟨v.toNat,by lia⟩;have sl3:=(k2.of0.trans k3).len;obtain⟨mo,hmo,hmo'⟩:∃mo:Int,sd ([.int 2,.int 1]:List A) (if ((N:Int) == 5)=true then 1 else 0)=some (.int mo)/\1<=mo/\mo<=2:=by
   cases(N:Int) == 5
   ·exact⟨2,rfl,by decide⟩
   ·exact⟨1,rfl,by decide⟩
  have k4:lB S3 (S3++[O.lst [.int 2,.int 1]]):=Kp.refl.lay;obtain⟨n,S4,l,e4,D4,q4,b4,p4⟩:=draw (S:=S3++[O.lst [.int 2,.int 1]]) (b:=S.length) (N:=N) (b0:=S1.length) (most:=mo) (b3.kp k4 λz=>z) (by lia) (by lia) (by lia) (by lia) (by rw[aO];lia);have l4:=p4.len;rw[aO]at l4;obtain⟨m,S5,k,e5,D5,q5,b5,p5⟩:=draw (S:=S4) (b:=S.length) (N:=N) (b0:=S1.length) (most:=mo) b4 (by lia) (by lia) (by lia) (by lia) (by lia);obtain⟨y7,y8,y9,ya,S10,x10⟩:=Qs (x0:=.frz (ns.map .int)) (x1:=.int (0+(i:Int))) (x4:=.int mo) (x7:=a7) (x8:=a8) (x9:=a9) (x10:=aa) b5 (by lia) (by lia) (D4.kp p5 bl) D5 bl;unfold G9;simp only[kC,bools,e1,aO,bB,Nat.reduceAdd];rw[show S1++[O.lst [A.int 2,.int 3,.int 3,.int 4,.int 4,.int 4,.int 4,.int 5]]++[O.lst [A.int 2,.int 3,.int 3,.int 4,.int 4,.int 3,.int 4,.int 4]]++[O.lst [A.ref S1.length,.ref (S1.length+1)]]=S2 from hS2.symm];simp only[kC,bools,lc,hr1,e3,lr,hv,<- hN,hmo,e4,e5];simp only[kC,pS,bools]at x10;rw[x10];exact⟨_,_,rfl,_,_,_,_,_,_,_,_,_,_,rfl⟩
 ·rintro τ S ⟨a1,a2,a3,a4,a5,a6,a7,a8,a9,aa,rfl⟩;exact⟨_,rfl⟩
end K32
namespace K32
open PySem L2 Am
theorem all_mk{l:PySem.W.OpenLaw}{w:ah}{K:au}{h:aq}{mg:Str->Option af}{fa:ak}(X:K.In h)(G:h.Ns mainGlobals mg)(hfa:mg "law" = some (.ref fa))
  (a1:Df K "is_whole" vj)
  (a2:Df K "need_pair" tW)
  (a3:Df K "back" F2)
  (a4:Df K "is_exchange" qQ)
  (a5:Df K "exchanged_places" nS)
  (a6:Df K "exchanged" tD)
  (a7:Df K "falls" Cy)
  (a8:Df K "as_polynomial" pM)
  (a9:Df K "plus" FL)
  (a10:Df K "times" BV)
  (a11:Df K "turned" zM)
  (a12:Df K "put_before" su)
  (a13:Df K "as_sum" Ar)
  (a14:Df K "need_like" t_)
  (a15:Df K "added" BW)
  (a16:Df K "scaled" Ay)
  (a17:Df K "by_exchange" qX)
  (a18:Df K "by_order" rW)
  (a19:Df K "by_orders" tQ)
  (a20:Df K "with_backs" sG)
  (a21:Df K "product" xO)
  (a22:Df K "first_word" rT)
  (a23:Df K "turned_order" oA)
  (a24:Df K "turning" w_)
  (a25:Df K "_law_bag" wX)
  (a26:Df K "_law_digit" ud)
  (a27:Df K "_law_order" tH)
  (a28:Df K "_law_small_sum" pJ)
  (a29:Df K "_law_backs" tX)
  (a30:Df K "_law_before_plain" nN)
  (a31:Df K "law" Nf)
  (abg:PySem.W.nsIn K mainGlobals "isinstance" = some none)
  (abh:PySem.W.nsIn K mainGlobals "bool" = some none)
  (abi:PySem.W.nsIn K mainGlobals "int" = some none)
  (abj:PySem.W.nsIn K mainGlobals "len" = some none)
  (abk:PySem.W.nsIn K mainGlobals "enumerate" = some none)
  (abl:PySem.W.nsIn K mainGlobals "tuple" = some none)
  (abm:PySem.W.nsIn K mainGlobals "list" = some none)
  (abn:PySem.W.nsIn K mainGlobals "range" = some none)
  (abo:PySem.W.nsIn K mainGlobals "sorted" = some none)
  (abp:PySem.W.nsIn K mainGlobals "dict" = some none)
  (abq:PySem.W.nsIn K mainGlobals "reversed" = some none)
  (abr:PySem.W.nsIn K mainGlobals "max" = some none)
  (abt:PySem.W.nsIn K mainGlobals "min" = some none)
  {a_AT_A_FALL:ak} (abu:PySem.W.nsIn K mainGlobals "AT_A_FALL" = some (some (.ref a_AT_A_FALL))) (kp_AT_A_FALL:PJ K a_AT_A_FALL=some [((-1:Int),(1:Int)),((1:Int),(-1:Int))])
  {a_LESS_BACK:ak} (abv:PySem.W.nsIn K mainGlobals "LESS_BACK" = some (some (.ref a_LESS_BACK))) (kp_LESS_BACK:PJ K a_LESS_BACK=some [((-1:Int),(-1:Int)),((1:Int),(1:Int))])
  : ∃fd:FuncData,(∀(s:aA) (v:af),BindsTo s fd ⟨[v],[]⟩ [("_law_script",v)])/\∀base:aq,K.In base->base.Ns mainGlobals mg->FnOk l.prog w K mg base qj 35 fa fd ["_law_script"] (rf K 1 A_):=by
 obtain⟨f,fd,a,F⟩:=a31;have e:=hfa.symm.trans (ji X G a)
 cases e
 have aaW:=b_ X G abg;have aa0:=b_ X G abh;have aaN:=b_ X G abi;have aac:=b_ X G abj;have aa1:=b_ X G abk;have aaw:=b_ X G abl;have aae:=b_ X G abm;have aam:=b_ X G abn;have aay:=b_ X G abo;have aa5:=b_ X G abp;have aa6:=b_ X G abq;have abc:=b_ X G abr;have abd:=b_ X G abt;have h_AT_A_FALL:∃a,mg "AT_A_FALL" = some (.ref a)/\PJ K a=some [((-1:Int),(1:Int)),((1:Int),(-1:Int))]:=⟨a_AT_A_FALL,ji X G abu,kp_AT_A_FALL⟩;have h_LESS_BACK:∃a,mg "LESS_BACK" = some (.ref a)/\PJ K a=some [((-1:Int),(-1:Int)),((1:Int),(1:Int))]:=⟨a_LESS_BACK,ji X G abv,kp_LESS_BACK⟩;refine⟨fd,λs v=>(by obtain⟨_,_,_,_,_,_,_,_,_,rfl,_,_⟩:=F.ex;exact .of_eq rfl),λbase _ _=>?_⟩;have E:En l.prog w K mg base:=⟨h,X,G⟩;have aa2:=a1.kA E (λF=>DU F aaW aa0 aaN) (MY λ_ _ _ _ _ _ _=>rfl);have aa8:=a2.kA E (λF=>CK F aac) (Ew λ_ _ _ _ _ _ _ _=>rfl);have aaL:=a3.kA E (λF=>Sk F aac aa1 aaw) (MY λ_ _ _ _ _ _ _=>rfl);have aa3:=a4.kA E (λF=>zw F aa2) (Ew λ_ _ _ _ _ _ _ _=>rfl);have aa4:=a5.kA E (λF=>uX F aae aaw) (Zn λ_ _ _ _ _ _ _ _ _=>rfl);have aaj:=a6.kA E (λF=>Dd F aac aa3 aa4) (Ew λ_ _ _ _ _ _ _ _=>rfl);have aaH:=a7.kA E (λF=>N4 F aam aac) (MY λ_ _ _ _ _ _ _=>rfl);have aaR:=a8.kA E (λF=>xC F aay) (MY λ_ _ _ _ _ _ _=>rfl);have aa7:=a9.kA E (λF=>Ra F aa5 aaR) (Ew λ_ _ _ _ _ _ _ _=>rfl);have aaK:=a10.kA E (λF=>NW F aaR) (Ew λ_ _ _ _ _ _ _ _=>rfl);have abb:=a11.kA E (λF=>Kq F aa6) (MY λ_ _ _ _ _ _ _=>rfl);have aaq:=a12.kA E (λF=>AO F aa7) (Zn λ_ _ _ _ _ _ _ _ _=>rfl);have aaB:=a13.kA E (λF=>KA F aay) (MY λ_ _ _ _ _ _ _=>rfl);have aaS:=a14.kA E (λF=>CV F aa8) (Ew λ_ _ _ _ _ _ _ _=>rfl);have aaT:=a15.kA E (λF=>MM F aaS aaq aaB) (Ew λ_ _ _ _ _ _ _ _=>rfl);have aaU:=a16.kA E (λF=>K4 F aaq aaK aaB) (Ew λ_ _ _ _ _ _ _ _=>rfl);have aaE:=a17.kA E (λF=>zb F aae h_AT_A_FALL aaq aaj aaH aaK aaB) (Ew λ_ _ _ _ _ _ _ _=>rfl);have aa_:=a18.rA E (λF hm hk hb=>vG F aaH aaj aaE hm hk hb 26) (Zn λ_ _ _ _ _ _ _ _ _=>rfl);have aaX:=a19.kA E (λF=>B6 F aa_ aaq aaK aaB) (Ew λ_ _ _ _ _ _ _ _=>rfl);have aaV:=a20.kA E (λF=>AQ F aay aaL) (MY λ_ _ _ _ _ _ _=>rfl);have aaP:=a21.kA E (λF=>FQ F aac aaS aaX aaV) (Ew λ_ _ _ _ _ _ _ _=>rfl);have aaM:=a22.kA E (λF=>AR F aaL aaH aaj) (MY λ_ _ _ _ _ _ _=>rfl);have aba:=a23.rA E (λF hm hk hb=>rL F aae h_LESS_BACK aaM aaj aaT aaU aaE hm hk hb 26) (Ew λ_ _ _ _ _ _ _ _=>rfl);have aaZ:=a24.kA E (λF=>Ft F aba aaq aaK abb aaB) (MY λ_ _ _ _ _ _ _=>rfl);have abe:=a25.kA E (λF=>GB F aac) (Ew λ_ _ _ _ _ _ _ _=>rfl);have aat:=a26.kA E (λF=>C3 F) (Ew λ_ _ _ _ _ _ _ _=>rfl);have aaO:=a27.kA E (λF=>Cm F aae aam aac aaw aat) (Ew λ_ _ _ _ _ _ _ _=>rfl);have aaY:=a28.kA E (λF=>xr F aam aay aat aaO) (Zn λ_ _ _ _ _ _ _ _ _=>rfl);have aaQ:=a29.kA E (λF=>BO F aay aae aaL) (MY λ_ _ _ _ _ _ _=>rfl);have abf:=a30.kA E (λF=>uV F aaw aam aac aaP aaL) (Ew λ_ _ _ _ _ _ _ _=>rfl);exact UO F aam abc abd aac aaN aaw abe aat aaY aaQ aaP aaZ aaO abf aaM aaE
theorem walk{l:PySem.W.OpenLaw}{q:aj}{XP:(Str->Option af)->aq->Prop}{YP:ah->aq->Prop}{d:DefRec}{K:Params->au}(hn:l.most=some 63)(hdf:d.params.defaults=[])
  (hY:∀(w:ah) (h:aq),YP w h->(K w.params).In h)
  (F:∀(w:ah) (mg:Str->Option af) (fa:ak) (h:aq),(K w.params).In h->h.Ns mainGlobals mg->mg d.name=some (.ref fa) ->
   ∃fd:FuncData,(∀(s:aA) (u:af),BindsTo s fd ⟨[u],[]⟩ [("_law_script",u)])/\∀base:aq,(K w.params).In base->base.Ns mainGlobals mg->FnOk l.prog w (K w.params) mg base qj 35 fa fd ["_law_script"] (rf (K w.params) 1 A_)) :
  PySem.W.WalkO q loose XP YP l.row.toRowW d [] (λf vs=>PySem.call f vs):=
 L2.RV (n:=63) (k:=35) (x := "_law_script") (CX:=λ_=>qj) (sp:=λw=>rf (K w.params) 1 A_) hn (by decide) hdf ⟨rfl,by decide,by decide⟩ hY F (λ_ H a ns hl hO hS=>J2 hO hS (UL ns hl)) λ_ _ _ _ _ z=>z
end K32
open PySem PySem.W PyProof.Rows
namespace PySem.W.Fast
theorem tw4976456784181655054:True:=trivial
theorem tw13034932929567012012:True:=trivial
theorem tw15937857832172146594:True:=trivial
theorem tw17512361647488997899:True:=trivial
theorem tw1192608929694899057:True:=trivial
theorem tw18025070767929117009:True:=trivial
theorem tw6644402461005006214:True:=trivial
theorem tw17000283107283486499:True:=trivial
theorem tw5148394922690622588:True:=trivial
theorem tw15332594412267475814:True:=trivial
theorem tw14203104125243083474:True:=trivial
theorem tw12926253922002111971:True:=trivial
theorem tw16302743148339584804:True:=trivial
theorem tw16907779185193262937:True:=trivial
theorem tw13455702669803320372:True:=trivial
theorem tw4075295230810594991:True:=trivial
theorem tw2598591751591369154:True:=trivial
theorem tw7775920494597744204:True:=trivial
theorem tw4597642804474370285:True:=trivial
theorem tw10018622503460817358:True:=trivial
theorem tw7360710525534554997:True:=trivial
theorem tw11344625066866932580:True:=trivial
theorem tw17920964345280726327:True:=trivial
theorem tw751374336607876909:True:=trivial
theorem tw11109758624039795885:True:=trivial
theorem tw10329463809695823237:True:=trivial
theorem tw15216037985795807521:True:=trivial
theorem tw15335799360816322355:True:=trivial
theorem tw16125173675039458186:True:=trivial
theorem tw5396304935250551213:True:=trivial
theorem tw12946005775226845831:True:=trivial
theorem tw7862707860496758984:True:=trivial
theorem tw7750065926350805279:True:=trivial
theorem tw9586201404028747527:True:=trivial
theorem tw3209404809694111614:True:=trivial
theorem tw3451796372865180731:True:=trivial
theorem tw12071068628331104358:True:=trivial
theorem tw16865872634391356311:True:=trivial
theorem tw3942308303728668136:True:=trivial
theorem tw14070165970569398135:True:=trivial
theorem tw5364357529403768482:True:=trivial
theorem tw7565086351610616986:True:=trivial
theorem tw15786483936714359211:True:=trivial
theorem tw3745582085767917634:True:=trivial
theorem tw8500838261753756002:True:=trivial
theorem tw2110174774811336801:True:=trivial
theorem tw14512849217740378432:True:=trivial
theorem tw15240740859880351813:True:=trivial
theorem tw8452583366223572412:True:=trivial
theorem tw17737771242843641376:True:=trivial
theorem tw17833204270431473826:True:=trivial
theorem tw12299508579267371639:True:=trivial
theorem tw7637411943267715743:True:=trivial
theorem tw5514385262149658183:True:=trivial
theorem tw1299759210550996030:True:=trivial
theorem tw14322722138599863298:True:=trivial
theorem tw395613917467345998:True:=trivial
theorem tw14045368223901471067:True:=trivial
theorem tw4996008484756925544:True:=trivial
theorem tw14688411444637009857:True:=trivial
theorem tw14921424818000395144:True:=trivial
theorem tw8314019669875801018:True:=trivial
theorem tw2641042583041962415:True:=trivial
theorem tw12922213921324235270:True:=trivial
theorem tw10611096654735561476:True:=trivial
theorem tw380732490005635207:True:=trivial
theorem tw506475974066758387:True:=trivial
theorem tw10645039247953861945:True:=trivial
theorem tw8391408593010738223:True:=trivial
theorem tw1885253544574302305:True:=trivial
theorem tw8496321690958351949:True:=trivial
theorem tw14121365557370809197:True:=trivial
theorem tw4927653548348099644:True:=trivial
theorem tw10355587423576563296:True:=trivial
theorem tw2143788225961704589:True:=trivial
theorem tw8041015770732609520:True:=trivial
theorem tw10845925244411422096:True:=trivial
theorem tw4955852987471888030:True:=trivial
theorem tw5563249435753848184:True:=trivial
theorem tw1649252601477103440:True:=trivial
theorem tw15974886191079032130:True:=trivial
theorem tw14171397455991308705:True:=trivial
theorem tw15195603942280391160:True:=trivial
theorem tw18090347374994055245:True:=trivial
theorem tw10906204043213445113:True:=trivial
theorem tw7822896608433700068:True:=trivial
theorem tw11664527608737874423:True:=trivial
theorem tw16523781279881319665:True:=trivial
theorem tw7565772764573148573:True:=trivial
theorem tw15305893865463530820:True:=trivial
theorem tw3377584956999299289:True:=trivial
theorem tw8559728677841405770:True:=trivial
theorem tw15252753857847210599:True:=trivial
theorem tw4349370147894436568:True:=trivial
theorem tw8445661421230520683:True:=trivial
theorem tw18267836196027006167:True:=trivial
theorem tw9817082633503856565:True:=trivial
theorem tw17220500032409000240:True:=trivial
theorem tw1440454198423182777:True:=trivial
theorem tw1006185088479649159:True:=trivial
end PySem.W.Fast
set_option maxRecDepth 100000 in
set_option maxHeartbeats 0 in
theorem PySem.Challenge.cw_undercells_k32_whole_backs_and_what_is_b_holds : PySem.Challenge.rw_undercells_k32_whole_backs_and_what_is_b.Holds := by
 w_on;o_law;k_head;(case hw=>w_witness2)
 k_fill
 refine K32.walk (l:=PySem.Challenge.rw_undercells_k32_whole_backs_and_what_is_b) rfl rfl (fun w h Y=>PySem.W.kIn_of Y) ?F
 case F=>
  intro w mg fa h KX G hmg;refine' K32.all_mk KX G hmg (.of ?_ ?_ ?_ ?_) (.of ?_ ?_ ?_ ?_) (.of ?_ ?_ ?_ ?_) (.of ?_ ?_ ?_ ?_) (.of ?_ ?_ ?_ ?_) (.of ?_ ?_ ?_ ?_) (.of ?_ ?_ ?_ ?_) (.of ?_ ?_ ?_ ?_) (.of ?_ ?_ ?_ ?_) (.of ?_ ?_ ?_ ?_) (.of ?_ ?_ ?_ ?_) (.of ?_ ?_ ?_ ?_) (.of ?_ ?_ ?_ ?_) (.of ?_ ?_ ?_ ?_) (.of ?_ ?_ ?_ ?_) (.of ?_ ?_ ?_ ?_) (.of ?_ ?_ ?_ ?_) (.of ?_ ?_ ?_ ?_) (.of ?_ ?_ ?_ ?_) (.of ?_ ?_ ?_ ?_) (.of ?_ ?_ ?_ ?_) (.of ?_ ?_ ?_ ?_) (.of ?_ ?_ ?_ ?_) (.of ?_ ?_ ?_ ?_) (.of ?_ ?_ ?_ ?_) (.of ?_ ?_ ?_ ?_) (.of ?_ ?_ ?_ ?_) (.of ?_ ?_ ?_ ?_) (.of ?_ ?_ ?_ ?_) (.of ?_ ?_ ?_ ?_) (.of ?_ ?_ ?_ ?_) ?_ ?_ ?_ ?_ ?_ ?_ ?_ ?_ ?_ ?_ ?_ ?_ ?_ ?_ ?_ ?_ ?_
  any_goals first|k_is|kernel_rfl
